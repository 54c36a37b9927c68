import PyProof.Rows.All
import Wide.All
import OpenK.AllK
import Wide.FinOn
import HandS.ForMost
import HandS.TupAny
import HandS.IsInst
import HandS.Conv
import HandS.SortInts
import HandS.Deep
import HandS.Walk
import HandS.Zip
import HandS.TupLe
import HandS.TupMul
import HandS.SortKw
import HandS.Star
import HandS.SetFor
import HandS.Strs
import HandS.Rev
import HandS.TryOnly
import KE.SortData
import KE.DataMinMax
import KE.DataCmp
import HandS.Dict
import HandS.Flow
import KE.KDictWalk
import KE.KDictDisplayH
import HandS.SetKeys
import HandS.DictTup
import KE.KDictItemsList
import HandS.Style
import HandS.Words
import HandS.Ends
import KE.DatumOrd
import PySem.Challenge.RW_sturdysort_k53_whole_mending
set_option Elab.async false
set_option linter.all false
set_option maxRecDepth 100000
/-! A small evaluator of a part of Python, over values as trees and a store of what changes. -/
namespace Pi
open PySem

inductive D where
  | non | bl (b : Bool) | int (i : Int) | str (s : Str) | tup (l : List D) | clst (l : List D) | ref (n : Nat) | rng (lo hi : Int) | cdic (t : Bool) (ks : List (List L2.Key)) (vs : List D)
  deriving Inhabited

inductive Ob where
  | lst (l : List D)
  | dic (t : Bool) (ks : List (List L2.Key)) (vs : List D)
  | ins (c : Str) (fs : List (Str × D))
  deriving Inhabited

abbrev Sto := List Ob
inductive R (α : Type) where
  | ok (a : α) (S : Sto)
  | err (c : Str) (fs : List (Str × D)) (S : Sto)
  | bad
def M (α : Type) := Sto → R α
def M.pure {α : Type} (a : α) : M α := fun S => .ok a S
def M.bind {α β : Type} (m : M α) (f : α → M β) : M β := fun S => match m S with
  | .ok a S' => f a S'
  | .err c fs S' => .err c fs S'
  | .bad => .bad
instance : Monad M := { pure := M.pure, bind := M.bind }
def bad {α : Type} : M α := fun _ => .bad
def getO (n : Nat) : M Ob := fun S => match S[n]? with
  | some o => .ok o S
  | none => .bad
def setO (n : Nat) (o : Ob) : M Unit := fun S => .ok () (S.set n o)
def newO (o : Ob) : M D := fun S => .ok (.ref S.length) (S ++ [o])
def chk (b : Bool) : M Unit := fun S => if b then .ok () S else .bad

@[simp] theorem pure_ap {α : Type} (a : α) (S : Sto) : (pure a : M α) S = .ok a S := rfl
@[simp] theorem bind_ap {α β : Type} (m : M α) (f : α → M β) (S : Sto) : (m >>= f) S = match m S with
  | .ok a S' => f a S'
  | .err c fs S' => .err c fs S'
  | .bad => .bad := rfl
@[simp] theorem bad_ap {α : Type} (S : Sto) : (bad : M α) S = .bad := rfl

inductive BOp where | add | sub | mul | fdiv | mod | pow | shl
  deriving DecidableEq
inductive COp where | eq | ne | lt | le | gt | ge | is_ | isN | in_ | nin
  deriving DecidableEq
inductive BI where | len | int | str | list | tuple | sorted | min | max | sum | abs | all | any
  deriving DecidableEq
inductive MT where | append | pop | extend | get | index | insert | count | join | split | replace | rstrip | reverse
  deriving DecidableEq

inductive Tg where
  | name (i : Nat)
  | tup (ts : List Tg)

mutual
inductive E where
  | var (i : Nat)
  | lit (d : D)
  | glob (x : Str)
  | bin (op : BOp) (a b : E)
  | neg (a : E)
  | not (a : E)
  | and (a b : E)
  | or (a b : E)
  | cmp (op : COp) (a b : E)
  | cmp2 (o p : COp) (a b c : E)
  | ite (c a b : E)
  | tup (es : List E)
  | lst (es : List E)
  | call (f : Str) (es : List E)
  | bi (f : BI) (es : List E)
  | isi (e : E) (ts : List String)
  | idx (a i : E)
  | slice (a : E) (lo hi : Option E)
  | meth (m : MT) (o : E) (es : List E)
  | comp (own : List Nat) (t : Tg) (it : It) (cs : List E) (elt : E)
  | lrange (es : List E)
  | trange (es : List E)
  | tdown (es : List E)
  | rngv (es : List E)
  | comp2 (own : List Nat) (t : Tg) (it : It) (own1 : List Nat) (t1 : Tg) (it1 : It) (cs : List E) (elt : E)
  | fz (e : E)
  | star (e : E)
  | tupS (es : List E)
  | lstS (es : List E)
  | dnew (t : Bool)
  | disp (k v : E)
  | dget1 (o k : E)
  | dget2 (o k x : E)
  | dsetd (o k x : E)
  | litems (o : E)
  | sset (e : E)
inductive It where
  | of (e : E)
  | range (es : List E)
  | enum (e : E)
  | zip (a b : E)
  | items (e : E)
  | rev (e : E)
end

inductive S where
  | asg (t : Tg) (e : E)
  | par (i j : Nat) (a b : E)
  | par3 (i j l : Nat) (a b e : E)
  | sub (a i e : E)
  | aug (i : Nat) (op : BOp) (e : E)
  | expr (e : E)
  | ret (e : E)
  | retN
  | ifs (c : E) (a b : List S)
  | whil (c : E) (b : List S)
  | for (t : Tg) (it : It) (b : List S)
  | pass
  | brk
  | cont
  | never

abbrev Env := List (Option D)

structure Ctx where
  cf : Str → List D → M D
  gl : Str → Option D
  wf : Nat

mutual
def fine (n : Nat) : D → Bool
  | .tup l => fines n l
  | .clst l => fines n l
  | .ref a => decide (a < n)
  | .cdic _ _ vs => fines n vs
  | _ => true
def fines (n : Nat) : List D → Bool
  | [] => true
  | d :: l => fine n d && fines n l
end
/-! ### keys of dicts -/
def leafK : D → Option L2.Key
  | .int i => some (.inl i)
  | .str s => some (.inr s)
  | _ => none
def leafKs : List D → Option (List L2.Key)
  | [] => some []
  | d :: l => match leafK d, leafKs l with
    | some k, some ks => some (k :: ks)
    | _, _ => none
def keyOf (t : Bool) (d : D) : Option (List L2.Key) := match t, d with
  | true, .tup l => leafKs l
  | true, _ => none
  | false, d => (leafK d).map fun k => [k]
def valK (ks : List (List L2.Key)) (vs : List D) (k : List L2.Key) : Option D := ((ks.zip vs).find? fun p => decide (p.1 = k)).map (·.2)
def putKs (ks : List (List L2.Key)) (k : List L2.Key) : List (List L2.Key) := if (ks.any fun x => decide (x = k)) = true then ks else ks ++ [k]
def putVs {α : Type} (ks : List (List L2.Key)) (vs : List α) (k : List L2.Key) (v : α) : List α := if (ks.any fun x => decide (x = k)) = true then (ks.zip vs).map (fun p => if p.1 = k then v else p.2) else vs ++ [v]
def leafD : L2.Key → D
  | .inl i => .int i
  | .inr s => .str s
def keyD (t : Bool) (k : List L2.Key) : D := if t = true then .tup (k.map leafD) else leafD (k.headD (.inl 0))
def pairsD (t : Bool) (ks : List (List L2.Key)) (vs : List D) : List D := (ks.zip vs).map fun p => .tup [keyD t p.1, p.2]
/-- the dict, as it stands -/
def dictAt (d : D) (S : Sto) : Option (Bool × List (List L2.Key) × List D) := match d with
  | .cdic t ks vs => some (t, ks, vs)
  | .ref n => match S[n]? with
    | some (.dic t ks vs) => some (t, ks, vs)
    | _ => none
  | _ => none
/-! ### values -/
/-- data as the model's own comparisons read it -/
def py : Nat → Sto → D → Option PyData
  | 0, _, _ => none
  | _ + 1, _, .non => some .none
  | _ + 1, _, .bl b => some (.bool b)
  | _ + 1, _, .int i => some (.int i)
  | _ + 1, _, .str s => if PyData.strOk s then some (.str s) else none
  | n + 1, S, .tup l => (l.mapM (py n S)).map .tuple
  | n + 1, S, .clst l => (l.mapM (py n S)).map .list
  | n + 1, S, .ref a => match S[a]? with
    | some (.lst l) => (l.mapM (py n S)).map .list
    | _ => none
  | _ + 1, _, .rng _ _ => none
  | _ + 1, _, .cdic _ _ _ => none
def depthP : Nat := 40
def eqv (a b : D) : M Bool := fun S => match py depthP S a, py depthP S b with
  | some x, some y => .ok (PyData.eqv x y) S
  | _, _ => .bad
/-- a sequence's items -/
def items (d : D) : M (List D) := fun S => match d with
  | .tup l => .ok l S
  | .clst l => .ok l S
  | .ref n => match S[n]? with
    | some (.lst l) => .ok l S
    | _ => .bad
  | _ => .bad
def anyPy (S : Sto) (x : PyData) (l : List D) : Option Bool := (l.mapM (py depthP S)).map fun ys => ys.any fun y => PyData.eqv y x
def inSeq0 (x y : D) : M Bool := fun S => match items y S with
  | .ok l S1 => match py depthP S1 x, anyPy S1 ((py depthP S1 x).getD .none) l with
    | some _, some b => .ok b S1
    | _, _ => .bad
  | .err c fs S1 => .err c fs S1
  | .bad => .bad
def inSeq (x y : D) : M Bool := fun S => match dictAt y S with
  | some (t, ks, vs) => match keyOf t x with
    | some k => .ok (valK ks vs k).isSome S
    | none => .bad
  | none => inSeq0 x y S
/-- truth -/
def truth (d : D) : M Bool := fun S => match d with
  | .non => .ok false S
  | .bl b => .ok b S
  | .int i => .ok (i != 0) S
  | .str s => if s.length ≤ sizeLine then .ok ((s.length : Int) != 0) S else .bad
  | .tup l => .ok (!l.isEmpty) S
  | .clst l => .ok (!l.isEmpty) S
  | .ref n => match S[n]? with
    | some (.lst l) => .ok (!l.isEmpty) S
    | _ => .bad
  | .rng _ _ => .bad
  | .cdic _ _ _ => .bad
def isTupD : D → Bool
  | .tup _ => true
  | _ => false
def binop (op : BOp) (x y : D) : M D := fun S => match op, x, y with
  | .add, .int i, .int j => .ok (.int (i + j)) S
  | .sub, .int i, .int j => .ok (.int (i - j)) S
  | .mul, .int i, .int j => if (-(2 ^ 64) < i ∧ i < 2 ^ 64) ∨ (-(2 ^ 64) < j ∧ j < 2 ^ 64) then .ok (.int (i * j)) S else .bad
  | .fdiv, .int i, .int j => if 0 < j ∧ j < 1073741824 then .ok (.int (i / j)) S else .bad
  | .mod, .int i, .int j => if 0 < j then .ok (.int (i % j)) S else .bad
  | .pow, .int i, .int j => if 0 ≤ j ∧ j ≤ 1000000 ∧ i.natAbs < 2 ^ 64 then .ok (.int (i ^ j.toNat)) S else .bad
  | .shl, .int i, .int j => if 0 ≤ j ∧ j ≤ 1000000 ∧ i.natAbs < 2 ^ 64 then .ok (.int (i * 2 ^ j.toNat)) S else .bad
  | .add, .str i, .str j => if i.length + j.length ≤ sizeLine then .ok (.str (i ++ j)) S else .bad
  | .add, .tup k, .tup l => if k.length + l.length ≤ sizeLine then .ok (.tup (k ++ l)) S else .bad
  | .mul, .ref a, .int j => match S[a]? with
    | some (.lst k) => if -(2 ^ 63) ≤ j ∧ j < 2 ^ 63 ∧ k.length * j.toNat ≤ sizeLine then newO (.lst (List.replicate j.toNat k).flatten) S else .bad
    | _ => .bad
  | .add, x, y => if isTupD x || isTupD y then .bad else (do
    let k ← items x
    let l ← items y
    chk (decide (k.length + l.length ≤ sizeLine))
    newO (.lst (k ++ l)) : M D) S
  | _, _, _ => .bad
/-! the order of data -/
def notNone : PyData → Bool
  | .none => false
  | _ => true
def alikeB (ps : List PyData) : Bool := ps.all (fun p => ps.all fun q => PySem.W.alike p q) && ps.all notNone
def tupB : PyData → Bool
  | .tuple (_ :: _) => true
  | _ => false
def noTupB : PyData → Bool
  | .tuple _ => false
  | .none => false
  | _ => true
def sortableB (ps : List PyData) : Bool := ps.all tupB || ps.all noTupB
def bestOf (lt : PyData → PyData → Bool) : D × PyData → List (D × PyData) → D × PyData
  | a, [] => a
  | a, b :: r => bestOf lt (if lt b.2 a.2 then b else a) r
def extr (lt : PyData → PyData → Bool) (l : List D) : M D := fun S => match l.mapM (py depthP S) with
  | some ps => if alikeB ps && fines 0 l then match l.zip ps with
      | a :: r => .ok (bestOf lt a r).1 S
      | [] => .bad
    else .bad
  | none => .bad
def sortD (l : List D) (ps : List PyData) : List D := ((l.zip ps).mergeSort fun a b => !PySem.W.dataLt b.2 a.2).map (·.1)
def sortI : List Int → List Int := fun l => l.mergeSort (fun a b => decide (a ≤ b))
def sortM (l : List D) : M D := fun S => if l.length ≤ 1 then newO (.lst l) S else match l.mapM (py depthP S) with
  | some ps => if alikeB ps && sortableB ps then newO (.lst (sortD l ps)) S else .bad
  | none => .bad
/-- the unlike ones of some numbers, ascending -/
def onceI : List Int → List Int
  | [] => []
  | a :: l => if a ∈ l then onceI l else a :: onceI l
def ssetI (l : List Int) : List Int := sortI (onceI l)
def cmpD (f : PyData → PyData → Bool) (x y : D) (S : Sto) : R Bool := match py depthP S x, py depthP S y with
  | some p, some q => if PySem.W.alike p q && notNone p then .ok (f p q) S else .bad
  | _, _ => .bad
def cmpop (op : COp) (x y : D) : M Bool := fun S => match op with
  | .eq => eqv x y S
  | .ne => (do let b ← eqv x y; pure (!b) : M Bool) S
  | .lt => match x, y with
    | .int i, .int j => .ok (decide (i < j)) S
    | _, _ => cmpD (fun p q => PySem.W.dataLt p q) x y S
  | .le => match x, y with
    | .int i, .int j => .ok (decide (i ≤ j)) S
    | _, _ => cmpD (fun p q => !PySem.W.dataLt q p) x y S
  | .gt => match x, y with
    | .int i, .int j => .ok (decide (j < i)) S
    | _, _ => cmpD (fun p q => PySem.W.dataLt q p) x y S
  | .ge => match x, y with
    | .int i, .int j => .ok (decide (j ≤ i)) S
    | _, _ => cmpD (fun p q => !PySem.W.dataLt p q) x y S
  | .is_ => match x, y with
    | .non, .non => .ok true S
    | _, .non => .ok false S
    | .bl a, .bl b => .ok (decide (a = b)) S
    | _, _ => .bad
  | .isN => match x, y with
    | .non, .non => .ok false S
    | _, .non => .ok true S
    | .bl a, .bl b => .ok (!decide (a = b)) S
    | _, _ => .bad
  | .in_ => inSeq x y S
  | .nin => (do let b ← inSeq x y; pure (!b) : M Bool) S
def tyOf (d : D) (S : Sto) : Option String := match d with
  | .non => some "NoneType"
  | .bl _ => some "bool"
  | .int _ => some "int"
  | .str _ => some "str"
  | .tup _ => some "tuple"
  | .clst _ => some "list"
  | .ref n => match S[n]? with
    | some (.lst _) => some "list"
    | some (.dic _ _ _) => some "dict"
    | _ => none
  | .rng _ _ => none
  | .cdic t _ _ => if t = true then none else some "dict"
/-- isinstance, for built-in types -/
def isTy (t u : String) : Bool := t == u || (t == "bool" && u == "int")
def isinst (d : D) (ts : List String) : M Bool := fun S => match tyOf d S with
  | some t => .ok (ts.any (isTy t)) S
  | none => .bad
def index0 (a i : D) : M D := fun S => match a, i with
  | .tup l, .int j => match L2.atI l j with
    | some v => .ok v S
    | none => .bad
  | .clst l, .int j => match L2.atI l j with
    | some v => .ok v S
    | none => .bad
  | .str s, .int j => if s.length ≤ sizeLine then match L2.atI s.cps.toList j with
      | some c => .ok (.str ⟨#[c]⟩) S
      | none => .bad
    else .bad
  | .ref n, .int j => match S[n]? with
    | some (.lst l) => match L2.atI l j with
      | some v => .ok v S
      | none => .bad
    | _ => .bad
  | _, _ => .bad
def dget (a i : D) : M (Option D) := fun S => match dictAt a S with
  | some (t, ks, vs) => match keyOf t i with
    | some k => .ok (valK ks vs k) S
    | none => .bad
  | none => .bad
def isDict (a : D) : M Unit := fun S => match dictAt a S with
  | some _ => .ok () S
  | none => .bad
def index (a i : D) : M D := fun S => match dictAt a S with
  | some _ => match dget a i S with
    | .ok (some v) _ => .ok v S
    | _ => .bad
  | none => index0 a i S
def cut (l : List D) (lo hi : Option Int) : List D := (l.drop (HT.sIx l.length 0 lo)).take (HT.sIx l.length l.length hi - HT.sIx l.length 0 lo)
def part (o : Option D) : M (Option Int) := fun S => match o with
  | none => .ok none S
  | some (.int i) => .ok (some i) S
  | _ => .bad
def sliceOf (a : D) (lo hi : Option Int) : M D := fun S => match a with
  | .tup l => .ok (.tup (cut l lo hi)) S
  | .clst l => newO (.lst (cut l lo hi)) S
  | .ref n => match S[n]? with
    | some (.lst l) => newO (.lst (cut l lo hi)) S
    | _ => .bad
  | _ => .bad
def intL : List D → Option (List Int)
  | [] => some []
  | .int i :: r => (intL r).map (i :: ·)
  | _ :: _ => none
def boolL : List D → Option (List Bool)
  | [] => some []
  | .bl i :: r => (boolL r).map (i :: ·)
  | _ :: _ => none
def foldMax (l : List Int) : Int := l.foldl max (l.headD 0)
def foldMin (l : List Int) : Int := l.foldl min (l.headD 0)
def rangeL (lo hi : Int) : List D := (List.range (hi - lo).toNat).map fun i => .int (lo + (i : Nat))
def downL (hi lo : Int) : List D := (List.range (hi - lo).toNat).map fun i => .int (hi - (i : Nat))
def dnOk (a b : Int) : Bool := decide (-(2 ^ 62) ≤ a ∧ a < 2 ^ 62 ∧ -(2 ^ 62) ≤ b ∧ b < 2 ^ 62 ∧ (a - b).toNat ≤ 2 ^ 24)
def rgOk (a b : Int) : Bool := decide (-(2 ^ 62) ≤ a ∧ a < 2 ^ 62 ∧ -(2 ^ 62) ≤ b ∧ b < 2 ^ 62 ∧ (b - a).toNat ≤ 2 ^ 24)
/-- what is walked -/
def itemsI (d : D) : M (List D) := fun S => match d with
  | .rng lo hi => if rgOk lo hi then .ok (rangeL lo hi) S else .bad
  | _ => items d S
def rangeOf : List D → Option (Int × Int)
  | [.int j] => some (0, j)
  | [.int i, .int j] => some (i, j)
  | _ => none
def builtin (f : BI) (xs : List D) : M D := fun S => match f, xs with
  | .len, [.str s] => if s.length ≤ sizeLine then .ok (.int s.length) S else .bad
  | .len, [x] => (do let l ← items x; pure (.int l.length) : M D) S
  | .int, [.int i] => .ok (.int i) S
  | .int, [.bl b] => .ok (.int (if b then 1 else 0)) S
  | .str, [.int i] => if i.natAbs.log2 < 1920 then .ok (.str (toString i)) S else .bad
  | .list, [x] => (do let l ← items x; newO (.lst l) : M D) S
  | .tuple, [.tup l] => .ok (.tup l) S
  | .tuple, [x] => (do let l ← items x; pure (.tup l) : M D) S
  | .sorted, [x] => (do
    let l ← items x
    match intL l with
    | some ns => newO (.lst ((sortI ns).map .int))
    | none => if isTupD x then bad else sortM l : M D) S
  | .min, [.int i, .int j] => .ok (.int (if j < i then j else i)) S
  | .max, [.int i, .int j] => .ok (.int (if j > i then j else i)) S
  | .min, [x, y] => extr PySem.W.dataLt [x, y] S
  | .max, [x, y] => extr (fun a b => PySem.W.dataLt b a) [x, y] S
  | .min, [x] => (do let l ← items x; extr PySem.W.dataLt l : M D) S
  | .max, [x] => (do let l ← items x; extr (fun a b => PySem.W.dataLt b a) l : M D) S
  | .abs, [.int i] => .ok (.int (if i < 0 then -i else i)) S
  | .sum, [x] => if isTupD x then .bad else (do
    let l ← items x
    match intL l with
    | some ns => pure (.int ns.sum)
    | none => bad : M D) S
  | .all, [x] => if isTupD x then .bad else (do
    let l ← items x
    match boolL l with
    | some bs => pure (.bl (bs.all id))
    | none => bad : M D) S
  | .any, [x] => if isTupD x then .bad else (do
    let l ← items x
    match boolL l with
    | some bs => pure (.bl (bs.any id))
    | none => bad : M D) S
  | _, _ => .bad
def method (m : MT) (o : D) (xs : List D) : M D := fun S => match m, o, xs with
  | .append, .ref n, [x] => match S[n]? with
    | some (.lst l) => if l.length < sizeLine then .ok .non (S.set n (.lst (l ++ [x]))) else .bad
    | _ => .bad
  | .pop, .ref n, [] => match S[n]? with
    | some (.lst l) => match l[l.length - 1]? with
      | some y => .ok y (S.set n (.lst l.dropLast))
      | none => .bad
    | _ => .bad
  | .pop, .ref n, [.int i] => match S[n]? with
    | some (.lst l) => if -(2 ^ 63) ≤ i ∧ i < 2 ^ 63 then match seqIndex? i l.length with
        | some k => match l[k]? with
          | some y => .ok y (S.set n (.lst (l.eraseIdx k)))
          | none => .bad
        | none => .bad
      else .bad
    | _ => .bad
  | .extend, .ref n, [.ref b] => match S[n]?, S[b]? with
    | some (.lst l), some (.lst k) => if l.length + k.length ≤ sizeLine then .ok .non (S.set n (.lst (l ++ k))) else .bad
    | _, _ => .bad
  | .reverse, .ref n, [] => match S[n]? with
    | some (.lst l) => .ok .non (S.set n (.lst l.reverse))
    | _ => .bad
  | .index, .clst l, [.int i] => match intL l with
    | some ns => match ns.findIdx? (fun j => decide (j = i)) with
      | some k => .ok (.int (k : Nat)) S
      | none => .bad
    | none => .bad
  | .count, .clst l, [.int i] => match intL l with
    | some ns => .ok (.int (ns.count i : Nat)) S
    | none => .bad
  | _, _, _ => .bad
/-- of what kind the receiver is -/
def recv (m : MT) (o : D) : M Unit := fun S => match o with
  | .ref n => match S[n]? with
    | some (.lst _) => .ok () S
    | _ => .bad
  | .clst _ => match m with
    | .index => .ok () S
    | .count => .ok () S
    | _ => .bad
  | _ => .bad
def setItem0 (a i v : D) : M Unit := fun S => match a, i with
  | .ref n, .int j => match S[n]? with
    | some (.lst l) => match L2.ixN l.length j with
      | some k => .ok () (S.set n (.lst (l.set k v)))
      | none => .bad
    | _ => .bad
  | _, _ => .bad
def dput (a i v : D) : M Unit := fun S => match a with
  | .ref n => match S[n]? with
    | some (.dic t ks vs) => match keyOf t i with
      | some k => if ks.length < sizeLine then .ok () (S.set n (.dic t (putKs ks k) (putVs ks vs k v))) else .bad
      | none => .bad
    | _ => .bad
  | _ => .bad
def dsetd (a i v : D) : M D := fun S => match a with
  | .ref n => match S[n]? with
    | some (.dic t ks vs) => match keyOf t i with
      | some k => if ks.length < sizeLine then (match valK ks vs k with
        | some w => .ok w S
        | none => .ok v (S.set n (.dic t (putKs ks k) (putVs ks vs k v)))) else .bad
      | none => .bad
    | _ => .bad
  | _ => .bad
def setItem (a i v : D) : M Unit := fun S => match dictAt a S with
  | some _ => dput a i v S
  | none => setItem0 a i v S

/-! ### targets -/
mutual
def put : Tg → D → Env → Option Env
  | .name i, d, env => if i < env.length then some (env.set i (some d)) else none
  | .tup ts, .tup l, env => puts ts l env
  | .tup ts, .clst l, env => puts ts l env
  | .tup _, _, _ => none
def puts : List Tg → List D → Env → Option Env
  | [], [], env => some env
  | t :: ts, d :: ds, env => match put t d env with
    | some env' => puts ts ds env'
    | none => none
  | _, _, _ => none
end
def wipe (env : Env) : List Nat → Env
  | [] => env
  | v :: vs => (wipe env vs).set v none

/-! ### what is walked -/
inductive Step where
  | item (d : D) | stop | bad
structure Iter where
  n : Nat
  get : Nat → Sto → Step
def stepL (l : List D) (i : Nat) : Step := match l[i]? with
  | some d => .item d
  | none => .stop
def seqStep (d : D) (i : Nat) (S : Sto) : Step := match d with
  | .tup l => stepL l i
  | .clst l => stepL l i
  | .ref n => match S[n]? with
    | some (.lst l) => stepL l i
    | _ => .bad
  | .rng lo hi => stepL (rangeL lo hi) i
  | _ => .bad
def enumStep (d : D) (i : Nat) (S : Sto) : Step := match seqStep d i S with
  | .item x => .item (.tup [.int (i : Nat), x])
  | s => s
def zipStep (a b : D) (i : Nat) (S : Sto) : Step := match seqStep a i S, seqStep b i S with
  | .item x, .item y => .item (.tup [x, y])
  | .bad, _ => .bad
  | _, .bad => .bad
  | _, _ => .stop
def revStep (d : D) (i : Nat) (_ : Sto) : Step := match d with
  | .tup l => stepL l.reverse i
  | .clst l => stepL l.reverse i
  | _ => .bad
def iterRev (d : D) : M Iter := do
  let l ← items d
  pure ⟨l.length, revStep d⟩
def iterOf (d : D) : M Iter := do
  let l ← itemsI d
  pure ⟨l.length, seqStep d⟩
def iterEnum (d : D) : M Iter := do
  let l ← items d
  pure ⟨l.length, enumStep d⟩
def sameKind : D → D → Bool
  | .tup _, .tup _ => true
  | .tup _, _ => false
  | _, .tup _ => false
  | _, _ => true
def iterZip (a b : D) : M Iter := do
  let l ← items a
  let k ← items b
  chk (sameKind a b)
  pure ⟨min l.length k.length, zipStep a b⟩
def iterItems (d : D) : M Iter := fun S => match d with
  | .cdic t ks vs => .ok ⟨ks.length, fun i _ => stepL (pairsD t ks vs) i⟩ S
  | _ => .bad
def litems (d : D) : M D := fun S => match d with
  | .ref n => match S[n]? with
    | some (.dic true ks vs) => newO (.lst (pairsD true ks vs)) S
    | _ => .bad
  | _ => .bad
def ssetM (d : D) : M D := fun S => match d with
  | .tup l => match intL l with
    | some ns => if ns.length ≤ 60 then newO (.lst ((ssetI ns).map .int)) S else .bad
    | none => .bad
  | _ => .bad
def iterRange (xs : List D) : M Iter := match rangeOf xs with
  | some (lo, hi) => do
    chk (rgOk lo hi)
    pure ⟨(hi - lo).toNat, fun i _ => stepL (rangeL lo hi) i⟩
  | none => bad

def compLoop (get : Nat → Sto → Step) (body : D → M (Option D)) : Nat → Nat → List D → M (List D)
  | 0, _, _ => bad
  | n + 1, i, acc => fun S => match get i S with
    | .stop => .ok acc S
    | .bad => .bad
    | .item x => match body x S with
      | .ok (some y) S' => if acc.length < sizeLine then compLoop get body n (i + 1) (acc ++ [y]) S' else .bad
      | .ok none S' => compLoop get body n (i + 1) acc S'
      | .err c fs S' => .err c fs S'
      | .bad => .bad

def comp2Loop (get : Nat → Sto → Step) (inner : D → List D → M (List D)) : Nat → Nat → List D → M (List D)
  | 0, _, _ => bad
  | n + 1, i, acc => fun S => match get i S with
    | .stop => .ok acc S
    | .bad => .bad
    | .item x => match inner x acc S with
      | .ok acc' S' => comp2Loop get inner n (i + 1) acc' S'
      | .err c fs S' => .err c fs S'
      | .bad => .bad

def cond (b : Bool) (x y : M α) : M α := if b then x else y

/-! ### what was made is made fast -/
def frzD : Nat → Nat → Sto → D → Option D
  | 0, _, _, _ => none
  | k + 1, n, S, .tup l => (l.mapM (frzD k n S)).map .tup
  | k + 1, n, S, .clst l => (l.mapM (frzD k n S)).map .clst
  | k + 1, n, S, .ref a => if a < n then some (.ref a) else match S[a]? with
    | some (.lst l) => (l.mapM (frzD k n S)).map .clst
    | some (.dic t ks vs) => (vs.mapM (frzD k n S)).map (.cdic t ks)
    | _ => none
  | k + 1, n, S, .cdic t ks vs => (vs.mapM (frzD k n S)).map (.cdic t ks)
  | _ + 1, _, _, d => some d
def fineO (n : Nat) : Ob → Bool
  | .lst l => fines n l
  | .dic _ _ vs => fines n vs
  | _ => false
/-- what stood before is as it was, or names nothing new -/
def Kept (S S1 : Sto) : Prop := S.length ≤ S1.length ∧ ∀ i o, i < S.length → S1[i]? = some o → S[i]? = some o ∨ fineO S.length o = true
open Classical in
noncomputable def fzM (m : M D) : M D := fun S => match m S with
  | .ok d S1 => if Kept S S1 then match frzD depthP S.length S1 d with
      | some d' => .ok d' (S1.take S.length)
      | none => .bad
    else .bad
  | .err c fs S1 => if Kept S S1 ∧ (∀ p ∈ fs, fine S.length p.2 = true) then .err c fs (S1.take S.length) else .bad
  | .bad => .bad

mutual
noncomputable def evE (C : Ctx) : E → Env → M D
  | .var i, env => fun S => match env[i]? with
    | some (some d) => .ok d S
    | _ => .bad
  | .lit d, _ => pure d
  | .glob x, _ => fun S => match C.gl x with
    | some d => .ok d S
    | none => .bad
  | .bin op a b, env => do
    let x ← evE C a env
    let y ← evE C b env
    binop op x y
  | .neg a, env => do
    let x ← evE C a env
    match x with
    | .int i => pure (.int (-i))
    | _ => bad
  | .not a, env => do
    let x ← evE C a env
    let b ← truth x
    pure (.bl (!b))
  | .and a b, env => do
    let x ← evE C a env
    let k ← truth x
    if k then evE C b env else pure x
  | .or a b, env => do
    let x ← evE C a env
    let k ← truth x
    if k then pure x else evE C b env
  | .cmp op a b, env => do
    let x ← evE C a env
    let y ← evE C b env
    let c ← cmpop op x y
    pure (.bl c)
  | .cmp2 o p a b c, env => do
    let x ← evE C a env
    let y ← evE C b env
    let k ← cmpop o x y
    if k then do
      let z ← evE C c env
      let r ← cmpop p y z
      pure (.bl r)
    else pure (.bl false)
  | .ite c a b, env => do
    let k ← evT C c env
    if k then evE C a env else evE C b env
  | .tup es, env => do
    let xs ← evEs C es env
    chk (decide (xs.length ≤ sizeLine))
    pure (.tup xs)
  | .lst es, env => do
    let xs ← evEs C es env
    chk (decide (xs.length ≤ sizeLine))
    newO (.lst xs)
  | .call f es, env => do
    let xs ← evEs C es env
    fzM (C.cf f xs)
  | .bi f es, env => do
    let xs ← evEs C es env
    builtin f xs
  | .isi e ts, env => do
    let x ← evE C e env
    let b ← isinst x ts
    pure (.bl b)
  | .idx a i, env => do
    let x ← evE C a env
    let y ← evE C i env
    index x y
  | .slice a lo hi, env => do
    let x ← evE C a env
    let l ← evO C lo env
    let h ← evO C hi env
    let l' ← part l
    let h' ← part h
    sliceOf x l' h'
  | .meth m o es, env => do
    let x ← evE C o env
    recv m x
    let xs ← evEs C es env
    method m x xs
  | .lrange es, env => do
    let xs ← evEs C es env
    match rangeOf xs with
    | some (lo, hi) => do
      chk (rgOk lo hi)
      newO (.lst (rangeL lo hi))
    | none => bad
  | .trange es, env => do
    let xs ← evEs C es env
    match rangeOf xs with
    | some (lo, hi) => do
      chk (rgOk lo hi)
      pure (.tup (rangeL lo hi))
    | none => bad
  | .tdown es, env => do
    let xs ← evEs C es env
    match rangeOf xs with
    | some (hi, lo) => do
      chk (dnOk hi lo)
      pure (.tup (downL hi lo))
    | none => bad
  | .comp own t it cs elt, env => do
    let J ← evI C it env
    let l ← compLoop J.get (fun x => match put t x (wipe env own) with
      | some env' => do
        let b ← evTs C cs env'
        if b then do
          let y ← evE C elt env'
          pure (some y)
        else pure none
      | none => bad) (J.n + 1) 0 []
    newO (.lst l)
  | .rngv es, env => do
    let xs ← evEs C es env
    match rangeOf xs with
    | some (lo, hi) => do
      chk (rgOk lo hi)
      pure (.rng lo hi)
    | none => bad
  | .comp2 own t it own1 t1 it1 cs elt, env => do
    let J ← evI C it env
    let l ← comp2Loop J.get (fun x acc => match put t x (wipe env own) with
      | some env' => do
        let J1 ← evI C it1 env'
        compLoop J1.get (fun y => match put t1 y (wipe env' own1) with
          | some env2 => do
            let b ← evTs C cs env2
            if b then do
              let z ← evE C elt env2
              pure (some z)
            else pure none
          | none => bad) (J1.n + 1) 0 acc
      | none => bad) (J.n + 1) 0 []
    newO (.lst l)
  | .fz e, env => fzM (evE C e env)
  | .star _, _ => bad
  | .tupS es, env => do
    let xs ← evDs C es env
    chk (decide (xs.length ≤ sizeLine))
    pure (.tup xs)
  | .lstS es, env => do
    let xs ← evDs C es env
    chk (decide (xs.length ≤ sizeLine))
    newO (.lst xs)
  | .dnew t, _ => newO (.dic t [] [])
  | .disp k v, env => do
    let x ← evE C k env
    let y ← evE C v env
    match keyOf true x with
    | some kk => newO (.dic true [kk] [y])
    | none => bad
  | .dget1 o k, env => do
    let x ← evE C o env
    isDict x
    let y ← evE C k env
    let r ← dget x y
    pure (r.getD .non)
  | .dget2 o k z, env => do
    let x ← evE C o env
    isDict x
    let y ← evE C k env
    let w ← evE C z env
    let r ← dget x y
    pure (r.getD w)
  | .dsetd o k z, env => do
    let x ← evE C o env
    isDict x
    let y ← evE C k env
    let w ← evE C z env
    dsetd x y w
  | .litems o, env => do
    let x ← evE C o env
    litems x
  | .sset e, env => do
    let x ← evE C e env
    ssetM x
noncomputable def evEs (C : Ctx) : List E → Env → M (List D)
  | [], _ => pure []
  | e :: es, env => do
    let x ← evE C e env
    let xs ← evEs C es env
    pure (x :: xs)
noncomputable def evDs (C : Ctx) : List E → Env → M (List D)
  | [], _ => pure []
  | .star a :: es, env => do
    let x ← evE C a env
    let l ← items x
    let xs ← evDs C es env
    pure (l ++ xs)
  | e :: es, env => do
    let x ← evE C e env
    let xs ← evDs C es env
    pure (x :: xs)
noncomputable def evO (C : Ctx) : Option E → Env → M (Option D)
  | none, _ => pure none
  | some e, env => do
    let x ← evE C e env
    pure (some x)
noncomputable def evT (C : Ctx) : E → Env → M Bool
  | .not a, env => do
    let b ← evT C a env
    pure (!b)
  | .and a b, env => do
    let x ← evT C a env
    if x then evT C b env else pure false
  | .or a b, env => do
    let x ← evT C a env
    if x then pure true else evT C b env
  | .cmp op a b, env => do
    let x ← evE C a env
    let y ← evE C b env
    cmpop op x y
  | .ite c a b, env => do
    let k ← evT C c env
    if k then evT C a env else evT C b env
  | e, env => do
    let x ← evE C e env
    truth x
noncomputable def evTs (C : Ctx) : List E → Env → M Bool
  | [], _ => pure true
  | [c], env => evT C c env
  | _, _ => bad
noncomputable def evI (C : Ctx) : It → Env → M Iter
  | .of e, env => do
    let x ← evE C e env
    iterOf x
  | .range es, env => do
    let xs ← evEs C es env
    iterRange xs
  | .enum e, env => do
    let x ← evE C e env
    iterEnum x
  | .zip a b, env => do
    let x ← evE C a env
    let y ← evE C b env
    iterZip x y
  | .items e, env => do
    let x ← evE C e env
    iterItems x
  | .rev e, env => do
    let x ← evE C e env
    iterRev x
end
end Pi

/-! From the model's syntax to the evaluator's. -/
namespace Pi
open PySem

structure CC where
  N : List Str
  fns : List Str
  gls : List Str
  /-- names of lists that change -/
  mu : List Str := []
  /-- rows with sums and slices of lists -/
  fl : List Nat := []

def plainName (x : Str) : Bool := !(x == ("__debug__" : Str)) && !(x == ("__classdict__" : Str)) && !(x == ("__name__" : Str))
def slotOf (c : CC) (x : Str) : Option Nat := match c.N.findIdx? (fun y => decide (y = x)) with
  | some i => if c.N[i]? = some x ∧ plainName x = true then some i else none
  | none => none
def isVis (sc : Scope) (x : Str) : Bool := match sc.names.lookup x with
  | some .local => true
  | some .cell => true
  | some .free => true
  | _ => false
def isLoc (sc : Scope) (x : Str) : Bool := match sc.names.lookup x with
  | some .local => true
  | some .cell => true
  | _ => false
def isGl (sc : Scope) (x : Str) : Bool := match sc.names.lookup x with
  | some .globalImplicit => true
  | _ => false
def biTable : List (Str × BI) := [("len", .len), ("int", .int), ("str", .str), ("list", .list), ("tuple", .tuple), ("sorted", .sorted), ("min", .min), ("max", .max), ("sum", .sum), ("abs", .abs), ("all", .all), ("any", .any)]
def biOf (x : Str) : Option BI := biTable.lookup x
def mtTable : List (Str × MT) := [("append", .append), ("pop", .pop), ("extend", .extend), ("reverse", .reverse), ("index", .index), ("count", .count)]
def mtOf (x : Str) : Option MT := mtTable.lookup x
def tyTable : List (Str × String) := [("int", "int"), ("bool", "bool"), ("str", "str"), ("tuple", "tuple"), ("list", "list"), ("dict", "dict")]
def tyNameOf (x : Str) : Option String := tyTable.lookup x
def bopOf : Operator → Option BOp
  | .Add => some .add | .Sub => some .sub | .Mult => some .mul | .FloorDiv => some .fdiv | .Mod => some .mod | .Pow => some .pow | .LShift => some .shl
  | _ => none
def copOf : CmpOp → Option COp
  | .Eq => some .eq | .NotEq => some .ne | .Lt => some .lt | .LtE => some .le | .Gt => some .gt | .GtE => some .ge | .Is => some .is_ | .IsNot => some .isN | .In => some .in_ | .NotIn => some .nin
/-- what a comprehension's target stores, with the places -/
def ownOf (c : CC) : Nat → Expr → Option (List (Str × Nat))
  | 0, _ => none
  | _ + 1, .Name x _ => (slotOf c x).map fun i => [(x, i)]
  | n + 1, .Tuple es _ _ => (es.mapM (ownOf c n)).map List.flatten
  | _, _ => none
def cTg (c : CC) (sc : Scope) : Nat → Expr → Option Tg
  | 0, _ => none
  | _ + 1, .Name x _ => if isLoc sc x then (slotOf c x).map .name else none
  | n + 1, .Tuple es _ _ => (es.mapM (cTg c sc n)).map .tup
  | _, _ => none
def tyList (c : CC) (sc : Scope) : Expr → Option (List String)
  | .Name x _ => if isGl sc x && !c.fns.contains x && !c.gls.contains x then (tyNameOf x).map fun t => [t] else none
  | _ => none
def foldB (op : BoolOp) (l : List E) : Option E := match l with
  | [] => none
  | [a] => some a
  | a :: r => match foldB op r with
    | some e => some (match op with | .And => .and a e | .Or => .or a e)
    | none => none

/-- a receiver that is no call of a name without arguments -/
def plainRecv : Expr → Bool
  | .Name _ _ => true
  | .Subscript _ _ _ => true
  | .Attribute _ _ _ => true
  | .Constant _ _ _ => true
  | _ => false
def free0 (c : CC) (x : Str) : Bool := !c.fns.contains x && !c.gls.contains x

def tyArgs (c : CC) (sc : Scope) : Expr → Option (List String)
  | .Tuple [a, b] _ _ => match tyList c sc a, tyList c sc b with
    | some x, some y => some (x ++ y)
    | _, _ => none
  | e => tyList c sc e
/-- range(a, b, -1) -/
def isDown : List Expr → Bool
  | [_, _, .UnaryOp .USub (.Constant (.int i) _ _) _] => i == 1
  | _ => false
def isTupE : Expr → Bool
  | .Tuple _ _ _ => true
  | _ => false
def isFz : E → Bool
  | .fz _ => true
  | _ => false
/-- makes a new list that nothing changes -/
def allocE : Expr → Bool
  | .ListComp _ _ _ _ => true
  | .List _ _ => true
  | .Call _ _ _ _ => true
  | .BinOp _ _ _ _ => true
  | .Subscript _ _ _ => true
  | .Dict _ _ _ => true
  | _ => false
def isAlloc (c : CC) (e : Expr) : E → Bool
  | .comp _ _ _ _ _ => true
  | .comp2 _ _ _ _ _ _ _ _ => true
  | .lst _ => true
  | .lstS _ => true
  | .lrange _ => true
  | .bi .list _ => true
  | .bi .sorted _ => true
  | .sset _ => true
  | .bin .add _ _ => c.fl.contains e.pos.line
  | .bin .mul (.lst _) _ => true
  | .dnew _ => true
  | .disp _ _ => true
  | .litems _ => true
  | .slice _ _ _ => c.fl.contains e.pos.line
  | _ => false
def fzw (c : CC) (e : Expr) (x : E) : E := if allocE e && isAlloc c e x then .fz x else x
def isMult : Operator → Bool
  | .Mult => true
  | _ => false
def isLstE : E → Bool
  | .lst _ => true
  | _ => false
def isStar : E → Bool
  | .star _ => true
  | _ => false
def isStarE : Expr → Bool
  | .Starred _ _ => true
  | _ => false
mutual
def cE (c : CC) : Nat → Scope → Expr → Option E
  | 0, _, _ => none
  | n + 1, sc, e => (cR c n sc e).map (fzw c e)
def cR (c : CC) : Nat → Scope → Expr → Option E
  | 0, _, _ => none
  | n + 1, sc, .Name x _ =>
    if isVis sc x then (slotOf c x).map .var
    else if isGl sc x && c.gls.contains x && plainName x then some (.glob x) else none
  | n + 1, sc, .Constant k _ _ => match k with
    | .none => some (.lit .non)
    | .bool b => some (.lit (.bl b))
    | .int i => some (.lit (.int i))
    | .str s => some (.lit (.str s))
    | _ => none
  | n + 1, sc, .BinOp a op b _ => match bopOf op, (if isMult op then cR c n sc a else cE c n sc a), cE c n sc b with
    | some o, some x, some y => some (.bin o x y)
    | _, _, _ => none
  | n + 1, sc, .UnaryOp op a _ => match op, cE c n sc a with
    | .USub, some x => some (.neg x)
    | .Not, some x => some (.not x)
    | _, _ => none
  | n + 1, sc, .BoolOp op es _ => match cEs c n sc es with
    | some l => foldB op l
    | none => none
  | n + 1, sc, .Compare a [op] [b] _ => match copOf op, cE c n sc a, cE c n sc b with
    | some o, some x, some y => some (.cmp o x y)
    | _, _, _ => none
  | n + 1, sc, .Compare a [op, op'] [b, d] _ => match copOf op, copOf op', cE c n sc a, cE c n sc b, cE c n sc d with
    | some o, some o', some x, some y, some z => some (.cmp2 o o' x y z)
    | _, _, _, _, _ => none
  | n + 1, sc, .IfExp t a b _ => match cE c n sc t, cE c n sc a, cE c n sc b with
    | some k, some x, some y => some (.ite k x y)
    | _, _, _ => none
  | n + 1, sc, .Tuple es _ _ => if es.any isStarE then (cDs c n sc es).map .tupS else (cEs c n sc es).map .tup
  | n + 1, sc, .List es _ => if es.any isStarE then (cDs c n sc es).map .lstS else (cEs c n sc es).map .lst
  | n + 1, sc, .Dict ks vs pos => match ks, vs with
    | [], [] => some (.dnew (c.fl.contains (1000000 + pos.line)))
    | [some k], [v] => if c.fl.contains (1000000 + pos.line) then match cE c n sc k, cE c n sc v with
        | some x, some y => some (.disp x y)
        | _, _ => none
      else none
    | _, _ => none
  | n + 1, sc, .Call (.Attribute o m apos) es [] cpos =>
    if m = ("get" : Str) then (if apos.endLine == cpos.line && plainRecv o then match cE c n sc o, cEs c n sc es with
      | some x, some [a] => some (.dget1 x a)
      | some x, some [a, b] => some (.dget2 x a b)
      | _, _ => none
    else none)
    else if m = ("setdefault" : Str) then (if apos.endLine == cpos.line && plainRecv o then match cE c n sc o, cEs c n sc es with
      | some x, some [a, b] => some (.dsetd x a b)
      | _, _ => none
    else none)
    else if apos.endLine == cpos.line && es.length < 20 && plainRecv o then match mtOf m, cE c n sc o, cEs c n sc es with
      | some f, some x, some l => some (.meth f x l)
      | _, _, _ => none
    else none
  | n + 1, sc, .Call f es [] _ => cCall c n sc f es
  | n + 1, sc, .Subscript a (.Slice lo hi none _) _ => match cE c n sc a, cO c n sc lo, cO c n sc hi with
    | some x, some l, some h => some (.slice x l h)
    | _, _, _ => none
  | n + 1, sc, .Subscript a i _ => match cE c n sc a, cE c n sc i with
    | some x, some y => some (.idx x y)
    | _, _ => none
  | n + 1, sc, .ListComp elt gs scope _ => cL c n sc elt gs scope
  | _ + 1, _, _ => none
def cL (c : CC) : Nat → Scope → Expr → List Comprehension → Scope → Option E
  | 0, _, _, _, _ => none
  | n + 1, sc, elt, [g], scope => if g.is_async = 0 then match ownOf c 9 g.target with
    | some own => if L2.blkC c.N sc scope own = true then match cI c n sc (isTupE g.target) g.iter, cTg c scope 9 g.target, cEs c n (L2.relS scope sc) g.ifs, cE c n (L2.relS scope sc) elt with
      | some it, some t, some cs, some e => some (.comp (own.map (·.2)) t it cs e)
      | _, _, _, _ => none
      else none
    | none => none
    else none
  | n + 1, sc, elt, [g, g1], scope => if g.is_async = 0 ∧ g1.is_async = 0 ∧ g.ifs.length = 0 then match ownOf c 9 g.target, ownOf c 9 g1.target with
    | some o, some o1 => if L2.blkC c.N sc scope (o ++ o1) = true then match cI c n sc (isTupE g.target) g.iter, cTg c scope 9 g.target, cI c n (L2.relS scope sc) (isTupE g1.target) g1.iter, cTg c scope 9 g1.target, cEs c n (L2.relS scope sc) g1.ifs, cE c n (L2.relS scope sc) elt with
      | some it, some t, some it1, some t1, some cs, some e => some (.comp2 ((o ++ o1).map (·.2)) t it (o1.map (·.2)) t1 it1 cs e)
      | _, _, _, _, _, _ => none
      else none
    | _, _ => none
    else none
  | _ + 1, _, _, _, _ => none
def cCall (c : CC) : Nat → Scope → Expr → List Expr → Option E
  | 0, _, _, _ => none
  | n + 1, sc, .Name x _, es =>
    if !(isGl sc x && plainName x) then none
    else if c.fns.contains x then (cEs c n sc es).map (.call x)
    else if c.gls.contains x then none
    else if x = ("isinstance" : Str) then match es with
      | [a, b] => match cE c n sc a, tyArgs c sc b with
        | some e, some ts => some (.isi e ts)
        | _, _ => none
      | _ => none
    else if x = ("range" : Str) then match cEs c n sc es with
      | some [a] => some (.rngv [a])
      | some [a, b] => some (.rngv [a, b])
      | _ => none
    else match es with
      | [.Call (.Name r _) rs [] _] =>
        if isGl sc r && r = ("range" : Str) && free0 c r && plainName r && (x = ("list" : Str) || x = ("tuple" : Str)) && (rs.length = 1 || rs.length = 2) then match cEs c n sc rs with
          | some l => some (if x = ("list" : Str) then .lrange l else .trange l)
          | none => none
        else if isGl sc r && r = ("range" : Str) && free0 c r && plainName r && x = ("tuple" : Str) && isDown rs then match cEs c n sc (rs.take 2) with
          | some l => some (.tdown l)
          | none => none
        else if isGl sc r && r = ("set" : Str) && free0 c r && free0 c x && plainName r && x = ("sorted" : Str) then match rs with
          | [e] => (cE c n sc e).map .sset
          | _ => none
        else match biOf x, cEs c n sc es with
          | some f, some l => some (.bi f l)
          | _, _ => none
      | [.Call (.Attribute o m apos) [] [] cpos] =>
        if x = ("list" : Str) ∧ m = ("items" : Str) then (if apos.endLine == cpos.line && plainRecv o && free0 c x then (cE c n sc o).map .litems else none)
        else match biOf x, cEs c n sc [.Call (.Attribute o m apos) [] [] cpos] with
        | some f, some l => some (.bi f l)
        | _, _ => none
      | e :: es' => match biOf x, cEs c n sc (e :: es') with
        | some f, some l => some (.bi f l)
        | _, _ => none
      | [] => if x = ("tuple" : Str) then none else none
  | _ + 1, _, _, _ => none
def cEs (c : CC) : Nat → Scope → List Expr → Option (List E)
  | 0, _, _ => none
  | _ + 1, _, [] => some []
  | n + 1, sc, e :: es => match cE c n sc e, cEs c n sc es with
    | some x, some xs => some (x :: xs)
    | _, _ => none
def cDs (c : CC) : Nat → Scope → List Expr → Option (List E)
  | 0, _, _ => none
  | _ + 1, _, [] => some []
  | n + 1, sc, .Starred e _ :: es => match cE c n sc e, cDs c n sc es with
    | some x, some xs => some (.star x :: xs)
    | _, _ => none
  | n + 1, sc, e :: es => match cE c n sc e, cDs c n sc es with
    | some x, some xs => if isStar x then none else some (x :: xs)
    | _, _ => none
def cO (c : CC) : Nat → Scope → Option Expr → Option (Option E)
  | 0, _, _ => none
  | _ + 1, _, none => some none
  | n + 1, sc, some e => (cE c n sc e).map some
def cI (c : CC) : Nat → Scope → Bool → Expr → Option It
  | 0, _, _, _ => none
  | n + 1, sc, tp, .Call (.Name x p) es [] pos =>
    if isGl sc x && plainName x && free0 c x then
      if x = ("range" : Str) then match cEs c n sc es with
        | some [a] => some (.range [a])
        | some [a, b] => some (.range [a, b])
        | _ => none
      else if x = ("enumerate" : Str) then match es with
        | [e] => if tp then (cE c n sc e).map .enum else none
        | _ => none
      else if x = ("zip" : Str) then match es with
        | [e, d] => if tp then match cE c n sc e, cE c n sc d with
            | some a, some b => some (.zip a b)
            | _, _ => none
          else none
        | _ => none
      else if x = ("reversed" : Str) then match es with
        | [e] => (cE c n sc e).map .rev
        | _ => none
      else (cE c n sc (.Call (.Name x p) es [] pos)).map .of
    else (cE c n sc (.Call (.Name x p) es [] pos)).map .of
  | n + 1, sc, tp, .Call (.Attribute o m apos) [] [] cpos =>
    if m = ("items" : Str) then (if tp && (apos.endLine == cpos.line) && plainRecv o then (cE c n sc o).map .items else none)
    else (cE c n sc (.Call (.Attribute o m apos) [] [] cpos)).map .of
  | n + 1, sc, _, e => (cE c n sc e).map .of
end
end Pi

/-! The relation between the evaluator's values and store and the machine's. -/
namespace Pi
open PySem L2

abbrev Mp := Nat → Option Addr
/-- written tuples are told apart -/
def KT (K : PySem.W.Frag) (a : Addr) (xs : List V) : Prop := False
def KL (K : PySem.W.Frag) (a : Addr) (xs : List V) : Prop := ∃ (o : Obj) (its : Array Value) (n : Nat), K.lookup a = some o ∧ o.cls = .type "list" ∧ o.dict = none ∧ o.data = .seq its n ∧ its.size ≤ sizeLine ∧ Vals xs its.toList
/-- a dict, as the hand layer has it -/
def hdK (k : List Key) : Key := k.headD (.inl 0)
def hoD (t : Bool) (ks : List (List Key)) (xs : List V) : HO := if t = true then .dT (ks.zip xs) else .dK ((ks.map hdK).zip xs)
def okK (t : Bool) (ks : List (List Key)) : Prop := t = false → ∀ k ∈ ks, ∃ x, k = [x]
mutual
def RelD (K : PySem.W.Frag) (m : Mp) (H : Hp) : D → V → Prop
  | .non, v => v = .non
  | .bl b, v => v = .bl b
  | .int i, v => v = .int i
  | .str s, v => v = .str s
  | .tup l, v => ∃ a xs, v = .ref a ∧ (H a = some (.tup xs) ∨ KT K a xs) ∧ RelDs K m H l xs
  | .clst l, v => ∃ a xs, v = .ref a ∧ ((∃ o, H a = some (.frz o (.lst xs))) ∨ KL K a xs) ∧ RelDs K m H l xs
  | .ref n, v => ∃ a, v = .ref a ∧ m n = some a
  | .rng lo hi, v => ∃ a, v = .ref a ∧ H a = some (.rng lo hi)
  | .cdic t ks vs, v => ∃ a xs, v = .ref a ∧ (∃ o, H a = some (.frz o (hoD t ks xs))) ∧ RelDs K m H vs xs ∧ ks.length = vs.length ∧ okK t ks
def RelDs (K : PySem.W.Frag) (m : Mp) (H : Hp) : List D → List V → Prop
  | [], xs => xs = []
  | d :: ds, xs => ∃ v vs, xs = v :: vs ∧ RelD K m H d v ∧ RelDs K m H ds vs
end

/-- what never changes -/
def isFix : HO → Bool
  | .tup _ => true
  | .frz _ (.lst _) => true
  | .frz _ (.dK _) => true
  | .frz _ (.dT _) => true
  | .rng _ _ => true
  | _ => false
theorem fix_hoD (o : Obj) (t : Bool) (ks : List (List Key)) (xs : List V) : isFix (.frz o (hoD t ks xs)) = true := by
  unfold hoD
  cases t <;> rfl
structure Lw (m : Mp) (H : Hp) (m' : Mp) (H' : Hp) : Prop where
  mp : ∀ n a, m n = some a → m' n = some a
  fix : ∀ a o, isFix o = true → H a = some o → H' a = some o
theorem Lw.tups {m m' : Mp} {H H' : Hp} (l : Lw m H m' H') : ∀ a xs, H a = some (.tup xs) → H' a = some (.tup xs) := fun a _ h => l.fix a _ rfl h
theorem Lw.frzs {m m' : Mp} {H H' : Hp} (l : Lw m H m' H') : ∀ a o xs, H a = some (.frz o (.lst xs)) → H' a = some (.frz o (.lst xs)) := fun a _ _ h => l.fix a _ rfl h
structure Le (m : Mp) (H : Hp) (m' : Mp) (H' : Hp) : Prop extends Lw m H m' H' where
  keep : ∀ a o, H a = some o → (∀ n, m n ≠ some a) → H' a = some o ∧ ∀ n, m' n ≠ some a
theorem Le.tups {m m' : Mp} {H H' : Hp} (l : Le m H m' H') : ∀ a xs, H a = some (.tup xs) → H' a = some (.tup xs) := l.toLw.tups
theorem Le.frzs {m m' : Mp} {H H' : Hp} (l : Le m H m' H') : ∀ a o xs, H a = some (.frz o (.lst xs)) → H' a = some (.frz o (.lst xs)) := l.toLw.frzs
theorem Le.refl (m : Mp) (H : Hp) : Le m H m H := ⟨⟨fun _ _ h => h, fun _ _ _ h => h⟩, fun _ _ h n => ⟨h, n⟩⟩
theorem Lw.trans {m m1 m2 : Mp} {H H1 H2 : Hp} (a : Lw m H m1 H1) (b : Lw m1 H1 m2 H2) : Lw m H m2 H2 :=
  ⟨fun n x h => b.mp n x (a.mp n x h), fun x o f h => b.fix x o f (a.fix x o f h)⟩
theorem Le.trans {m m1 m2 : Mp} {H H1 H2 : Hp} (a : Le m H m1 H1) (b : Le m1 H1 m2 H2) : Le m H m2 H2 :=
  ⟨a.toLw.trans b.toLw, fun x o h n =>
    let ⟨h1, n1⟩ := a.keep x o h n
    b.keep x o h1 n1⟩

section
variable {K : PySem.W.Frag} {m m' : Mp} {H H' : Hp}
mutual
theorem RelD.monow (le : Lw m H m' H') : ∀ {d : D} {v : V}, RelD K m H d v → RelD K m' H' d v
  | .non, _, h => by simpa [RelD] using h
  | .bl _, _, h => by simpa [RelD] using h
  | .int _, _, h => by simpa [RelD] using h
  | .str _, _, h => by simpa [RelD] using h
  | .tup l, v, h => by
    rw [RelD] at h ⊢
    obtain ⟨a, xs, e, q, r⟩ := h
    exact ⟨a, xs, e, q.elim (fun z => .inl (le.tups a xs z)) .inr, RelDs.monow le r⟩
  | .clst l, v, h => by
    rw [RelD] at h ⊢
    obtain ⟨a, xs, e, q, r⟩ := h
    exact ⟨a, xs, e, q.elim (fun ⟨o, z⟩ => .inl ⟨o, le.frzs a o xs z⟩) .inr, RelDs.monow le r⟩
  | .ref n, v, h => by
    rw [RelD] at h ⊢
    obtain ⟨a, e, q⟩ := h
    exact ⟨a, e, le.mp n a q⟩
  | .rng lo hi, v, h => by
    rw [RelD] at h ⊢
    obtain ⟨a, e, q⟩ := h
    exact ⟨a, e, le.fix a _ rfl q⟩
  | .cdic t ks vs, v, h => by
    rw [RelD] at h ⊢
    obtain ⟨a, xs, e, ⟨o, q⟩, r, r2⟩ := h
    exact ⟨a, xs, e, ⟨o, le.fix a _ (fix_hoD o t ks xs) q⟩, RelDs.monow le r, r2⟩
theorem RelDs.monow (le : Lw m H m' H') : ∀ {ds : List D} {vs : List V}, RelDs K m H ds vs → RelDs K m' H' ds vs
  | [], _, h => by simpa [RelDs] using h
  | d :: ds, vs, h => by
    rw [RelDs] at h ⊢
    obtain ⟨v, vs', e, r, rs⟩ := h
    exact ⟨v, vs', e, RelD.monow le r, RelDs.monow le rs⟩
end
theorem RelD.mono (le : Le m H m' H') {d : D} {v : V} (h : RelD K m H d v) : RelD K m' H' d v := h.monow le.toLw
theorem RelDs.mono (le : Le m H m' H') {d : List D} {v : List V} (h : RelDs K m H d v) : RelDs K m' H' d v := h.monow le.toLw
theorem relDs_nil : RelDs K m H [] [] := by simp [RelDs]
theorem relDs_cons {d : D} {v : V} {ds : List D} {vs : List V} (r : RelD K m H d v) (rs : RelDs K m H ds vs) : RelDs K m H (d :: ds) (v :: vs) := by
  rw [RelDs]
  exact ⟨v, vs, rfl, r, rs⟩
theorem RelDs.length : ∀ {ds : List D} {vs : List V}, RelDs K m H ds vs → vs.length = ds.length
  | [], _, h => by
    rw [RelDs] at h
    rw [h]
    rfl
  | d :: ds, vs, h => by
    rw [RelDs] at h
    obtain ⟨v, vs', e, r, rs⟩ := h
    rw [e, List.length_cons, List.length_cons, rs.length]
theorem RelDs.get : ∀ {ds : List D} {vs : List V} {i : Nat} {d : D}, RelDs K m H ds vs → ds[i]? = some d → ∃ v, vs[i]? = some v ∧ RelD K m H d v
  | [], _, i, d, h, e => by simp at e
  | d0 :: ds, vs, i, d, h, e => by
    rw [RelDs] at h
    obtain ⟨v, vs', e1, r, rs⟩ := h
    subst e1
    cases i with
    | zero => simp at e; subst e; exact ⟨v, rfl, r⟩
    | succ i =>
      obtain ⟨w, h1, h2⟩ := rs.get (i := i) (by simpa using e)
      exact ⟨w, by simpa using h1, h2⟩
theorem RelDs.append : ∀ {ds es : List D} {vs ws : List V}, RelDs K m H ds vs → RelDs K m H es ws → RelDs K m H (ds ++ es) (vs ++ ws)
  | [], es, vs, ws, h, h' => by
    rw [RelDs] at h
    subst h
    simpa using h'
  | d :: ds, es, vs, ws, h, h' => by
    rw [RelDs] at h
    obtain ⟨v, vs', e, r, rs⟩ := h
    subst e
    exact relDs_cons r (rs.append h')
theorem RelDs.drop : ∀ {ds : List D} {vs : List V} (n : Nat), RelDs K m H ds vs → RelDs K m H (ds.drop n) (vs.drop n)
  | ds, vs, 0, h => by simpa using h
  | [], vs, n + 1, h => by
    rw [RelDs] at h
    subst h
    simp [RelDs]
  | d :: ds, vs, n + 1, h => by
    rw [RelDs] at h
    obtain ⟨v, vs', e, r, rs⟩ := h
    subst e
    simpa using rs.drop n
theorem RelDs.take : ∀ {ds : List D} {vs : List V} (n : Nat), RelDs K m H ds vs → RelDs K m H (ds.take n) (vs.take n)
  | ds, vs, 0, h => by simp [RelDs]
  | [], vs, n + 1, h => by
    rw [RelDs] at h
    subst h
    simp [RelDs]
  | d :: ds, vs, n + 1, h => by
    rw [RelDs] at h
    obtain ⟨v, vs', e, r, rs⟩ := h
    subst e
    exact relDs_cons r (rs.take n)
theorem RelDs.set : ∀ {ds : List D} {vs : List V} (i : Nat) {d : D} {v : V}, RelDs K m H ds vs → RelD K m H d v → RelDs K m H (ds.set i d) (vs.set i v)
  | [], vs, i, d, v, h, _ => by
    rw [RelDs] at h
    subst h
    simp [RelDs]
  | d0 :: ds, vs, i, d, v, h, r' => by
    rw [RelDs] at h
    obtain ⟨w, vs', e, r, rs⟩ := h
    subst e
    cases i with
    | zero => exact relDs_cons r' rs
    | succ i => exact relDs_cons r (rs.set i r')
theorem RelDs.eraseIdx : ∀ {ds : List D} {vs : List V} (i : Nat), RelDs K m H ds vs → RelDs K m H (ds.eraseIdx i) (vs.eraseIdx i)
  | [], vs, i, h => by
    rw [RelDs] at h
    subst h
    simp [RelDs]
  | d0 :: ds, vs, i, h => by
    rw [RelDs] at h
    obtain ⟨w, vs', e, r, rs⟩ := h
    subst e
    cases i with
    | zero => simpa using rs
    | succ i => exact relDs_cons r (rs.eraseIdx i)
theorem RelDs.dropLast {ds : List D} {vs : List V} (h : RelDs K m H ds vs) : RelDs K m H ds.dropLast vs.dropLast := by
  rw [List.dropLast_eq_take, List.dropLast_eq_take, h.length]
  exact h.take _
theorem RelDs.reverse : ∀ {ds : List D} {vs : List V}, RelDs K m H ds vs → RelDs K m H ds.reverse vs.reverse
  | [], vs, h => by
    rw [RelDs] at h
    subst h
    simp [RelDs]
  | d :: ds, vs, h => by
    rw [RelDs] at h
    obtain ⟨v, vs', e, r, rs⟩ := h
    subst e
    rw [List.reverse_cons, List.reverse_cons]
    exact rs.reverse.append (relDs_cons r relDs_nil)
theorem RelDs.rep {ds : List D} {vs : List V} (h : RelDs K m H ds vs) : ∀ k : Nat, RelDs K m H (List.replicate k ds).flatten (List.replicate k vs).flatten
  | 0 => by simp [RelDs]
  | k + 1 => by
    rw [List.replicate_succ, List.replicate_succ, List.flatten_cons, List.flatten_cons]
    exact h.append (h.rep k)
theorem relDs_ints : ∀ (ns : List Int), RelDs K m H (ns.map .int) (ns.map .int)
  | [] => by simp [RelDs]
  | n :: ns => by
    rw [List.map_cons, List.map_cons]
    exact relDs_cons (by simp [RelD]) (relDs_ints ns)
theorem RelDs.ints : ∀ {ds : List D} {vs : List V} {ns : List Int}, RelDs K m H ds vs → intL ds = some ns → vs = ns.map V.int ∧ ds = ns.map D.int
  | [], vs, ns, h, e => by
    rw [RelDs] at h
    simp [intL] at e
    subst h e
    simp
  | d :: ds, vs, ns, h, e => by
    rw [RelDs] at h
    obtain ⟨v, vs', e1, r, rs⟩ := h
    subst e1
    cases d with
    | int i =>
      simp only [intL] at e
      cases q : intL ds with
      | none => rw [q] at e; simp at e
      | some r' =>
        rw [q] at e
        simp at e
        subst e
        obtain ⟨a, b⟩ := rs.ints q
        rw [RelD] at r
        subst r a b
        simp
    | _ => simp [intL] at e
theorem RelDs.bools : ∀ {ds : List D} {vs : List V} {ns : List Bool}, RelDs K m H ds vs → boolL ds = some ns → vs = ns.map V.bl
  | [], vs, ns, h, e => by
    rw [RelDs] at h
    simp [boolL] at e
    subst h e
    simp
  | d :: ds, vs, ns, h, e => by
    rw [RelDs] at h
    obtain ⟨v, vs', e1, r, rs⟩ := h
    subst e1
    cases d with
    | bl i =>
      simp only [boolL] at e
      cases q : boolL ds with
      | none => rw [q] at e; simp at e
      | some r' =>
        rw [q] at e
        simp at e
        subst e
        have a := rs.bools q
        rw [RelD] at r
        subst r a
        simp
    | _ => simp [boolL] at e
end

/-! ### the store -/
def RelO (K : PySem.W.Frag) (m : Mp) (H : Hp) : Ob → Addr → Prop
  | .lst l, a => ∃ xs, H a = some (.lst xs) ∧ RelDs K m H l xs
  | .dic t ks vs, a => ∃ xs, H a = some (hoD t ks xs) ∧ RelDs K m H vs xs ∧ ks.length = vs.length ∧ okK t ks
  | .ins _ _, _ => False
structure RelSt (K : PySem.W.Frag) (m : Mp) (S : Sto) (H : Hp) : Prop where
  dom : ∀ n a, m n = some a → n < S.length
  inj : ∀ n n' a, m n = some a → m n' = some a → n = n'
  ob : ∀ n o, S[n]? = some o → ∃ a, m n = some a ∧ RelO K m H o a
section
variable {K : PySem.W.Frag} {m m' : Mp} {H H' : Hp} {S : Sto}
theorem RelO.there {o : Ob} {a : Addr} (h : RelO K m H o a) : ∃ u, H a = some u ∧ isFix u = false := by
  cases o with
  | lst l =>
    obtain ⟨xs, e, _⟩ := h
    exact ⟨_, e, rfl⟩
  | dic t ks vs =>
    obtain ⟨xs, e, _⟩ := h
    exact ⟨_, e, by unfold hoD; cases t <;> rfl⟩
  | ins _ _ => exact h.elim
theorem RelSt.at (r : RelSt K m S H) {n : Nat} {a : Addr} (h : m n = some a) : ∃ o, S[n]? = some o ∧ RelO K m H o a := by
  have hl := r.dom n a h
  obtain ⟨a', e, q⟩ := r.ob n S[n] (List.getElem?_eq_getElem hl)
  rw [h] at e
  cases e
  exact ⟨_, List.getElem?_eq_getElem hl, q⟩
theorem RelSt.img (r : RelSt K m S H) {n : Nat} {a : Addr} (h : m n = some a) : ∃ u, H a = some u ∧ isFix u = false := by
  obtain ⟨o, _, q⟩ := r.at h
  exact q.there
theorem RelSt.out (r : RelSt K m S H) {p : Addr} (h : H p = none) : ∀ n, m n ≠ some p := fun n e => by
  obtain ⟨u, hu, _⟩ := r.img e
  rw [h] at hu
  cases hu
theorem Le.new (p : Addr) (o : HO) (h : H p = none) : Le m H m (upd H p o) :=
  ⟨⟨fun _ _ h => h, fun a u _ e => by rw [upd_ne (ne_of_none e h)]; exact e⟩, fun a u e n => ⟨by rw [upd_ne (ne_of_none e h)]; exact e, n⟩⟩
theorem RelO.monow {o : Ob} {a : Addr} (le : Lw m H m' H') (ha : ∀ u, H a = some u → H' a = some u) (h : RelO K m H o a) : RelO K m' H' o a := by
  cases o with
  | lst l =>
    obtain ⟨xs, e, r⟩ := h
    exact ⟨xs, ha _ e, r.monow le⟩
  | dic t ks vs =>
    obtain ⟨xs, e, r, r2⟩ := h
    exact ⟨xs, ha _ e, r.monow le, r2⟩
  | ins _ _ => exact h.elim
theorem RelO.mono {o : Ob} {a : Addr} (le : Le m H m' H') (ha : ∀ u, H a = some u → H' a = some u) (h : RelO K m H o a) : RelO K m' H' o a := h.monow le.toLw ha
/-- something new that the store does not name -/
theorem RelSt.new (r : RelSt K m S H) (p : Addr) (o : HO) (h : H p = none) : RelSt K m S (upd H p o) :=
  ⟨r.dom, r.inj, fun n ob e => by
    obtain ⟨a, ha, q⟩ := r.ob n ob e
    exact ⟨a, ha, q.mono (Le.new p o h) fun xs z => by rw [upd_ne (ne_of_none z h)]; exact z⟩⟩
/-- something that the store does not name is changed -/
theorem RelSt.other (r : RelSt K m S H) (p : Addr) (o : HO) (h : ∀ n, m n ≠ some p) (le : Lw m H m (upd H p o)) : RelSt K m S (upd H p o) :=
  ⟨r.dom, r.inj, fun n ob e => by
    obtain ⟨a, ha, q⟩ := r.ob n ob e
    have hn : a ≠ p := fun z => h n (z ▸ ha)
    exact ⟨a, ha, q.monow le fun xs z => by rw [upd_ne hn]; exact z⟩⟩
def ext (m : Mp) (n : Nat) (p : Addr) : Mp := fun k => if k = n then some p else m k
theorem Le.ext {n : Nat} {p : Addr} {o : HO} (r : RelSt K m S H) (hn : n = S.length) (h : H p = none) : Le m H (ext m n p) (upd H p o) := by
  have ne : ∀ k a, m k = some a → k ≠ n := fun k a e z => by
    have := r.dom k a e
    omega
  refine ⟨⟨fun k a e => ?_, fun a u _ e => by rw [upd_ne (ne_of_none e h)]; exact e⟩, fun a u e q => ⟨by rw [upd_ne (ne_of_none e h)]; exact e, fun k z => ?_⟩⟩
  · unfold Pi.ext
    rw [if_neg (ne k a e)]
    exact e
  · unfold Pi.ext at z
    split at z
    · cases z
      rw [h] at e
      cases e
    · exact q k z
/-- something new that the store names -/
theorem RelSt.extO (r : RelSt K m S H) {p : Addr} (h : H p = none) {ob : Ob} {u : HO} (q : RelO K (ext m S.length p) (upd H p u) ob p) :
    RelSt K (ext m S.length p) (S ++ [ob]) (upd H p u) := by
  have le : Le m H (Pi.ext m S.length p) (upd H p u) := Le.ext r rfl h
  refine ⟨fun n a e => ?_, fun n n' a e e' => ?_, fun n o e => ?_⟩
  · unfold Pi.ext at e
    rw [List.length_append, List.length_singleton]
    split at e
    · omega
    · have := r.dom n a e
      omega
  · unfold Pi.ext at e e'
    split at e
    · split at e'
      · omega
      · cases e
        exact absurd e' (r.out h n')
    · split at e'
      · cases e'
        exact absurd e (r.out h n)
      · exact r.inj n n' a e e'
  · by_cases hn : n < S.length
    · rw [List.getElem?_append_left hn] at e
      obtain ⟨a, ha, z⟩ := r.ob n o e
      refine ⟨a, le.mp n a ha, z.mono le fun ys w => ?_⟩
      rw [upd_ne (ne_of_none w h)]
      exact w
    · have hl : n < (S ++ [ob]).length := (List.getElem?_eq_some_iff.mp e).1
      rw [List.length_append, List.length_singleton] at hl
      have en : n = S.length := by omega
      subst en
      rw [List.getElem?_append_right (Nat.le_refl _), Nat.sub_self] at e
      cases e
      exact ⟨p, by unfold Pi.ext; rw [if_pos rfl], q⟩
/-- a new list that the store names -/
theorem RelSt.ext (r : RelSt K m S H) {p : Addr} (h : H p = none) {l : List D} {xs : List V} (q : RelDs K m H l xs) :
    RelSt K (ext m S.length p) (S ++ [.lst l]) (upd H p (.lst xs)) :=
  r.extO h ⟨xs, upd_same, q.mono (Le.ext r rfl h)⟩
/-- a new dict -/
theorem RelSt.extD (r : RelSt K m S H) {p : Addr} (h : H p = none) {t : Bool} {ks : List (List Key)} {vs : List D} {xs : List V} (q : RelDs K m H vs xs) (hl : ks.length = vs.length) (ok : okK t ks) :
    RelSt K (Pi.ext m S.length p) (S ++ [.dic t ks vs]) (upd H p (hoD t ks xs)) :=
  r.extO h ⟨xs, upd_same, q.mono (Le.ext r rfl h), hl, ok⟩
/-- what stands already is named -/
theorem RelSt.adoptO (r : RelSt K m S H) {p : Addr} (h : ∀ n, m n ≠ some p) {ob : Ob} (q : RelO K m H ob p) : RelSt K (Pi.ext m S.length p) (S ++ [ob]) H := by
  have le : Lw m H (Pi.ext m S.length p) H := ⟨fun n a e => by
    unfold Pi.ext
    rw [if_neg (Nat.ne_of_lt (r.dom n a e))]
    exact e, fun _ _ _ e => e⟩
  refine ⟨fun n a e => ?_, fun n n' a e e' => ?_, fun n o e => ?_⟩
  · unfold Pi.ext at e
    rw [List.length_append, List.length_singleton]
    split at e
    · omega
    · have := r.dom n a e
      omega
  · unfold Pi.ext at e e'
    split at e
    · split at e'
      · omega
      · cases e
        exact absurd e' (h n')
    · split at e'
      · cases e'
        exact absurd e (h n)
      · exact r.inj n n' a e e'
  · by_cases hn : n < S.length
    · rw [List.getElem?_append_left hn] at e
      obtain ⟨a, ha, z⟩ := r.ob n o e
      exact ⟨a, le.mp n a ha, z.monow le fun ys w => w⟩
    · have hl : n < (S ++ [ob]).length := (List.getElem?_eq_some_iff.mp e).1
      rw [List.length_append, List.length_singleton] at hl
      have en : n = S.length := by omega
      subst en
      rw [List.getElem?_append_right (Nat.le_refl _), Nat.sub_self] at e
      cases e
      exact ⟨p, by unfold Pi.ext; rw [if_pos rfl], q.monow le fun ys w => w⟩
/-- a list that stands already is named -/
theorem RelSt.adopt (r : RelSt K m S H) {p : Addr} (h : ∀ n, m n ≠ some p) {l : List D} {xs : List V} (hp : H p = some (.lst xs)) (q : RelDs K m H l xs) : RelSt K (Pi.ext m S.length p) (S ++ [.lst l]) H :=
  r.adoptO h ⟨xs, hp, q⟩
theorem Le.adopt {m0 : Mp} {H0 : Hp} {n : Nat} {p : Addr} (l : Le m0 H0 m H) (hn : ∀ k a, m k = some a → k ≠ n) (h : H0 p = none) : Le m0 H0 (Pi.ext m n p) H := by
  refine ⟨⟨fun k a e => ?_, l.fix⟩, fun a o e q => ⟨(l.keep a o e q).1, fun k z => ?_⟩⟩
  · unfold Pi.ext
    rw [if_neg (hn k a (l.mp k a e))]
    exact l.mp k a e
  · unfold Pi.ext at z
    split at z
    · cases z
      rw [h] at e
      cases e
    · exact (l.keep a o e q).2 k z
/-- what was not there before changes -/
theorem Le.updOut {m0 : Mp} {H0 : Hp} {p : Addr} {o : HO} (l : Le m0 H0 m H) (h : H0 p = none) : Le m0 H0 m (upd H p o) :=
  ⟨⟨l.mp, fun a u f e => by rw [upd_ne (ne_of_none e h)]; exact l.fix a u f e⟩,
    fun a u e n => ⟨by rw [upd_ne (ne_of_none e h)]; exact (l.keep a u e n).1, (l.keep a u e n).2⟩⟩
theorem Le.set (r : RelSt K m S H) {n : Nat} {a : Addr} {o : HO} (hm : m n = some a) : Le m H m (upd H a o) := by
  obtain ⟨u, hu, n1⟩ := r.img hm
  refine ⟨⟨fun _ _ h => h, fun b ob f e => ?_⟩, fun b ob e q => ⟨?_, q⟩⟩
  · rw [upd_ne]
    · exact e
    · rintro rfl
      rw [hu] at e
      cases e
      rw [n1] at f
      cases f
  · rw [upd_ne]
    · exact e
    · rintro rfl
      exact q n hm
/-- what the store names is changed -/
theorem RelSt.setO (r : RelSt K m S H) {n : Nat} {a : Addr} (hm : m n = some a) {ob : Ob} {u : HO} (q : RelO K m (upd H a u) ob a) : RelSt K m (S.set n ob) (upd H a u) := by
  have le : Le m H m (upd H a u) := Le.set r hm
  refine ⟨fun k b e => by rw [List.length_set]; exact r.dom k b e, r.inj, fun k o e => ?_⟩
  by_cases hk : k = n
  · subst hk
    rw [List.getElem?_set_self (r.dom k a hm)] at e
    cases e
    exact ⟨a, hm, q⟩
  · rw [List.getElem?_set_ne (Ne.symm hk)] at e
    obtain ⟨b, hb, z⟩ := r.ob k o e
    have hne : b ≠ a := fun w => hk (r.inj k n a (w ▸ hb) hm)
    refine ⟨b, hb, z.mono le fun ys w => ?_⟩
    rw [upd_ne hne]
    exact w
/-- a list that the store names is changed -/
theorem RelSt.set (r : RelSt K m S H) {n : Nat} {a : Addr} (hm : m n = some a) {l : List D} {xs : List V} (q : RelDs K m H l xs) : RelSt K m (S.set n (.lst l)) (upd H a (.lst xs)) :=
  r.setO hm ⟨xs, upd_same, q.mono (Le.set r hm)⟩
theorem RelSt.setD (r : RelSt K m S H) {n : Nat} {a : Addr} (hm : m n = some a) {t : Bool} {ks : List (List Key)} {vs : List D} {xs : List V} (q : RelDs K m H vs xs) (hl : ks.length = vs.length) (ok : okK t ks) : RelSt K m (S.set n (.dic t ks vs)) (upd H a (hoD t ks xs)) :=
  r.setO hm ⟨xs, upd_same, q.mono (Le.set r hm), hl, ok⟩
theorem RelSt.dic (r : RelSt K m S H) {n : Nat} {a : Addr} {t : Bool} {ks : List (List Key)} {vs : List D} (hm : m n = some a) (e : S[n]? = some (.dic t ks vs)) : ∃ xs, H a = some (hoD t ks xs) ∧ RelDs K m H vs xs ∧ ks.length = vs.length ∧ okK t ks := by
  obtain ⟨b, hb, z⟩ := r.ob n _ e
  rw [hm] at hb
  cases hb
  exact z
theorem RelSt.lst (r : RelSt K m S H) {n : Nat} {a : Addr} {l : List D} (hm : m n = some a) (e : S[n]? = some (.lst l)) : ∃ xs, H a = some (.lst xs) ∧ RelDs K m H l xs := by
  obtain ⟨b, hb, z⟩ := r.ob n _ e
  rw [hm] at hb
  cases hb
  exact z
end

/-! ### the slots -/
def RelEnv (K : PySem.W.Frag) (m : Mp) (H : Hp) (env : Env) (σ : L2.St) : Prop :=
  σ.length = env.length ∧ ∀ (i : Nat) (d : D), env[i]? = some (some d) → ∃ v : V, σ[i]? = some (some v) ∧ RelD K m H d v
section
variable {K : PySem.W.Frag} {m m' : Mp} {H H' : Hp} {env : Env} {σ : L2.St}
theorem RelEnv.mono (le : Le m H m' H') (h : RelEnv K m H env σ) : RelEnv K m' H' env σ :=
  ⟨h.1, fun i d e => by
    obtain ⟨v, q, r⟩ := h.2 i d e
    exact ⟨v, q, r.mono le⟩⟩
theorem RelEnv.monow (le : Lw m H m' H') (h : RelEnv K m H env σ) : RelEnv K m' H' env σ :=
  ⟨h.1, fun i d e => by
    obtain ⟨v, q, r⟩ := h.2 i d e
    exact ⟨v, q, r.monow le⟩⟩
theorem RelEnv.set {i : Nat} {d : D} {v : V} (h : RelEnv K m H env σ) (r : RelD K m H d v) : RelEnv K m H (env.set i (some d)) (σ.set i (some v)) := by
  refine ⟨by rw [List.length_set, List.length_set]; exact h.1, fun j d' e => ?_⟩
  by_cases hj : i = j
  · subst hj
    have hl : i < env.length := by
      have := (List.getElem?_eq_some_iff.mp e).1
      rwa [List.length_set] at this
    rw [List.getElem?_set_self hl] at e
    cases e
    exact ⟨v, by rw [List.getElem?_set_self (by rw [h.1]; exact hl)], r⟩
  · rw [List.getElem?_set_ne hj] at e
    rw [List.getElem?_set_ne hj]
    exact h.2 j d' e
theorem RelEnv.unset {i : Nat} (h : RelEnv K m H env σ) : RelEnv K m H (env.set i none) (σ.set i none) := by
  refine ⟨by rw [List.length_set, List.length_set]; exact h.1, fun j d' e => ?_⟩
  by_cases hj : i = j
  · subst hj
    by_cases hl : i < env.length
    · rw [List.getElem?_set_self hl] at e
      cases e
    · rw [List.getElem?_eq_none (by simpa using hl)] at e
      cases e
  · rw [List.getElem?_set_ne hj] at e
    rw [List.getElem?_set_ne hj]
    exact h.2 j d' e
theorem RelEnv.wipe (h : RelEnv K m H env σ) : ∀ vs : List Nat, RelEnv K m H (wipe env vs) (L2.wipe σ vs)
  | [] => h
  | v :: vs => (RelEnv.wipe h vs).unset
end
end Pi

/-! Dicts: what stands at a key. -/
namespace Pi
open PySem L2

section
variable {K : PySem.W.Frag} {m : Mp} {H : Hp} {S : Sto}
theorem relDs_two : ∀ {ds : List D} {vs ws : List V}, True := trivial
theorem leaf_rel {d : D} {v : V} {k : Key} (r : RelD K m H d v) (h : leafK d = some k) : v = kV k := by
  cases d with
  | int i => simp only [leafK] at h; cases h; rw [RelD] at r; exact r
  | str i => simp only [leafK] at h; cases h; rw [RelD] at r; exact r
  | _ => cases h
theorem leafs_rel : ∀ {l : List D} {xs : List V} {ks : List Key}, RelDs K m H l xs → leafKs l = some ks → xs = ks.map kV
  | [], _, _, r, h => by
    rw [RelDs] at r
    simp only [leafKs] at h
    cases h
    rw [r]
    rfl
  | d :: l, xs, ks, r, h => by
    rw [RelDs] at r
    obtain ⟨v, vs, e, r1, rs⟩ := r
    simp only [leafKs] at h
    cases e1 : leafK d with
    | none => rw [e1] at h; cases h
    | some k =>
      cases e2 : leafKs l with
      | none => rw [e1, e2] at h; cases h
      | some ks' =>
        rw [e1, e2] at h
        cases h
        rw [e, leaf_rel r1 e1, leafs_rel rs e2]
        rfl
/-- the value as a key -/
def KeyAt (H : Hp) (t : Bool) (v : V) (k : List Key) : Prop := (t = true ∧ ∃ b, v = .ref b ∧ H b = some (.tup (k.map kV))) ∨ (t = false ∧ ∃ x, k = [x] ∧ v = kV x)
theorem key_rel {t : Bool} {d : D} {v : V} {k : List Key} (r : RelD K m H d v) (h : keyOf t d = some k) : KeyAt H t v k := by
  cases t with
  | true =>
    left
    refine ⟨rfl, ?_⟩
    cases d with
    | tup l =>
      simp only [keyOf] at h
      rw [RelD] at r
      obtain ⟨a, xs, e, q, rs⟩ := r
      have := leafs_rel rs h
      subst this
      rcases q with q | q
      · exact ⟨a, e, q⟩
      · exact q.elim
    | _ => simp only [keyOf] at h; cases h
  | false =>
    right
    refine ⟨rfl, ?_⟩
    have h2 : (leafK d).map (fun k => [k]) = some k := by
      cases d <;> simpa only [keyOf] using h
    cases e : leafK d with
    | none => rw [e] at h2; cases h2
    | some x =>
      rw [e] at h2
      cases h2
      exact ⟨x, rfl, leaf_rel r e⟩
/-- two answers alike -/
def OptRel (K : PySem.W.Frag) (m : Mp) (H : Hp) : Option D → Option V → Prop
  | some d, some v => RelD K m H d v
  | none, none => True
  | _, _ => False
theorem valK_nil (k : List Key) : valK ([] : List (List Key)) [] k = none := rfl
theorem valK_cons (k0 : List Key) (ks : List (List Key)) (d : D) (ds : List D) (k : List Key) : valK (k0 :: ks) (d :: ds) k = if k0 = k then some d else valK ks ds k := by
  unfold valK
  rw [List.zip_cons_cons, List.find?_cons]
  by_cases h : k0 = k
  · simp [h]
  · simp [h]
theorem valT_rel : ∀ {ks : List (List Key)} {ds : List D} {xs : List V} (k : List Key), RelDs K m H ds xs → ks.length = ds.length → OptRel K m H (valK ks ds k) (valV (ks.zip xs) k)
  | [], [], _, k, r, _ => by
    rw [RelDs] at r
    subst r
    exact trivial
  | [], _ :: _, _, _, _, h => by simp at h
  | _ :: _, [], _, _, _, h => by simp at h
  | k0 :: ks, d :: ds, xs, k, r, h => by
    rw [RelDs] at r
    obtain ⟨v, vs, e, r1, rs⟩ := r
    subst e
    rw [valK_cons, List.zip_cons_cons]
    by_cases q : k0 = k
    · rw [if_pos q, valV_pos (p := (k0, v)) q]
      exact r1
    · rw [if_neg q, valV_neg (p := (k0, v)) q]
      exact valT_rel k rs (by simpa using h)
theorem valL_rel : ∀ {ks : List (List Key)} {ds : List D} {xs : List V} (x : Key), RelDs K m H ds xs → ks.length = ds.length → (∀ k ∈ ks, ∃ y, k = [y]) → OptRel K m H (valK ks ds [x]) (valV ((ks.map hdK).zip xs) x)
  | [], [], _, k, r, _, _ => by
    rw [RelDs] at r
    subst r
    exact trivial
  | [], _ :: _, _, _, _, h, _ => by simp at h
  | _ :: _, [], _, _, _, h, _ => by simp at h
  | k0 :: ks, d :: ds, xs, x, r, h, hs => by
    rw [RelDs] at r
    obtain ⟨v, vs, e, r1, rs⟩ := r
    subst e
    obtain ⟨y, hy⟩ := hs k0 List.mem_cons_self
    subst hy
    rw [valK_cons, List.map_cons, List.zip_cons_cons]
    by_cases q : y = x
    · rw [if_pos (by rw [q]), valV_pos (p := (hdK [y], v)) q]
      exact r1
    · rw [if_neg (fun z => q (List.cons.inj z).1), valV_neg (p := (hdK [y], v)) q]
      exact valL_rel x rs (by simpa using h) fun k hk => hs k (List.mem_cons_of_mem _ hk)
/-- the dict in the heap -/
theorem dict_rel {d : D} {v : V} {t : Bool} {ks : List (List Key)} {vs : List D} (st : RelSt K m S H) (r : RelD K m H d v) (h : dictAt d S = some (t, ks, vs)) : ∃ a xs, v = .ref a ∧ Rd H a (hoD t ks xs) ∧ RelDs K m H vs xs ∧ ks.length = vs.length ∧ okK t ks := by
  cases d with
  | cdic t' ks' vs' =>
    simp only [dictAt] at h
    cases h
    rw [RelD] at r
    obtain ⟨a, xs, e, q, rs, h1, h2⟩ := r
    exact ⟨a, xs, e, .inr q, rs, h1, h2⟩
  | ref n =>
    simp only [dictAt] at h
    split at h
    · rename_i t' ks' vs' hS
      cases h
      rw [RelD] at r
      obtain ⟨a, e, q⟩ := r
      obtain ⟨xs, hx, rs, h1, h2⟩ := st.dic q hS
      exact ⟨a, xs, e, .inl hx, rs, h1, h2⟩
    · cases h
  | _ => simp only [dictAt] at h; cases h
theorem isD_rel {d : D} {v : V} {p : Bool × List (List Key) × List D} (st : RelSt K m S H) (r : RelD K m H d v) (h : dictAt d S = some p) : ∃ a, v = .ref a ∧ IsD H a := by
  obtain ⟨t, ks, vs⟩ := p
  obtain ⟨a, xs, e, q, _⟩ := dict_rel st r h
  refine ⟨a, e, ?_⟩
  unfold hoD at q
  split at q
  · exact .inr ⟨_, q⟩
  · exact .inl ⟨_, q⟩
theorem dget_rel {d y : D} {v u : V} {t : Bool} {ks : List (List Key)} {vs : List D} {k : List Key} (st : RelSt K m S H) (r : RelD K m H d v) (h : dictAt d S = some (t, ks, vs)) (ry : RelD K m H y u) (hk : keyOf t y = some k) : ∃ a o, v = .ref a ∧ DGet H a u o ∧ OptRel K m H (valK ks vs k) o := by
  obtain ⟨a, xs, e, q, rs, h1, h2⟩ := dict_rel st r h
  unfold hoD at q
  rcases key_rel ry hk with ⟨rfl, b, eu, hb⟩ | ⟨rfl, x, ek, eu⟩
  · exact ⟨a, _, e, .inr ⟨_, k, b, q, eu, hb, rfl⟩, valT_rel k rs h1⟩
  · subst ek
    exact ⟨a, _, e, .inl ⟨_, x, q, eu, rfl⟩, valL_rel x rs h1 (h2 rfl)⟩
/-! the dict with one more -/
theorem putVs_rel {ks : List (List Key)} {ds : List D} {xs : List V} {k : List Key} {d : D} {v : V} (rs : RelDs K m H ds xs) (h : ks.length = ds.length) (r : RelD K m H d v) : RelDs K m H (putVs ks ds k d) (putVs ks xs k v) := by
  unfold putVs
  split
  · rename_i hq
    clear hq
    induction ks generalizing ds xs with
    | nil => exact relDs_nil
    | cons k0 ks ih =>
      cases ds with
      | nil => simp at h
      | cons d0 ds =>
        rw [RelDs] at rs
        obtain ⟨v0, vs, e, r1, rs⟩ := rs
        subst e
        rw [List.zip_cons_cons, List.zip_cons_cons, List.map_cons, List.map_cons]
        refine relDs_cons ?_ (ih rs (by simpa using h))
        by_cases q : k0 = k
        · simp only [q, if_true]; exact r
        · simp only [q, if_false]; exact r1
  · exact rs.append (relDs_cons r relDs_nil)
theorem putVs_length {α : Type} {ks : List (List Key)} {vs : List α} {k : List Key} {v : α} (h : ks.length = vs.length) : (putKs ks k).length = (putVs ks vs k v).length := by
  unfold putKs putVs
  split
  · rw [List.length_map, List.length_zip, ← h, Nat.min_self]
  · rw [List.length_append, List.length_append, h]
    rfl
theorem any_zip {β : Type} : ∀ {ks : List (List Key)} {xs : List β} (k : List Key), ks.length = xs.length → ((ks.zip xs).any fun kv => decide (kv.1 = k)) = ks.any fun x => decide (x = k)
  | [], _, _, _ => rfl
  | k0 :: ks, [], _, h => by simp at h
  | k0 :: ks, x :: xs, k, h => by
    rw [List.zip_cons_cons, List.any_cons, List.any_cons, any_zip k (by simpa using h)]
theorem zip_put : ∀ {ks : List (List Key)} {xs : List V} (k : List Key) (v : V), ks.length = xs.length → (ks.zip xs).map (fun kv => if kv.1 = k then (kv.1, v) else kv) = ks.zip ((ks.zip xs).map fun p => if p.1 = k then v else p.2)
  | [], _, _, _, _ => rfl
  | k0 :: ks, [], _, _, h => by simp at h
  | k0 :: ks, x :: xs, k, v, h => by
    rw [List.zip_cons_cons, List.map_cons, List.map_cons, List.zip_cons_cons, zip_put k v (by simpa using h)]
    by_cases q : k0 = k
    · simp only [q, if_true]
    · simp only [q, if_false]
theorem putT_eq {ks : List (List Key)} {xs : List V} (k : List Key) (v : V) (h : ks.length = xs.length) : putK (ks.zip xs) k v = (putKs ks k).zip (putVs ks xs k v) := by
  unfold putK putKs putVs
  rw [any_zip k h]
  split
  · exact zip_put k v h
  · rw [List.zip_append h]
    rfl
theorem map_single {ks : List (List Key)} (hs : ∀ k ∈ ks, ∃ y, k = [y]) : ∃ ls : List Key, ks = ls.map fun x => [x] := by
  induction ks with
  | nil => exact ⟨[], rfl⟩
  | cons k ks ih =>
    obtain ⟨y, rfl⟩ := hs k List.mem_cons_self
    obtain ⟨ls, e⟩ := ih fun k hk => hs k (List.mem_cons_of_mem _ hk)
    exact ⟨y :: ls, by rw [List.map_cons, ← e]⟩
theorem hd_single (ls : List Key) : (ls.map fun x => [x]).map hdK = ls := by
  rw [List.map_map]
  exact (List.map_congr_left fun _ _ => rfl).trans (List.map_id ls)
theorem zip_map_single (ls : List Key) (xs : List V) : (ls.map fun x => [x]).zip xs = (ls.zip xs).map fun p => ([p.1], p.2) := by
  rw [List.zip_map_left]
  rfl
theorem zipL_put : ∀ {ls : List Key} {xs : List V} (x : Key) (v : V), ls.length = xs.length → (ls.zip xs).map (fun kv => if kv.1 = x then (kv.1, v) else kv) = ls.zip (((ls.map fun x => [x]).zip xs).map fun p => if p.1 = [x] then v else p.2)
  | [], _, _, _, _ => rfl
  | l :: ls, [], _, _, h => by simp at h
  | l :: ls, z :: xs, x, v, h => by
    rw [List.zip_cons_cons, List.map_cons, List.map_cons, List.zip_cons_cons, List.map_cons, List.zip_cons_cons, zipL_put x v (by simpa using h)]
    by_cases q : l = x
    · subst q; simp
    · simp [q]
theorem putL_eq {ls : List Key} {xs : List V} (x : Key) (v : V) (h : ls.length = xs.length) : putK (ls.zip xs) x v = ((putKs (ls.map fun x => [x]) [x]).map hdK).zip (putVs (ls.map fun x => [x]) xs [x] v) := by
  have ea : ((ls.map fun x => [x]).any fun y => decide (y = [x])) = ls.any fun y => decide (y = x) := by
    rw [List.any_map]
    congr 1
    funext y
    show decide ([y] = [x]) = decide (y = x)
    by_cases q : y = x <;> simp [q]
  have eb : ((ls.zip xs).any fun kv => decide (kv.1 = x)) = ls.any fun y => decide (y = x) := by
    clear ea
    induction ls generalizing xs with
    | nil => rfl
    | cons l ls ih =>
      cases xs with
      | nil => simp at h
      | cons z xs => rw [List.zip_cons_cons, List.any_cons, List.any_cons, ih (by simpa using h)]
  unfold putK putKs putVs
  rw [ea, eb]
  split
  · rw [hd_single]
    exact zipL_put x v h
  · rw [List.map_append, hd_single, List.zip_append h]
    rfl
/-- the heap behind d[y] = v -/
theorem dput_rel {n : Nat} {a : Addr} {y w : D} {u v : V} {t : Bool} {ks : List (List Key)} {vs : List D} {k : List Key} (st : RelSt K m S H) (hm : m n = some a) (hS : S[n]? = some (.dic t ks vs)) (ry : RelD K m H y u) (hk : keyOf t y = some k) (rw' : RelD K m H w v) (hz : ks.length < sizeLine) :
    ∃ xs', DPut H a u v (upd H a (hoD t (putKs ks k) xs')) ∧ RelSt K m (S.set n (.dic t (putKs ks k) (putVs ks vs k w))) (upd H a (hoD t (putKs ks k) xs')) := by
  obtain ⟨xs, hx, rs, h1, h2⟩ := st.dic hm hS
  have hl : ks.length = xs.length := by rw [rs.length, h1]
  have r2 := putVs_rel (k := k) rs h1 rw'
  have hlen := putVs_length (k := k) (v := w) h1
  rcases key_rel ry hk with ⟨rfl, b, eu, hb⟩ | ⟨rfl, x, ek, eu⟩
  · refine ⟨putVs ks xs k v, .inr ⟨ks.zip xs, k, b, hx, eu, hb, by rw [List.length_zip]; omega, ?_⟩, st.setD hm r2 hlen fun z => by cases z⟩
    show upd H a (.dT _) = _
    rw [putT_eq k v hl]
  · subst ek
    obtain ⟨ls, rfl⟩ := map_single (h2 rfl)
    refine ⟨putVs _ xs [x] v, .inl ⟨ls.zip xs, x, ?_, eu, by rw [List.length_zip]; rw [List.length_map] at hz; omega, ?_⟩, st.setD hm r2 hlen fun _ k hk2 => ?_⟩
    · have : hoD false (ls.map fun x => [x]) xs = .dK (ls.zip xs) := by
        show HO.dK (((ls.map fun x => [x]).map hdK).zip xs) = _
        rw [hd_single]
      rw [← this]
      exact hx
    · rw [putL_eq x v (by rw [List.length_map] at hl; exact hl)]
      rfl
    · unfold putKs at hk2
      split at hk2
      · exact h2 rfl k hk2
      · rcases List.mem_append.mp hk2 with z | z
        · exact h2 rfl k z
        · exact ⟨x, List.mem_singleton.mp z⟩
end
end Pi

/-! The operations, by values. -/
namespace Pi
open PySem L2

theorem bindOk {α β : Type} {m : M α} {f : α → M β} {S : Sto} {b : β} {S' : Sto} (h : (m >>= f) S = .ok b S') : ∃ a S1, m S = .ok a S1 ∧ f a S1 = .ok b S' := by
  rw [bind_ap] at h
  cases e : m S with
  | bad => rw [e] at h; cases h
  | err c fs S1 => rw [e] at h; cases h
  | ok a S1 => rw [e] at h; exact ⟨a, S1, rfl, h⟩
theorem pureOk {α : Type} {a b : α} {S S' : Sto} (h : (pure a : M α) S = .ok b S') : a = b ∧ S = S' := by
  rw [pure_ap] at h
  cases h
  exact ⟨rfl, rfl⟩
theorem chkOk {b : Bool} {u : Unit} {S S' : Sto} (h : chk b S = .ok u S') : b = true ∧ S = S' := by
  unfold chk at h
  split at h
  · rename_i hb
    cases h
    exact ⟨hb, rfl⟩
  · cases h

theorem mapM_cons_some {α β : Type} {f : α → Option β} {a : α} {l : List α} {ys : List β} (h : (a :: l).mapM f = some ys) : ∃ y r, f a = some y ∧ l.mapM f = some r ∧ ys = y :: r := by
  rw [List.mapM_cons] at h
  cases e : f a with
  | none => rw [e] at h; simp at h
  | some y =>
    rw [e] at h
    cases e2 : l.mapM f with
    | none => rw [e2] at h; simp at h
    | some r =>
      rw [e2] at h
      simp at h
      exact ⟨y, r, rfl, rfl, h.symm⟩

section
variable {K : PySem.W.Frag} {m : Mp} {H : Hp} {S : Sto}
theorem sqT_of {a : Addr} {xs : List V} (h : H a = some (.tup xs) ∨ KT K a xs) : SqT K H a xs := h.elim (fun z => .inl (.inl z)) False.elim
theorem sqL_of {a : Addr} {xs : List V} (h : (∃ o, H a = some (.frz o (.lst xs))) ∨ KL K a xs) : SqL K H a xs := h.elim (fun z => .inl (.inr z)) .inr
theorem dpAll_of (f : D → Option PyData) (l : List D) (hf : ∀ d v p, d ∈ l → RelD K m H d v → f d = some p → Dp K H v p) :
    ∀ {vs : List V} {ps : List PyData}, RelDs K m H l vs → l.mapM f = some ps → DpAll K H vs ps := by
  induction l with
  | nil =>
    intro vs ps r e
    rw [RelDs] at r
    simp at e
    subst r e
    exact .nil
  | cons d l ih =>
    intro vs ps r e
    rw [RelDs] at r
    obtain ⟨v, vs', e1, r1, rs⟩ := r
    obtain ⟨y, q, h1, h2, h3⟩ := mapM_cons_some e
    subst e1 h3
    exact .cons (hf d v y List.mem_cons_self r1 h1) (ih (fun d v p hd => hf d v p (List.mem_cons_of_mem _ hd)) rs h2)
theorem dp_of (st : RelSt K m S H) : ∀ (n : Nat) (d : D) (v : V) (p : PyData), RelD K m H d v → py n S d = some p → Dp K H v p
  | 0, _, _, _, _, e => by simp [py] at e
  | n + 1, .non, v, p, r, e => by simp [py] at e; rw [RelD] at r; subst e r; exact .non
  | n + 1, .bl b, v, p, r, e => by simp [py] at e; rw [RelD] at r; subst e r; exact .bl b
  | n + 1, .int b, v, p, r, e => by simp [py] at e; rw [RelD] at r; subst e r; exact .int b
  | n + 1, .str b, v, p, r, e => by
    simp only [py] at e
    split at e
    · cases e; rw [RelD] at r; subst r; exact .str b
    · cases e
  | n + 1, .tup l, v, p, r, e => by
    rw [RelD] at r
    obtain ⟨a, xs, e1, q, rs⟩ := r
    simp only [py] at e
    cases e2 : l.mapM (py n S) with
    | none => rw [e2] at e; simp at e
    | some ps =>
      rw [e2] at e
      simp at e
      subst e e1
      exact .tup (sqT_of q) (dpAll_of (py n S) l (fun d v p _ => dp_of st n d v p) rs e2)
  | n + 1, .clst l, v, p, r, e => by
    rw [RelD] at r
    obtain ⟨a, xs, e1, q, rs⟩ := r
    simp only [py] at e
    cases e2 : l.mapM (py n S) with
    | none => rw [e2] at e; simp at e
    | some ps =>
      rw [e2] at e
      simp at e
      subst e e1
      exact .lst (sqL_of q) (dpAll_of (py n S) l (fun d v p _ => dp_of st n d v p) rs e2)
  | n + 1, .ref k, v, p, r, e => by
    rw [RelD] at r
    obtain ⟨a, e1, q⟩ := r
    simp only [py] at e
    split at e
    · rename_i l hl
      cases e2 : l.mapM (py n S) with
      | none => rw [e2] at e; simp at e
      | some ps =>
        rw [e2] at e
        simp at e
        subst e e1
        obtain ⟨xs, h1, h2⟩ := st.lst q hl
        exact .lst (SqL.of h1) (dpAll_of (py n S) l (fun d v p _ => dp_of st n d v p) h2 e2)
    · cases e
  | n + 1, .rng _ _, _, _, _, e => by simp only [py] at e; cases e
  | n + 1, .cdic _ _ _, _, _, _, e => by simp only [py] at e; cases e
theorem lay_all (f : D → Option PyData) (N : Nat) (l : List D) (hf : ∀ d p, d ∈ l → f d = some p → p.canLay0 = true ∧ p.depth ≤ N) :
    ∀ {ps : List PyData}, l.mapM f = some ps → PyData.canLayAll0 ps = true ∧ PyData.depthAll ps ≤ N := by
  induction l with
  | nil =>
    intro ps e
    simp at e
    subst e
    simp [PyData.canLayAll0, PyData.depthAll]
  | cons d l ih =>
    intro ps e
    obtain ⟨y, q, h1, h2, h3⟩ := mapM_cons_some e
    subst h3
    obtain ⟨a1, a2⟩ := hf d y List.mem_cons_self h1
    obtain ⟨b1, b2⟩ := ih (fun d p hd => hf d p (List.mem_cons_of_mem _ hd)) h2
    refine ⟨by simp [PyData.canLayAll0, a1, b1], ?_⟩
    simp only [PyData.depthAll]
    omega
theorem lay_of : ∀ (n : Nat) (d : D) (p : PyData), py n S d = some p → p.canLay0 = true ∧ p.depth ≤ n
  | 0, _, _, e => by simp [py] at e
  | n + 1, .non, p, e => by simp [py] at e; subst e; simp [PyData.canLay0, PyData.depth]
  | n + 1, .bl b, p, e => by simp [py] at e; subst e; simp [PyData.canLay0, PyData.depth]
  | n + 1, .int b, p, e => by simp [py] at e; subst e; simp [PyData.canLay0, PyData.depth]
  | n + 1, .str b, p, e => by
    simp only [py] at e
    split at e
    · rename_i h
      cases e
      simp [PyData.canLay0, PyData.depth, h]
    · cases e
  | n + 1, .tup l, p, e => by
    simp only [py] at e
    cases e2 : l.mapM (py n S) with
    | none => rw [e2] at e; simp at e
    | some ps =>
      rw [e2] at e
      simp at e
      subst e
      obtain ⟨a, b⟩ := lay_all (py n S) n l (fun d p _ => lay_of n d p) e2
      refine ⟨by simp [PyData.canLay0, a], ?_⟩
      simp only [PyData.depth]
      omega
  | n + 1, .clst l, p, e => by
    simp only [py] at e
    cases e2 : l.mapM (py n S) with
    | none => rw [e2] at e; simp at e
    | some ps =>
      rw [e2] at e
      simp at e
      subst e
      obtain ⟨a, b⟩ := lay_all (py n S) n l (fun d p _ => lay_of n d p) e2
      refine ⟨by simp [PyData.canLay0, a], ?_⟩
      simp only [PyData.depth]
      omega
  | n + 1, .ref k, p, e => by
    simp only [py] at e
    split at e
    · rename_i l hl
      cases e2 : l.mapM (py n S) with
      | none => rw [e2] at e; simp at e
      | some ps =>
        rw [e2] at e
        simp at e
        subst e
        obtain ⟨a, b⟩ := lay_all (py n S) n l (fun d p _ => lay_of n d p) e2
        refine ⟨by simp [PyData.canLay0, a], ?_⟩
        simp only [PyData.depth]
        omega
    · cases e
theorem shaped_of {n : Nat} {d : D} {p : PyData} (h : n ≤ 64) (e : py n S d = some p) : SeqAt.shaped p = true := by
  obtain ⟨a, b⟩ := lay_of n d p e
  unfold SeqAt.shaped
  rw [a, Bool.true_and]
  exact decide_eq_true (by omega)
end

def Post (K : PySem.W.Frag) (m : Mp) (H : Hp) (S' : Sto) (d : D) (Q : VK) : Prop := ∀ (m' : Mp) (v : V) (H' : Hp), Le m H m' H' → RelSt K m' S' H' → RelD K m' H' d v → Q v H'
section
variable {K : PySem.W.Frag} {m : Mp} {H : Hp} {S : Sto} {Q : VK}
theorem Post.same {d : D} {v : V} (p : Post K m H S d Q) (st : RelSt K m S H) (r : RelD K m H d v) : Q v H := p m v H (Le.refl m H) st r
/-- a new tuple -/
theorem Post.tup {l : List D} {xs : List V} (p : Post K m H S (.tup l) Q) (st : RelSt K m S H) (r : RelDs K m H l xs) : ∀ q, H q = none → Q (.ref q) (upd H q (.tup xs)) := fun q hq =>
  p m (.ref q) _ (Le.new q _ hq) (st.new q _ hq) (by
    rw [RelD]
    exact ⟨q, xs, rfl, .inl upd_same, r.mono (Le.new q _ hq)⟩)
/-- a new list -/
theorem Post.lst {l : List D} {xs : List V} (p : Post K m H (S ++ [.lst l]) (.ref S.length) Q) (st : RelSt K m S H) (r : RelDs K m H l xs) : ∀ q, H q = none → Q (.ref q) (upd H q (.lst xs)) := fun q hq =>
  p (ext m S.length q) (.ref q) _ (Le.ext st rfl hq) (st.ext hq r) (by
    rw [RelD]
    exact ⟨q, rfl, by unfold ext; rw [if_pos rfl]⟩)
/-- a list changed -/
theorem Post.put {n : Nat} {a : Addr} {l : List D} {xs : List V} {d : D} {v : V} (p : Post K m H (S.set n (.lst l)) d Q) (st : RelSt K m S H) (hm : m n = some a) (r : RelDs K m H l xs) (rd : RelD K m H d v) : Q v (upd H a (.lst xs)) :=
  p m v _ (Le.set st hm) (st.set hm r) (rd.mono (Le.set st hm))
end

section
variable {X : Cx}
def opTo : BOp → Operator
  | .add => .Add | .sub => .Sub | .mul => .Mult | .fdiv => .FloorDiv | .mod => .Mod | .pow => .Pow | .shl => .LShift
theorem opTo_of {op : Operator} {o : BOp} (h : bopOf op = some o) : op = opTo o := by
  cases op <;> simp [bopOf] at h <;> subst h <;> rfl
def cmTo : COp → CmpOp
  | .eq => .Eq | .ne => .NotEq | .lt => .Lt | .le => .LtE | .gt => .Gt | .ge => .GtE | .is_ => .Is | .isN => .IsNot | .in_ => .In | .nin => .NotIn
theorem cmTo_of {op : CmpOp} {o : COp} (h : copOf op = some o) : op = cmTo o := by
  cases op <;> simp [copOf] at h <;> subst h <;> rfl
def rBin (K : PySem.W.Frag) (op : BOp) : R2 := fun x y H Q => ∃ m S a b d S', RelSt K m S H ∧ RelD K m H a x ∧ RelD K m H b y ∧ binop op a b S = .ok d S' ∧ Post K m H S' d Q
theorem items_inv {d : D} {S S' : Sto} {l : List D} (h : items d S = .ok l S') : S' = S ∧ (d = .tup l ∨ d = .clst l ∨ ∃ n, d = .ref n ∧ S[n]? = some (.lst l)) := by
  cases d with
  | tup k => simp only [items] at h; cases h; exact ⟨rfl, .inl rfl⟩
  | clst k => simp only [items] at h; cases h; exact ⟨rfl, .inr (.inl rfl)⟩
  | ref n =>
    simp only [items] at h
    split at h
    · rename_i l' hl
      cases h
      exact ⟨rfl, .inr (.inr ⟨n, rfl, hl⟩)⟩
    · cases h
  | _ => simp [items] at h
theorem items_rel {K : PySem.W.Frag} {m : Mp} {H : Hp} {S : Sto} {d : D} {v : V} {l : List D} (st : RelSt K m S H) (r : RelD K m H d v) (h : items d S = .ok l S) :
    ∃ a xs, v = .ref a ∧ RelDs K m H l xs ∧ ((d = .tup l ∧ (H a = some (.tup xs) ∨ KT K a xs)) ∨ (d = .clst l ∧ ((∃ o, H a = some (.frz o (.lst xs))) ∨ KL K a xs)) ∨ ∃ n, d = .ref n ∧ m n = some a ∧ H a = some (.lst xs)) := by
  obtain ⟨_, q⟩ := items_inv h
  rcases q with rfl | rfl | ⟨n, rfl, hn⟩
  · rw [RelD] at r
    obtain ⟨a, xs, e, q, rs⟩ := r
    exact ⟨a, xs, e, rs, .inl ⟨rfl, q⟩⟩
  · rw [RelD] at r
    obtain ⟨a, xs, e, q, rs⟩ := r
    exact ⟨a, xs, e, rs, .inr (.inl ⟨rfl, q⟩)⟩
  · rw [RelD] at r
    obtain ⟨a, e, q⟩ := r
    obtain ⟨xs, h1, h2⟩ := st.lst q hn
    exact ⟨a, xs, e, h2, .inr (.inr ⟨n, rfl, q, h1⟩)⟩
def rCatS (K : PySem.W.Frag) : R2 := fun x y H Q => ∃ l b xs zs, x = .ref l ∧ y = .ref b ∧ SqL K H l xs ∧ SqL K H b zs ∧ xs.length + zs.length ≤ sizeLine ∧ ∀ p, H p = none → Q (.ref p) (upd H p (.lst (xs ++ zs)))
theorem op_catS : OpR X (binaryOp .Add) (rCatS X.K) := by
  intro pins s σ H x y v u Q I rx ry h
  obtain ⟨l, b, xs, zs, rfl, rfl, hH, hB, hz, q⟩ := h
  cases rx
  cases ry
  obtain ⟨its, r, ⟨⟨cls, dd, data, sl⟩, n, ho, hc, hdn, hdt⟩, hz1⟩ := I.list hH
  obtain ⟨its2, r2, ⟨⟨cls2, dd2, data2, sl2⟩, n2, ho2, hc2, hdn2, hdt2⟩, hz2⟩ := I.list hB
  simp only at hc hdt hc2 hdt2
  subst hc hdt hc2 hdt2
  have ea : its.toArray ++ its2.toArray = (its ++ its2).toArray := by simp
  have hl := r.length
  have hl2 := r2.length
  refine concat_meets ⟨_, ho, rfl⟩ ⟨_, ho2, rfl⟩ noFill_list_add seq_list_add PySem.F.slot_list_add PySem.F.entry_list_add (PySem.F.args_list_add_2 _ _) (PyProof.Rows.list_addW l b its.toArray its2.toArray n n2 dd dd2 sl sl2 (by rw [List.size_toArray, List.size_toArray]; omega)) ⟨ho, ho2, ?_⟩
  rw [ea]
  exact ⟨.ref _, _, I.lnew (t' := s.toks) (r.append r2) (by rw [List.length_append]; omega), rfl, q _ I.fresh⟩
theorem sqL_items {K : PySem.W.Frag} {m : Mp} {H : Hp} {d : D} {l : List D} {a : Addr} {xs : List V} (q : (d = .tup l ∧ (H a = some (.tup xs) ∨ KT K a xs)) ∨ (d = .clst l ∧ ((∃ o, H a = some (.frz o (.lst xs))) ∨ KL K a xs)) ∨ ∃ n, d = .ref n ∧ m n = some a ∧ H a = some (.lst xs)) (h : isTupD d = false) : SqL K H a xs := by
  rcases q with ⟨z, _⟩ | ⟨_, q⟩ | ⟨n, _, _, q⟩
  · subst z; cases h
  · exact sqL_of q
  · exact SqL.of q
theorem op_bin (op : BOp) : OpR X (binaryOp (opTo op)) (rBin X.K op) := by
  intro pins s σ H x y v u Q I rx ry h
  obtain ⟨m, S, a, b, d, S', st, ra, rb, e, p⟩ := h
  unfold binop at e
  split at e
  · cases e
    rw [RelD] at ra rb
    exact op_add pins s σ H x y v u Q I rx ry ⟨_, _, ra, rb, p.same st (by rw [RelD])⟩
  · cases e
    rw [RelD] at ra rb
    exact op_sub pins s σ H x y v u Q I rx ry ⟨_, _, ra, rb, p.same st (by rw [RelD])⟩
  · split at e
    · rename_i hc
      cases e
      rw [RelD] at ra rb
      exact op_mul pins s σ H x y v u Q I rx ry ⟨_, _, ra, rb, hc, p.same st (by rw [RelD])⟩
    · cases e
  · split at e
    · rename_i hc
      cases e
      rw [RelD] at ra rb
      exact op_fdiv pins s σ H x y v u Q I rx ry ⟨_, _, ra, rb, hc, p.same st (by rw [RelD])⟩
    · cases e
  · split at e
    · rename_i hc
      cases e
      rw [RelD] at ra rb
      exact op_mod pins s σ H x y v u Q I rx ry ⟨_, _, ra, rb, hc, p.same st (by rw [RelD])⟩
    · cases e
  · split at e
    · rename_i hc
      cases e
      rw [RelD] at ra rb
      exact op_pow pins s σ H x y v u Q I rx ry ⟨_, _, ra, rb, hc, p.same st (by rw [RelD])⟩
    · cases e
  · split at e
    · rename_i hc
      cases e
      rw [RelD] at ra rb
      exact op_shl pins s σ H x y v u Q I rx ry ⟨_, _, ra, rb, hc, p.same st (by rw [RelD])⟩
    · cases e
  · split at e
    · rename_i hc
      cases e
      rw [RelD] at ra rb
      exact op_add_str pins s σ H x y v u Q I rx ry ⟨_, _, ra, rb, hc, p.same st (by rw [RelD])⟩
    · cases e
  · split at e
    · rename_i k l hc
      cases e
      rw [RelD] at ra rb
      obtain ⟨p1, xs, e1, q1, r1⟩ := ra
      obtain ⟨p2, ys, e2, q2, r2⟩ := rb
      refine op_catA pins s σ H x y v u Q I rx ry ⟨p1, p2, xs, ys, e1, e2, sqT_of q1, sqT_of q2, by rw [r1.length, r2.length]; exact hc, fun z => ?_, fun z1 z2 => ?_, fun _ _ => p.tup st (r1.append r2)⟩
      · subst z
        have hk : k = [] := by
          have := r1.length
          exact List.eq_nil_of_length_eq_zero (by simpa using this.symm)
        subst hk
        exact p.same st (by rw [RelD]; exact ⟨p2, ys, rfl, q2, by simpa using r2⟩)
      · subst z2
        have hk : l = [] := by
          have := r2.length
          exact List.eq_nil_of_length_eq_zero (by simpa using this.symm)
        subst hk
        exact p.same st (by rw [RelD]; exact ⟨p1, xs, rfl, q1, by simpa using r1⟩)
    · cases e
  · split at e
    · rename_i k h1
      split at e
      · rename_i hc
        unfold newO at e
        cases e
        rw [RelD] at ra
        rw [RelD] at rb
        obtain ⟨p1, e1, q1⟩ := ra
        obtain ⟨xs, w1, r1⟩ := st.lst q1 h1
        exact op_rep pins s σ H x y v u Q I rx ry ⟨p1, _, xs, e1, rb, w1, hc.1, hc.2.1, by rw [r1.length]; exact hc.2.2, p.lst st (r1.rep _)⟩
      · cases e
    · cases e
  · split at e
    · cases e
    · rename_i hn0
      obtain ⟨k, S1, e1, e2⟩ := bindOk e
      obtain ⟨l, S2, e3, e4⟩ := bindOk e2
      obtain ⟨_, S3, e5, e6⟩ := bindOk e4
      obtain ⟨hc, rfl⟩ := chkOk e5
      obtain ⟨rfl, _⟩ := items_inv e1
      obtain ⟨rfl, _⟩ := items_inv e3
      unfold newO at e6
      cases e6
      have hn : isTupD a = false ∧ isTupD b = false := by
        revert hn0
        cases isTupD a <;> cases isTupD b <;> simp
      obtain ⟨p1, xs, e7, r1, q1⟩ := items_rel st ra e1
      obtain ⟨p2, ys, e8, r2, q2⟩ := items_rel st rb e3
      exact op_catS pins s σ H x y v u Q I rx ry ⟨p1, p2, xs, ys, e7, e8, sqL_items q1 hn.1, sqL_items q2 hn.2, by rw [r1.length, r2.length]; exact of_decide_eq_true hc, p.lst st (r1.append r2)⟩
  · cases e

def PostB (K : PySem.W.Frag) (m : Mp) (H : Hp) (S' : Sto) (c : Bool) (Q : Bool → Hp → Prop) : Prop := ∀ (m' : Mp) (H' : Hp), Le m H m' H' → RelSt K m' S' H' → Q c H'
theorem PostB.same {K : PySem.W.Frag} {m : Mp} {H : Hp} {S : Sto} {c : Bool} {Q : Bool → Hp → Prop} (p : PostB K m H S c Q) (st : RelSt K m S H) : Q c H := p m H (Le.refl m H) st
def rCmp (K : PySem.W.Frag) (op : COp) : R2 := fun x y H Q => ∃ m S a b c S', RelSt K m S H ∧ RelD K m H a x ∧ RelD K m H b y ∧ cmpop op a b S = .ok c S' ∧ PostB K m H S' c fun c H => Q (.bl c) H

theorem eqv_inv {a b : D} {S S' : Sto} {c : Bool} (h : eqv a b S = .ok c S') : ∃ x y, py depthP S a = some x ∧ py depthP S b = some y ∧ c = PyData.eqv x y ∧ S' = S := by
  unfold eqv at h
  split at h
  · rename_i x y h1 h2
    cases h
    exact ⟨x, y, h1, h2, rfl, rfl⟩
  · cases h
theorem inSeq0_inv {a b : D} {S S' : Sto} {c : Bool} (h : inSeq0 a b S = .ok c S') : ∃ x l ys, py depthP S a = some x ∧ items b S = .ok l S ∧ l.mapM (py depthP S) = some ys ∧ c = (ys.any fun y => PyData.eqv y x) ∧ S' = S := by
  unfold inSeq0 at h
  cases e : items b S with
  | bad => rw [e] at h; cases h
  | err c fs S1 => rw [e] at h; cases h
  | ok l S1 =>
    rw [e] at h
    obtain ⟨e1, _⟩ := items_inv e
    subst e1
    dsimp only at h
    split at h
    · rename_i x b' hx hb
      cases h
      rw [hx] at hb
      unfold anyPy at hb
      cases e2 : l.mapM (py depthP S') with
      | none => rw [e2] at hb; simp at hb
      | some ys =>
        rw [e2] at hb
        simp only [Option.map_some, Option.some.injEq, Option.getD_some] at hb
        exact ⟨x, l, ys, hx, rfl, e2, hb.symm, rfl⟩
    · cases h
theorem inSeq_inv {a b : D} {S S' : Sto} {c : Bool} (h : inSeq a b S = .ok c S') : (∃ x l ys, py depthP S a = some x ∧ items b S = .ok l S ∧ l.mapM (py depthP S) = some ys ∧ c = (ys.any fun y => PyData.eqv y x) ∧ S' = S) ∨ ∃ t ks vs k, dictAt b S = some (t, ks, vs) ∧ keyOf t a = some k ∧ c = (valK ks vs k).isSome ∧ S' = S := by
  unfold inSeq at h
  split at h
  · rename_i t ks vs hd
    split at h
    · rename_i k hk
      cases h
      exact .inr ⟨t, ks, vs, k, hd, hk, rfl, rfl⟩
    · cases h
  · exact .inl (inSeq0_inv h)
theorem optRel_some {K : PySem.W.Frag} {m : Mp} {H : Hp} {o : Option D} {p : Option V} (h : OptRel K m H o p) : o.isSome = p.isSome := by
  cases o <;> cases p <;> first | rfl | exact h.elim
theorem depthP_le : depthP + 1 ≤ 64 := by decide

theorem shaped_tl {ds : List PyData} (h : SeqAt.shaped (.list ds) = true) : SeqAt.shaped (.tuple ds) = true := by
  unfold SeqAt.shaped at h ⊢
  simp only [PyData.canLay0, PyData.depth] at h ⊢
  exact h
theorem shaped_l {S : Sto} {l : List D} {ds : List PyData} (e : l.mapM (py depthP S) = some ds) : SeqAt.shaped (.list ds) = true := by
  obtain ⟨a, b⟩ := lay_all (py depthP S) depthP l (fun d p _ => lay_of depthP d p) e
  have hd := depthP_le
  unfold SeqAt.shaped
  simp only [PyData.canLay0, PyData.depth, a, Bool.true_and]
  exact decide_eq_true (by omega)
theorem items_sq {K : PySem.W.Frag} {m : Mp} {H : Hp} {S : Sto} {d : D} {v : V} {l : List D} (st : RelSt K m S H) (r : RelD K m H d v) (h : items d S = .ok l S) :
    ∃ a xs, v = .ref a ∧ RelDs K m H l xs ∧ (SqL K H a xs ∨ SqT K H a xs) := by
  obtain ⟨a, xs, e, rs, q⟩ := items_rel st r h
  refine ⟨a, xs, e, rs, ?_⟩
  rcases q with ⟨_, q⟩ | ⟨_, q⟩ | ⟨n, _, _, q⟩
  · exact .inr (sqT_of q)
  · exact .inl (sqL_of q)
  · exact .inl (SqL.of q)
/-- x in y, y a list or a tuple of data -/
theorem op_inP (hu : X.A.units + 65 < cLine) {pins : List (Addr × Obj)} {s : Shared} {σ : L2.St} {H : Hp} {x y : V} {v u : Value} {Q : VK} {m : Mp} {S : Sto} {a b : D} {d : PyData} {l : List D} {ds : List PyData} (I : L2.Inv X pins σ H s) (rx : RelV x v) (ry : RelV y u)
    (st : RelSt X.K m S H) (ra : RelD X.K m H a x) (rb : RelD X.K m H b y) (ed : py depthP S a = some d) (ei : items b S = .ok l S) (el : l.mapM (py depthP S) = some ds) (neg : Bool)
    (q : Q (.bl (if neg then !(ds.any fun z => PyData.eqv z d) else ds.any fun z => PyData.eqv z d)) H) : wpAny (model X.prog X.w) X.A (compareOp (if neg then .NotIn else .In) v u) (EP X pins σ Q) X.xe s := by
  have dd := dp_of st _ _ _ _ ra ed
  have sd := shaped_of (by decide) ed
  have sl := shaped_l el
  obtain ⟨p, xs, ey, rs, hq⟩ := items_sq st rb ei
  have da := dpAll_of (py depthP S) l (fun d v p _ => dp_of st depthP d v p) rs el
  subst ey
  obtain ⟨as, r1⟩ := Dp.reads I d x v dd rx
  rcases hq with hq | hq
  · obtain ⟨bs, r2⟩ := Dp.reads I (.list ds) _ u (.lst hq da) ry
    cases neg with
    | false => exact SeqAt.in_list_reads r2 r1 (SeqAt.canLay_of_shaped sl) (SeqAt.canLay_of_shaped sd) (PyProof.Rows.room_in_shaped sd hu) ⟨.bl _, H, I, rfl, q⟩
    | true => exact SeqAt.notIn_list_reads r2 r1 (SeqAt.canLay_of_shaped sl) (SeqAt.canLay_of_shaped sd) (PyProof.Rows.room_in_shaped sd hu) ⟨.bl _, H, I, rfl, q⟩
  · obtain ⟨bs, r2⟩ := Dp.reads I (.tuple ds) _ u (.tup hq da) ry
    cases neg with
    | false => exact SeqAt.in_tuple_reads r2 r1 (SeqAt.canLay_of_shaped sl) (SeqAt.canLay_of_shaped sd) (PyProof.Rows.room_in_shaped sd hu) ⟨.bl _, H, I, rfl, q⟩
    | true => exact SeqAt.notIn_tuple_reads r2 r1 (SeqAt.canLay_of_shaped sl) (SeqAt.canLay_of_shaped sd) (PyProof.Rows.room_in_shaped sd hu) ⟨.bl _, H, I, rfl, q⟩

theorem relD_bl {K : PySem.W.Frag} {m : Mp} {H : Hp} {b : Bool} {x : V} (h : RelD K m H (.bl b) x) : x = .bl b := by rwa [RelD] at h
theorem relD_int {K : PySem.W.Frag} {m : Mp} {H : Hp} {b : Int} {x : V} (h : RelD K m H (.int b) x) : x = .int b := by rwa [RelD] at h
theorem relD_str {K : PySem.W.Frag} {m : Mp} {H : Hp} {b : Str} {x : V} (h : RelD K m H (.str b) x) : x = .str b := by rwa [RelD] at h
theorem relD_non {K : PySem.W.Frag} {m : Mp} {H : Hp} {x : V} (h : RelD K m H .non x) : x = .non := by rwa [RelD] at h
/-- only None stands for None -/
theorem relD_none {K : PySem.W.Frag} {m : Mp} {H : Hp} {d : D} (h : RelD K m H d .non) : d = .non := by
  cases d <;> simp [RelD] at h ⊢
theorem cmpD_inv {f : PyData → PyData → Bool} {a b : D} {S S' : Sto} {c : Bool} (h : cmpD f a b S = .ok c S') : ∃ x y, py depthP S a = some x ∧ py depthP S b = some y ∧ PySem.W.alike x y = true ∧ x ≠ .none ∧ c = f x y ∧ S' = S := by
  unfold cmpD at h
  split at h
  · rename_i x y h1 h2
    split at h
    · rename_i hc
      rw [Bool.and_eq_true] at hc
      cases h
      exact ⟨x, y, h1, h2, hc.1, fun z => by subst z; exact absurd hc.2 (by decide), rfl, rfl⟩
    · cases h
  · cases h
theorem room_data {u : Nat} {S : Sto} {a : D} {x y : PyData} (h : py depthP S a = some x) (hu : u + 65 < cLine) : u + min x.depth y.depth < cLine := by
  have h1 := (lay_of _ _ _ h).2
  have h2 : min x.depth y.depth ≤ x.depth := Nat.min_le_left _ _
  have h3 : depthP = 40 := rfl
  omega
theorem op_cmp (hu : X.A.units + 65 < cLine) (op : COp) : OpR X (compareOp (cmTo op)) (rCmp X.K op) := by
  intro pins s σ H x y v u Q I rx ry h
  obtain ⟨m, S, a, b, c, S', st, ra, rb, e, p⟩ := h
  have hu' : X.A.units + 64 < cLine := by omega
  unfold cmpop at e
  cases op with
  | eq =>
    obtain ⟨dx, dy, h1, h2, rfl, rfl⟩ := eqv_inv e
    exact op_eqD hu' pins s σ H x y v u Q I rx ry ⟨dx, dy, dp_of st _ _ _ _ ra h1, dp_of st _ _ _ _ rb h2, shaped_of (by decide) h1, shaped_of (by decide) h2, p.same st⟩
  | ne =>
    dsimp only at e
    rw [bind_ap] at e
    cases q : eqv a b S with
    | bad => rw [q] at e; cases e
    | err c fs S1 => rw [q] at e; cases e
    | ok c' S1 =>
      rw [q] at e
      obtain ⟨dx, dy, h1, h2, rfl, rfl⟩ := eqv_inv q
      cases e
      exact op_neD hu' pins s σ H x y v u Q I rx ry ⟨dx, dy, dp_of st _ _ _ _ ra h1, dp_of st _ _ _ _ rb h2, shaped_of (by decide) h1, shaped_of (by decide) h2, p.same st⟩
  | lt =>
    dsimp only at e
    split at e
    · cases e
      exact op_lt pins s σ H x y v u Q I rx ry ⟨_, _, relD_int ra, relD_int rb, p.same st⟩
    · obtain ⟨dx, dy, h1, h2, h3, h4, rfl, rfl⟩ := cmpD_inv e
      obtain ⟨as, r1⟩ := Dp.reads I dx x v (dp_of st _ _ _ _ ra h1) rx
      obtain ⟨bs, r2⟩ := Dp.reads I dy y u (dp_of st _ _ _ _ rb h2) ry
      exact PySem.W.lt_data r1 r2 h3 h4 (room_data h1 hu) ⟨.bl _, H, I, rfl, p.same st⟩
  | le =>
    dsimp only at e
    split at e
    · cases e
      exact op_le pins s σ H x y v u Q I rx ry ⟨_, _, relD_int ra, relD_int rb, p.same st⟩
    · obtain ⟨dx, dy, h1, h2, h3, h4, rfl, rfl⟩ := cmpD_inv e
      obtain ⟨as, r1⟩ := Dp.reads I dx x v (dp_of st _ _ _ _ ra h1) rx
      obtain ⟨bs, r2⟩ := Dp.reads I dy y u (dp_of st _ _ _ _ rb h2) ry
      exact PySem.W.le_data r1 r2 h3 h4 (room_data h1 hu) ⟨.bl _, H, I, rfl, p.same st⟩
  | gt =>
    dsimp only at e
    split at e
    · cases e
      exact op_gt pins s σ H x y v u Q I rx ry ⟨_, _, relD_int ra, relD_int rb, p.same st⟩
    · obtain ⟨dx, dy, h1, h2, h3, h4, rfl, rfl⟩ := cmpD_inv e
      obtain ⟨as, r1⟩ := Dp.reads I dx x v (dp_of st _ _ _ _ ra h1) rx
      obtain ⟨bs, r2⟩ := Dp.reads I dy y u (dp_of st _ _ _ _ rb h2) ry
      exact PySem.W.gt_data r1 r2 h3 h4 (room_data h1 hu) ⟨.bl _, H, I, rfl, p.same st⟩
  | ge =>
    dsimp only at e
    split at e
    · cases e
      exact op_ge pins s σ H x y v u Q I rx ry ⟨_, _, relD_int ra, relD_int rb, p.same st⟩
    · obtain ⟨dx, dy, h1, h2, h3, h4, rfl, rfl⟩ := cmpD_inv e
      obtain ⟨as, r1⟩ := Dp.reads I dx x v (dp_of st _ _ _ _ ra h1) rx
      obtain ⟨bs, r2⟩ := Dp.reads I dy y u (dp_of st _ _ _ _ rb h2) ry
      exact PySem.W.ge_data r1 r2 h3 h4 (room_data h1 hu) ⟨.bl _, H, I, rfl, p.same st⟩
  | is_ =>
    dsimp only at e
    split at e
    · cases e
      exact op_isN pins s σ H x y v u Q I rx ry ⟨relD_non rb, by rw [relD_non ra]; exact p.same st⟩
    · rename_i _ hne
      cases e
      refine op_isN pins s σ H x y v u Q I rx ry ⟨relD_non rb, ?_⟩
      have hx : decide (x = V.non) = false := decide_eq_false fun z => by
        subst z
        exact hne (relD_none ra)
      rw [hx]
      exact p.same st
    · cases e
      refine op_is_bl pins s σ H x y v u Q I rx ry ⟨_, _, relD_bl ra, relD_bl rb, p.same st⟩
    · cases e
  | isN =>
    dsimp only at e
    split at e
    · cases e
      exact op_notN pins s σ H x y v u Q I rx ry ⟨relD_non rb, by rw [relD_non ra]; exact p.same st⟩
    · rename_i _ hne
      cases e
      refine op_notN pins s σ H x y v u Q I rx ry ⟨relD_non rb, ?_⟩
      have hx : decide (x = V.non) = false := decide_eq_false fun z => by
        subst z
        exact hne (relD_none ra)
      rw [hx]
      exact p.same st
    · cases e
      refine op_isnot_bl pins s σ H x y v u Q I rx ry ⟨_, _, relD_bl ra, relD_bl rb, p.same st⟩
    · cases e
  | in_ =>
    rcases inSeq_inv e with ⟨dx, l, ys, h1, h2, h3, rfl, rfl⟩ | ⟨t, ks, vs, kk, h1, h2, rfl, rfl⟩
    · exact op_inP hu I rx ry st ra rb h1 h2 h3 false (p.same st)
    · obtain ⟨ad, o, ey, g, ro⟩ := dget_rel st rb h1 ra h2
      subst ey
      obtain rfl : u = Value.ref ad := ry
      refine d_in (by omega) I g rx fun s' I' => ⟨.bl _, H, I', rfl, ?_⟩
      rw [← optRel_some ro]
      exact p.same st
  | nin =>
    dsimp only at e
    rw [bind_ap] at e
    cases q : inSeq a b S with
    | bad => rw [q] at e; cases e
    | err c fs S1 => rw [q] at e; cases e
    | ok c' S1 =>
      rw [q] at e
      rcases inSeq_inv q with ⟨dx, l, ys, h1, h2, h3, rfl, rfl⟩ | ⟨t, ks, vs, kk, h1, h2, rfl, rfl⟩
      · cases e
        exact op_inP hu I rx ry st ra rb h1 h2 h3 true (p.same st)
      · cases e
        obtain ⟨ad, o, ey, g, ro⟩ := dget_rel st rb h1 ra h2
        subst ey
        obtain rfl : u = Value.ref ad := ry
        refine d_notIn (by omega) I g rx fun s' I' => ⟨.bl _, H, I', rfl, ?_⟩
        rw [← optRel_some ro]
        exact p.same st
end
end Pi

namespace Pi
open PySem L2

section
variable {X : Cx}
theorem atI_rel {K : PySem.W.Frag} {m : Mp} {H : Hp} {l : List D} {xs : List V} {i : Int} {d : D} (r : RelDs K m H l xs) (h : L2.atI l i = some d) : ∃ v, L2.atI xs i = some v ∧ RelD K m H d v := by
  unfold L2.atI at h ⊢
  rw [r.length]
  cases e : L2.ixN l.length i with
  | none => rw [e] at h; cases h
  | some j =>
    rw [e] at h
    exact r.get h
def rIdx (K : PySem.W.Frag) : R2 := fun x y H Q => ∃ m S a b d S', RelSt K m S H ∧ RelD K m H a x ∧ RelD K m H b y ∧ index a b S = .ok d S' ∧ Post K m H S' d Q
open PySem.Spec PyProof.Rows in
theorem tail_own {prog : Program} {w : World} {A : Around} {E : Value → Shared → Prop} {s : Shared} {value slice : Expr} {o i : Value} {T id : String} {Q : Value → Shared → Prop}
    (hT : s.TypeIs o T) (hl : typeLookup (.type T) "__getitem__" = pure (some (.builtin id))) (h : wpAny (model prog w) A (getItem o i) Q E s) (hs : subscripted slice false o i = operate [o, i] (getItem o i)) :
    wpAny (model prog w) A (subscriptTail value slice o i) Q E s := by
  unfold subscriptTail
  refine wpAny_bind ?_
  rw [getitemInPython_of_ne hT.not_modules]
  refine wpAny_bind (wpAny_specialOf hT hl ?_)
  have fin : wpAny (model prog w) A (subscripted slice false o i) (fun r s₃ => wpAny (model prog w) A (letTemporaryGo value o r >>= fun _ => pure r) Q E s₃) E s := by
    rw [hs]
    exact wpAny_operating (wpAny_mono h (fun r s₃ h₃ => wpAny_bind (wpAny_letTemporaryGo (wpAny_pure h₃))) fun _ _ x => x)
  first
    | exact wpAny_pure (wpAny_bind fin)
    | exact wpAny_bind (wpAny_pure (wpAny_bind fin))
    | exact wpAny_bind fin
/-- of a dict -/
theorem ix_dict (hu : X.A.units + 65 < cLine) : IxR X (fun x y H Q => ∃ a v, x = .ref a ∧ DGet H a y (some v) ∧ Q v H) := by
  intro value slice pins s σ H x y v u Q I rx ry h hs
  obtain ⟨a, w, rfl, g, q⟩ := h
  obtain rfl : v = Value.ref a := rx
  exact tail_own (dict_typeIs I g) PySem.F.slot_dict_getitem.lookup (d_getItem (by omega) I g ry fun w' s' I' rw' => ⟨w, H, I', rw', q⟩) hs
theorem ix_any (hu : X.A.units + 65 < cLine) : IxR X (rIdx X.K) := by
  intro value slice pins s σ H x y v u Q I rx ry h hs
  obtain ⟨m, S, a, b, d, S', st, ra, rb, e, p⟩ := h
  unfold index at e
  split at e
  · rename_i p0 hd0
    obtain ⟨t, ks, vs⟩ := p0
    unfold dget at e
    rw [hd0] at e
    dsimp only at e
    split at e
    · rename_i w s1 hw
      cases e
      split at hw
      · rename_i kk hk
        obtain ⟨ad, o, ex, g, ro⟩ := dget_rel st ra hd0 rb hk
        have hv : valK ks vs kk = some d := by injection hw
        rw [hv] at ro
        cases o with
        | none => exact ro.elim
        | some w => exact ix_dict hu value slice pins s σ H x y v u Q I rx ry ⟨ad, w, ex, g, p.same st ro⟩ hs
      · cases hw
    · cases e
  unfold index0 at e
  split at e
  · split at e
    · rename_i hd
      cases e
      rw [RelD] at ra
      obtain ⟨q, xs, e1, hq, r⟩ := ra
      obtain ⟨w, hw, rw'⟩ := atI_rel r hd
      exact ix_tup value slice pins s σ H x y v u Q I rx ry ⟨q, xs, _, w, e1, relD_int rb, sqT_of hq, hw, p.same st rw'⟩ hs
    · cases e
  · split at e
    · rename_i hd
      cases e
      rw [RelD] at ra
      obtain ⟨q, xs, e1, hq, r⟩ := ra
      obtain ⟨w, hw, rw'⟩ := atI_rel r hd
      exact ix_list value slice pins s σ H x y v u Q I rx ry ⟨q, xs, _, w, e1, relD_int rb, sqL_of hq, hw, p.same st rw'⟩ hs
    · cases e
  · split at e
    · rename_i hz
      split at e
      · rename_i c hc
        cases e
        exact ix_str value slice pins s σ H x y v u Q I rx ry ⟨_, _, c, relD_str ra, relD_int rb, hz, hc, p.same st (by rw [RelD])⟩ hs
      · cases e
    · cases e
  · split at e
    · rename_i l hl
      split at e
      · rename_i hd
        cases e
        rw [RelD] at ra
        obtain ⟨q, e1, hq⟩ := ra
        obtain ⟨xs, hx, r⟩ := st.lst hq hl
        obtain ⟨w, hw, rw'⟩ := atI_rel r hd
        exact ix_list value slice pins s σ H x y v u Q I rx ry ⟨q, xs, _, w, e1, relD_int rb, SqL.of hx, hw, p.same st rw'⟩ hs
      · cases e
    · cases e
  · cases e

theorem cut_rel {K : PySem.W.Frag} {m : Mp} {H : Hp} {l : List D} {xs : List V} {lo hi : Option Int} (r : RelDs K m H l xs) : RelDs K m H (cut l lo hi) (cutV xs lo hi) := by
  unfold cut cutV
  rw [r.length]
  exact (r.drop _).take _
theorem cut_whole {l : List D} {lo hi : Option Int} (h : HT.sIx l.length 0 lo = 0 ∧ HT.sIx l.length l.length hi = l.length) : cut l lo hi = l := by
  unfold cut
  rw [h.1, h.2]
  simp
def rSli (K : PySem.W.Frag) : V → Option Int → Option Int → Hp → VK → Prop := fun x lo hi H Q => ∃ m S a d S', RelSt K m S H ∧ RelD K m H a x ∧ sliceOf a lo hi S = .ok d S' ∧ Post K m H S' d Q
theorem sl_any : SlR X (rSli X.K) := by
  intro pins s σ H x v vl vu lo hi sl Q I rx hs pl pu h
  obtain ⟨m, S, a, d, S', st, ra, e, p⟩ := h
  unfold sliceOf at e
  split at e
  · cases e
    rw [RelD] at ra
    obtain ⟨q, xs, e1, hq, r⟩ := ra
    refine sl_tupA pins s σ H x v vl vu lo hi sl Q I rx hs pl pu ⟨q, xs, e1, sqT_of hq, fun hw => ?_, fun _ => p.tup st (cut_rel r)⟩
    rw [r.length] at hw
    rw [cut_whole hw] at p
    exact p.same st (by rw [RelD]; exact ⟨q, xs, rfl, hq, r⟩)
  · unfold newO at e
    cases e
    rw [RelD] at ra
    obtain ⟨q, xs, e1, hq, r⟩ := ra
    exact sl_list pins s σ H x v vl vu lo hi sl Q I rx hs pl pu ⟨q, xs, e1, sqL_of hq, p.lst st (cut_rel r)⟩
  · split at e
    · rename_i l hl
      unfold newO at e
      cases e
      rw [RelD] at ra
      obtain ⟨q, e1, hq⟩ := ra
      obtain ⟨xs, hx, r⟩ := st.lst hq hl
      exact sl_list pins s σ H x v vl vu lo hi sl Q I rx hs pl pu ⟨q, xs, e1, SqL.of hx, p.lst st (cut_rel r)⟩
    · cases e
  · cases e

def rTru (K : PySem.W.Frag) : V → Hp → (Bool → Hp → Prop) → Prop := fun x H Q => ∃ m S a c S', RelSt K m S H ∧ RelD K m H a x ∧ truth a S = .ok c S' ∧ PostB K m H S' c Q
theorem isEmpty_rel {K : PySem.W.Frag} {m : Mp} {H : Hp} {l : List D} {xs : List V} (r : RelDs K m H l xs) : l.isEmpty = xs.isEmpty := by
  have := r.length
  cases l <;> cases xs <;> simp at this ⊢
theorem tru_imp {x : V} {H : Hp} {Q : Bool → Hp → Prop} {K : PySem.W.Frag} (h : rTru K x H Q) : ∃ k, TruV K x H k ∧ Q k H := by
  obtain ⟨m, S, a, c, S', st, ra, e, p⟩ := h
  unfold truth at e
  split at e
  · cases e
    rw [relD_non ra]
    exact ⟨false, rfl, p.same st⟩
  · cases e
    rw [relD_bl ra]
    exact ⟨_, rfl, p.same st⟩
  · cases e
    rw [relD_int ra]
    exact ⟨_, rfl, p.same st⟩
  · split at e
    · rename_i hz
      cases e
      rw [relD_str ra]
      exact ⟨_, ⟨hz, rfl⟩, p.same st⟩
    · cases e
  · cases e
    rw [RelD] at ra
    obtain ⟨q, xs, e1, hq, r⟩ := ra
    subst e1
    exact ⟨_, .inr (.inl ⟨xs, sqT_of hq, rfl⟩), by rw [← isEmpty_rel r]; exact p.same st⟩
  · cases e
    rw [RelD] at ra
    obtain ⟨q, xs, e1, hq, r⟩ := ra
    subst e1
    exact ⟨_, .inl ⟨xs, sqL_of hq, rfl⟩, by rw [← isEmpty_rel r]; exact p.same st⟩
  · split at e
    · rename_i l hl
      cases e
      rw [RelD] at ra
      obtain ⟨q, e1, hq⟩ := ra
      obtain ⟨xs, hx, r⟩ := st.lst hq hl
      subst e1
      exact ⟨_, .inl ⟨xs, SqL.of hx, rfl⟩, by rw [← isEmpty_rel r]; exact p.same st⟩
    · cases e
  · cases e
  · cases e
theorem tru_any : TruR X (rTru X.K) := fun pins s σ H x v Q I rx h => tru_ok pins s σ H x v Q I rx (tru_imp h)

/-! ### isinstance -/
theorem tyX_of {K : PySem.W.Frag} {m : Mp} {S : Sto} {H : Hp} {d : D} {v : V} {t : String} (st : RelSt K m S H) (r : RelD K m H d v) (h : tyOf d S = some t) : TyX K H v (.type t) := by
  unfold tyOf at h
  split at h
  · cases h; rw [relD_non r]; exact .base .non
  · cases h; rw [relD_bl r]; exact .base (.bl _)
  · cases h; rw [relD_int r]; exact .base (.int _)
  · cases h; rw [relD_str r]; exact .base (.str _)
  · cases h
    rw [RelD] at r
    obtain ⟨a, xs, e, q, _⟩ := r
    subst e
    rcases q with q | q
    · exact .base (.tup q)
    · exact q.elim
  · cases h
    rw [RelD] at r
    obtain ⟨a, xs, e, q, _⟩ := r
    subst e
    rcases q with ⟨o, q⟩ | ⟨o, its, n, h1, h2, _⟩
    · exact .base (.frz q)
    · exact .kList h1 h2
  · rw [RelD] at r
    obtain ⟨a, e, q⟩ := r
    subst e
    split at h
    · rename_i hl
      cases h
      obtain ⟨xs, hx, _⟩ := st.lst q hl
      exact .base (.lst hx)
    · rename_i hl
      cases h
      obtain ⟨xs, hx, _⟩ := st.dic q hl
      unfold hoD at hx
      split at hx
      · exact .base (.dT hx)
      · exact .base (.dK hx)
    · cases h
  · cases h
  · split at h
    · cases h
    · rename_i ht
      cases h
      rw [RelD] at r
      obtain ⟨a, xs, e, ⟨o, q⟩, _⟩ := r
      subst e
      unfold hoD at q
      rw [if_neg ht] at q
      exact .fDict q
def tyL : List String := ["NoneType", "bool", "int", "str", "tuple", "list", "dict"]
def tyR : List String := ["int", "bool", "str", "tuple", "list", "dict"]
theorem tyOf_mem {d : D} {S : Sto} {t : String} (h : tyOf d S = some t) : t ∈ tyL := by
  unfold tyOf at h
  split at h <;> first
    | (cases h; done)
    | (cases h; simp [tyL])
    | (split at h <;> first | (cases h; simp [tyL]) | cases h)
theorem kit_all : ∀ a ∈ tyL, ∀ b ∈ tyR, kitB a b = some (isTy a b) := by decide +kernel
theorem kit_any {K : PySem.W.Frag} {t : String} (ht : t ∈ tyL) : ∀ ts : List String, (∀ u ∈ ts, u ∈ tyR) → PySem.W.kitAny K (.type t) (ts.map Value.type) = some (ts.any (isTy t))
  | [], _ => rfl
  | u :: ts, h => by
    have e := kit_ty (K := K) (kit_all t ht u (h u List.mem_cons_self))
    have ih := kit_any (K := K) ht ts fun w hw => h w (List.mem_cons_of_mem _ hw)
    rw [List.map_cons, List.any_cons]
    refine kitAny_cons e (fun hf => ?_) (fun hf => ?_)
    · rw [ih, hf, Bool.false_or]
    · rw [hf, Bool.true_or]

/-! ### built-in calls -/
def biV : BI → Value
  | .len => .builtin "len" | .int => .type "int" | .str => .type "str" | .list => .type "list" | .tuple => .type "tuple" | .sorted => .builtin "sorted"
  | .min => .builtin "min" | .max => .builtin "max" | .sum => .builtin "sum" | .abs => .builtin "abs" | .all => .builtin "all" | .any => .builtin "any"
def rBi (K : PySem.W.Frag) (f : BI) : List V → Hp → VK → Prop := fun xs H Q => ∃ m S ds d S', RelSt K m S H ∧ RelDs K m H ds xs ∧ builtin f ds S = .ok d S' ∧ Post K m H S' d Q
theorem rel1 {K : PySem.W.Frag} {m : Mp} {H : Hp} {d : D} {xs : List V} (r : RelDs K m H [d] xs) : ∃ x, xs = [x] ∧ RelD K m H d x := by
  rw [RelDs] at r
  obtain ⟨v, vs, e, r, rs⟩ := r
  rw [RelDs] at rs
  subst rs
  exact ⟨v, e, r⟩
theorem rel2 {K : PySem.W.Frag} {m : Mp} {H : Hp} {d e : D} {xs : List V} (r : RelDs K m H [d, e] xs) : ∃ x y, xs = [x, y] ∧ RelD K m H d x ∧ RelD K m H e y := by
  rw [RelDs] at r
  obtain ⟨v, vs, e1, r, rs⟩ := r
  obtain ⟨y, e2, r2⟩ := rel1 rs
  subst e2
  exact ⟨v, y, e1, r, r2⟩
end
end Pi

/-! The order of data: min, max of two, of a list, of a tuple; sorted. -/
namespace PySem.W
open PySem PySem.Calls PyProof.Rows
section
variable {prog : Program} {w : World} {A : Around} {E : Value → Shared → Prop} {s : Shared}
theorem call_min_twoH {a b : Value} {Q : Value → Shared → Prop}
    (h : wpAny (model prog w) A.in1 (pyIter (.ref s.heap.objs.size)) (fun it s₂ => ∃ I fp wr G n P St H bt, it = .ref I ∧ WalksS prog w A.in1 I fp wr G n P St ∧ St 0 s₂ ∧ (∀ b ∈ fp, b < s₂.heap.objs.size) ∧ 0 < n ∧
      (∀ b o, H.get? b = some o → b ∉ wr) ∧ (∀ b o, H.get? b = some o → s₂.heap.get? b = some o) ∧ CmpIn prog w A.in1 .Lt H P bt ∧ ∀ v s', P (argBest bt (n - 1)) v → Moved wr G s₂ s' → Q v s') E
      { s with heap := s.heap.push { cls := .type "tuple", data := .seq #[a, b] } }) :
    wpAny (model prog w) A (call (.builtin "min") [a, b]) Q E s := by
  have hname : (toString "min" ++ toString ".loop" : String) = "min.loop" := by decide
  refine call_function_tree F.kind_min F.plain_min F.entry_min (F.args_min2 _ _) ?_
  show wpAny _ A.in1 (Builtin.Builtins.bindParams "min" ["key", "default"] 0 ⟨[], []⟩ >>= _) _ _ s
  refine wpAny_bind (wpAny_of_eq (show Builtin.Builtins.bindParams "min" ["key", "default"] 0 ⟨[], []⟩ = pure [none, none] from rfl) ?_)
  show wpAny _ A.in1 (newTuple [a, b] >>= _) _ _ s
  refine wpAny_bind (wpAny_newObj_type ?_)
  refine wpAny_bind (wpAny_mono h (fun it s₂ h₂ => ?_) fun _ _ e => e)
  obtain ⟨I, fp, wr, G, n, P, St, H, bt, rfl, W, hst, hfp, hn, hw, hkeep, hcmp, hQ⟩ := h₂
  refine wpAny_bind (wpAny_newObj_type ?_)
  have hSf : s₂.heap.objs.size ∉ fp := fun hm => Nat.lt_irrefl _ (hfp _ hm)
  rw [hname]
  refine wpAny_pure ⟨plainId_quiet F.plain_min_loop _, codeAny_min_loop_firstH W H hw bt hcmp s₂.heap.objs.size hSf (fresh_in hkeep) _ hn (fun b o e => Heap.get?_push_of_some _ (hkeep b o e)) (W.frame 0 s₂ _ s₂.toks hst (Nat.le_refl _) fun b _ o e => Heap.get?_push_of_some _ e) (Heap.get?_push_size _ rfl) fun v s' hP hm => ?_⟩
  exact hQ v s' hP (Moved.drop_new (tk := s₂.toks) hm (Nat.le_refl _))
theorem call_max_twoH {a b : Value} {Q : Value → Shared → Prop}
    (h : wpAny (model prog w) A.in1 (pyIter (.ref s.heap.objs.size)) (fun it s₂ => ∃ I fp wr G n P St H bt, it = .ref I ∧ WalksS prog w A.in1 I fp wr G n P St ∧ St 0 s₂ ∧ (∀ b ∈ fp, b < s₂.heap.objs.size) ∧ 0 < n ∧
      (∀ b o, H.get? b = some o → b ∉ wr) ∧ (∀ b o, H.get? b = some o → s₂.heap.get? b = some o) ∧ CmpIn prog w A.in1 .Gt H P bt ∧ ∀ v s', P (argBest bt (n - 1)) v → Moved wr G s₂ s' → Q v s') E
      { s with heap := s.heap.push { cls := .type "tuple", data := .seq #[a, b] } }) :
    wpAny (model prog w) A (call (.builtin "max") [a, b]) Q E s := by
  have hname : (toString "max" ++ toString ".loop" : String) = "max.loop" := by decide
  refine call_function_tree F.kind_max F.plain_max F.entry_max (F.args_max2 _ _) ?_
  show wpAny _ A.in1 (Builtin.Builtins.bindParams "max" ["key", "default"] 0 ⟨[], []⟩ >>= _) _ _ s
  refine wpAny_bind (wpAny_of_eq (show Builtin.Builtins.bindParams "max" ["key", "default"] 0 ⟨[], []⟩ = pure [none, none] from rfl) ?_)
  show wpAny _ A.in1 (newTuple [a, b] >>= _) _ _ s
  refine wpAny_bind (wpAny_newObj_type ?_)
  refine wpAny_bind (wpAny_mono h (fun it s₂ h₂ => ?_) fun _ _ e => e)
  obtain ⟨I, fp, wr, G, n, P, St, H, bt, rfl, W, hst, hfp, hn, hw, hkeep, hcmp, hQ⟩ := h₂
  refine wpAny_bind (wpAny_newObj_type ?_)
  have hSf : s₂.heap.objs.size ∉ fp := fun hm => Nat.lt_irrefl _ (hfp _ hm)
  rw [hname]
  refine wpAny_pure ⟨plainId_quiet F.plain_max_loop _, codeAny_max_loop_firstH W H hw bt hcmp s₂.heap.objs.size hSf (fresh_in hkeep) _ hn (fun b o e => Heap.get?_push_of_some _ (hkeep b o e)) (W.frame 0 s₂ _ s₂.toks hst (Nat.le_refl _) fun b _ o e => Heap.get?_push_of_some _ e) (Heap.get?_push_size _ rfl) fun v s' hP hm => ?_⟩
  exact hQ v s' hP (Moved.drop_new (tk := s₂.toks) hm (Nat.le_refl _))
theorem min_two_data {a b : Value} {x y : PyData} {as : List Addr} {Q : Value → Shared → Prop} (hh : A.handled = none) (hr : ReadsAll s.heap [a, b] [x, y] as) (ha : AlikeAll [x, y]) (hu : A.units + 1 + PyData.depthAll [x, y] < cLine)
    (h : ∀ (i : Nat) v h' tk bs, [a, b][i]? = some v → Reads h' v (minD x [y]) bs → (∀ b o, s.heap.get? b = some o → h'.get? b = some o) → Q v { s with heap := h', toks := tk }) :
    wpAny (model prog w) A (call (.builtin "min") [a, b]) Q E s := by
  have hT : (s.heap.push { cls := .type "tuple", data := .seq #[a, b] }).IsTuple s.heap.objs.size #[a, b] := ⟨_, Heap.get?_push_size _ rfl, rfl, 0, rfl⟩
  have hk0 : ∀ b' o, s.heap.get? b' = some o → (s.heap.push { cls := .type "tuple", data := .seq #[a, b] }).get? b' = some o := fun b' o e => Heap.get?_push_of_some _ e
  have hr' : ReadsAll (s.heap.push { cls := .type "tuple", data := .seq #[a, b] }) (#[a, b] : Array Value).toList [x, y] as := ReadsAll.keeps hk0 hr
  refine call_min_twoH (iter_tupleW (A := A.in1) hh hT fun s₂ e W st hfp hw hk => ?_)
  refine ⟨_, _, _, _, _, _, _, s.heap.push { cls := .type "tuple", data := .seq #[a, b] }, _, rfl, W, st, hfp, by simp, hw, hk, cmpIn_lt (A := A.in1) (s := { s with heap := s.heap.push { cls := .type "tuple", data := .seq #[a, b] } }) hr' ha (by show A.units + 1 + _ < _; exact hu), fun v s' hP m => ?_⟩
  obtain ⟨h', tk, rfl, hk'⟩ := moved_old e rfl m
  obtain ⟨bs, r, _, _, _⟩ := readsAll_atA hr' _ v hP
  have e2 := (argBest_fold dataLt PyData.none x [y] 1 (by simp)).2
  simp only [List.take_succ_cons, List.take_zero] at e2
  exact h (argBest _ 1) v h' tk bs (by have hP2 := hP; rw [← Array.getElem?_toList] at hP2; exact hP2) (reads_keeps hk' (by unfold minD; rw [← e2]; exact r)) fun b' o q => hk' b' o (hk0 b' o q)
theorem max_two_data {a b : Value} {x y : PyData} {as : List Addr} {Q : Value → Shared → Prop} (hh : A.handled = none) (hr : ReadsAll s.heap [a, b] [x, y] as) (ha : AlikeAll [x, y]) (hu : A.units + 1 + PyData.depthAll [x, y] < cLine)
    (h : ∀ (i : Nat) v h' tk bs, [a, b][i]? = some v → Reads h' v (maxD x [y]) bs → (∀ b o, s.heap.get? b = some o → h'.get? b = some o) → Q v { s with heap := h', toks := tk }) :
    wpAny (model prog w) A (call (.builtin "max") [a, b]) Q E s := by
  have hT : (s.heap.push { cls := .type "tuple", data := .seq #[a, b] }).IsTuple s.heap.objs.size #[a, b] := ⟨_, Heap.get?_push_size _ rfl, rfl, 0, rfl⟩
  have hk0 : ∀ b' o, s.heap.get? b' = some o → (s.heap.push { cls := .type "tuple", data := .seq #[a, b] }).get? b' = some o := fun b' o e => Heap.get?_push_of_some _ e
  have hr' : ReadsAll (s.heap.push { cls := .type "tuple", data := .seq #[a, b] }) (#[a, b] : Array Value).toList [x, y] as := ReadsAll.keeps hk0 hr
  refine call_max_twoH (iter_tupleW (A := A.in1) hh hT fun s₂ e W st hfp hw hk => ?_)
  refine ⟨_, _, _, _, _, _, _, s.heap.push { cls := .type "tuple", data := .seq #[a, b] }, _, rfl, W, st, hfp, by simp, hw, hk, cmpIn_gt (A := A.in1) (s := { s with heap := s.heap.push { cls := .type "tuple", data := .seq #[a, b] } }) hr' ha (by show A.units + 1 + _ < _; exact hu), fun v s' hP m => ?_⟩
  obtain ⟨h', tk, rfl, hk'⟩ := moved_old e rfl m
  obtain ⟨bs, r, _, _, _⟩ := readsAll_atA hr' _ v hP
  have e2 := (argBest_fold (fun y a => dataLt a y) PyData.none x [y] 1 (by simp)).2
  simp only [List.take_succ_cons, List.take_zero] at e2
  exact h (argBest _ 1) v h' tk bs (by have hP2 := hP; rw [← Array.getElem?_toList] at hP2; exact hP2) (reads_keeps hk' (by unfold maxD; rw [← e2]; exact r)) fun b' o q => hk' b' o (hk0 b' o q)
end
end PySem.W

namespace Pi
open PySem PySem.Spec PyProof.Rows L2
section
theorem fines_zero_mem : ∀ {l : List D} {d : D}, fines 0 l = true → d ∈ l → fine 0 d = true
  | [], _, _, h => by cases h
  | x :: l, d, h, hd => by
    rw [fines, Bool.and_eq_true] at h
    rcases List.mem_cons.mp hd with rfl | hd
    · exact h.1
    · exact fines_zero_mem h.2 hd
theorem mapM_inj {α β : Type} {f : α → Option β} {P : α → Prop} (hf : ∀ x y b, P x → P y → f x = some b → f y = some b → x = y) : ∀ {l k : List α} {ys : List β}, (∀ x ∈ l, P x) → (∀ x ∈ k, P x) → l.mapM f = some ys → k.mapM f = some ys → l = k
  | [], [], _, _, _, _, _ => rfl
  | [], y :: k, ys, _, _, h1, h2 => by
    simp at h1
    subst h1
    obtain ⟨a, b, _, _, q⟩ := mapM_cons_some h2
    cases q
  | x :: l, [], ys, _, _, h1, h2 => by
    simp at h2
    subst h2
    obtain ⟨a, b, _, _, q⟩ := mapM_cons_some h1
    cases q
  | x :: l, y :: k, ys, p1, p2, h1, h2 => by
    obtain ⟨a, b, e1, e2, q⟩ := mapM_cons_some h1
    obtain ⟨a', b', e1', e2', q'⟩ := mapM_cons_some h2
    subst q
    cases q'
    rw [hf x y a (p1 x List.mem_cons_self) (p2 y List.mem_cons_self) e1 e1', mapM_inj hf (fun z hz => p1 z (List.mem_cons_of_mem _ hz)) (fun z hz => p2 z (List.mem_cons_of_mem _ hz)) e2 e2']
/-- plain data are told by what they read as -/
theorem py_inj {S : Sto} : ∀ (n : Nat) (d e : D) (p : PyData), fine 0 d = true → fine 0 e = true → py n S d = some p → py n S e = some p → d = e
  | 0, _, _, _, _, _, h, _ => by simp [py] at h
  | n + 1, d, e, p, hd, he, h, h' => by
    have ih := fun x y b => py_inj (S := S) n x y b
    cases d with
    | non =>
      simp only [py] at h
      cases h
      cases e <;> simp only [py] at h' <;> first | rfl | (cases h'; done) | (split at h' <;> cases h') | (simp at h'; done) | skip
      all_goals first | (exact absurd he (by simp [fine])) | skip
    | bl b =>
      simp only [py] at h
      cases h
      cases e <;> simp only [py] at h' <;> first | (cases h'; rfl) | (cases h'; done) | (split at h' <;> cases h') | (simp at h'; done) | skip
      all_goals first | (exact absurd he (by simp [fine])) | skip
    | int b =>
      simp only [py] at h
      cases h
      cases e <;> simp only [py] at h' <;> first | (cases h'; rfl) | (cases h'; done) | (split at h' <;> cases h') | (simp at h'; done) | skip
      all_goals first | (exact absurd he (by simp [fine])) | skip
    | str b =>
      simp only [py] at h
      split at h
      · cases h
        cases e <;> simp only [py] at h' <;> first | (cases h'; rfl) | (cases h'; done) | (split at h' <;> first | (cases h'; rfl) | cases h') | (simp at h'; done) | skip
        all_goals first | (exact absurd he (by simp [fine])) | skip
      · cases h
    | tup l =>
      simp only [py, Option.map_eq_some_iff] at h
      obtain ⟨ps, h, rfl⟩ := h
      cases e with
      | tup k =>
        simp only [py, Option.map_eq_some_iff] at h'
        obtain ⟨qs, h', q⟩ := h'
        cases q
        rw [mapM_inj (P := fun x => fine 0 x = true) ih (fun x hx => fines_zero_mem (by simpa [fine] using hd) hx) (fun x hx => fines_zero_mem (by simpa [fine] using he) hx) h h']
      | ref _ => exact absurd he (by simp [fine])
      | _ => simp only [py] at h' <;> first | (cases h'; done) | (split at h' <;> cases h') | (simp at h'; done)
    | clst l =>
      simp only [py, Option.map_eq_some_iff] at h
      obtain ⟨ps, h, rfl⟩ := h
      cases e with
      | clst k =>
        simp only [py, Option.map_eq_some_iff] at h'
        obtain ⟨qs, h', q⟩ := h'
        cases q
        rw [mapM_inj (P := fun x => fine 0 x = true) ih (fun x hx => fines_zero_mem (by simpa [fine] using hd) hx) (fun x hx => fines_zero_mem (by simpa [fine] using he) hx) h h']
      | ref _ => exact absurd he (by simp [fine])
      | _ => simp only [py] at h' <;> first | (cases h'; done) | (split at h' <;> cases h') | (simp at h'; done)
    | ref a => exact absurd hd (by simp [fine])
    | rng a b => simp only [py] at h; cases h
    | cdic t ks vs => simp only [py] at h; cases h
theorem best_at (lt : PyData → PyData → Bool) : ∀ (r : List (D × PyData)) (a : D × PyData), (bestOf lt a r ∈ a :: r) ∧ (bestOf lt a r).2 = (r.map (·.2)).foldl (fun x y => if lt y x then y else x) a.2
  | [], a => ⟨List.mem_cons_self, rfl⟩
  | b :: r, a => by
    obtain ⟨h1, h2⟩ := best_at lt r (if lt b.2 a.2 then b else a)
    rw [bestOf]
    refine ⟨?_, ?_⟩
    · rcases List.mem_cons.mp h1 with e | h
      · rw [e]
        split
        · exact List.mem_cons_of_mem _ List.mem_cons_self
        · exact List.mem_cons_self
      · exact List.mem_cons_of_mem _ (List.mem_cons_of_mem _ h)
    · rw [h2, List.map_cons, List.foldl_cons]
      congr 1
      split <;> rfl
theorem alikeB_spec {ps : List PyData} (h : alikeB ps = true) : PySem.W.AlikeAll ps := by
  unfold alikeB at h
  rw [Bool.and_eq_true, List.all_eq_true, List.all_eq_true] at h
  refine ⟨fun x hx y hy => List.all_eq_true.mp (h.1 x hx) y hy, fun x hx e => ?_⟩
  have := h.2 x hx
  subst e
  cases this
theorem mapM_zip {α β : Type} {f : α → Option β} : ∀ {l : List α} {ys : List β}, l.mapM f = some ys → l.length = ys.length ∧ ∀ p ∈ l.zip ys, f p.1 = some p.2
  | [], ys, h => by
    simp at h
    subst h
    simp
  | x :: l, ys, h => by
    obtain ⟨a, b, e1, e2, q⟩ := mapM_cons_some h
    subst q
    obtain ⟨h1, h2⟩ := mapM_zip e2
    refine ⟨by simp [h1], fun p hp => ?_⟩
    rw [List.zip_cons_cons] at hp
    rcases List.mem_cons.mp hp with rfl | hp
    · exact e1
    · exact h2 p hp
theorem extr_inv {lt : PyData → PyData → Bool} {l : List D} {d : D} {S S' : Sto} (h : extr lt l S = .ok d S') : S' = S ∧ ∃ (p : PyData) (ps : List PyData) (q : PyData), l.mapM (py depthP S) = some (p :: ps) ∧ PySem.W.AlikeAll (p :: ps) ∧ q = ps.foldl (fun x y => if lt y x then y else x) p ∧ py depthP S d = some q ∧ ∀ e ∈ l, py depthP S e = some q → e = d := by
  unfold extr at h
  split at h
  · rename_i ps hps
    split at h
    · rename_i hc
      rw [Bool.and_eq_true] at hc
      split at h
      · rename_i a r hz
        cases h
        refine ⟨rfl, ?_⟩
        obtain ⟨hl, hm⟩ := mapM_zip hps
        cases ps with
        | nil => simp at hz
        | cons p ps =>
          cases l with
          | nil => simp at hz
          | cons x l =>
            rw [List.zip_cons_cons] at hz
            cases hz
            have hl' : l.length = ps.length := by simpa using hl
            obtain ⟨h1, h2⟩ := best_at lt (l.zip ps) (x, p)
            have hsnd : (l.zip ps).map (·.2) = ps := List.map_snd_zip (by omega)
            rw [hsnd] at h2
            have hb := hm (bestOf lt (x, p) (l.zip ps)) (by rw [List.zip_cons_cons]; exact h1)
            rw [h2] at hb
            have hin : (bestOf lt (x, p) (l.zip ps)).1 ∈ x :: l := by
              rcases List.mem_cons.mp h1 with e | h
              · rw [e]; exact List.mem_cons_self
              · exact List.mem_cons_of_mem _ (List.of_mem_zip h).1
            exact ⟨p, ps, _, hps, alikeB_spec hc.1, rfl, hb, fun e he hpe => py_inj depthP _ _ _ (fines_zero_mem hc.2 he) (fines_zero_mem hc.2 hin) hpe hb⟩
      · cases h
    · cases h
  · cases h
section
variable {X : Cx}
/-- what the least, or greatest, value stands for -/
theorem extr_val {H : Hp} {s : Shared} {m : Mp} {S : Sto} {l : List D} {xs : List V} {us : List Value} {as bs : List Addr} {ps : List PyData} {d : D} {q : PyData} {i : Nat} {v : Value} {h' : Heap} (st : RelSt X.K m S H) (rs : RelDs X.K m H l xs) (rv : Vals xs us)
    (hp : l.mapM (py depthP S) = some ps) (hr : ReadsAll s.heap us ps as) (hv : us[i]? = some v) (hq : Reads h' v q bs) (hk : ∀ b o, s.heap.get? b = some o → h'.get? b = some o) (hd : ∀ e ∈ l, py depthP S e = some q → e = d) : ∃ x, RelV x v ∧ RelD X.K m H d x := by
  obtain ⟨as1, r1, h1, h2, _⟩ := PySem.W.readsAll_at hr i v hv
  have hpg := mapM_zip hp
  have hi : i < l.length := by rw [hpg.1]; exact h1
  have hli : l[i]? = some l[i] := List.getElem?_eq_getElem hi
  obtain ⟨x, hx, rx⟩ := rs.get hli
  obtain ⟨u, hu, ru⟩ := rv.get hx
  rw [hv] at hu
  cases hu
  have hpi : py depthP S l[i] = some (ps.getD i .none) := by
    have hz : (l[i], ps[i]) ∈ l.zip ps := by
      rw [List.mem_iff_getElem]
      exact ⟨i, by rw [List.length_zip]; omega, by simp⟩
    have := hpg.2 _ hz
    simp only at this
    rw [this, List.getD_eq_getElem?_getD, List.getElem?_eq_getElem h1]
    rfl
  have hc : (ps.getD i .none).canLay0 = true := (lay_of _ _ _ hpi).1
  have e : ps.getD i .none = q := ((PySem.W.reads_keeps hk r1).unique _ _ hq).1
  rw [e] at hpi
  rw [hd _ (List.getElem_mem hi) hpi] at rx
  exact ⟨x, ru, rx⟩
end
end
end Pi

namespace SrtO
open PySem PyProof.Rows Srt
section
variable {prog : Program} {w : World} {A : Around} {E : Value → Shared → Prop} {s : Shared}
theorem collect_tuple {l : Addr} {vs : List Value} {Q : List Value → Shared → Prop} (hl : s.heap.IsTuple l vs.toArray)
    (h : Q vs { s with heap := (s.heap.push (seqObj "list" #[] 0)).update s.heap.objs.size (Obj.mapSeq (· ++ vs.toArray)) }) (hsz : vs.length ≤ sizeLine) :
    wpAny (model prog w) A (collect (.ref l)) Q E s := by
  obtain ⟨o, ho, hc, n, hd⟩ := id hl
  unfold collect
  refine wpAny_bind (wpAny_runValue (codeAny_builtin entry_proto_collect' ?_))
  show wpAny _ _ (do again (.builtin "list.__iadd__" ⟨[← newList [], .ref l], []⟩)) _ _ s
  refine wpAny_bind (wpAny_newList (wpAny_pure ⟨Code.quiet_builtin _ (by decide +kernel), codeAny_builtin entry_list_iadd' ?_⟩) (Nat.zero_le _))
  show wpAny _ _ (Builtin.List.listExtendWith (.ref s.heap.objs.size) (.ref l) (.ref s.heap.objs.size)) _ _ { s with heap := s.heap.push (seqObj "list" #[] 0) }
  unfold Builtin.List.listExtendWith
  have ho' : (s.heap.push (seqObj "list" #[] 0)).get? l = some o := Heap.get?_push_of_some _ ho
  refine wpAny_bind (wpAny_typeOf (T := "tuple") ⟨o, ho', hc⟩ ?_)
  have ht : (Value.type "tuple" == Value.type "tuple") = true := by rfl
  rw [if_pos (by rw [ht]; simp)]
  refine wpAny_bind (listItems_at ho' hd ?_)
  refine wpAny_bind (listItems_at (xs := #[]) (n := 0) (Heap.get?_push_size _ rfl) rfl ?_)
  rw [if_neg (by simp)]
  refine wpAny_bind (listUpdate_at (xs := #[]) (n := 0) (Heap.get?_push_size _ rfl) rfl ?_ (Nat.zero_le _) (by show (#[] ++ vs.toArray).size ≤ sizeLine + 1; simp only [Array.size_append, List.size_toArray, List.length_nil]; omega))
  refine wpAny_pure ?_
  show wpAny (model prog w) A (do
      let o ← load s.heap.objs.size
      match o.data with
      | .seq xs _ => pure xs.toList
      | _ => unsupported "internal:collect") Q E { s with heap := (s.heap.push (seqObj "list" #[] 0)).update s.heap.objs.size (Obj.mapSeq (· ++ vs.toArray)) }
  refine wpAny_bind (wpAny_load (get?_update_seq (Heap.get?_push_size _ rfl) _) ?_)
  show wpAny _ _ (pure ((#[] : Array Value) ++ vs.toArray).toList) Q E _
  rw [show ((#[] : Array Value) ++ vs.toArray).toList = vs by simp]
  exact wpAny_pure h
theorem sorted_ordT {l : Addr} {vs : List Value} {ltv : Value → Value → Bool} {Q : Value → Shared → Prop} (O : Swo ltv) (hl : s.heap.IsTuple l vs.toArray) (hz : vs.length ≤ sizeLine)
    (hS : 2 ≤ vs.length → ∀ (h₁ : Heap) (a : Addr), h₁.get? a = some (seqObj "list" vs.toArray 0) → (∀ b o, s.heap.get? b = some o → b ≠ a ∧ h₁.get? b = some o) → SortableO prog w A.in1.in1 { s with heap := h₁ } a vs ltv)
    (h : ∀ out : List Value, Srtd ltv out → Stb ltv out vs → Q (.ref (s.heap.objs.size + 1)) { s with heap := sortedAll s.heap vs out.toArray }) :
    wpAny (model prog w) A (call (.builtin "sorted") [.ref l]) Q E s := by
  refine Calls.call_function_entry kind_sorted plain_sorted entry_sorted (args_sorted1 _) ?_
  unfold Builtin.«sorted»
  refine wpAny_bind (m := checkCount "sorted" 1 1 _) (wpAny_pure ?_)
  refine wpAny_bind (collect_tuple hl ?_ hz)
  refine wpAny_bind (wpAny_newList ?_ hz)
  have hsz : ((s.heap.push (seqObj "list" #[] 0)).update s.heap.objs.size (Obj.mapSeq (· ++ vs.toArray))).objs.size = s.heap.objs.size + 1 := by
    rw [Heap.size_update, size_push']
  have hoL : (((s.heap.push (seqObj "list" #[] 0)).update s.heap.objs.size (Obj.mapSeq (· ++ vs.toArray))).push (seqObj "list" vs.toArray 0)).get? (s.heap.objs.size + 1) = some (seqObj "list" vs.toArray 0) := by
    rw [← hsz]; exact Heap.get?_push_size _ rfl
  have keep : ∀ b o, s.heap.get? b = some o → b ≠ s.heap.objs.size + 1 ∧ (((s.heap.push (seqObj "list" #[] 0)).update s.heap.objs.size (Obj.mapSeq (· ++ vs.toArray))).push (seqObj "list" vs.toArray 0)).get? b = some o := fun b o q => by
    have hlt : b < s.heap.objs.size := Heap.lt_size q
    refine ⟨Nat.ne_of_lt (Nat.lt_succ_of_lt hlt), Heap.get?_push_of_some _ ?_⟩
    rw [Heap.get?_update_ne _ _ _ _ (Nat.ne_of_lt hlt)]
    exact Heap.get?_push_of_some _ q
  show wpAny _ _ _ _ _ { s with heap := ((s.heap.push (seqObj "list" #[] 0)).update s.heap.objs.size (Obj.mapSeq (· ++ vs.toArray))).push (seqObj "list" vs.toArray 0) }
  rw [hsz]
  refine wpAny_bind (wpAny_holding (wpAny_call_entry slot_list_sort ⟨_, hoL, rfl⟩ entry_list_sort (list_sort_ord O hoL hz (fun h2 => hS h2 _ _ hoL keep) fun out hs hb => ⟨_, rfl, ?_⟩) (args_list_sort _)))
  exact wpAny_pure ⟨_, rfl, h out hs hb⟩
end
end SrtO

namespace Pi
open PySem L2
theorem sortI_perm (l : List Int) : (sortI l).Perm l := List.mergeSort_perm l _
theorem sortI_sorted (l : List Int) : (sortI l).Pairwise (· ≤ ·) := by
  have h := List.pairwise_mergeSort (le := fun a b : Int => decide (a ≤ b)) (fun a b c => by simp; omega) (fun a b => by simp; omega) l
  exact h.imp fun {a b} h => by simpa using h
theorem sorted_unique : ∀ {a b : List Int}, a.Perm b → a.Pairwise (· ≤ ·) → b.Pairwise (· ≤ ·) → a = b := fun p h1 h2 =>
  List.Perm.eq_of_pairwise (le := (· ≤ ·)) (fun x y _ _ h h' => Int.le_antisymm h h') h1 h2 p
def rSortedT (K : PySem.W.Frag) : List V → Hp → VK → Prop := fun vs H Q => ∃ (a : Addr) (ns : List Int), vs = [V.ref a] ∧ SqT K H a (ns.map V.int) ∧
  ∀ (ns' : List Int) (p : Addr), ns'.Perm ns → ns'.Pairwise (· ≤ ·) → H p = none → Q (.ref p) (upd H p (.lst (ns'.map V.int)))
section
variable {X : Cx}
theorem cr_sortedT : CallR X (.builtin "sorted") (rSortedT X.K) := by
  intro pins s σ H vs us Q I r h
  obtain ⟨a, ns, rfl, hs, q⟩ := h
  obtain ⟨its, rv, hl, hz⟩ := I.tuple hs
  rw [Vals.ref1 r]
  have hi := rv.ints
  refine SrtO.sorted_ordT SrtO.swo_int (show s.heap.IsTuple a its.toArray from hl) (by rw [← rv.length]; exact hz) (fun h2 h₁ a' _ _ => SrtO.ints_sortable hi h2) fun out h1 h2 => ?_
  obtain ⟨k1, k2, k3⟩ := SrtO.ints_out hi h1 h2
  obtain ⟨ep, he'⟩ := PyProof.Rows.sortedAll_at s.heap its out.toArray
  have hlen : ((out.map SrtO.iv).map V.int).length ≤ sizeLine := by
    rw [List.length_map, k2.length_eq]
    rw [List.length_map] at hz
    exact hz
  exact ⟨.ref _, upd H (s.heap.objs.size + 1) (.lst ((out.map SrtO.iv).map V.int)), I.laid (t' := s.toks) (fun _ _ => PyProof.Rows.sortedAll_old) (Nat.le_succ _) ⟨hlen, out, ep, vals_of_ints k1, he'⟩, rfl, q _ _ k2 k3 (I.hok.fresh (Nat.le_succ _))⟩
theorem foldMax_spec (l : List Int) (h : 0 < l.length) : ∀ m, m ∈ l → (∀ y, y ∈ l → y ≤ m) → m = foldMax l := by
  have aux : ∀ (l : List Int) (a : Int), (l.foldl max a = a ∨ l.foldl max a ∈ l) ∧ a ≤ l.foldl max a ∧ ∀ y ∈ l, y ≤ l.foldl max a := by
    intro l
    induction l with
    | nil => intro a; simp
    | cons x l ih =>
      intro a
      rw [List.foldl_cons]
      obtain ⟨h1, h2, h3⟩ := ih (max a x)
      refine ⟨?_, by omega, fun y hy => ?_⟩
      · rcases h1 with h1 | h1
        · rw [h1]
          by_cases hx : a ≤ x
          · right
            rw [Int.max_eq_right hx]
            exact List.mem_cons_self
          · left
            exact Int.max_eq_left (by omega)
        · exact .inr (List.mem_cons_of_mem _ h1)
      · rcases List.mem_cons.mp hy with e | hy
        · subst e; omega
        · exact h3 y hy
  intro m hm hy
  cases l with
  | nil => simp at h
  | cons x l =>
    unfold foldMax
    obtain ⟨h1, h2, h3⟩ := aux (x :: l) x
    show m = (x :: l).foldl max x
    have g1 : (x :: l).foldl max x ∈ x :: l := h1.elim (fun e => by rw [e]; exact List.mem_cons_self) id
    have := h3 m hm
    have := hy _ g1
    omega
theorem foldMin_spec (l : List Int) (h : 0 < l.length) : ∀ m, m ∈ l → (∀ y, y ∈ l → m ≤ y) → m = foldMin l := by
  have aux : ∀ (l : List Int) (a : Int), (l.foldl min a = a ∨ l.foldl min a ∈ l) ∧ l.foldl min a ≤ a ∧ ∀ y ∈ l, l.foldl min a ≤ y := by
    intro l
    induction l with
    | nil => intro a; simp
    | cons x l ih =>
      intro a
      rw [List.foldl_cons]
      obtain ⟨h1, h2, h3⟩ := ih (min a x)
      refine ⟨?_, by omega, fun y hy => ?_⟩
      · rcases h1 with h1 | h1
        · rw [h1]
          by_cases hx : a ≤ x
          · left
            exact Int.min_eq_left hx
          · right
            rw [Int.min_eq_right (by omega)]
            exact List.mem_cons_self
        · exact .inr (List.mem_cons_of_mem _ h1)
      · rcases List.mem_cons.mp hy with e | hy
        · subst e; omega
        · exact h3 y hy
  intro m hm hy
  cases l with
  | nil => simp at h
  | cons x l =>
    unfold foldMin
    obtain ⟨h1, h2, h3⟩ := aux (x :: l) x
    show m = (x :: l).foldl min x
    have g1 : (x :: l).foldl min x ∈ x :: l := h1.elim (fun e => by rw [e]; exact List.mem_cons_self) id
    have := h3 m hm
    have := hy _ g1
    omega
theorem depth_all {S : Sto} {l : List D} {ps : List PyData} (h : l.mapM (py depthP S) = some ps) : PyData.canLayAll0 ps = true ∧ PyData.depthAll ps ≤ 40 := lay_all (py depthP S) depthP l (fun d p _ => lay_of depthP d p) h
section
variable {pins : List (Addr × Obj)} {σ : L2.St} {H : Hp} {s : Shared} {m : Mp} {S : Sto} {l : List D} {xs : List V} {us : List Value} {Q : VK} {d : D} {q p1 : PyData} {ps : List PyData} {a : Addr}
theorem min_two (hc : X.calm = true) (hu : X.A.units + 65 < cLine) (I : L2.Inv X pins σ H s) (st : RelSt X.K m S H) {x0 y0 : D} (rs : RelDs X.K m H [x0, y0] xs) (r : Vals xs us) (h1 : [x0, y0].mapM (py depthP S) = some (p1 :: ps)) (h2 : PySem.W.AlikeAll (p1 :: ps))
    (h3 : q = ps.foldl (fun x y => if PySem.W.dataLt y x then y else x) p1) (h5 : ∀ e ∈ [x0, y0], py depthP S e = some q → e = d) (p : Post X.K m H S d Q) : wpAny (model X.prog X.w) X.A (call (.builtin "min") us) (EP X pins σ Q) X.xe s := by
  have da := dpAll_of (py depthP S) [x0, y0] (fun d v p _ => dp_of st depthP d v p) rs h1
  obtain ⟨as, ra⟩ := Dp.readsAll I _ _ us da r
  have hl := (mapM_zip h1).1
  obtain ⟨p2, rfl⟩ : ∃ p2, ps = [p2] := by
    match ps, hl with
    | [p2], _ => exact ⟨p2, rfl⟩
  obtain ⟨ua, ub, rfl⟩ : ∃ ua ub, us = [ua, ub] := by
    cases ra with
    | cons r1 t1 =>
      cases t1 with
      | cons r2 t2 =>
        cases t2
        exact ⟨_, _, rfl⟩
  have hd := (depth_all h1).2
  refine PySem.W.min_two_data (I.ok.hd hc) ra h2 (by omega) fun i v h' tk bs hv hr hk => ?_
  obtain ⟨x, rx, rd⟩ := extr_val st rs r h1 ra hv hr hk (fun e he hp => h5 e he (by rw [hp, h3]; rfl))
  exact ⟨x, H, I.kept hk, rx, p.same st rd⟩
theorem max_two (hc : X.calm = true) (hu : X.A.units + 65 < cLine) (I : L2.Inv X pins σ H s) (st : RelSt X.K m S H) {x0 y0 : D} (rs : RelDs X.K m H [x0, y0] xs) (r : Vals xs us) (h1 : [x0, y0].mapM (py depthP S) = some (p1 :: ps)) (h2 : PySem.W.AlikeAll (p1 :: ps))
    (h3 : q = ps.foldl (fun x y => if PySem.W.dataLt x y then y else x) p1) (h5 : ∀ e ∈ [x0, y0], py depthP S e = some q → e = d) (p : Post X.K m H S d Q) : wpAny (model X.prog X.w) X.A (call (.builtin "max") us) (EP X pins σ Q) X.xe s := by
  have da := dpAll_of (py depthP S) [x0, y0] (fun d v p _ => dp_of st depthP d v p) rs h1
  obtain ⟨as, ra⟩ := Dp.readsAll I _ _ us da r
  have hl := (mapM_zip h1).1
  obtain ⟨p2, rfl⟩ : ∃ p2, ps = [p2] := by
    match ps, hl with
    | [p2], _ => exact ⟨p2, rfl⟩
  obtain ⟨ua, ub, rfl⟩ : ∃ ua ub, us = [ua, ub] := by
    cases ra with
    | cons r1 t1 =>
      cases t1 with
      | cons r2 t2 =>
        cases t2
        exact ⟨_, _, rfl⟩
  have hd := (depth_all h1).2
  refine PySem.W.max_two_data (I.ok.hd hc) ra h2 (by omega) fun i v h' tk bs hv hr hk => ?_
  obtain ⟨x, rx, rd⟩ := extr_val st rs r h1 ra hv hr hk (fun e he hp => h5 e he (by rw [hp, h3]; rfl))
  exact ⟨x, H, I.kept hk, rx, p.same st rd⟩
theorem min_seq (hc : X.calm = true) (hu : X.A.units + 65 < cLine) (I : L2.Inv X pins σ H s) (st : RelSt X.K m S H) (rs : RelDs X.K m H l xs) (hq : SqL X.K H a xs ∨ SqT X.K H a xs) (r : Vals [.ref a] us) (h1 : l.mapM (py depthP S) = some (p1 :: ps)) (h2 : PySem.W.AlikeAll (p1 :: ps))
    (h3 : q = ps.foldl (fun x y => if PySem.W.dataLt y x then y else x) p1) (h5 : ∀ e ∈ l, py depthP S e = some q → e = d) (p : Post X.K m H S d Q) : wpAny (model X.prog X.w) X.A (call (.builtin "min") us) (EP X pins σ Q) X.xe s := by
  have da := dpAll_of (py depthP S) l (fun d v p _ => dp_of st depthP d v p) rs h1
  have hd := (depth_all h1).2
  rw [Vals.ref1 r]
  rcases hq with hq | hq
  · obtain ⟨its, rv, pl, _⟩ := I.list hq
    obtain ⟨as, ra⟩ := Dp.readsAll I _ _ its da rv
    refine PySem.W.min_list_data (I.ok.hd hc) pl.isList (by simpa using ra) h2 (by omega) fun i v h' tk bs hv hr hk => ?_
    obtain ⟨x, rx, rd⟩ := extr_val (i := i) st rs rv h1 ra (by simpa using hv) hr hk (fun e he hp => h5 e he (by rw [hp, h3]; rfl))
    exact ⟨x, H, I.kept hk, rx, p.same st rd⟩
  · obtain ⟨its, rv, pl, _⟩ := I.tuple hq
    obtain ⟨as, ra⟩ := Dp.readsAll I _ _ its da rv
    refine PySem.W.min_tuple_data (I.ok.hd hc) pl (by simpa using ra) h2 (by omega) fun i v h' tk bs hv hr hk => ?_
    obtain ⟨x, rx, rd⟩ := extr_val (i := i) st rs rv h1 ra (by simpa using hv) hr hk (fun e he hp => h5 e he (by rw [hp, h3]; rfl))
    exact ⟨x, H, I.kept hk, rx, p.same st rd⟩
theorem max_seq (hc : X.calm = true) (hu : X.A.units + 65 < cLine) (I : L2.Inv X pins σ H s) (st : RelSt X.K m S H) (rs : RelDs X.K m H l xs) (hq : SqL X.K H a xs ∨ SqT X.K H a xs) (r : Vals [.ref a] us) (h1 : l.mapM (py depthP S) = some (p1 :: ps)) (h2 : PySem.W.AlikeAll (p1 :: ps))
    (h3 : q = ps.foldl (fun x y => if PySem.W.dataLt x y then y else x) p1) (h5 : ∀ e ∈ l, py depthP S e = some q → e = d) (p : Post X.K m H S d Q) : wpAny (model X.prog X.w) X.A (call (.builtin "max") us) (EP X pins σ Q) X.xe s := by
  have da := dpAll_of (py depthP S) l (fun d v p _ => dp_of st depthP d v p) rs h1
  have hd := (depth_all h1).2
  rw [Vals.ref1 r]
  rcases hq with hq | hq
  · obtain ⟨its, rv, pl, _⟩ := I.list hq
    obtain ⟨as, ra⟩ := Dp.readsAll I _ _ its da rv
    refine PySem.W.max_list_data (I.ok.hd hc) pl.isList (by simpa using ra) h2 (by omega) fun i v h' tk bs hv hr hk => ?_
    obtain ⟨x, rx, rd⟩ := extr_val (i := i) st rs rv h1 ra (by simpa using hv) hr hk (fun e he hp => h5 e he (by rw [hp, h3]; rfl))
    exact ⟨x, H, I.kept hk, rx, p.same st rd⟩
  · obtain ⟨its, rv, pl, _⟩ := I.tuple hq
    obtain ⟨as, ra⟩ := Dp.readsAll I _ _ its da rv
    refine PySem.W.max_tuple_data (I.ok.hd hc) pl (by simpa using ra) h2 (by omega) fun i v h' tk bs hv hr hk => ?_
    obtain ⟨x, rx, rd⟩ := extr_val (i := i) st rs rv h1 ra (by simpa using hv) hr hk (fun e he hp => h5 e he (by rw [hp, h3]; rfl))
    exact ⟨x, H, I.kept hk, rx, p.same st rd⟩
theorem seq_list {α : Type} {x0 : D} {f : List D → M α} {b : α} {S' : Sto} (st : RelSt X.K m S H) (rs : RelDs X.K m H [x0] xs) (e : (if isTupD x0 then (R.bad : R α) else (do let l ← items x0; f l : M α) S) = .ok b S') : ∃ (a : Addr) (l : List D) (ys : List V), xs = [.ref a] ∧ SqL X.K H a ys ∧ RelDs X.K m H l ys ∧ f l S = .ok b S' := by
  cases ht : isTupD x0 with
  | true => rw [ht] at e; cases e
  | false =>
    rw [ht] at e
    have e' : (do let l ← items x0; f l : M α) S = .ok b S' := e
    obtain ⟨l, S1, e1, e2⟩ := bindOk e'
    obtain ⟨rfl, _⟩ := items_inv e1
    obtain ⟨x, rfl, rx⟩ := rel1 rs
    obtain ⟨a, ys, rfl, ry, hq⟩ := items_rel st rx e1
    refine ⟨a, l, ys, rfl, ?_, ry, e2⟩
    rcases hq with ⟨z, _⟩ | ⟨_, hq⟩ | ⟨n, _, _, hq⟩
    · rw [z] at ht; cases ht
    · exact sqL_of hq
    · exact SqL.of hq
theorem each_of {R1 : Value → (D × V) × PyData → Prop} (hR : ∀ v x d p, RelV x v → R1 v ((d, x), p)) {us : List Value} {xs : List V} {l : List D} {ps : List PyData} (h : Vals xs us) (h1 : xs.length = l.length) (h2 : l.length = ps.length) : PySem.W.EachIs R1 us ((l.zip xs).zip ps) := by
  induction h generalizing l ps with
  | nil =>
    cases l with
    | nil => exact .nil
    | cons _ _ => simp at h1
  | cons r t ih =>
    cases l with
    | nil => simp at h1
    | cons d l =>
      cases ps with
      | nil => simp at h2
      | cons p ps => exact .cons (hR _ _ _ _ r) (ih (by simpa using h1) (by simpa using h2))
theorem each_reads {h : Heap} : ∀ {us : List Value} {ps : List PyData} {as : List Addr} {xs : List V} {l : List D}, ReadsAll h us ps as → xs.length = ps.length → l.length = ps.length → PySem.W.EachIs (fun v (b : (D × V) × PyData) => ∃ as, Reads h v b.2 as) us ((l.zip xs).zip ps)
  | _, [], _, xs, l, r, h1, h2 => by
    cases r
    cases l with
    | nil => exact .nil
    | cons _ _ => simp at h2
  | _, p :: ps, _, xs, l, r, h1, h2 => by
    cases r with
    | cons r t =>
      cases l with
      | nil => simp at h2
      | cons d l =>
        cases xs with
        | nil => simp at h1
        | cons x xs => exact .cons ⟨_, r⟩ (each_reads t (by simpa using h1) (by simpa using h2))
theorem each_vals : ∀ {us : List Value} {bs : List ((D × V) × PyData)}, PySem.W.EachIs (fun v (b : (D × V) × PyData) => RelV b.1.2 v) us bs → Vals (bs.map fun b => b.1.2) us
  | _, _, .nil => .nil
  | _, _, .cons r t => .cons r (each_vals t)
theorem relDs_of : ∀ {bs : List ((D × V) × PyData)}, (∀ b ∈ bs, RelD X.K m H b.1.1 b.1.2) → RelDs X.K m H (bs.map fun b => b.1.1) (bs.map fun b => b.1.2)
  | [], _ => relDs_nil
  | b :: bs, h => relDs_cons (h b List.mem_cons_self) (relDs_of fun c hc => h c (List.mem_cons_of_mem _ hc))
theorem relDs_zip : ∀ {l : List D} {xs : List V}, RelDs X.K m H l xs → ∀ p ∈ l.zip xs, RelD X.K m H p.1 p.2
  | [], _, _, _, h => by simp at h
  | d :: l, xs, r, p, h => by
    rw [RelDs] at r
    obtain ⟨v, vs, rfl, r, rs⟩ := r
    rw [List.zip_cons_cons] at h
    rcases List.mem_cons.mp h with rfl | h
    · exact r
    · exact relDs_zip rs p h
theorem sortM_inv {S' : Sto} (h : sortM l S = .ok d S') : (l.length ≤ 1 ∧ d = .ref S.length ∧ S' = S ++ [.lst l]) ∨ ∃ ps, l.mapM (py depthP S) = some ps ∧ PySem.W.AllAlike ps ∧ PySem.W.Sortable ps ∧ d = .ref S.length ∧ S' = S ++ [.lst (sortD l ps)] := by
  unfold sortM at h
  split at h
  · rename_i h1
    unfold newO at h
    cases h
    exact .inl ⟨h1, rfl, rfl⟩
  split at h
  · rename_i ps hps
    split at h
    · rename_i hc
      rw [Bool.and_eq_true] at hc
      unfold newO at h
      cases h
      refine .inr ⟨ps, hps, (alikeB_spec hc.1).1, ?_, rfl, rfl⟩
      unfold sortableB at hc
      rw [Bool.or_eq_true, List.all_eq_true, List.all_eq_true] at hc
      rcases hc.2 with h | h
      · refine .inl fun d hd => ?_
        have := h d hd
        unfold tupB at this
        split at this
        · exact ⟨_, _, rfl⟩
        · cases this
      · refine .inr fun d hd => ?_
        have := h d hd
        unfold noTupB at this
        split at this
        · cases this
        · cases this
        · exact ⟨by assumption, by assumption⟩
    · cases h
  · cases h
theorem cr_sortedD (hu : X.A.units + 65 < cLine) (I : L2.Inv X pins σ H s) (st : RelSt X.K m S H) {S' : Sto} (rs : RelDs X.K m H l xs) (hl : SqL X.K H a xs) (r : Vals [.ref a] us) (e : sortM l S = .ok d S') (p : Post X.K m H S' d Q) : wpAny (model X.prog X.w) X.A (call (.builtin "sorted") us) (EP X pins σ Q) X.xe s := by
  rw [Vals.ref1 r]
  obtain ⟨its, rv, pl, hz⟩ := I.list hl
  rcases sortM_inv e with ⟨h1, rfl, rfl⟩ | ⟨ps, hps, hal, hso, rfl, rfl⟩
  case inl =>
    have hil : its.length ≤ 1 := by rw [← rv.length, rs.length]; exact h1
    refine SrtO.sorted_ord SrtO.swo_int pl.isList (by rw [← rv.length]; exact hz) (fun h2 => absurd h2 (by omega)) fun out _ hb => ?_
    have ho : out = its := by
      have hp : out.Perm its := hb.perm
      match its, hil, hp with
      | [], _, hp => exact hp.eq_nil
      | [x], _, hp => exact List.perm_singleton.mp hp
      | _ :: _ :: _, hil, _ => simp at hil
    subst ho
    obtain ⟨ep, he'⟩ := PyProof.Rows.sortedAll_at s.heap out out.toArray
    exact ⟨.ref _, upd H (s.heap.objs.size + 1) (.lst _), I.laid (t' := s.toks) (fun _ _ => PyProof.Rows.sortedAll_old) (Nat.le_succ _) ⟨hz, out, ep, rv, he'⟩, rfl, p.lst st rs _ (I.hok.fresh (Nat.le_succ _))⟩
  have da := dpAll_of (py depthP S) l (fun d v p _ => dp_of st depthP d v p) rs hps
  obtain ⟨as, ra⟩ := Dp.readsAll I _ _ its da rv
  have hlen := rs.length
  have hlp := (mapM_zip hps).1
  have hxl : xs.length = its.length := rv.length
  have em : ((l.zip xs).zip ps).map (fun b => b.2) = ps := List.map_snd_zip (by rw [List.length_zip]; omega)
  have hd := (depth_all hps).2
  have hdep : ∀ q ∈ ps, q.depth ≤ 40 := fun q hq => by
    obtain ⟨y, hy, hyq⟩ : ∃ y ∈ l, py depthP S y = some q := by
      obtain ⟨i, hi, rfl⟩ := List.mem_iff_getElem.mp hq
      have hz2 : (l[i]'(by omega), ps[i]) ∈ l.zip ps := by
        rw [List.mem_iff_getElem]
        exact ⟨i, by rw [List.length_zip]; omega, by simp⟩
      exact ⟨_, List.getElem_mem (by omega), (mapM_zip hps).2 _ hz2⟩
    exact (lay_of _ _ _ hyq).2
  refine PySem.W.sorted_data (bs := (l.zip xs).zip ps) (enc := fun b => b.2) (R := fun v b => RelV b.1.2 v) pl.isList (each_of (fun v x d p h => h) rv hlen hlp) (each_reads ra (by omega) hlp) (by rw [em]; exact hal) (by rw [em]; exact hso) (by rw [List.length_zip, List.length_zip]; omega) (fun b hb => ?_) fun out hol ho => ?_
  · have := hdep b.2 (List.of_mem_zip hb).2
    omega
  · have hv := each_vals ho
    have hds : ∀ b ∈ ((l.zip xs).zip ps).mergeSort (PySem.W.dataLe false fun b => b.2), RelD X.K m H b.1.1 b.1.2 := fun b hb => relDs_zip rs b.1 (List.of_mem_zip (List.mem_mergeSort.mp hb)).1
    have hrel := relDs_of hds
    have esort : (((l.zip xs).zip ps).mergeSort (PySem.W.dataLe false fun b => b.2)).map (fun b => b.1.1) = sortD l ps := by
      unfold sortD
      have e1 : (((l.zip xs).zip ps).mergeSort (PySem.W.dataLe false fun b => b.2)).map (fun b => (b.1.1, b.2)) = (((l.zip xs).zip ps).map fun b => (b.1.1, b.2)).mergeSort (fun a b => !PySem.W.dataLt b.2 a.2) :=
        List.map_mergeSort fun x _ y _ => by rw [PySem.W.dataLe_eq]; rfl
      have e2 : ∀ (l : List D) (xs : List V) (ps : List PyData), xs.length = l.length → ((l.zip xs).zip ps).map (fun b => (b.1.1, b.2)) = l.zip ps := by
        intro l
        induction l with
        | nil => intro xs ps _; simp
        | cons x l ih =>
          intro xs ps h
          cases xs with
          | nil => simp at h
          | cons y xs =>
            cases ps with
            | nil => simp
            | cons p ps => simp only [List.zip_cons_cons, List.map_cons]; rw [ih xs ps (by simpa using h)]
      rw [e2 l xs ps hlen] at e1
      rw [← e1, List.map_map]
      rfl
    rw [esort] at hrel
    obtain ⟨ep, he'⟩ := PyProof.Rows.sortedAll_at s.heap its out.toArray
    have hlo : ((((l.zip xs).zip ps).mergeSort (PySem.W.dataLe false fun b => b.2)).map fun b => b.1.2).length ≤ sizeLine := by
      rw [hv.length, hol, List.length_zip, List.length_zip]
      omega
    exact ⟨.ref _, upd H (s.heap.objs.size + 1) (.lst _), I.laid (t' := s.toks) (fun _ _ => PyProof.Rows.sortedAll_old) (Nat.le_succ _) ⟨hlo, out, ep, hv, he'⟩, rfl, p.lst st hrel _ (I.hok.fresh (Nat.le_succ _))⟩
end
theorem cr_bi (hc : X.calm = true) (hu : X.A.units + 65 < cLine) (f : BI) : CallR X (biV f) (rBi X.K f) := by
  intro pins s σ H xs us Q I r h
  obtain ⟨m, S, ds, d, S', st, rs, e, p⟩ := h
  unfold builtin at e
  split at e
  · split at e
    · rename_i hz
      cases e
      obtain ⟨x, rfl, rx⟩ := rel1 rs
      exact call_len_str pins s σ H _ us Q I r ⟨_, by rw [relD_str rx], hz, p.same st (by rw [RelD])⟩
    · cases e
  · obtain ⟨l, S1, e1, e2⟩ := bindOk e
    obtain ⟨rfl, _⟩ := items_inv e1
    obtain ⟨rfl, rfl⟩ := pureOk e2
    obtain ⟨x, rfl, rx⟩ := rel1 rs
    obtain ⟨a, ys, rfl, ry, hq⟩ := items_sq st rx e1
    exact call_len_seq pins s σ H _ us Q I r ⟨a, ys, rfl, hq, p.same st (by rw [RelD, ry.length])⟩
  · cases e
    obtain ⟨x, rfl, rx⟩ := rel1 rs
    exact call_int1 pins s σ H _ us Q I r (.inl ⟨_, by rw [relD_int rx], p.same st (by rw [RelD])⟩)
  · cases e
    obtain ⟨x, rfl, rx⟩ := rel1 rs
    exact call_int1 pins s σ H _ us Q I r (.inr ⟨_, by rw [relD_bl rx], p.same st (by rw [RelD])⟩)
  · split at e
    · rename_i hz
      cases e
      obtain ⟨x, rfl, rx⟩ := rel1 rs
      exact call_str_int pins s σ H _ us Q I r ⟨_, by rw [relD_int rx], hz, p.same st (by rw [RelD])⟩
    · cases e
  · obtain ⟨l, S1, e1, e2⟩ := bindOk e
    obtain ⟨rfl, _⟩ := items_inv e1
    unfold newO at e2
    cases e2
    obtain ⟨x, rfl, rx⟩ := rel1 rs
    obtain ⟨a, ys, rfl, ry, hq⟩ := items_sq st rx e1
    exact call_list_of pins s σ H _ us Q I r ⟨a, ys, rfl, hq, p.lst st ry⟩
  · cases e
    obtain ⟨x, rfl, rx⟩ := rel1 rs
    rw [RelD] at rx
    obtain ⟨a, ys, rfl, hq, ry⟩ := rx
    exact call_tuple_of pins s σ H _ us Q I r ⟨a, ys, rfl, .inr ⟨sqT_of hq, p.same st (by rw [RelD]; exact ⟨a, ys, rfl, hq, ry⟩)⟩⟩
  · rename_i x0 hne
    obtain ⟨l, S1, e1, e2⟩ := bindOk e
    obtain ⟨rfl, _⟩ := items_inv e1
    obtain ⟨rfl, rfl⟩ := pureOk e2
    obtain ⟨x, rfl, rx⟩ := rel1 rs
    obtain ⟨a, ys, rfl, ry, hq⟩ := items_rel st rx e1
    rcases hq with ⟨z, _⟩ | ⟨_, hq⟩ | ⟨n, _, _, hq⟩
    · exact absurd z (hne _)
    · exact call_tuple_of pins s σ H _ us Q I r ⟨a, ys, rfl, .inl ⟨sqL_of hq, p.tup st ry⟩⟩
    · exact call_tuple_of pins s σ H _ us Q I r ⟨a, ys, rfl, .inl ⟨SqL.of hq, p.tup st ry⟩⟩
  · rename_i x0
    obtain ⟨l, S1, e1, e2⟩ := bindOk e
    obtain ⟨rfl, _⟩ := items_inv e1
    obtain ⟨x, rfl, rx⟩ := rel1 rs
    obtain ⟨a, ys, rfl, ry, hq⟩ := items_rel st rx e1
    cases hn : intL l with
    | none =>
      rw [hn] at e2
      cases ht : isTupD x0 with
      | true =>
        rw [ht] at e2
        cases e2
      | false =>
        rw [ht] at e2
        have e3 : sortM l S1 = .ok d S' := e2
        have hl : SqL X.K H a ys := by
          rcases hq with ⟨z, _⟩ | ⟨_, hq⟩ | ⟨n, _, _, hq⟩
          · rw [z] at ht; cases ht
          · exact sqL_of hq
          · exact SqL.of hq
        exact cr_sortedD hu I st ry hl r e3 p
    | some ns =>
      rw [hn] at e2
      have e3 : newO (.lst ((sortI ns).map .int)) S1 = .ok d S' := e2
      unfold newO at e3
      cases e3
      obtain ⟨rfl, _⟩ := ry.ints hn
      rcases hq with ⟨_, hq⟩ | ⟨_, hq⟩ | ⟨n, _, _, hq⟩
      · refine cr_sortedT pins s σ H _ us Q I r ⟨a, ns, rfl, sqT_of hq, fun ns' q hp hs hq' => ?_⟩
        rw [sorted_unique (hp.trans (sortI_perm ns).symm) hs (sortI_sorted ns)]
        exact p.lst st (relDs_ints _) q hq'
      · refine cr_sortedI pins s σ H _ us Q I r ⟨a, ns, rfl, sqL_of hq, fun ns' q hp hs hq' => ?_⟩
        rw [sorted_unique (hp.trans (sortI_perm ns).symm) hs (sortI_sorted ns)]
        exact p.lst st (relDs_ints _) q hq'
      · refine cr_sortedI pins s σ H _ us Q I r ⟨a, ns, rfl, SqL.of hq, fun ns' q hp hs hq' => ?_⟩
        rw [sorted_unique (hp.trans (sortI_perm ns).symm) hs (sortI_sorted ns)]
        exact p.lst st (relDs_ints _) q hq'
  · cases e
    obtain ⟨x, y, rfl, rx, ry⟩ := rel2 rs
    exact call_min2 hc pins s σ H _ us Q I r ⟨_, _, by rw [relD_int rx, relD_int ry], p.same st (by rw [RelD])⟩
  · cases e
    obtain ⟨x, y, rfl, rx, ry⟩ := rel2 rs
    exact call_max2 hc pins s σ H _ us Q I r ⟨_, _, by rw [relD_int rx, relD_int ry], p.same st (by rw [RelD])⟩
  · obtain ⟨rfl, p1, ps, q, h1, h2, h3, h4, h5⟩ := extr_inv e
    exact min_two hc hu I st rs r h1 h2 h3 h5 p
  · obtain ⟨rfl, p1, ps, q, h1, h2, h3, h4, h5⟩ := extr_inv e
    exact max_two hc hu I st rs r h1 h2 h3 h5 p
  · obtain ⟨l, S1, e1, e2⟩ := bindOk e
    obtain ⟨rfl, _⟩ := items_inv e1
    obtain ⟨x, rfl, rx⟩ := rel1 rs
    obtain ⟨a, ys, rfl, ry, hq⟩ := items_sq st rx e1
    obtain ⟨rfl, p1, ps, q, h1, h2, h3, h4, h5⟩ := extr_inv e2
    exact min_seq hc hu I st ry hq r h1 h2 h3 h5 p
  · obtain ⟨l, S1, e1, e2⟩ := bindOk e
    obtain ⟨rfl, _⟩ := items_inv e1
    obtain ⟨x, rfl, rx⟩ := rel1 rs
    obtain ⟨a, ys, rfl, ry, hq⟩ := items_sq st rx e1
    obtain ⟨rfl, p1, ps, q, h1, h2, h3, h4, h5⟩ := extr_inv e2
    exact max_seq hc hu I st ry hq r h1 h2 h3 h5 p
  · cases e
    obtain ⟨x, rfl, rx⟩ := rel1 rs
    exact call_abs pins s σ H _ us Q I r ⟨_, by rw [relD_int rx], p.same st (by rw [RelD])⟩
  · obtain ⟨a, l, ys, rfl, hl, ry, e2⟩ := seq_list st rs e
    cases hn : intL l with
    | none => rw [hn] at e2; cases e2
    | some ns =>
      rw [hn] at e2
      obtain ⟨rfl, rfl⟩ := pureOk e2
      obtain ⟨rfl, _⟩ := ry.ints hn
      exact cr_sum hc pins s σ H _ us Q I r ⟨a, ns, rfl, hl, p.same st (by rw [RelD])⟩
  · obtain ⟨a, l, ys, rfl, hl, ry, e2⟩ := seq_list st rs e
    cases hn : boolL l with
    | none => rw [hn] at e2; cases e2
    | some ns =>
      rw [hn] at e2
      obtain ⟨rfl, rfl⟩ := pureOk e2
      have := ry.bools hn
      subst this
      exact cr_all hc pins s σ H _ us Q I r ⟨a, ns, rfl, hl, p.same st (by rw [RelD])⟩
  · obtain ⟨a, l, ys, rfl, hl, ry, e2⟩ := seq_list st rs e
    cases hn : boolL l with
    | none => rw [hn] at e2; cases e2
    | some ns =>
      rw [hn] at e2
      obtain ⟨rfl, rfl⟩ := pureOk e2
      have := ry.bools hn
      subst this
      exact cr_any hc pins s σ H _ us Q I r ⟨a, ns, rfl, hl, p.same st (by rw [RelD])⟩
  · cases e

/-! ### methods of lists -/
def mtV : MT → String
  | .append => "list.append" | .pop => "list.pop" | .extend => "list.extend" | .reverse => "list.reverse" | .index => "list.index" | .count => "list.count"
  | _ => "list.append"
def rMt (K : PySem.W.Frag) (f : MT) : V → List V → Hp → VK → Prop := fun x xs H Q => ∃ m S a ds d S', RelSt K m S H ∧ RelD K m H a x ∧ RelDs K m H ds xs ∧ method f a ds S = .ok d S' ∧ Post K m H S' d Q
theorem seqIndex_rel {K : PySem.W.Frag} {m : Mp} {H : Hp} {l : List D} {xs : List V} (r : RelDs K m H l xs) : l.length = xs.length := r.length.symm
theorem mt_any (f : MT) : MtR X (mtV f) (rMt X.K f) := by
  intro pins s σ H x xs v us Q I rx rxs h
  obtain ⟨m, S, a, ds, d, S', st, ra, rs, e, p⟩ := h
  unfold method at e
  split at e
  · split at e
    · rename_i l hl
      split at e
      · rename_i hz
        cases e
        rw [RelD] at ra
        obtain ⟨q, rfl, hq⟩ := ra
        obtain ⟨ys, hy, ry⟩ := st.lst hq hl
        obtain ⟨y, rfl, r1⟩ := rel1 rs
        exact mt_append pins s σ H _ _ v us Q I rx rxs ⟨q, ys, y, rfl, rfl, hy, by rw [ry.length]; exact hz, p.put st hq (ry.append (relDs_cons r1 relDs_nil)) (by rw [RelD])⟩
      · cases e
    · cases e
  · split at e
    · rename_i l hl
      split at e
      · rename_i y hy0
        cases e
        rw [RelD] at ra
        obtain ⟨q, rfl, hq⟩ := ra
        obtain ⟨ys, hy, ry⟩ := st.lst hq hl
        obtain ⟨w, hw, rw'⟩ := ry.get hy0
        rw [RelDs] at rs
        subst rs
        exact mt_pop pins s σ H _ _ v us Q I rx rxs ⟨q, ys, w, rfl, rfl, hy, by rw [ry.length]; exact hw, p.put st hq ry.dropLast rw'⟩
      · cases e
    · cases e
  · split at e
    · rename_i l hl
      split at e
      · rename_i hb
        split at e
        · rename_i k hk
          split at e
          · rename_i y hy0
            cases e
            rw [RelD] at ra
            obtain ⟨q, rfl, hq⟩ := ra
            obtain ⟨ys, hy, ry⟩ := st.lst hq hl
            obtain ⟨w, hw, rw'⟩ := ry.get hy0
            obtain ⟨y, rfl, r1⟩ := rel1 rs
            exact mt_popAt pins s σ H _ _ v us Q I rx rxs ⟨q, ys, _, k, w, rfl, by rw [relD_int r1], hy, hb.1, hb.2, by rw [ry.length]; exact hk, hw, p.put st hq (ry.eraseIdx k) rw'⟩
          · cases e
        · cases e
      · cases e
    · cases e
  · split at e
    · rename_i l k hl hk
      split at e
      · rename_i hz
        cases e
        rw [RelD] at ra
        obtain ⟨q, rfl, hq⟩ := ra
        obtain ⟨ys, hy, ry⟩ := st.lst hq hl
        obtain ⟨y, rfl, r1⟩ := rel1 rs
        rw [RelD] at r1
        obtain ⟨q2, rfl, hq2⟩ := r1
        obtain ⟨zs, hz2, rz⟩ := st.lst hq2 hk
        exact mt_extend pins s σ H _ _ v us Q I rx rxs ⟨q, q2, ys, zs, rfl, rfl, hy, hz2, by rw [ry.length, rz.length]; exact hz, p.put st hq (ry.append rz) (by rw [RelD])⟩
      · cases e
    · cases e
  · split at e
    · rename_i l hl
      cases e
      rw [RelD] at ra
      obtain ⟨q, rfl, hq⟩ := ra
      obtain ⟨ys, hy, ry⟩ := st.lst hq hl
      rw [RelDs] at rs
      subst rs
      exact mt_reverse pins s σ H _ _ v us Q I rx rxs ⟨q, ys, rfl, rfl, hy, p.put st hq ry.reverse (by rw [RelD])⟩
    · cases e
  · rename_i l i
    split at e
    · rename_i ns hn
      split at e
      · rename_i j hj
        cases e
        rw [RelD] at ra
        obtain ⟨q, ys, rfl, hq, ry⟩ := ra
        obtain ⟨rfl, _⟩ := ry.ints hn
        obtain ⟨y, rfl, r1⟩ := rel1 rs
        have ei := relD_int r1
        subst ei
        rw [List.findIdx?_eq_some_iff_getElem] at hj
        obtain ⟨hlt, h1, h2⟩ := hj
        have h1' : ns[j] = i := of_decide_eq_true h1
        refine mt_index pins s σ H _ _ v us Q I rx rxs ⟨q, _, .int i, j, .int i, rfl, rfl, sqL_of hq, rfl, ?_, ?_, ?_, fun m' z' hm hz' => ?_, p.same st (by rw [RelD])⟩
        · rw [List.all_eq_true]
          intro z hz
          obtain ⟨w, _, rfl⟩ := List.mem_map.mp hz
          rfl
        · rw [List.getElem?_map, List.getElem?_eq_getElem hlt, h1']
          rfl
        · simp [eqV]
        · rw [List.getElem?_map, List.getElem?_eq_getElem (show m' < ns.length by omega)] at hz'
          cases hz'
          have := h2 m' hm
          simpa [eqV] using this
      · cases e
    · cases e
  · rename_i l i
    split at e
    · rename_i ns hn
      cases e
      rw [RelD] at ra
      obtain ⟨q, ys, rfl, hq, ry⟩ := ra
      obtain ⟨rfl, _⟩ := ry.ints hn
      obtain ⟨y, rfl, r1⟩ := rel1 rs
      have ei := relD_int r1
      subst ei
      exact L2.mt_lcount pins s σ H _ _ v us Q I rx rxs ⟨q, ns, i, rfl, rfl, sqL_of hq, p.same st (by rw [RelD])⟩
    · cases e
  · cases e
theorem mt_tyC {K : PySem.W.Frag} {m : Mp} {H : Hp} {l : List D} {x : V} (ra : RelD K m H (.clst l) x) : tyV K "list" x H := by
  rw [RelD] at ra
  obtain ⟨q, ys, rfl, hq, _⟩ := ra
  exact .inl ⟨rfl, ys, sqL_of hq⟩
/-- what a method of lists is asked of -/
theorem mt_ty {K : PySem.W.Frag} {m : Mp} {H : Hp} {S : Sto} {n : Nat} {l : List D} {x : V} (st : RelSt K m S H) (ra : RelD K m H (.ref n) x) (hl : S[n]? = some (.lst l)) : tyV K "list" x H := by
  rw [RelD] at ra
  obtain ⟨q, rfl, hq⟩ := ra
  obtain ⟨ys, hy, _⟩ := st.lst hq hl
  exact .inl ⟨rfl, ys, SqL.of hy⟩
end
end Pi

/-! Statements, defs. -/
namespace Pi
open PySem

inductive Fl where
  | nx (env : Env) | ret (d : D) | brk (env : Env) | cont (env : Env)
def forLoop (get : Nat → Sto → Step) (body : D → Env → M Fl) : Nat → Nat → Env → M Fl
  | 0, _, _ => bad
  | n + 1, i, env => fun S => match get i S with
    | .stop => .ok (.nx env) S
    | .bad => .bad
    | .item x => match body x env S with
      | .ok (.nx e) S' => forLoop get body n (i + 1) e S'
      | .ok (.cont e) S' => forLoop get body n (i + 1) e S'
      | .ok (.brk e) S' => .ok (.nx e) S'
      | .ok (.ret d) S' => .ok (.ret d) S'
      | .err c fs S' => .err c fs S'
      | .bad => .bad
def whileLoop (test : Env → M Bool) (body : Env → M Fl) : Nat → Env → M Fl
  | 0, _ => bad
  | n + 1, env => fun S => match test env S with
    | .ok false S' => .ok (.nx env) S'
    | .ok true S' => match body env S' with
      | .ok (.nx e) S' => whileLoop test body n e S'
      | .ok (.cont e) S' => whileLoop test body n e S'
      | .ok (.brk e) S' => .ok (.nx e) S'
      | .ok (.ret d) S' => .ok (.ret d) S'
      | .err c fs S' => .err c fs S'
      | .bad => .bad
    | .err c fs S' => .err c fs S'
    | .bad => .bad
def putM (t : Tg) (x : D) (env : Env) : M Env := match put t x env with
  | some e => pure e
  | none => bad
def augop (op : BOp) (x y : D) : M D := fun S => match op, x, y with
  | .add, .int i, .int j => .ok (.int (i + j)) S
  | .sub, .int i, .int j => .ok (.int (i - j)) S
  | _, _, _ => .bad

mutual
noncomputable def evS (C : Ctx) : Pi.S → Env → M Fl
  | .asg t e, env => do
    let x ← evE C e env
    let env' ← putM t x env
    pure (.nx env')
  | .par i j a b, env => do
    let x ← evE C a env
    let y ← evE C b env
    chk (decide (i < env.length ∧ j < env.length))
    pure (.nx ((env.set i (some x)).set j (some y)))
  | .par3 i j l a b d, env => do
    let x ← evE C a env
    let y ← evE C b env
    let z ← evE C d env
    chk (decide (i < env.length ∧ j < env.length ∧ l < env.length))
    pure (.nx (((env.set i (some x)).set j (some y)).set l (some z)))
  | .sub a i e, env => do
    let v ← evE C e env
    let x ← evE C a env
    let k ← evE C i env
    setItem x k v
    pure (.nx env)
  | .aug i op e, env => do
    let x ← evE C (.var i) env
    let y ← evE C e env
    let z ← augop op x y
    pure (.nx (env.set i (some z)))
  | .expr e, env => do
    let _ ← evE C e env
    pure (.nx env)
  | .ret e, env => do
    let x ← evE C e env
    pure (.ret x)
  | .retN, _ => pure (.ret .non)
  | .ifs c a b, env => do
    let k ← evT C c env
    if k then evSs C a env else evSs C b env
  | .whil c b, env => whileLoop (fun e => evT C c e) (fun e => evSs C b e) C.wf env
  | .for t it b, env => do
    let J ← evI C it env
    forLoop J.get (fun x e => do
      let e' ← putM t x e
      evSs C b e') (J.n + 1) 0 env
  | .pass, env => pure (.nx env)
  | .brk, env => pure (.brk env)
  | .cont, env => pure (.cont env)
  | .never, _ => bad
noncomputable def evSs (C : Ctx) : List Pi.S → Env → M Fl
  | [], env => pure (.nx env)
  | s :: ss, env => fun St => match evS C s env St with
    | .ok (.nx e) St' => evSs C ss e St'
    | r => r
end

structure DefI where
  name : Str
  ps : List Str
  N : List Str
  body : List Pi.S
  mu : List Str := []
structure Tb where
  defs : List DefI
  gl : List (Str × D)
  wf : Nat
def Tb.find (T : Tb) (x : Str) : Option DefI := T.defs.find? fun d => decide (d.name = x)
def startE (N : List Str) (ds : List D) : Env := ds.map some ++ List.replicate (N.length - ds.length) none
noncomputable def callK (T : Tb) : Nat → Str → List D → M D
  | 0, _, _ => bad
  | k + 1, f, ds => fun St => match T.find f with
    | none => .bad
    | some d => if ds.length = d.ps.length then match evSs ⟨callK T k, fun x => T.gl.lookup x, T.wf⟩ d.body (startE d.N ds) St with
        | .ok (.ret v) S' => .ok v S'
        | .ok (.nx _) S' => .ok .non S'
        | .ok _ _ => .bad
        | .err c fs S' => .err c fs S'
        | .bad => .bad
      else .bad
noncomputable def Tb.ctx (T : Tb) (k : Nat) : Ctx := ⟨callK T k, fun x => T.gl.lookup x, T.wf⟩
end Pi

/-! enumerate of a tuple. -/
namespace PySem
open Sem (wp)
open AutoSeq1 (wpAny_loadPart')
theorem Draws.tup {prog : Program} {w : World} {A : Around} (hh : A.handled = none) (it l : Addr) (hne : l ≠ it) (items : Array Value) :
    Draws prog w A it [it, l] items.size (fun i v => items[i]? = some v) (fun i h => h.IsTupleIter it l i ∧ h.IsTuple l items) where
  live := fun _ _ st => let ⟨o, ho, _⟩ := st.1; ⟨o, ho⟩
  frame := fun _ _ _ st hk => ⟨st.1.at fun o e => hk it (by simp) o e, let ⟨o, ho, r⟩ := st.2; ⟨o, hk l (by simp) o ho, r⟩⟩
  item := fun i s Q E hi st hQ => by
    refine RZ.nextOf_tuple_item st.1 st.2 (x := items[i]) (by simp [hi]) fun h' hit' hs' => ?_
    exact hQ _ h' s.toks (by simp [hi]) ⟨hit', let ⟨o, ho, r⟩ := st.2; ⟨o, (hs'.2 l hne).trans ho, r⟩⟩ hs'
  done := fun s Q E st hE => RZ.nextOf_tuple_end hh st.1 st.2 (by simp) hE
theorem meets_enumerate_newT (l : Addr) (items : Array Value) (n : Nat) (dct : Option Addr) (sl : Array (Option Value)) :
    Meets (Builtin.«enumerate.__new__» ⟨[.type "enumerate", .ref l], []⟩) (fun _ R s => s.heap.get? l = some { cls := .type "tuple", dict := dct, data := .seq items n, slots := sl } ∧
      R (.ok (.ret (.ref (s.heap.push { cls := .type "tuple_iterator", data := .fields #[.ref l, .int 0 0] }).objs.size)))
        { s with heap := (s.heap.push { cls := .type "tuple_iterator", data := .fields #[.ref l, .int 0 0] }).push { cls := .type "enumerate", data := .fields #[.none, .bool false, .ref s.heap.objs.size, rawInt 0, .none, .none] } }) :=
  .of_wp fun prog w A R s h => by
    obtain ⟨hp, g, d, tk, os⟩ := s; obtain ⟨hl, h⟩ := h
    have hsub := sub_enumerate
    have hL : Heap.IsTuple (Shared.heap ⟨hp, g, d, tk, os⟩) l items := ⟨_, hl, rfl, n, rfl⟩
    wp_walk using wpAny_loadPart' hl
    refine wpAny_stack_any fun st => wpAny_pure ?_
    split
    · rename_i c _ _ _ _ _
      cases (c == Value.type "enumerate")
      · wp_walk using wpAny_loadPart' hl, wpAny_pyIter_tuple hL
        exact ⟨_, rfl, h⟩
      · wp_walk using wpAny_loadPart' hl, wpAny_pyIter_tuple hL
        exact ⟨_, rfl, h⟩
    · wp_walk using wpAny_loadPart' hl, wpAny_pyIter_tuple hL
      exact ⟨_, rfl, h⟩
section
variable {prog : Program} {w : World} {A : Around} {E : Value → Shared → Prop} {s : Shared}
theorem call_enumerate_tuple {l : Addr} {items : Array Value} {Q : Value → Shared → Prop} (hL : s.heap.IsTuple l items)
    (h : ∀ h', IsEnum h' (s.heap.objs.size + 1) s.heap.objs.size 0 .none → h'.IsTupleIter s.heap.objs.size l 0 → h'.objs.size = s.heap.objs.size + 2 →
      (∀ b o, s.heap.get? b = some o → h'.get? b = some o) → Q (.ref (s.heap.objs.size + 1)) { s with heap := h' }) :
    wpAny (model prog w) A (call (.type "enumerate") [.ref l]) Q E s := by
  obtain ⟨⟨c, dct, dt, sl⟩, hl, hc, n, hd⟩ := hL
  replace hc : c = .type "tuple" := hc
  replace hd : dt = .seq items n := hd
  subst hc hd
  refine callType_new F.called_enumerate (by decide) (F.typeCall_enumerate_1 _) (F.newCall_enumerate_1 _) (fun obj => F.args_object_init_2 obj _) F.entry_enumerate_new
    (meets_enumerate_newT l items n dct sl) ⟨hl, ?_⟩
  have hz : (s.heap.push { cls := .type "tuple_iterator", data := .fields #[.ref l, .int 0 0] }).objs.size = s.heap.objs.size + 1 := Heap.size_push ..
  show _ ∧ _
  rw [hz]
  have he : IsEnum ((s.heap.push { cls := .type "tuple_iterator", data := .fields #[.ref l, .int 0 0] }).push
      { cls := .type "enumerate", data := .fields #[.none, .bool false, .ref s.heap.objs.size, rawInt 0, .none, .none] }) (s.heap.objs.size + 1) s.heap.objs.size 0 .none := by
    have := Heap.get?_push_size (s.heap.push { cls := .type "tuple_iterator", data := .fields #[.ref l, .int 0 0] })
      (o := { cls := .type "enumerate", data := .fields #[.none, .bool false, .ref s.heap.objs.size, rawInt 0, .none, .none] }) rfl
    rw [hz] at this; exact this
  refine ⟨⟨_, he, rfl⟩, h _ he ⟨_, Heap.get?_push_of_some _ (Heap.get?_push_size _ rfl), rfl, rfl⟩ (by rw [Heap.size_push, hz]) fun b o x => Heap.get?_push_of_some _ (Heap.get?_push_of_some _ x)⟩
end
end PySem

namespace Pi
open PySem PySem.Spec PyProof.Rows L2
/-- the tuple at a, each item in a new pair -/
def IteT (K : PySem.W.Frag) (a : Addr) : L2.It :=
  ⟨fun i H => ∃ (xs : List V) (x : V), SqT K H a xs ∧ xs[i]? = some x, fun i H v H' => ∃ T x, v = .ref T ∧ H T = none ∧ H' = upd H T (.tup [.int (i : Nat), x]) ∧ ∀ xs, SqT K H a xs → xs[i]? = some x, fun i H => ∃ xs : List V, SqT K H a xs ∧ xs.length ≤ i⟩
theorem turn_enumT {P : Program} {w : World} {K : PySem.W.Frag} {elts : List Expr} {kk : Nat} {tpos : Pos} (a e it : Addr) :
    Turn P w K (.Tuple elts kk tpos) (IteT K a) [e, it] e (fun i h => (∃ old, IsEnum h e it ((i : Nat) : Int) old) ∧ h.IsTupleIter it a i ∧ e ≠ it ∧ a ≠ it ∧ a ≠ e) where
  mem := by simp
  obj := fun i h st b hb => by
    obtain ⟨⟨old, he⟩, ⟨o, ho, hc, hd⟩, _⟩ := st
    have e' : b = e ∨ b = it := by simpa using hb
    rcases e' with z | z
    · rw [z]; exact ⟨_, he, fun v q => nomatch q⟩
    · rw [z]; exact ⟨o, ho, fun v q => by rw [hd] at q; cases q⟩
  keep := fun i h h' st k => let ⟨⟨old, he⟩, hi, hne⟩ := st; ⟨⟨old, k e (by simp) _ he⟩, hi.at fun o q => k it (by simp) o q, hne⟩
  item := by
    intro X hP hw hK hc i pins s σ H E I hf st hg
    subst hP hw hK
    obtain ⟨⟨old, he⟩, hit, hne, hai, hae⟩ := st
    obtain ⟨xs, x, hq, hx⟩ := hg
    obtain ⟨its, rv, p, hz⟩ := I.tuple hq
    obtain ⟨u, hu, ru⟩ := rv.get hx
    have hel : e < s.heap.objs.size := Heap.lt_size he
    have hil : it < s.heap.objs.size := by obtain ⟨_, q, _⟩ := hit; exact Heap.lt_size q
    have hil' : i < its.toArray.size := by
      have := (List.getElem?_eq_some_iff.mp hu).1
      simpa using this
    refine wpAny_pyNext_enum_itemD (D := (Draws.tup (by show X.A.in1.handled = none; exact I.ok.hd hc) it a hai its.toArray)) he ⟨hit, show s.heap.IsTuple a its.toArray from p⟩ hil' hne (by simp [hne, Ne.symm hae]) fun x' h' tk hPx ho hst' hT hsz hk => ?_
    have ex : x' = u := by
      have h1 : its.toArray[i]? = some u := by simpa using hu
      have h2 : its.toArray[i]? = some x' := hPx
      rw [h1] at h2
      exact (Option.some.inj h2).symm
    subst ex
    have hit' := hst'.1
    refine ⟨_, rfl, wpAny_letOwnedTupleGo_enum (s := { s with heap := h', toks := tk + 1 }) ho fun h'' he' sb => ?_⟩
    have hT2 : h''.get? s.heap.objs.size = some { cls := .type "tuple", data := .seq #[.int i tk, x'] } := (sb.2 _ (Nat.ne_of_gt hel)).trans hT
    have new : ObjOk X.prog X.w (upd H s.heap.objs.size (.tup [.int (i : Nat), x])) h'' s.heap.objs.size (.tup [.int (i : Nat), x]) :=
      ⟨by show 2 ≤ sizeLine; decide, [.int i tk, x'], .cons ⟨_, rfl⟩ (.cons ru .nil), ⟨_, hT2, rfl, _, rfl⟩⟩
    have I1 : Inv X pins σ (upd H s.heap.objs.size (.tup [.int (i : Nat), x])) { s with heap := h'', toks := tk + 1 } :=
      I.turnedNew (ch := [e, it]) (fun b ob hb q => (sb.2 b (fun z => hb (by simp [z]))).trans (hk b ob (fun z => hb (by simp [z])) (fun z => hb (by simp [z])) q)) hf (Nat.le_refl _) new
    refine ⟨.ref s.heap.objs.size, _, I1, rfl, ⟨_, x, rfl, I.hok.fresh (Nat.le_refl _), rfl, fun ys hy => by rw [I.tuple_inj hy hq]; exact hx⟩, ⟨⟨x', ?_⟩, hit'.at fun o q => (sb.2 it (Ne.symm hne)).trans q, hne, hai, hae⟩, fun b hb => ?_⟩
    · have e1 : ((i + 1 : Nat) : Int) = (i : Int) + 1 := by omega
      rw [e1]; exact he'
    · have hb' : b < s.heap.objs.size := by
        have e' : b = e ∨ b = it := by simpa using hb
        rcases e' with z | z
        · rw [z]; exact hel
        · rw [z]; exact hil
      rw [upd_ne (Nat.ne_of_lt hb')]
      exact (hf b hb).1
  done := by
    intro X hP hw hK hc i pins s σ H E I hf st hg
    subst hP hw hK
    obtain ⟨⟨old, he⟩, hit, hne, hai, hae⟩ := st
    obtain ⟨xs, hq, hx⟩ := hg
    obtain ⟨its, rv, p, hz⟩ := I.tuple hq
    obtain ⟨f0, f1, f2, f3, f4, f5⟩ := hf it (by simp)
    have hl := rv.length
    have hin : its.toArray[i]? = none := by simp; omega
    have hT : s.TypeIs (.ref e) "enumerate" := ⟨_, he, rfl⟩
    unfold pyNext
    refine wpAny_bind (wpAny_attempt (wpAny_callSpecial?_slot (name := Str.ofString "__next__") hT F.slot_enumerate_next
      (wpAny_call_entry F.slot_enumerate_next hT F.entry_enumerate_next ?_ (F.args_enumerate_next_1 _))))
    show wpAny _ _ (field (.ref e) 2 >>= _) _ _ _
    refine wpAny_bind (wpAny_field he rfl (x := .ref it) rfl ?_)
    refine wpAny_bind (RZ.nextOf_tuple_end (by show X.A.in1.handled = none; exact I.ok.hd hc) hit (show s.heap.IsTuple a its.toArray from p) hin fun h' x he' hx' => ?_)
    obtain ⟨o, ho, hc'⟩ := hx'
    refine wpAny_bind (wpAny_isInstance (T := "StopIteration") (b := true) ⟨o, ho, hc'⟩ isSubtype_stop ?_)
    exact wpAny_pure ⟨rfl, I.turned (t' := s.toks) (fun b o hb q => he' b o hb q) f0 f1 f3 f4 f5⟩
  self := fun A i s Q E st h => let ⟨⟨_, he⟩, _⟩ := st; wpAny_pyIter_enum he h
def iEnumA (K : PySem.W.Frag) (ta : TA) : TI := fun σ H R => ta σ H fun vs H1 => ∃ a xs, vs = [.ref a] ∧ ((SqL K H1 a xs ∧ R (Ite K a) H1) ∨ (SqT K H1 a xs ∧ R (IteT K a) H1))
theorem pi_enumA {X : Cx} {e : Expr} {ta : TA} {p pos tpos : Pos} {elts : List Expr} {kk : Nat} (hg : Gl X "enumerate") (hm : X.mg "enumerate" = none) (ha : PA X [e] ta) (hs : starEach [e] X.env = [(false, eval e X.env)] := by rfl) :
    PI X (.Tuple elts kk tpos) (.Call (.Name "enumerate" p) [e] [] pos) (iEnumA X.K ta) := by
  refine ⟨fun pins s σ H R I h => ?_⟩
  refine Call_ (ld_blt I hg hm boot_enumerate (PyProof.Rows.callWith_type1 (thn (ha.run pos pins s σ H _ I h) fun us s1 ⟨vs, H1, I1, r1, q1⟩ => ?_) hs rfl))
  obtain ⟨a, xs, ex, q1⟩ := q1
  subst ex
  cases r1 with
  | cons r rr =>
    cases rr
    cases r
    have fresh : ∀ b, b ∈ [s1.heap.objs.size + 1, s1.heap.objs.size] → FpOk X pins H1 b := fun b hb => by
      have e' : b = s1.heap.objs.size + 1 ∨ b = s1.heap.objs.size := by simpa using hb
      have hle : s1.heap.objs.size ≤ b := by
        rcases e' with z | z
        · rw [z]; exact Nat.le_add_right _ _
        · rw [z]; exact Nat.le_refl _
      exact I1.fpOk hle (I1.hok.fresh hle)
    rcases q1 with ⟨hq, q⟩ | ⟨hq, q⟩
    · obtain ⟨its, rv, p', hz⟩ := I1.list hq
      refine call_enumerate_list p'.isList fun h' he hit hsz hk => wpAny_pyIter_enum he ?_
      have I2 : Inv X pins σ H1 { s1 with heap := h' } := I1.kept (t' := s1.toks) hk
      exact ⟨s1.heap.objs.size + 1, [s1.heap.objs.size + 1, s1.heap.objs.size], _, _, H1, rfl, I2, turn_enum a (s1.heap.objs.size + 1) s1.heap.objs.size, ⟨⟨.none, he⟩, hit, Nat.succ_ne_self _⟩, fresh, q⟩
    · obtain ⟨its, rv, p', hz⟩ := I1.tuple hq
      have hal : a < s1.heap.objs.size := p'.lt
      refine call_enumerate_tuple (show s1.heap.IsTuple a its.toArray from p') fun h' he hit hsz hk => wpAny_pyIter_enum he ?_
      have I2 : Inv X pins σ H1 { s1 with heap := h' } := I1.kept (t' := s1.toks) hk
      exact ⟨s1.heap.objs.size + 1, [s1.heap.objs.size + 1, s1.heap.objs.size], _, _, H1, rfl, I2, turn_enumT a (s1.heap.objs.size + 1) s1.heap.objs.size, ⟨⟨.none, he⟩, hit, Nat.succ_ne_self _, Nat.ne_of_lt hal, Nat.ne_of_lt (Nat.lt_succ_of_lt hal)⟩, fresh, q⟩
end Pi

/-! What the syntax does, as the evaluator says. -/
namespace Pi
open PySem PySem.Spec PyProof.Rows L2

/-! ### names -/
theorem slotOf_spec {c : CC} {x : Str} {i : Nat} (h : slotOf c x = some i) : c.N[i]? = some x ∧ plainName x = true := by
  unfold slotOf at h
  split at h
  · split at h
    · rename_i hc
      cases h
      exact hc
    · cases h
  · cases h
theorem plain_db {x : Str} (h : plainName x = true) : (x == ("__debug__" : Str)) = false := by
  unfold plainName at h
  simp only [Bool.and_eq_true, Bool.not_eq_true'] at h
  exact h.1.1
theorem plain_cd {x : Str} (h : plainName x = true) : (x == ("__classdict__" : Str)) = false := by
  unfold plainName at h
  simp only [Bool.and_eq_true, Bool.not_eq_true'] at h
  exact h.1.2
theorem plain_nm {x : Str} (h : plainName x = true) : x ≠ "__name__" := by
  unfold plainName at h
  simp only [Bool.and_eq_true, Bool.not_eq_true'] at h
  intro e
  have := h.2
  rw [e] at this
  simp at this
theorem isVis_spec {sc : Scope} {x : Str} (h : isVis sc x = true) : Vis sc x := by
  unfold isVis at h
  split at h
  · exact .inl (by assumption)
  · exact .inr (.inl (by assumption))
  · exact .inr (.inr (by assumption))
  · cases h
theorem isLoc_spec {sc : Scope} {x : Str} (h : isLoc sc x = true) : Loc sc x := by
  unfold isLoc at h
  split at h
  · exact .inl (by assumption)
  · exact .inr (by assumption)
  · cases h
theorem isGl_spec {sc : Scope} {x : Str} (h : isGl sc x = true) : sc.names.lookup x = some .globalImplicit := by
  unfold isGl at h
  split at h
  · assumption
  · cases h

/-! ### forms of what was compiled -/
theorem not_star {c : CC} {n : Nat} {sc : Scope} {e : Expr} {e' : E} (h : cE c n sc e = some e') : ∀ (es : List Expr) (env : PySem.Env), starEach (e :: es) env = (false, eval e env) :: starEach es env := by
  intro es env
  cases e with
  | Starred _ _ => rcases n with _ | _ | n <;> simp [cE, cR] at h
  | _ => rfl
theorem not_set {c : CC} {n : Nat} {sc : Scope} {e : Expr} {e' : E} (h : cE c n sc e = some e') (op : CmpOp) : behindInMarks op e = false := by
  cases e with
  | Set _ _ _ => rcases n with _ | _ | n <;> simp [cE, cR] at h
  | _ => rfl
theorem not_slice {c : CC} {n : Nat} {sc : Scope} {e : Expr} {e' : E} (h : cE c n sc e = some e') : PlainIx e := by
  intro o i
  cases e with
  | Slice _ _ _ _ => rcases n with _ | _ | n <;> simp [cE, cR] at h
  | _ => rfl
theorem not_setF {c : CC} {n : Nat} {sc : Scope} {e : Expr} {e' : E} (h : cE c n sc e = some e') (env : PySem.Env) (x : Value) : foldedSetIterable e env x = pure x := by
  cases e with
  | Set _ _ _ => rcases n with _ | _ | n <;> simp [cE, cR] at h
  | _ => rfl
theorem plain_all {c : CC} : ∀ {n : Nat} {sc : Scope} {es : List Expr} {es' : List E}, cEs c n sc es = some es' → ∀ (pos : Pos) (env : PySem.Env), (backTo pos (starEach es env)).any (·.1) = false
  | 0, _, _, _, h => by simp [cEs] at h
  | n + 1, sc, [], es', h => fun _ _ => rfl
  | n + 1, sc, e :: es, es', h => fun pos env => by
    simp only [cEs] at h
    split at h
    · rename_i x xs h1 h2
      rw [not_star h1 es env]
      show (false || (backTo pos (starEach es env)).any (·.1)) = false
      rw [plain_all h2 pos env, Bool.false_or]
    · cases h
theorem cEs_cons {c : CC} {n : Nat} {sc : Scope} {e : Expr} {es : List Expr} {l : List E} (h : cEs c (n + 1) sc (e :: es) = some l) : ∃ x xs, cE c n sc e = some x ∧ cEs c n sc es = some xs ∧ l = x :: xs := by
  simp only [cEs] at h
  split at h
  · rename_i x xs h1 h2
    cases h
    exact ⟨x, xs, h1, h2, rfl⟩
  · cases h
theorem cEs_nil {c : CC} {n : Nat} {sc : Scope} {l : List E} (h : cEs c n sc [] = some l) : l = [] := by
  cases n with
  | zero => simp [cEs] at h
  | succ n => simp [cEs] at h; exact h

/-! ### readings -/
section
variable (K : PySem.W.Frag) (C : Ctx)
def rE (e : E) : TE := fun σ H Q => ∃ m env S d S', RelSt K m S H ∧ RelEnv K m H env σ ∧ evE C e env S = .ok d S' ∧ Post K m H S' d Q
def rT (e : E) : TT := fun σ H Q => ∃ m env S b S', RelSt K m S H ∧ RelEnv K m H env σ ∧ evT C e env S = .ok b S' ∧ PostB K m H S' b Q
def PostA (K : PySem.W.Frag) (m : Mp) (H : Hp) (S' : Sto) (ds : List D) (Q : List V → Hp → Prop) : Prop := ∀ (m' : Mp) (vs : List V) (H' : Hp), Le m H m' H' → RelSt K m' S' H' → RelDs K m' H' ds vs → Q vs H'
def rA (es : List E) : TA := fun σ H Q => ∃ m env S ds S', RelSt K m S H ∧ RelEnv K m H env σ ∧ evEs C es env S = .ok ds S' ∧ PostA K m H S' ds Q
def rO (e : Option E) : TO := fun σ H Q => ∃ m env S o S' i, RelSt K m S H ∧ RelEnv K m H env σ ∧ evO C e env S = .ok o S' ∧ part o S' = .ok i S' ∧ ∀ (m' : Mp) (H' : Hp), Le m H m' H' → RelSt K m' S' H' → Q i H'
/-- what is walked, as the evaluator has it -/
def RelJ (m : Mp) (H : Hp) (J : Iter) (J' : L2.It) : Prop := ∀ (m1 : Mp) (H1 : Hp) (S1 : Sto), Lw m H m1 H1 → RelSt K m1 S1 H1 → ∀ i, match J.get i S1 with
  | .item d => J'.go i H1 ∧ ∀ x H2, J'.yld i H1 x H2 → Le m1 H1 m1 H2 ∧ RelSt K m1 S1 H2 ∧ RelD K m1 H2 d x
  | .stop => J'.stop i H1
  | .bad => True
def rI (it : It) : TI := fun σ H R => ∃ m env S J S', RelSt K m S H ∧ RelEnv K m H env σ ∧ evI C it env S = .ok J S' ∧ ∀ (m' : Mp) (H' : Hp) (J' : L2.It), Le m H m' H' → RelSt K m' S' H' → RelJ K m' H' J J' → R J' H'
end
section
variable {X : Cx} {K : PySem.W.Frag} {C : Ctx}
theorem PE.imp {e : Expr} {t t' : TE} (h : PE X e t) (i : ∀ σ H Q, t' σ H Q → t σ H Q) : PE X e t' := ⟨fun pins s σ H Q I hw => h.run pins s σ H Q I (i σ H Q hw)⟩
theorem PT.imp {e : Expr} {t t' : TT} (h : PT X e t) (i : ∀ σ H Q, t' σ H Q → t σ H Q) : PT X e t' := ⟨fun pins s σ H Q I hw => h.run pins s σ H Q I (i σ H Q hw)⟩
theorem PW.imp {e : Expr} {t t' : TT} (h : PW X e t) (i : ∀ σ H Q, t' σ H Q → t σ H Q) : PW X e t' := ⟨fun wh pins s σ H Q I hw => h.run wh pins s σ H Q I (i σ H Q hw)⟩
theorem PA.imp {es : List Expr} {t t' : TA} (h : PA X es t) (i : ∀ σ H Q, t' σ H Q → t σ H Q) : PA X es t' := ⟨fun pos pins s σ H Q I hw => h.run pos pins s σ H Q I (i σ H Q hw)⟩
theorem PO.imp {e : Option Expr} {t t' : TO} (h : PO X e t) (i : ∀ σ H Q, t' σ H Q → t σ H Q) : PO X e t' := ⟨fun pins s σ H Q I hw => h.run pins s σ H Q I (i σ H Q hw)⟩
theorem PI.imp {tg e : Expr} {t t' : TI} (h : PI X tg e t) (i : ∀ σ H Q, t' σ H Q → t σ H Q) : PI X tg e t' := ⟨fun pins s σ H Q I hw => h.run pins s σ H Q I (i σ H Q hw)⟩

/-- the rest, behind a part -/
theorem Post.use {m : Mp} {H : Hp} {S' : Sto} {d : D} {Q : VK} (h : ∀ (m' : Mp) (v : V) (H' : Hp), Le m H m' H' → RelSt K m' S' H' → RelD K m' H' d v → Q v H') : Post K m H S' d Q := h
theorem Post.le {m m1 : Mp} {H H1 : Hp} {S' : Sto} {d : D} {Q : VK} (p : Post K m H S' d Q) (l : Le m H m1 H1) : Post K m1 H1 S' d Q := fun m' v H' l' => p m' v H' (l.trans l')
theorem PostB.le {m m1 : Mp} {H H1 : Hp} {S' : Sto} {b : Bool} {Q : Bool → Hp → Prop} (p : PostB K m H S' b Q) (l : Le m H m1 H1) : PostB K m1 H1 S' b Q := fun m' H' l' => p m' H' (l.trans l')
theorem PostA.le {m m1 : Mp} {H H1 : Hp} {S' : Sto} {ds : List D} {Q : List V → Hp → Prop} (p : PostA K m H S' ds Q) (l : Le m H m1 H1) : PostA K m1 H1 S' ds Q := fun m' vs H' l' => p m' vs H' (l.trans l')
end

def blNames : List Str := ["len", "int", "str", "list", "tuple", "sorted", "min", "max", "sum", "abs", "all", "any", "isinstance", "range", "enumerate", "zip", "bool", "dict", "reversed", "set"]
structure Facts (K : PySem.W.Frag) (mg : Str → Option Value) (T : Tb) (c : CC) : Prop where
  bl : ∀ x ∈ blNames, c.fns.contains x = false → c.gls.contains x = false → mg x = none
  gl : ∀ x, c.gls.contains x = true → ∃ d v u, T.gl.lookup x = some d ∧ mg x = some u ∧ RelV v u ∧ ∀ m H, RelD K m H d v
def spE (K : PySem.W.Frag) (T : Tb) (k : Nat) (f : Str) : Sp := fun vs H Q _ => ∃ m S ds d S', RelSt K m S H ∧ RelDs K m H ds vs ∧ callK T k f ds S = .ok d S' ∧ Post K m H S' d Q
structure CallsOk (P : Program) (w : World) (K : PySem.W.Frag) (mg : Str → Option Value) (base : Heap) (T : Tb) (k : Nat) (c : CC) : Prop where
  fn : ∀ f, c.fns.contains f = true → ∃ (ps : List Str) (fa : Addr) (fd : FuncData), mg f = some (.ref fa) ∧ PySem.W.keepIn K (.ref fa) = true ∧ Binds K fd ps [] ∧ FnOk P w K mg base CX0 k fa fd ps (spE K T k f)

structure Good (T : Tb) (k : Nat) (c : CC) (sc : Scope) (X : Cx) : Prop where
  nm : X.N = c.N
  sco : X.env.scope = sc
  calm : X.calm = true
  room : Room k X.A
  nd : X.N.Nodup
  facts : Facts X.K X.mg T c
  calls : CallsOk X.prog X.w X.K X.mg X.base T k c
theorem Good.hu {T : Tb} {k : Nat} {c : CC} {sc : Scope} {X : Cx} (G : Good T k c sc X) : X.A.units + 65 < cLine := by
  have := G.room.un
  omega
theorem bi_all : ∀ p ∈ biTable, (bootBuiltins p.1 == some (biV p.2)) = true ∧ p.1 ∈ blNames := by decide +kernel
theorem ty_all : ∀ p ∈ tyTable, (bootBuiltins p.1 == some (.type p.2)) = true ∧ p.1 ∈ blNames ∧ p.2 ∈ tyR := by decide +kernel
theorem bi_boot (f : BI) (x : Str) (h : biOf x = some f) : bootBuiltins x = some (biV f) ∧ x ∈ blNames := by
  obtain ⟨a, b⟩ := bi_all (x, f) (PySem.mem_of_lookup h)
  exact ⟨by simpa using a, b⟩
theorem ty_boot (x : Str) (t : String) (h : tyNameOf x = some t) : bootBuiltins x = some (.type t) ∧ x ∈ blNames ∧ t ∈ tyR := by
  obtain ⟨a, b, c⟩ := ty_all (x, t) (PySem.mem_of_lookup h)
  exact ⟨by simpa using a, b, c⟩
end Pi

/-! What was made is made fast: nothing of the machine changes, only what is known of it. -/
namespace Pi
open PySem PySem.Spec PyProof.Rows L2

/-- what may be made fast -/
def canFz : HO → Bool
  | .lst _ => true
  | .dK _ => true
  | .dT _ => true
  | _ => false
/-- the objects at as are known from now on -/
def FrzTo (as : Addr → Prop) (H H2 : Hp) : Prop := ∀ b, (¬ as b → H2 b = H b) ∧ (as b → ∃ o u, H b = some u ∧ canFz u = true ∧ H2 b = some (.frz o u))
section
variable {X : Cx} {pins : List (Addr × Obj)} {σ : L2.St} {H H2 : Hp} {s : Shared}
theorem FrzTo.fix {as : Addr → Prop} (f : FrzTo as H H2) {b : Addr} {u : HO} (e : H b = some u) (h : canFz u = false) : H2 b = some u := by
  have hn : ¬ as b := fun z => by
    obtain ⟨o, v, e1, c, _⟩ := (f b).2 z
    rw [e] at e1
    cases e1
    rw [h] at c
    cases c
  rw [(f b).1 hn, e]
theorem FrzTo.none {as : Addr → Prop} (f : FrzTo as H H2) {b : Addr} (e : H b = Option.none) : H2 b = Option.none := by
  have hn : ¬ as b := fun z => by
    obtain ⟨o, v, e1, c, _⟩ := (f b).2 z
    rw [e] at e1
    cases e1
  rw [(f b).1 hn, e]
theorem Un.frz {fs ex : List Addr} {h : Heap} {as : Addr → Prop} (f : FrzTo as H H2) : Un fs ex H H2 h h where
  keep := fun b u q _ _ _ => q
  slot := fun b u q _ _ _ => ⟨u.slots, q⟩
  free := fun b u q n _ => f.none n
  there := fun b u q _ => ⟨u, q⟩
  tups := fun b xs q => f.fix q rfl
  frzs := fun b u xs q => f.fix q rfl
  tbls := fun b ps q => ⟨#[], by rw [f.fix q rfl]; simp⟩
/-- the known objects are as they stand -/
def FrzAt (h : Heap) (as : Addr → Prop) (H2 : Hp) : Prop := ∀ b, as b → ∃ o u, H2 b = some (.frz o u) ∧ h.get? b = some o
theorem Inv.frz {as : Addr → Prop} (I : L2.Inv X pins σ H s) (f : FrzTo as H H2) (ft : FrzAt s.heap as H2) : L2.Inv X pins σ H2 s where
  ok := I.ok
  os := I.os
  bare := I.bare
  base := I.base.trans (Un.frz f)
  loc := I.loc
  cell := I.cell
  free := f.none I.free
  freeC := fun x c e => f.none (I.freeC x c e)
  pin := fun p hp => let ⟨a, b, c, d, e⟩ := I.pin p hp; ⟨a, f.none b, c, d, e⟩
  hok := fun b u e => by
    have own : ∀ b c, H c = some (.own b) → H2 c = some (.own b) := fun b c q => f.fix q rfl
    have tup : ∀ c xs, H c = some (.tup xs) → H2 c = some (.tup xs) := fun c xs q => f.fix q rfl
    by_cases hb : as b
    · obtain ⟨o, v, e1, e2⟩ := ft b hb
      obtain ⟨o', w, f1, f2, f3⟩ := (f b).2 hb
      rw [e] at e1 f3
      cases e1
      cases f3
      exact ⟨e2, (I.hok b _ f1).stay (fun c y _ q => q) (fun c q => own _ c q) (fun c xs q => tup c xs q)⟩
    · have e1 : H b = some u := by rw [← (f b).1 hb]; exact e
      exact (I.hok b u e1).stay (fun c y _ q => q) (fun c q => own _ c q) (fun c xs q => tup c xs q)
  len := I.len
open Classical in
theorem frz_ex {as : Addr → Prop} (h : Heap) (ok : ∀ b u, H b = some u → ∃ o, h.get? b = some o) (ha : ∀ b, as b → ∃ u, H b = some u ∧ canFz u = true) : ∃ H2, FrzTo as H H2 ∧ FrzAt h as H2 := by
  refine ⟨fun b => if as b then (match H b, h.get? b with | some u, some o => some (.frz o u) | _, _ => Option.none) else H b, fun b => ⟨fun n => by simp only [n, if_false], fun n => ?_⟩, fun b n => ?_⟩
  · obtain ⟨u, e, c⟩ := ha b n
    obtain ⟨o, eo⟩ := ok b u e
    refine ⟨o, u, e, c, ?_⟩
    simp only [n, if_true, e, eo]
  · obtain ⟨u, e, c⟩ := ha b n
    obtain ⟨o, eo⟩ := ok b u e
    refine ⟨o, u, ?_, eo⟩
    simp only [n, if_true, e, eo]
theorem objThere {P : Program} {w : World} {H : Hp} {h : Heap} {a : Addr} : ∀ {o : HO}, ObjOk P w H h a o → ∃ ob, h.get? a = some ob
  | .lst _, x => by obtain ⟨_, _, _, _, e⟩ := x; exact ⟨_, e⟩
  | .tup _, x => by obtain ⟨_, _, _, ob, e, _⟩ := x; exact ⟨_, e⟩
  | .dK _, x => by obtain ⟨_, _, _, _, o, _, _, e, _⟩ := x; exact ⟨_, e⟩
  | .dT _, x => by obtain ⟨_, _, _, _, o, _, _, e, _⟩ := x; exact ⟨_, e⟩
  | .set _ _, x => by obtain ⟨o, _, _, _, e, _⟩ := x; exact ⟨_, e⟩
  | .ins _ _ _, x => by obtain ⟨_, _, _, e, _⟩ := x; exact ⟨_, e⟩
  | .own _, x => x
  | .xd _, x => by obtain ⟨_, ⟨_, _, _, e, _⟩, _⟩ := x; exact ⟨_, e⟩
  | .rng _ _, x => by obtain ⟨_, _, _, e⟩ := x; exact ⟨_, e⟩
  | .frz _ _, x => by obtain ⟨e, _⟩ := x; exact ⟨_, e⟩
  | .tbl _, x => ⟨_, (show h.get? a = some _ from x)⟩
  | .met _ _, x => ⟨_, (show h.get? a = some _ from x)⟩
  | .ext _, x => by obtain ⟨_, e, _⟩ := x; exact e
theorem Inv.objs (I : L2.Inv X pins σ H s) : ∀ b u, H b = some u → ∃ o, s.heap.get? b = some o := fun b u e => objThere (I.hok b u e)
/-- the wish with known objects -/
def QFz (Q : VK) : VK := fun v H => ∃ as : Addr → Prop, (∀ b, as b → ∃ u, H b = some u ∧ canFz u = true) ∧ ∀ H2, FrzTo as H H2 → Q v H2
theorem EP.frz {Q : VK} {u : Value} (h : EP X pins σ (QFz Q) u s) : EP X pins σ Q u s := by
  obtain ⟨v, H1, I, r, as, ha, q⟩ := h
  obtain ⟨H2, f, ft⟩ := frz_ex s.heap (Inv.objs I) ha
  exact ⟨v, H2, Inv.frz I f ft, r, q H2 f⟩
theorem PE.frz {e : Expr} {t : TE} (h : PE X e t) : PE X e (fun σ H Q => t σ H (QFz Q)) :=
  ⟨fun pins s σ H Q I hw => wpAny_mono (h.run pins s σ H (QFz Q) I hw) (fun u s' z => EP.frz z) fun _ _ z => z⟩
end

/-! ### the store's part -/
def resM (m : Mp) (n : Nat) : Mp := fun i => if i < n then m i else none
def newAt (m : Mp) (n : Nat) : Addr → Prop := fun b => ∃ i, n ≤ i ∧ m i = some b
section
variable {K : PySem.W.Frag} {m m1 : Mp} {H H1 H2 : Hp} {S S1 : Sto} {n : Nat}
mutual
theorem relD_fine (h : ∀ i a, m i = some a → i < n) : ∀ {d : D} {v : V}, RelD K m H d v → fine n d = true
  | .non, _, _ => rfl
  | .bl _, _, _ => rfl
  | .int _, _, _ => rfl
  | .str _, _, _ => rfl
  | .tup l, v, r => by
    rw [RelD] at r
    obtain ⟨a, xs, e, q, rs⟩ := r
    rw [fine]
    exact relDs_fine h rs
  | .clst l, v, r => by
    rw [RelD] at r
    obtain ⟨a, xs, e, q, rs⟩ := r
    rw [fine]
    exact relDs_fine h rs
  | .ref i, v, r => by
    rw [RelD] at r
    obtain ⟨a, e, q⟩ := r
    rw [fine]
    exact decide_eq_true (h i a q)
  | .rng _ _, _, _ => rfl
  | .cdic t ks vs, v, r => by
    rw [RelD] at r
    obtain ⟨a, xs, e, q, rs, _⟩ := r
    rw [fine]
    exact relDs_fine h rs
theorem relDs_fine (h : ∀ i a, m i = some a → i < n) : ∀ {ds : List D} {vs : List V}, RelDs K m H ds vs → fines n ds = true
  | [], _, _ => rfl
  | d :: ds, vs, r => by
    rw [RelDs] at r
    obtain ⟨v, vs', e, r, rs⟩ := r
    rw [fines, relD_fine h r, relDs_fine h rs]
    rfl
end
mutual
theorem fine_rel (f : FrzTo (newAt m1 n) H1 H2) : ∀ {d : D} {v : V}, fine n d = true → RelD K m1 H1 d v → RelD K (resM m1 n) H2 d v
  | .non, _, _, r => by simpa [RelD] using r
  | .bl _, _, _, r => by simpa [RelD] using r
  | .int _, _, _, r => by simpa [RelD] using r
  | .str _, _, _, r => by simpa [RelD] using r
  | .tup l, v, h, r => by
    rw [fine] at h
    rw [RelD] at r ⊢
    obtain ⟨a, xs, e, q, rs⟩ := r
    exact ⟨a, xs, e, q.elim (fun z => .inl (f.fix z rfl)) .inr, fine_rels f h rs⟩
  | .clst l, v, h, r => by
    rw [fine] at h
    rw [RelD] at r ⊢
    obtain ⟨a, xs, e, q, rs⟩ := r
    exact ⟨a, xs, e, q.elim (fun ⟨o, z⟩ => .inl ⟨o, f.fix z rfl⟩) .inr, fine_rels f h rs⟩
  | .ref i, v, h, r => by
    rw [fine] at h
    rw [RelD] at r ⊢
    obtain ⟨a, e, q⟩ := r
    refine ⟨a, e, ?_⟩
    unfold resM
    rw [if_pos (of_decide_eq_true h)]
    exact q
  | .rng lo hi, v, _, r => by
    rw [RelD] at r ⊢
    obtain ⟨a, e, q⟩ := r
    exact ⟨a, e, f.fix q rfl⟩
  | .cdic t ks vs, v, h, r => by
    rw [fine] at h
    rw [RelD] at r ⊢
    obtain ⟨a, xs, e, ⟨o, q⟩, rs, r2⟩ := r
    exact ⟨a, xs, e, ⟨o, f.fix q rfl⟩, fine_rels f h rs, r2⟩
theorem fine_rels (f : FrzTo (newAt m1 n) H1 H2) : ∀ {ds : List D} {vs : List V}, fines n ds = true → RelDs K m1 H1 ds vs → RelDs K (resM m1 n) H2 ds vs
  | [], _, _, r => by simpa [RelDs] using r
  | d :: ds, vs, h, r => by
    rw [fines, Bool.and_eq_true] at h
    rw [RelDs] at r ⊢
    obtain ⟨v, vs', e, r, rs⟩ := r
    exact ⟨v, vs', e, fine_rel f h.1 r, fine_rels f h.2 rs⟩
end
theorem frz_rels {g : D → Option D} (h : ∀ d v d', RelD K m1 H1 d v → g d = some d' → RelD K (resM m1 n) H2 d' v) : ∀ {ds : List D} {vs : List V} {ds' : List D}, RelDs K m1 H1 ds vs → ds.mapM g = some ds' → RelDs K (resM m1 n) H2 ds' vs
  | [], _, _, r, e => by
    rw [RelDs] at r
    simp at e
    subst r e
    exact relDs_nil
  | d :: ds, vs, ds', r, e => by
    rw [RelDs] at r
    obtain ⟨v, vs', e1, r, rs⟩ := r
    obtain ⟨y, q, h1, h2, h3⟩ := mapM_cons_some e
    subst e1 h3
    exact relDs_cons (h d v y r h1) (frz_rels h rs h2)
theorem mapM_len {α β : Type} {g : α → Option β} : ∀ {l : List α} {l' : List β}, l.mapM g = some l' → l'.length = l.length
  | [], _, e => by simp at e; subst e; rfl
  | d :: l, _, e => by
    obtain ⟨y, q, h1, h2, h3⟩ := mapM_cons_some e
    subst h3
    rw [List.length_cons, List.length_cons, mapM_len h2]
theorem frz_rel (st : RelSt K m1 S1 H1) (f : FrzTo (newAt m1 n) H1 H2) : ∀ (k : Nat) (d : D) (v : V) (d' : D), RelD K m1 H1 d v → frzD k n S1 d = some d' → RelD K (resM m1 n) H2 d' v
  | 0, _, _, _, _, e => by simp [frzD] at e
  | k + 1, .tup l, v, d', r, e => by
    simp only [frzD, Option.map_eq_some_iff] at e
    obtain ⟨l', e, rfl⟩ := e
    rw [RelD] at r ⊢
    obtain ⟨a, xs, e1, q, rs⟩ := r
    exact ⟨a, xs, e1, q.elim (fun z => .inl (f.fix z rfl)) .inr, frz_rels (fun d v d' => frz_rel st f k d v d') rs e⟩
  | k + 1, .clst l, v, d', r, e => by
    simp only [frzD, Option.map_eq_some_iff] at e
    obtain ⟨l', e, rfl⟩ := e
    rw [RelD] at r ⊢
    obtain ⟨a, xs, e1, q, rs⟩ := r
    exact ⟨a, xs, e1, q.elim (fun ⟨o, z⟩ => .inl ⟨o, f.fix z rfl⟩) .inr, frz_rels (fun d v d' => frz_rel st f k d v d') rs e⟩
  | k + 1, .ref i, v, d', r, e => by
    simp only [frzD] at e
    rw [RelD] at r
    obtain ⟨a, e1, q⟩ := r
    by_cases hi : i < n
    · rw [if_pos hi] at e
      cases e
      rw [RelD]
      refine ⟨a, e1, ?_⟩
      unfold resM
      rw [if_pos hi]
      exact q
    · rw [if_neg hi] at e
      split at e
      · rename_i l hl
        simp only [Option.map_eq_some_iff] at e
        obtain ⟨l', e, rfl⟩ := e
        obtain ⟨xs, hx, rs⟩ := st.lst q hl
        obtain ⟨o, u, g1, g2, g3⟩ := (f a).2 ⟨i, by omega, q⟩
        rw [hx] at g1
        cases g1
        rw [RelD]
        exact ⟨a, xs, e1, .inl ⟨o, g3⟩, frz_rels (fun d v d' => frz_rel st f k d v d') rs e⟩
      · rename_i t ks vs hl
        simp only [Option.map_eq_some_iff] at e
        obtain ⟨l', e, rfl⟩ := e
        obtain ⟨xs, hx, rs, hk, hok⟩ := st.dic q hl
        obtain ⟨o, u, g1, g2, g3⟩ := (f a).2 ⟨i, by omega, q⟩
        rw [hx] at g1
        cases g1
        rw [RelD]
        exact ⟨a, xs, e1, ⟨o, g3⟩, frz_rels (fun d v d' => frz_rel st f k d v d') rs e, by rw [hk, mapM_len e], hok⟩
      · cases e
  | k + 1, .cdic t ks vs, v, d', r, e => by
    simp only [frzD, Option.map_eq_some_iff] at e
    obtain ⟨l', e, rfl⟩ := e
    rw [RelD] at r ⊢
    obtain ⟨a, xs, e1, ⟨o, q⟩, rs, hk, hok⟩ := r
    exact ⟨a, xs, e1, ⟨o, f.fix q rfl⟩, frz_rels (fun d v d' => frz_rel st f k d v d') rs e, by rw [hk, mapM_len e], hok⟩
  | k + 1, .non, v, d', r, e => by simp [frzD] at e; subst e; simpa [RelD] using r
  | k + 1, .bl _, v, d', r, e => by simp [frzD] at e; subst e; simpa [RelD] using r
  | k + 1, .int _, v, d', r, e => by simp [frzD] at e; subst e; simpa [RelD] using r
  | k + 1, .str _, v, d', r, e => by simp [frzD] at e; subst e; simpa [RelD] using r
  | k + 1, .rng lo hi, v, d', r, e => by
    simp [frzD] at e
    subst e
    rw [RelD] at r ⊢
    obtain ⟨a, e, q⟩ := r
    exact ⟨a, e, f.fix q rfl⟩
theorem canFz_at (st : RelSt K m1 S1 H1) : ∀ b, newAt m1 n b → ∃ u, H1 b = some u ∧ canFz u = true := fun b ⟨i, _, e⟩ => by
  obtain ⟨o, ho, q⟩ := st.at e
  cases o with
  | lst l =>
    obtain ⟨xs, hx, _⟩ := q
    exact ⟨_, hx, rfl⟩
  | dic t ks vs =>
    obtain ⟨xs, hx, _⟩ := q
    exact ⟨_, hx, by unfold hoD; cases t <;> rfl⟩
  | ins _ _ => exact q.elim
theorem Le.frz (st : RelSt K m S H) (st1 : RelSt K m1 S1 H1) (l : Le m H m1 H1) (f : FrzTo (newAt m1 S.length) H1 H2) : Le m H (resM m1 S.length) H2 := by
  have old : ∀ a o, H a = some o → ¬ newAt m1 S.length a := fun a o e ⟨i, hi, q⟩ => by
    by_cases hm : ∃ j, m j = some a
    · obtain ⟨j, hj⟩ := hm
      have h1 := st1.inj i j a q (l.mp j a hj)
      have h2 := st.dom j a hj
      omega
    · exact (l.keep a o e fun j hj => hm ⟨j, hj⟩).2 i q
  refine ⟨⟨fun i a e => ?_, fun a o hf e => ?_⟩, fun a o e hn => ?_⟩
  · unfold resM
    rw [if_pos (st.dom i a e)]
    exact l.mp i a e
  · rw [(f a).1 (old a o e)]
    exact l.fix a o hf e
  · obtain ⟨h1, h2⟩ := l.keep a o e hn
    refine ⟨by rw [(f a).1 (old a o e)]; exact h1, fun i hi => ?_⟩
    unfold resM at hi
    split at hi
    · exact h2 i hi
    · cases hi
theorem RelSt.frz (st : RelSt K m S H) (st1 : RelSt K m1 S1 H1) (f : FrzTo (newAt m1 S.length) H1 H2) (kp : Kept S S1) : RelSt K (resM m1 S.length) (S1.take S.length) H2 := by
  have md : ∀ i a, resM m1 S.length i = some a → i < S.length ∧ m1 i = some a := fun i a e => by
    unfold resM at e
    split at e
    · exact ⟨by assumption, e⟩
    · cases e
  refine ⟨fun i a e => ?_, fun i j a e e' => ?_, fun i o e => ?_⟩
  · have h1 := (md i a e).1
    have h2 := kp.1
    rw [List.length_take]
    omega
  · exact st1.inj i j a (md i a e).2 (md j a e').2
  · rw [List.getElem?_take] at e
    split at e
    · rename_i hi
      obtain ⟨a, ha, q⟩ := st1.ob i o e
      refine ⟨a, by unfold resM; rw [if_pos hi]; exact ha, ?_⟩
      have na : ¬ newAt m1 S.length a := fun ⟨j, hj, q⟩ => by
        have := st1.inj i j a ha q
        omega
      have hfo : fineO S.length o = true := by
        rcases kp.2 i o hi e with h | h
        · obtain ⟨b, hb, r⟩ := st.ob i o h
          cases o with
          | lst l =>
            obtain ⟨xs, _, rs⟩ := r
            exact relDs_fine (fun i a e => st.dom i a e) rs
          | dic t ks vs =>
            obtain ⟨xs, _, rs, _⟩ := r
            exact relDs_fine (fun i a e => st.dom i a e) rs
          | ins _ _ => exact r.elim
        · exact h
      cases o with
      | lst l =>
        obtain ⟨xs, hx, rs⟩ := q
        exact ⟨xs, by rw [(f a).1 na]; exact hx, fine_rels f hfo rs⟩
      | dic t ks vs =>
        obtain ⟨xs, hx, rs, r2⟩ := q
        exact ⟨xs, by rw [(f a).1 na]; exact hx, fine_rels f hfo rs, r2⟩
      | ins _ _ => exact q.elim
    · cases e
theorem fzM_inv {mm : M D} {d' : D} {S2 : Sto} (h : fzM mm S = .ok d' S2) : ∃ d S1, mm S = .ok d S1 ∧ Kept S S1 ∧ frzD depthP S.length S1 d = some d' ∧ S2 = S1.take S.length := by
  unfold fzM at h
  split at h
  · rename_i d S1 e
    split at h
    · rename_i hk
      split at h
      · rename_i d2 hd
        cases h
        exact ⟨d, S1, e, hk, hd, rfl⟩
      · cases h
    · cases h
  · split at h <;> cases h
  · cases h
/-- what is made fast, behind what made it -/
theorem post_fz {mm : M D} {d' : D} {S2 : Sto} {Q : VK} (st : RelSt K m S H) (h : fzM mm S = .ok d' S2) (p : Post K m H S2 d' Q) : ∃ d S1, mm S = .ok d S1 ∧ Post K m H S1 d (QFz Q) := by
  obtain ⟨d, S1, e1, kp, ef, rfl⟩ := fzM_inv h
  refine ⟨d, S1, e1, fun m1 v H1 l1 st1 r1 => ⟨newAt m1 S.length, canFz_at st1, fun H2 f => ?_⟩⟩
  exact p _ v H2 (Le.frz st st1 l1 f) (RelSt.frz st st1 f kp) (frz_rel st1 f depthP d v d' r1 ef)
end
section
variable {X : Cx} {T : Tb} {k : Nat}
theorem s_fz {e : Expr} {e' : E} (h : PE X e (rE X.K (T.ctx k) e')) : PE X e (rE X.K (T.ctx k) (.fz e')) := by
  refine PE.imp (PE.frz h) fun σ H Q ⟨m, env, S, d, S', st, re, e, p⟩ => ?_
  rw [evE] at e
  obtain ⟨d0, S1, e1, p1⟩ := post_fz st e p
  exact ⟨m, env, S, d0, S1, st, re, e1, p1⟩
end
end Pi

/-! Each construct of an expression. -/
namespace Pi
open PySem PySem.Spec PyProof.Rows L2
section
variable {X : Cx} {T : Tb} {k : Nat} {c : CC} {sc : Scope}

theorem gl_of (G : Good T k c sc X) {x : Str} (h : isGl sc x = true) : Gl X x := by
  show X.env.scope.names.lookup x = _
  rw [G.sco]
  exact isGl_spec h
theorem s_var (G : Good T k c sc X) {x : Str} {i : Nat} {pos : Pos} (h1 : isVis sc x = true) (h2 : slotOf c x = some i) : PE X (.Name x pos) (rE X.K (T.ctx k) (.var i)) := by
  obtain ⟨a, b⟩ := slotOf_spec h2
  refine PE.imp (pe_var (i := i) (by rw [G.nm]; exact a) (by rw [G.sco]; exact isVis_spec h1) (plain_db b) (plain_cd b)) fun σ H Q ⟨m, env, S, d, S', st, re, e, p⟩ => ?_
  rw [evE] at e
  dsimp only at e
  split at e
  · rename_i d' hd
    cases e
    obtain ⟨v, hv, r⟩ := re.2 i d hd
    exact ⟨v, hv, p.same st r⟩
  · cases e
theorem s_glob (G : Good T k c sc X) {x : Str} {pos : Pos} (h1 : isGl sc x = true) (h2 : c.gls.contains x = true) (h3 : plainName x = true) : PE X (.Name x pos) (rE X.K (T.ctx k) (.glob x)) := by
  obtain ⟨d, v, u, e1, e2, r, rd⟩ := G.facts.gl x h2
  refine PE.imp (pe_glob (gl_of G h1) e2 r (plain_db h3)) fun σ H Q ⟨m, env, S, d', S', st, re, e, p⟩ => ?_
  rw [evE] at e
  have e' : (T.ctx k).gl x = some d := e1
  rw [e'] at e
  cases e
  exact p.same st (rd m H)
theorem s_lit {d : D} {v : V} {e : Expr} (h : PE X e (tC v)) (r : ∀ m H, RelD X.K m H d v) : PE X e (rE X.K (T.ctx k) (.lit d)) := by
  refine PE.imp h fun σ H Q ⟨m, env, S, d', S', st, re, e, p⟩ => ?_
  rw [evE] at e
  obtain ⟨rfl, rfl⟩ := pureOk e
  exact p.same st (r m H)
theorem s_bin {a b : Expr} {a' b' : E} {o : BOp} {op : Operator} {pos : Pos} (ho : bopOf op = some o) (ha : PE X a (rE X.K (T.ctx k) a')) (hb : PE X b (rE X.K (T.ctx k) b')) : PE X (.BinOp a op b pos) (rE X.K (T.ctx k) (.bin o a' b')) := by
  rw [opTo_of ho]
  refine PE.imp (pe_op (op_bin o) ha hb) fun σ H Q ⟨m, env, S, d, S', st, re, e, p⟩ => ?_
  rw [evE] at e
  obtain ⟨x, S1, e1, e2⟩ := bindOk e
  obtain ⟨y, S2, e3, e4⟩ := bindOk e2
  exact ⟨m, env, S, x, S1, st, re, e1, fun m1 v1 H1 l1 st1 r1 => ⟨m1, env, S1, y, S2, st1, re.mono l1, e3, fun m2 v2 H2 l2 st2 r2 => ⟨m2, S2, x, y, d, S', st2, r1.mono l2, r2, e4, p.le (l1.trans l2)⟩⟩⟩
theorem s_neg {a : Expr} {a' : E} {pos : Pos} (ha : PE X a (rE X.K (T.ctx k) a')) : PE X (.UnaryOp .USub a pos) (rE X.K (T.ctx k) (.neg a')) := by
  refine PE.imp (pe_un un_neg ha) fun σ H Q ⟨m, env, S, d, S', st, re, e, p⟩ => ?_
  rw [evE] at e
  obtain ⟨x, S1, e1, e2⟩ := bindOk e
  refine ⟨m, env, S, x, S1, st, re, e1, fun m1 v1 H1 l1 st1 r1 => ?_⟩
  cases x with
  | int i =>
    obtain ⟨rfl, rfl⟩ := pureOk e2
    exact ⟨i, relD_int r1, (p.le l1).same st1 (by rw [RelD])⟩
  | _ => cases e2
theorem s_not {a : Expr} {a' : E} {pos : Pos} (ha : PE X a (rE X.K (T.ctx k) a')) : PE X (.UnaryOp .Not a pos) (rE X.K (T.ctx k) (.not a')) := by
  refine PE.imp (pe_notT ha) fun σ H Q ⟨m, env, S, d, S', st, re, e, p⟩ => ?_
  rw [evE] at e
  obtain ⟨x, S1, e1, e2⟩ := bindOk e
  obtain ⟨b, S2, e3, e4⟩ := bindOk e2
  obtain ⟨rfl, rfl⟩ := pureOk e4
  exact ⟨m, env, S, x, S1, st, re, e1, fun m1 v1 H1 l1 st1 r1 => tru_imp (Q := fun k H1 => Q (.bl (!k)) H1) ⟨m1, S1, x, b, S2, st1, r1, e3, fun m2 H2 l2 st2 => p m2 _ H2 (l1.trans l2) st2 (by rw [RelD])⟩⟩
theorem s_and1 {a b : Expr} {rest : List Expr} {a' b' : E} {pos : Pos} (ha : PE X a (rE X.K (T.ctx k) a')) (hb : PE X (.BoolOp .And (b :: rest) pos) (rE X.K (T.ctx k) b')) : PE X (.BoolOp .And (a :: b :: rest) pos) (rE X.K (T.ctx k) (.and a' b')) := by
  refine PE.imp (pe_andT ha hb) fun σ H Q ⟨m, env, S, d, S', st, re, e, p⟩ => ?_
  rw [evE] at e
  obtain ⟨x, S1, e1, e2⟩ := bindOk e
  obtain ⟨t, S2, e3, e4⟩ := bindOk e2
  refine ⟨m, env, S, x, S1, st, re, e1, fun m1 v1 H1 l1 st1 r1 => tru_imp (Q := fun k H2 => if k = true then rE X.K (T.ctx _) b' σ H2 Q else Q v1 H2) ⟨m1, S1, x, t, S2, st1, r1, e3, fun m2 H2 l2 st2 => ?_⟩⟩
  cases t with
  | true => exact ⟨m2, env, S2, d, S', st2, re.mono (l1.trans l2), e4, p.le (l1.trans l2)⟩
  | false =>
    obtain ⟨rfl, rfl⟩ := pureOk e4
    exact p m2 v1 H2 (l1.trans l2) st2 (r1.mono l2)
theorem s_or1 {a b : Expr} {rest : List Expr} {a' b' : E} {pos : Pos} (ha : PE X a (rE X.K (T.ctx k) a')) (hb : PE X (.BoolOp .Or (b :: rest) pos) (rE X.K (T.ctx k) b')) : PE X (.BoolOp .Or (a :: b :: rest) pos) (rE X.K (T.ctx k) (.or a' b')) := by
  refine PE.imp (pe_orT ha hb) fun σ H Q ⟨m, env, S, d, S', st, re, e, p⟩ => ?_
  rw [evE] at e
  obtain ⟨x, S1, e1, e2⟩ := bindOk e
  obtain ⟨t, S2, e3, e4⟩ := bindOk e2
  refine ⟨m, env, S, x, S1, st, re, e1, fun m1 v1 H1 l1 st1 r1 => tru_imp (Q := fun k H2 => if k = true then Q v1 H2 else rE X.K (T.ctx _) b' σ H2 Q) ⟨m1, S1, x, t, S2, st1, r1, e3, fun m2 H2 l2 st2 => ?_⟩⟩
  cases t with
  | false => exact ⟨m2, env, S2, d, S', st2, re.mono (l1.trans l2), e4, p.le (l1.trans l2)⟩
  | true =>
    obtain ⟨rfl, rfl⟩ := pureOk e4
    exact p m2 v1 H2 (l1.trans l2) st2 (r1.mono l2)
theorem s_cmp (G : Good T k c sc X) {a b : Expr} {a' b' : E} {o : COp} {op : CmpOp} {pos : Pos} (ho : copOf op = some o) (hm : behindInMarks op b = false) (ha : PE X a (rE X.K (T.ctx k) a')) (hb : PE X b (rE X.K (T.ctx k) b')) :
    PE X (.Compare a [op] [b] pos) (rE X.K (T.ctx k) (.cmp o a' b')) := by
  have e0 := cmTo_of ho
  subst e0
  refine PE.imp (pe_cmpR (op_cmp G.hu o) ha hb hm) fun σ H Q ⟨m, env, S, d, S', st, re, e, p⟩ => ?_
  rw [evE] at e
  obtain ⟨x, S1, e1, e2⟩ := bindOk e
  obtain ⟨y, S2, e3, e4⟩ := bindOk e2
  obtain ⟨b, S3, e5, e6⟩ := bindOk e4
  obtain ⟨rfl, rfl⟩ := pureOk e6
  exact ⟨m, env, S, x, S1, st, re, e1, fun m1 v1 H1 l1 st1 r1 => ⟨m1, env, S1, y, S2, st1, re.mono l1, e3, fun m2 v2 H2 l2 st2 r2 => ⟨m2, S2, x, y, b, S3, st2, r1.mono l2, r2, e5, fun m3 H3 l3 st3 => p m3 _ H3 ((l1.trans l2).trans l3) st3 (by rw [RelD])⟩⟩⟩
theorem s_cmpT (G : Good T k c sc X) {a b : Expr} {a' b' : E} {o : COp} {op : CmpOp} {pos : Pos} (ho : copOf op = some o) (hm : behindInMarks op b = false) (ha : PE X a (rE X.K (T.ctx k) a')) (hb : PE X b (rE X.K (T.ctx k) b')) :
    PT X (.Compare a [op] [b] pos) (rT X.K (T.ctx k) (.cmp o a' b')) := by
  have e0 := cmTo_of ho
  subst e0
  refine PT.imp (pt_cmpR (op_cmp G.hu o) ha hb hm) fun σ H Q ⟨m, env, S, d, S', st, re, e, p⟩ => ?_
  rw [evT] at e
  obtain ⟨x, S1, e1, e2⟩ := bindOk e
  obtain ⟨y, S2, e3, e4⟩ := bindOk e2
  exact ⟨m, env, S, x, S1, st, re, e1, fun m1 v1 H1 l1 st1 r1 => ⟨m1, env, S1, y, S2, st1, re.mono l1, e3, fun m2 v2 H2 l2 st2 r2 => ⟨m2, S2, x, y, d, S', st2, r1.mono l2, r2, e4, fun m3 H3 l3 st3 => ⟨d, rfl, p m3 H3 ((l1.trans l2).trans l3) st3⟩⟩⟩⟩
theorem chain_read (G : Good T k c sc X) {a b d : Expr} {a' b' d' : E} {o p : COp} {σ : L2.St} {H : Hp} {Q : VK}
    (h : rE X.K (T.ctx k) (.cmp2 o p a' b' d') σ H Q) : tChain (rCmp X.K o) (rCmp X.K p) (rE X.K (T.ctx k) a') (rE X.K (T.ctx k) b') (rE X.K (T.ctx k) d') σ H Q := by
  obtain ⟨m, env, S, r, S', st, re, e, pp⟩ := h
  rw [evE] at e
  obtain ⟨x, S1, e1, e2⟩ := bindOk e
  obtain ⟨y, S2, e3, e4⟩ := bindOk e2
  obtain ⟨t, S3, e5, e6⟩ := bindOk e4
  refine ⟨m, env, S, x, S1, st, re, e1, fun m1 v1 H1 l1 st1 r1 => ⟨m1, env, S1, y, S2, st1, re.mono l1, e3, fun m2 v2 H2 l2 st2 r2 => ⟨m2, S2, x, y, t, S3, st2, r1.mono l2, r2, e5, fun m3 H3 l3 st3 => ⟨t, rfl, ?_⟩⟩⟩⟩
  have l13 := (l1.trans l2).trans l3
  cases t with
  | true =>
    have e6' : (do let z ← evE (T.ctx k) d' env; let r ← cmpop p y z; pure (D.bl r) : M D) S3 = .ok r S' := e6
    obtain ⟨z, S4, e7, e8⟩ := bindOk e6'
    obtain ⟨w, S5, e9, e10⟩ := bindOk e8
    obtain ⟨rfl, rfl⟩ := pureOk e10
    exact ⟨m3, env, S3, z, S4, st3, re.mono l13, e7, fun m4 v4 H4 l4 st4 r4 => ⟨m4, S4, y, z, w, S5, st4, r2.mono (l3.trans l4), r4, e9, fun m5 H5 l5 st5 => pp m5 _ H5 ((l13.trans l4).trans l5) st5 (by rw [RelD])⟩⟩
  | false =>
    obtain ⟨rfl, rfl⟩ := pureOk e6
    exact pp m3 _ H3 l13 st3 (by rw [RelD])
theorem s_chain (G : Good T k c sc X) {a b d : Expr} {a' b' d' : E} {o p : COp} {op op' : CmpOp} {pos : Pos} (ho : copOf op = some o) (hp : copOf op' = some p) (hm : lastMarks [op, op'] [b, d] = false)
    (ha : PE X a (rE X.K (T.ctx k) a')) (hb : PE X b (rE X.K (T.ctx k) b')) (hd : PE X d (rE X.K (T.ctx k) d')) : PE X (.Compare a [op, op'] [b, d] pos) (rE X.K (T.ctx k) (.cmp2 o p a' b' d')) := by
  have e0 := cmTo_of ho
  have e1 := cmTo_of hp
  subst e0 e1
  exact PE.imp (pe_chain (op_cmp G.hu o) (op_cmp G.hu p) ha hb hd hm) fun σ H Q h => chain_read (a := a) (b := b) (d := d) G h
theorem s_chainT (G : Good T k c sc X) {a b d : Expr} {a' b' d' : E} {o p : COp} {op op' : CmpOp} {pos : Pos} (ho : copOf op = some o) (hp : copOf op' = some p) (hm : lastMarks [op, op'] [b, d] = false)
    (ha : PE X a (rE X.K (T.ctx k) a')) (hb : PE X b (rE X.K (T.ctx k) b')) (hd : PE X d (rE X.K (T.ctx k) d')) : PT X (.Compare a [op, op'] [b, d] pos) (rT X.K (T.ctx k) (.cmp2 o p a' b' d')) := by
  have e0 := cmTo_of ho
  have e1 := cmTo_of hp
  subst e0 e1
  refine PT.imp (pt_chain (op_cmp G.hu o) (op_cmp G.hu p) ha hb hd hm) fun σ H Q ⟨m, env, S, r, S', st, re, e, pp⟩ => ?_
  have hr : evT (T.ctx k) (.cmp2 o p a' b' d') env = (do let x ← evE (T.ctx k) (.cmp2 o p a' b' d') env; truth x) := by simp only [evT]
  rw [hr] at e
  · obtain ⟨x, S1, e1, e2⟩ := bindOk e
    refine chain_read (a := a) (b := b) (d := d) G ⟨m, env, S, x, S1, st, re, e1, fun m1 v1 H1 l1 st1 r1 => ?_⟩
    have : ∃ t, x = .bl t := by
      rw [evE] at e1
      obtain ⟨x1, S2, _, e3⟩ := bindOk e1
      obtain ⟨y1, S3, _, e4⟩ := bindOk e3
      obtain ⟨t, S4, _, e5⟩ := bindOk e4
      cases t with
      | true =>
        have e5' : (do let z ← evE (T.ctx k) d' env; let r ← cmpop p y1 z; pure (D.bl r) : M D) S4 = .ok x S1 := e5
        obtain ⟨z, S5, _, e6⟩ := bindOk e5'
        obtain ⟨w, S6, _, e7⟩ := bindOk e6
        obtain ⟨rfl, _⟩ := pureOk e7
        exact ⟨_, rfl⟩
      | false =>
        obtain ⟨rfl, _⟩ := pureOk e5
        exact ⟨_, rfl⟩
    obtain ⟨t, rfl⟩ := this
    have e2' : truth (.bl t) S1 = .ok r S' := e2
    simp only [truth] at e2'
    cases e2'
    exact ⟨_, relD_bl r1, pp m1 H1 l1 st1⟩
theorem s_ite {t a b : Expr} {t' a' b' : E} {pos : Pos} (ht : PT X t (rT X.K (T.ctx k) t')) (ha : PE X a (rE X.K (T.ctx k) a')) (hb : PE X b (rE X.K (T.ctx k) b')) : PE X (.IfExp t a b pos) (rE X.K (T.ctx k) (.ite t' a' b')) := by
  refine PE.imp (pe_ifExp ht ha hb) fun σ H Q ⟨m, env, S, d, S', st, re, e, p⟩ => ?_
  rw [evE] at e
  obtain ⟨x, S1, e1, e2⟩ := bindOk e
  refine ⟨m, env, S, x, S1, st, re, e1, fun m1 H1 l1 st1 => ?_⟩
  cases x with
  | true => exact ⟨m1, env, S1, d, S', st1, re.mono l1, e2, p.le l1⟩
  | false => exact ⟨m1, env, S1, d, S', st1, re.mono l1, e2, p.le l1⟩
theorem pt_ifExp {t a b : Expr} {tt ta tb : TT} {pos : Pos} (ht : PT X t tt) (ha : PT X a ta) (hb : PT X b tb) : PT X (.IfExp t a b pos) (fun σ H Q => tt σ H fun c H1 => if c = true then ta σ H1 Q else tb σ H1 Q) := by
  refine ⟨fun pins s σ H Q I h => ?_⟩
  have e : PySem.isTrue (.IfExp t a b pos) X.env (eval (.IfExp t a b pos) X.env) = (do if ← PySem.isTrue t X.env (eval t X.env) then PySem.isTrue a X.env (eval a X.env) else PySem.isTrue b X.env (eval b X.env)) := by
    rw [PySem.isTrue]
  rw [e]
  refine wpAny_bind (thn (ht.run pins s σ H _ I h) fun c s1 ⟨H1, I1, q1⟩ => ?_)
  cases c with
  | true => exact ha.run pins s1 σ H1 Q I1 q1
  | false => exact hb.run pins s1 σ H1 Q I1 q1
theorem s_iteT {t a b : Expr} {t' a' b' : E} {pos : Pos} (ht : PT X t (rT X.K (T.ctx k) t')) (ha : PT X a (rT X.K (T.ctx k) a')) (hb : PT X b (rT X.K (T.ctx k) b')) : PT X (.IfExp t a b pos) (rT X.K (T.ctx k) (.ite t' a' b')) := by
  refine PT.imp (pt_ifExp ht ha hb) fun σ H Q ⟨m, env, S, d, S', st, re, e, p⟩ => ?_
  rw [evT] at e
  obtain ⟨x, S1, e1, e2⟩ := bindOk e
  refine ⟨m, env, S, x, S1, st, re, e1, fun m1 H1 l1 st1 => ?_⟩
  cases x with
  | true => exact ⟨m1, env, S1, d, S', st1, re.mono l1, e2, p.le l1⟩
  | false => exact ⟨m1, env, S1, d, S', st1, re.mono l1, e2, p.le l1⟩
/-- any other test -/
theorem s_truth {a : Expr} {a' : E} (ha : PE X a (rE X.K (T.ctx k) a')) (he : ∀ whole, PySem.isTrue a X.env whole = (do let v ← whole; standAt a.pos; holding [v] (truthy v)))
    (hr : ∀ env, evT (T.ctx k) a' env = (do let x ← evE (T.ctx k) a' env; truth x)) : PT X a (rT X.K (T.ctx k) a') := by
  refine PT.imp (pt_truth ha he) fun σ H Q ⟨m, env, S, d, S', st, re, e, p⟩ => ?_
  rw [hr] at e
  obtain ⟨x, S1, e1, e2⟩ := bindOk e
  exact ⟨m, env, S, x, S1, st, re, e1, fun m1 v1 H1 l1 st1 r1 => tru_imp ⟨m1, S1, x, d, S', st1, r1, e2, p.le l1⟩⟩
theorem s_notT {a : Expr} {a' : E} {pos : Pos} (ha : PT X a (rT X.K (T.ctx k) a')) : PT X (.UnaryOp .Not a pos) (rT X.K (T.ctx k) (.not a')) := by
  refine PT.imp (pt_not ha) fun σ H Q ⟨m, env, S, d, S', st, re, e, p⟩ => ?_
  rw [evT] at e
  obtain ⟨x, S1, e1, e2⟩ := bindOk e
  obtain ⟨rfl, rfl⟩ := pureOk e2
  exact ⟨m, env, S, x, S1, st, re, e1, p⟩
theorem s_andT {a b : Expr} {rest : List Expr} {a' b' : E} {pos : Pos} (ha : PT X a (rT X.K (T.ctx k) a')) (hb : PW X (.BoolOp .And (b :: rest) pos) (rT X.K (T.ctx k) b')) : PW X (.BoolOp .And (a :: b :: rest) pos) (rT X.K (T.ctx k) (.and a' b')) := by
  refine PW.imp (pw_and ha hb) fun σ H Q ⟨m, env, S, d, S', st, re, e, p⟩ => ?_
  rw [evT] at e
  obtain ⟨x, S1, e1, e2⟩ := bindOk e
  refine ⟨m, env, S, x, S1, st, re, e1, fun m1 H1 l1 st1 => ?_⟩
  cases x with
  | true => exact ⟨m1, env, S1, d, S', st1, re.mono l1, e2, p.le l1⟩
  | false =>
    obtain ⟨rfl, rfl⟩ := pureOk e2
    exact p m1 H1 l1 st1
theorem s_orT {a b : Expr} {rest : List Expr} {a' b' : E} {pos : Pos} (ha : PT X a (rT X.K (T.ctx k) a')) (hb : PW X (.BoolOp .Or (b :: rest) pos) (rT X.K (T.ctx k) b')) : PW X (.BoolOp .Or (a :: b :: rest) pos) (rT X.K (T.ctx k) (.or a' b')) := by
  refine PW.imp (pw_or ha hb) fun σ H Q ⟨m, env, S, d, S', st, re, e, p⟩ => ?_
  rw [evT] at e
  obtain ⟨x, S1, e1, e2⟩ := bindOk e
  refine ⟨m, env, S, x, S1, st, re, e1, fun m1 H1 l1 st1 => ?_⟩
  cases x with
  | false => exact ⟨m1, env, S1, d, S', st1, re.mono l1, e2, p.le l1⟩
  | true =>
    obtain ⟨rfl, rfl⟩ := pureOk e2
    exact p m1 H1 l1 st1
/-! argument lists, displays -/
theorem s_nil : PA X [] (rA X.K (T.ctx k) []) := by
  refine PA.imp pa_nil fun σ H Q ⟨m, env, S, d, S', st, re, e, p⟩ => ?_
  rw [evEs] at e
  obtain ⟨rfl, rfl⟩ := pureOk e
  exact p m [] H (Le.refl m H) st relDs_nil
theorem s_cons {e : Expr} {es : List Expr} {e' : E} {es' : List E} (hs : ∀ (es : List Expr) (env : PySem.Env), starEach (e :: es) env = (false, eval e env) :: starEach es env) (ha : PE X e (rE X.K (T.ctx k) e')) (hr : PA X es (rA X.K (T.ctx k) es')) :
    PA X (e :: es) (rA X.K (T.ctx k) (e' :: es')) := by
  refine PA.imp (pa_cons ha hr (hs es X.env)) fun σ H Q ⟨m, env, S, d, S', st, re, e, p⟩ => ?_
  rw [evEs] at e
  obtain ⟨x, S1, e1, e2⟩ := bindOk e
  obtain ⟨xs, S2, e3, e4⟩ := bindOk e2
  obtain ⟨rfl, rfl⟩ := pureOk e4
  exact ⟨m, env, S, x, S1, st, re, e1, fun m1 v1 H1 l1 st1 r1 => ⟨m1, env, S1, xs, S2, st1, re.mono l1, e3, fun m2 vs H2 l2 st2 rs => p m2 _ H2 (l1.trans l2) st2 (relDs_cons (r1.mono l2) rs)⟩⟩
theorem s_tup {es : List Expr} {es' : List E} {x1 : Nat} {pos : Pos} (h : PA X es (rA X.K (T.ctx k) es')) : PE X (.Tuple es x1 pos) (rE X.K (T.ctx k) (.tup es')) := by
  refine PE.imp (pe_tup h) fun σ H Q ⟨m, env, S, d, S', st, re, e, p⟩ => ?_
  rw [evE] at e
  obtain ⟨xs, S1, e1, e2⟩ := bindOk e
  obtain ⟨_, S2, e3, e4⟩ := bindOk e2
  obtain ⟨hz, rfl⟩ := chkOk e3
  obtain ⟨rfl, rfl⟩ := pureOk e4
  exact ⟨m, env, S, xs, S1, st, re, e1, fun m1 vs H1 l1 st1 rs => ⟨by rw [rs.length]; exact of_decide_eq_true hz, (p.le l1).tup st1 rs⟩⟩
theorem s_lst {es : List Expr} {es' : List E} {pos : Pos} (h : PA X es (rA X.K (T.ctx k) es')) : PE X (.List es pos) (rE X.K (T.ctx k) (.lst es')) := by
  refine PE.imp (pe_lst h) fun σ H Q ⟨m, env, S, d, S', st, re, e, p⟩ => ?_
  rw [evE] at e
  obtain ⟨xs, S1, e1, e2⟩ := bindOk e
  obtain ⟨_, S2, e3, e4⟩ := bindOk e2
  obtain ⟨hz, rfl⟩ := chkOk e3
  unfold newO at e4
  cases e4
  exact ⟨m, env, S, xs, S1, st, re, e1, fun m1 vs H1 l1 st1 rs => ⟨by rw [rs.length]; exact of_decide_eq_true hz, (p.le l1).lst st1 rs⟩⟩
/-! displays with stars -/
def rDs (K : PySem.W.Frag) (C : Ctx) (es : List E) : TA := fun σ H Q => ∃ m env S ds S', RelSt K m S H ∧ RelEnv K m H env σ ∧ evDs C es env S = .ok ds S' ∧ PostA K m H S' ds Q
theorem s_dnil : PA X [] (rDs X.K (T.ctx k) []) := by
  refine PA.imp pa_nil fun σ H Q ⟨m, env, S, d, S', st, re, e, p⟩ => ?_
  rw [evDs] at e
  obtain ⟨rfl, rfl⟩ := pureOk e
  exact p m [] H (Le.refl m H) st relDs_nil
theorem s_dcons {e : Expr} {es : List Expr} {e' : E} {es' : List E} (hn : ∀ a, e' ≠ .star a) (hs : ∀ (es : List Expr) (env : PySem.Env), starEach (e :: es) env = (false, eval e env) :: starEach es env) (ha : PE X e (rE X.K (T.ctx k) e')) (hr : PA X es (rDs X.K (T.ctx k) es')) :
    PA X (e :: es) (rDs X.K (T.ctx k) (e' :: es')) := by
  refine PA.imp (pa_cons ha hr (hs es X.env)) fun σ H Q ⟨m, env, S, d, S', st, re, e, p⟩ => ?_
  have e0 : evDs (T.ctx k) (e' :: es') env = (do
    let x ← evE (T.ctx k) e' env
    let xs ← evDs (T.ctx k) es' env
    pure (x :: xs)) := by
    cases e' <;> first | exact absurd rfl (hn _) | rw [evDs]
    all_goals (intro a h; cases h)
  rw [e0] at e
  obtain ⟨x, S1, e1, e2⟩ := bindOk e
  obtain ⟨xs, S2, e3, e4⟩ := bindOk e2
  obtain ⟨rfl, rfl⟩ := pureOk e4
  exact ⟨m, env, S, x, S1, st, re, e1, fun m1 v1 H1 l1 st1 r1 => ⟨m1, env, S1, xs, S2, st1, re.mono l1, e3, fun m2 vs H2 l2 st2 rs => p m2 _ H2 (l1.trans l2) st2 (relDs_cons (r1.mono l2) rs)⟩⟩
theorem s_dstar {e : Expr} {es : List Expr} {e' : E} {es' : List E} {pos : Pos} (ha : PE X e (rE X.K (T.ctx k) e')) (hr : PA X es (rDs X.K (T.ctx k) es')) :
    PA X (.Starred e pos :: es) (rDs X.K (T.ctx k) (.star e' :: es')) := by
  refine PA.imp (StX.pa_star ha hr) fun σ H Q ⟨m, env, S, d, S', st, re, e, p⟩ => ?_
  rw [evDs] at e
  obtain ⟨x, S1, e1, e2⟩ := bindOk e
  obtain ⟨l, S2, e3, e4⟩ := bindOk e2
  obtain ⟨xs, S3, e5, e6⟩ := bindOk e4
  obtain ⟨rfl, rfl⟩ := pureOk e6
  obtain ⟨rfl, _⟩ := items_inv e3
  refine ⟨m, env, S, x, _, st, re, e1, fun m1 v1 H1 l1 st1 r1 => ?_⟩
  obtain ⟨a, ys, rfl, ry, hq⟩ := items_sq st1 r1 e3
  exact ⟨a, ys, rfl, hq.elim .inr .inl, m1, env, _, xs, _, st1, re.mono l1, e5, fun m2 vs H2 l2 st2 rs => p m2 _ H2 (l1.trans l2) st2 ((ry.mono l2).append rs)⟩
theorem s_tupS {es : List Expr} {es' : List E} {x1 : Nat} {pos : Pos} (h : PA X es (rDs X.K (T.ctx k) es')) : PE X (.Tuple es x1 pos) (rE X.K (T.ctx k) (.tupS es')) := by
  refine PE.imp (pe_tup h) fun σ H Q ⟨m, env, S, d, S', st, re, e, p⟩ => ?_
  rw [evE] at e
  obtain ⟨xs, S1, e1, e2⟩ := bindOk e
  obtain ⟨_, S2, e3, e4⟩ := bindOk e2
  obtain ⟨hz, rfl⟩ := chkOk e3
  obtain ⟨rfl, rfl⟩ := pureOk e4
  exact ⟨m, env, S, xs, S1, st, re, e1, fun m1 vs H1 l1 st1 rs => ⟨by rw [rs.length]; exact of_decide_eq_true hz, (p.le l1).tup st1 rs⟩⟩
theorem s_lstS {es : List Expr} {es' : List E} {pos : Pos} (h : PA X es (rDs X.K (T.ctx k) es')) : PE X (.List es pos) (rE X.K (T.ctx k) (.lstS es')) := by
  refine PE.imp (pe_lst h) fun σ H Q ⟨m, env, S, d, S', st, re, e, p⟩ => ?_
  rw [evE] at e
  obtain ⟨xs, S1, e1, e2⟩ := bindOk e
  obtain ⟨_, S2, e3, e4⟩ := bindOk e2
  obtain ⟨hz, rfl⟩ := chkOk e3
  unfold newO at e4
  cases e4
  exact ⟨m, env, S, xs, S1, st, re, e1, fun m1 vs H1 l1 st1 rs => ⟨by rw [rs.length]; exact of_decide_eq_true hz, (p.le l1).lst st1 rs⟩⟩
/-! subscripts -/
theorem s_idx (G : Good T k c sc X) {a b : Expr} {a' b' : E} {pos : Pos} (hs : PlainIx b) (ha : PE X a (rE X.K (T.ctx k) a')) (hb : PE X b (rE X.K (T.ctx k) b')) : PE X (.Subscript a b pos) (rE X.K (T.ctx k) (.idx a' b')) := by
  refine PE.imp (pe_ix (ix_any G.hu) ha hb hs) fun σ H Q ⟨m, env, S, d, S', st, re, e, p⟩ => ?_
  rw [evE] at e
  obtain ⟨x, S1, e1, e2⟩ := bindOk e
  obtain ⟨y, S2, e3, e4⟩ := bindOk e2
  exact ⟨m, env, S, x, S1, st, re, e1, fun m1 v1 H1 l1 st1 r1 => ⟨m1, env, S1, y, S2, st1, re.mono l1, e3, fun m2 v2 H2 l2 st2 r2 => ⟨m2, S2, x, y, d, S', st2, r1.mono l2, r2, e4, p.le (l1.trans l2)⟩⟩⟩
theorem part_st {o : Option D} {S S' S2 : Sto} {i : Option Int} (h : part o S = .ok i S') : S' = S ∧ part o S2 = .ok i S2 := by
  unfold part at h ⊢
  split at h
  · cases h; exact ⟨rfl, rfl⟩
  · cases h; exact ⟨rfl, rfl⟩
  · cases h
theorem s_none : PO X none (rO X.K (T.ctx k) none) := by
  refine PO.imp po_none fun σ H Q ⟨m, env, S, o, S', i, st, re, e, e2, p⟩ => ?_
  rw [evO] at e
  obtain ⟨rfl, rfl⟩ := pureOk e
  unfold part at e2
  cases e2
  exact p m H (Le.refl m H) st
theorem s_some {a : Expr} {a' : E} (ha : PE X a (rE X.K (T.ctx k) a')) : PO X (some a) (rO X.K (T.ctx k) (some a')) := by
  refine PO.imp (po_some ha) fun σ H Q ⟨m, env, S, o, S', i, st, re, e, e2, p⟩ => ?_
  rw [evO] at e
  obtain ⟨x, S1, e1, e3⟩ := bindOk e
  obtain ⟨rfl, rfl⟩ := pureOk e3
  refine ⟨m, env, S, x, S1, st, re, e1, fun m1 v1 H1 l1 st1 r1 => ?_⟩
  unfold part at e2
  cases x with
  | int j => cases e2; exact ⟨j, relD_int r1, p m1 H1 l1 st1⟩
  | _ => cases e2
theorem s_slice {a : Expr} {lo hi : Option Expr} {a' : E} {lo' hi' : Option E} {p2 pos : Pos} (ha : PE X a (rE X.K (T.ctx k) a')) (hl : PO X lo (rO X.K (T.ctx k) lo')) (hh : PO X hi (rO X.K (T.ctx k) hi')) :
    PE X (.Subscript a (.Slice lo hi none p2) pos) (rE X.K (T.ctx k) (.slice a' lo' hi')) := by
  refine PE.imp (pe_slice sl_any ha hl hh) fun σ H Q ⟨m, env, S, d, S', st, re, e, p⟩ => ?_
  rw [evE] at e
  obtain ⟨x, S1, e1, e2⟩ := bindOk e
  obtain ⟨l, S2, e3, e4⟩ := bindOk e2
  obtain ⟨h, S3, e5, e6⟩ := bindOk e4
  obtain ⟨i, S4, e7, e8⟩ := bindOk e6
  obtain ⟨j, S5, e9, e10⟩ := bindOk e8
  obtain ⟨rfl, e7'⟩ := part_st (S2 := S2) e7
  obtain ⟨rfl, _⟩ := part_st (S2 := S2) e9
  exact ⟨m, env, S, x, S1, st, re, e1, fun m1 v1 H1 l1 st1 r1 => ⟨m1, env, S1, l, S2, i, st1, re.mono l1, e3, e7', fun m2 H2 l2 st2 => ⟨m2, env, S2, h, _, j, st2, re.mono (l1.trans l2), e5, e9, fun m3 H3 l3 st3 => ⟨m3, _, x, d, S', st3, r1.mono (l2.trans l3), e10, p.le ((l1.trans l2).trans l3)⟩⟩⟩⟩
/-! calls -/
theorem s_call (G : Good T k c sc X) {f : Str} {es : List Expr} {es' : List E} {p pos : Pos} (hg : isGl sc f = true) (hp : plainName f = true) (hf : c.fns.contains f = true) (h : PA X es (rA X.K (T.ctx k) es'))
    (h00 : es = [] → es' = []) (hs : ∀ e r, es = e :: r → starEach (e :: r) X.env = (false, eval e X.env) :: starEach r X.env ∧ (backTo pos (starEach r X.env)).any (·.1) = false) : PE X (.Call (.Name f p) es [] pos) (rE X.K (T.ctx k) (.call f es')) := by
  obtain ⟨ps, fa, fd, hm, hk, hb, F⟩ := G.calls.fn f hf
  have key : ∀ σ H Q, rE X.K (T.ctx k) (.call f es') σ H Q → tCall (spE X.K T k f) [] E0 (rA X.K (T.ctx k) es') σ H (QFz Q) := fun σ H Q ⟨m, env, S, d, S', st, re, e, p⟩ => by
    rw [evE] at e
    obtain ⟨xs, S1, e1, e2⟩ := bindOk e
    refine ⟨m, env, S, xs, S1, st, re, e1, fun m1 vs H1 l1 st1 rs => ?_⟩
    obtain ⟨d0, S0, e3, p3⟩ := post_fz st1 e2 (p.le l1)
    exact ⟨m1, S1, xs, d0, S0, st1, by rw [List.append_nil]; exact rs, e3, p3⟩
  cases es with
  | nil =>
    refine PE.imp (PE.frz (pe_call0 F G.room (gl_of G hg) hm hk hb .nil pass0 (plain_db hp))) fun σ H Q hq => ?_
    obtain ⟨m, env, S, xs, S1, st, re, e1, q⟩ := key σ H Q hq
    have h0 := h.run pos
    have e0 := h00 rfl
    subst e0
    rw [evEs] at e1
    obtain ⟨rfl, rfl⟩ := pureOk e1
    exact q m [] H (Le.refl m H) st relDs_nil
  | cons e r =>
    obtain ⟨s1, s2⟩ := hs e r rfl
    exact PE.imp (PE.frz (pe_call F G.room (gl_of G hg) hm hk hb .nil pass0 h (plain_db hp) s1 s2)) key
theorem s_bi (G : Good T k c sc X) {x : Str} {f : BI} {e : Expr} {es : List Expr} {es' : List E} {p pos : Pos} (hg : isGl sc x = true) (hp : plainName x = true) (h0 : free0 c x = true) (hf : biOf x = some f) (h : PA X (e :: es) (rA X.K (T.ctx k) es'))
    (hs : starEach (e :: es) X.env = (false, eval e X.env) :: starEach es X.env) (hpl : (backTo pos (starEach es X.env)).any (·.1) = false) : PE X (.Call (.Name x p) (e :: es) [] pos) (rE X.K (T.ctx k) (.bi f es')) := by
  obtain ⟨hv, hm⟩ := bi_boot f x hf
  unfold free0 at h0
  simp only [Bool.and_eq_true, Bool.not_eq_true'] at h0
  have hmg := G.facts.bl x hm h0.1 h0.2
  have key : ∀ σ H Q, rE X.K (T.ctx k) (.bi f es') σ H Q → tCB (rBi X.K f) (rA X.K (T.ctx k) es') σ H Q := fun σ H Q ⟨m, env, S, d, S', st, re, e, p⟩ => by
    rw [evE] at e
    obtain ⟨xs, S1, e1, e2⟩ := bindOk e
    exact ⟨m, env, S, xs, S1, st, re, e1, fun m1 vs H1 l1 st1 rs => ⟨m1, S1, xs, d, S', st1, rs, e2, p.le l1⟩⟩
  have cr := cr_bi (X := X) G.calm G.hu f
  cases f <;> first
    | exact PE.imp (pe_callB cr (gl_of G hg) hmg hv h (plain_nm hp) (plain_db hp) hs hpl) key
    | exact PE.imp (pe_callTy cr (gl_of G hg) hmg hv h (plain_nm hp) (plain_db hp) hs hpl) key
end
end Pi

namespace Pi
open PySem PySem.Spec PyProof.Rows L2
theorem bl_plain : ∀ x ∈ blNames, plainName x = true := by decide +kernel
section
variable {X : Cx} {T : Tb} {k : Nat} {c : CC} {sc : Scope}
theorem free_mg (G : Good T k c sc X) {x : Str} (h : free0 c x = true) (hx : x ∈ blNames) : X.mg x = none := by
  unfold free0 at h
  simp only [Bool.and_eq_true, Bool.not_eq_true'] at h
  exact G.facts.bl x hx h.1 h.2

/-! isinstance -/
structure TyN (c : CC) (sc : Scope) (b : Expr) (t : String) : Prop where
  ex : ∃ x p, b = .Name x p ∧ isGl sc x = true ∧ free0 c x = true ∧ bootBuiltins x = some (.type t) ∧ x ∈ blNames
  mem : t ∈ tyR
theorem tyList_spec {b : Expr} {l : List String} (h : tyList c sc b = some l) : ∃ t, l = [t] ∧ TyN c sc b t := by
  unfold tyList at h
  split at h
  · rename_i x p
    split at h
    · rename_i hc
      cases e : tyNameOf x with
      | none => rw [e] at h; cases h
      | some t =>
        rw [e] at h
        simp only [Option.map_some, Option.some.injEq] at h
        obtain ⟨b1, b2, b3⟩ := ty_boot x t e
        simp only [Bool.and_eq_true, Bool.not_eq_true'] at hc
        refine ⟨t, h.symm, ⟨x, p, rfl, hc.1.1, ?_, b1, b2⟩, b3⟩
        unfold free0
        rw [hc.1.2, hc.2]
        rfl
    · cases h
  · cases h
theorem ty_pe (G : Good T k c sc X) {b : Expr} {t : String} (h : TyN c sc b t) : PE X b (tC (.ty t)) ∧ ∀ (es : List Expr) (env : PySem.Env), starEach (b :: es) env = (false, eval b env) :: starEach es env := by
  obtain ⟨x, p, rfl, h1, h2, h3, h4⟩ := h.ex
  have hp := bl_plain x h4
  exact ⟨pe_bltn (gl_of G h1) (free_mg G h2 h4) h3 rfl (plain_nm hp) (plain_db hp), fun _ _ => rfl⟩
theorem s_isi1 (G : Good T k c sc X) {a b : Expr} {a' : E} {t : String} {p pos : Pos} (hg : isGl sc "isinstance" = true) (h0 : free0 c "isinstance" = true) (hb : TyN c sc b t) (ha : PE X a (rE X.K (T.ctx k) a'))
    (hs : ∀ (es : List Expr) (env : PySem.Env), starEach (a :: es) env = (false, eval a env) :: starEach es env) : PE X (.Call (.Name "isinstance" p) [a, b] [] pos) (rE X.K (T.ctx k) (.isi a' [t])) := by
  obtain ⟨pb, sb⟩ := ty_pe G hb
  refine PE.imp (pe_callB call_isi (gl_of G hg) (free_mg G h0 (by decide +kernel)) (by decide +kernel) (pa_cons ha (pa_cons pb pa_nil (sb [] X.env)) (hs _ X.env)) (by decide) (by decide) (hs _ X.env) (by rw [sb [] X.env] <;> rfl)) fun σ H Q ⟨m, env, S, d, S', st, re, e, p⟩ => ?_
  rw [evE] at e
  obtain ⟨x, S1, e1, e2⟩ := bindOk e
  obtain ⟨r, S2, e3, e4⟩ := bindOk e2
  obtain ⟨rfl, rfl⟩ := pureOk e4
  unfold isinst at e3
  split at e3
  · rename_i t0 ht
    cases e3
    refine ⟨m, env, S, x, S1, st, re, e1, fun m1 v1 H1 l1 st1 r1 => ?_⟩
    refine ⟨v1, .ty t, .type t0, .type t, isTy t0 t, rfl, .ty t, tyX_of st1 r1 ht, kit_ty (kit_all t0 (tyOf_mem ht) t hb.mem), p m1 _ H1 l1 st1 (by rw [RelD]; simp)⟩
  · cases e3
theorem s_isi2 (G : Good T k c sc X) {a b b2 : Expr} {a' : E} {t t2 : String} {x1 : Nat} {p pos pos2 : Pos} (hg : isGl sc "isinstance" = true) (h0 : free0 c "isinstance" = true) (hb : TyN c sc b t) (hb2 : TyN c sc b2 t2) (ha : PE X a (rE X.K (T.ctx k) a'))
    (hs : ∀ (es : List Expr) (env : PySem.Env), starEach (a :: es) env = (false, eval a env) :: starEach es env) : PE X (.Call (.Name "isinstance" p) [a, .Tuple [b, b2] x1 pos2] [] pos) (rE X.K (T.ctx k) (.isi a' [t, t2])) := by
  obtain ⟨pb, sb⟩ := ty_pe G hb
  obtain ⟨pb2, sb2⟩ := ty_pe G hb2
  refine PE.imp (pe_callB call_isiT (gl_of G hg) (free_mg G h0 (by decide +kernel)) (by decide +kernel) (pa_cons ha (pa_cons (pe_tup (pa_cons pb (pa_cons pb2 pa_nil (sb2 [] X.env)) (sb _ X.env))) pa_nil) (hs _ X.env)) (by decide) (by decide) (hs _ X.env) (by rfl)) fun σ H Q ⟨m, env, S, d, S', st, re, e, p⟩ => ?_
  rw [evE] at e
  obtain ⟨x, S1, e1, e2⟩ := bindOk e
  obtain ⟨r, S2, e3, e4⟩ := bindOk e2
  obtain ⟨rfl, rfl⟩ := pureOk e4
  unfold isinst at e3
  split at e3
  · rename_i t0 ht
    cases e3
    refine ⟨m, env, S, x, S1, st, re, e1, fun m1 v1 H1 l1 st1 r1 => ⟨by show 2 ≤ sizeLine; decide, fun q hq => ?_⟩⟩
    have l2 := Le.new (m := m1) q (.tup [V.ty t, V.ty t2]) hq
    refine ⟨v1, q, [.ty t, .ty t2], .type t0, [.type t, .type t2], [t, t2].any (isTy t0), rfl, upd_same, .cons (.ty t) (.cons (.ty t2) .nil), tyX_of (st1.new q _ hq) (r1.mono l2) ht, kit_any (tyOf_mem ht) [t, t2] (fun u hu => ?_), p m1 _ _ (l1.trans l2) (st1.new q _ hq) (by rw [RelD])⟩
    rcases List.mem_cons.mp hu with z | hu
    · rw [z]; exact hb.mem
    · rcases List.mem_cons.mp hu with z | hu
      · rw [z]; exact hb2.mem
      · cases hu
  · cases e3

/-! methods of lists -/
theorem recv_inv {f : MT} {o : D} {S S' : Sto} {u : Unit} (h : recv f o S = .ok u S') : S' = S ∧ ((∃ n l, o = .ref n ∧ S[n]? = some (.lst l)) ∨ ∃ l, o = .clst l) := by
  unfold recv at h
  cases o with
  | ref n =>
    dsimp only at h
    split at h
    · rename_i l hl
      cases h
      exact ⟨rfl, .inl ⟨n, _, rfl, hl⟩⟩
    · cases h
  | clst l =>
    dsimp only at h
    split at h
    · cases h
      exact ⟨rfl, .inr ⟨l, rfl⟩⟩
    · cases h
      exact ⟨rfl, .inr ⟨l, rfl⟩⟩
    · cases h
  | _ => cases h
theorem recv_ty {K : PySem.W.Frag} {f : MT} {o : D} {S S' : Sto} {u : Unit} (h : recv f o S = .ok u S') {m : Mp} {H : Hp} {x : V} (st : RelSt K m S H) (ra : RelD K m H o x) : tyV K "list" x H := by
  obtain ⟨_, ⟨n, l, rfl, hl⟩ | ⟨l, rfl⟩⟩ := recv_inv h
  · exact mt_ty st ra hl
  · exact mt_tyC ra
theorem base_plain {o : Expr} (h : plainRecv o = true) (name : Str) (env : PySem.Env) : attributeBase o name env (eval o env) = eval o env := by
  cases o with
  | Name _ _ => rfl
  | Subscript _ _ _ => rfl
  | Attribute _ _ _ => rfl
  | Constant _ _ _ => rfl
  | _ => cases h
theorem few_ok {es : List Expr} {env : PySem.Env} {cpos : Pos} (h1 : es.length < 20) (h2 : (backTo cpos (starEach es env)).any (·.1) = false) :
    ((backTo cpos (starEach es env)).all (fun x => !x.1) && (backToKw cpos (keywordEach [] env)).all (fun x => x.1.isSome) && decide (es.length + ([] : List Keyword).length + (if ([] : List Keyword).isEmpty then 0 else 1) < 30)) = true := by
  have a : (backTo cpos (starEach es env)).all (fun x => !x.1) = true := by
    rw [List.all_eq_true]
    intro y hy
    rw [List.any_eq_false] at h2
    have := h2 y hy
    simpa using this
  rw [a]
  simp only [Bool.true_and, Bool.and_eq_true]
  refine ⟨rfl, decide_eq_true ?_⟩
  simp
  omega
theorem mt_mem {f : MT} {x : Str} (h : mtOf x = some f) : (x, f) ∈ mtTable := PySem.mem_of_lookup h
theorem s_meth {o : Expr} {m0 : Str} {f : MT} {es : List Expr} {o' : E} {es' : List E} {apos cpos : Pos} (hf : mtOf m0 = some f) (hr : plainRecv o = true) (hl : (apos.endLine == cpos.line) = true) (hn : es.length < 20) (ho : PE X o (rE X.K (T.ctx k) o')) (h : PA X es (rA X.K (T.ctx k) es'))
    (h00 : es = [] → es' = []) (hs : ∀ e r, es = e :: r → starEach (e :: r) X.env = (false, eval e X.env) :: starEach r X.env ∧ (backTo cpos (starEach r X.env)).any (·.1) = false) :
    PE X (.Call (.Attribute o m0 apos) es [] cpos) (rE X.K (T.ctx k) (.meth f o' es')) := by
  have hm := mt_mem hf
  have mt := mt_any (X := X) f
  cases es with
  | nil =>
    have e0 := h00 rfl
    subst e0
    have key : ∀ σ H Q, rE X.K (T.ctx k) (.meth f o' []) σ H Q → tBM0 X.K "list" (rMt X.K f) (rE X.K (T.ctx k) o') σ H Q := fun σ H Q ⟨m, env, S, d, S', st, re, e, p⟩ => by
      rw [evE] at e
      obtain ⟨x, S1, e1, e2⟩ := bindOk e
      obtain ⟨_, S2, e3, e4⟩ := bindOk e2
      obtain ⟨rfl, _⟩ := recv_inv e3
      obtain ⟨xs, S3, e5, e6⟩ := bindOk e4
      rw [evEs] at e5
      obtain ⟨rfl, rfl⟩ := pureOk e5
      exact ⟨m, env, S, _, S2, st, re, e1, fun m1 v1 H1 l1 st1 r1 => ⟨recv_ty e3 st1 r1, m1, S2, _, [], d, S', st1, r1, relDs_nil, e6, p.le l1⟩⟩
    simp only [mtTable, List.mem_cons, List.not_mem_nil, or_false, Prod.mk.injEq] at hm
    rcases hm with ⟨rfl, rfl⟩ | ⟨rfl, rfl⟩ | ⟨rfl, rfl⟩ | ⟨rfl, rfl⟩ | ⟨rfl, rfl⟩ | ⟨rfl, rfl⟩
    · exact PE.imp (pe_bm0 PySem.F.plainAttrs_list PySem.F.slot_list_append PySem.F.type_list_append mt ho (base_plain hr _ _) hl) key
    · exact PE.imp (pe_bm0 PySem.F.plainAttrs_list PySem.F.slot_list_pop PySem.F.type_list_pop mt ho (base_plain hr _ _) hl) key
    · exact PE.imp (pe_bm0 PySem.F.plainAttrs_list PySem.F.slot_list_extend PySem.F.type_list_extend mt ho (base_plain hr _ _) hl) key
    · exact PE.imp (pe_bm0 PySem.F.plainAttrs_list PySem.F.slot_list_reverse PySem.F.type_list_reverse mt ho (base_plain hr _ _) hl) key
    · exact PE.imp (pe_bm0 PySem.F.plainAttrs_list PySem.F.slot_list_index PySem.F.type_list_index mt ho (base_plain hr _ _) hl) key
    · exact PE.imp (pe_bm0 PySem.F.plainAttrs_list PySem.F.slot_list_count PySem.F.type_list_count mt ho (base_plain hr _ _) hl) key
  | cons e r =>
    obtain ⟨s1, s2⟩ := hs e r rfl
    have key : ∀ σ H Q, rE X.K (T.ctx k) (.meth f o' es') σ H Q → tBM X.K "list" (rMt X.K f) (rE X.K (T.ctx k) o') (rA X.K (T.ctx k) es') σ H Q := fun σ H Q ⟨m, env, S, d, S', st, re, e, p⟩ => by
      rw [evE] at e
      obtain ⟨x, S1, e1, e2⟩ := bindOk e
      obtain ⟨_, S2, e3, e4⟩ := bindOk e2
      obtain ⟨rfl, _⟩ := recv_inv e3
      obtain ⟨xs, S3, e5, e6⟩ := bindOk e4
      exact ⟨m, env, S, _, S2, st, re, e1, fun m1 v1 H1 l1 st1 r1 => ⟨recv_ty e3 st1 r1, m1, env, S2, xs, S3, st1, re.mono l1, e5, fun m2 vs H2 l2 st2 rs => ⟨m2, S3, _, xs, d, S', st2, r1.mono l2, rs, e6, p.le (l1.trans l2)⟩⟩⟩
    have hfew := few_ok (es := e :: r) (env := X.env) (cpos := cpos) hn (by
      rw [s1]
      show (false || (backTo cpos (starEach r X.env)).any (·.1)) = false
      rw [s2, Bool.false_or])
    simp only [mtTable, List.mem_cons, List.not_mem_nil, or_false, Prod.mk.injEq] at hm
    rcases hm with ⟨rfl, rfl⟩ | ⟨rfl, rfl⟩ | ⟨rfl, rfl⟩ | ⟨rfl, rfl⟩ | ⟨rfl, rfl⟩ | ⟨rfl, rfl⟩
    · exact PE.imp (pe_bm PySem.F.plainAttrs_list PySem.F.slot_list_append PySem.F.type_list_append mt ho h (base_plain hr _ _) hfew hl s1 s2) key
    · exact PE.imp (pe_bm PySem.F.plainAttrs_list PySem.F.slot_list_pop PySem.F.type_list_pop mt ho h (base_plain hr _ _) hfew hl s1 s2) key
    · exact PE.imp (pe_bm PySem.F.plainAttrs_list PySem.F.slot_list_extend PySem.F.type_list_extend mt ho h (base_plain hr _ _) hfew hl s1 s2) key
    · exact PE.imp (pe_bm PySem.F.plainAttrs_list PySem.F.slot_list_reverse PySem.F.type_list_reverse mt ho h (base_plain hr _ _) hfew hl s1 s2) key
    · exact PE.imp (pe_bm PySem.F.plainAttrs_list PySem.F.slot_list_index PySem.F.type_list_index mt ho h (base_plain hr _ _) hfew hl s1 s2) key
    · exact PE.imp (pe_bm PySem.F.plainAttrs_list PySem.F.slot_list_count PySem.F.type_list_count mt ho h (base_plain hr _ _) hfew hl s1 s2) key

/-! list(range(..)), tuple(range(..)) -/
theorem rel_range {K : PySem.W.Frag} {m : Mp} {H : Hp} (a b : Int) : RelDs K m H (rangeL a b) (rgV a b) := by
  have aux : ∀ l : List Nat, RelDs K m H (l.map fun i => D.int (a + (i : Nat))) (l.map fun i => V.int (a + (i : Nat))) := by
    intro l
    induction l with
    | nil => exact relDs_nil
    | cons x l ih => exact relDs_cons (by rw [RelD]) ih
  exact aux _
theorem rgOk_spec {a b : Int} (h : rgOk a b = true) : RgOk a b := by
  unfold rgOk at h
  have q := of_decide_eq_true h
  exact q
def rRg (K : PySem.W.Frag) (C : Ctx) (es : List E) : L2.St → Hp → (Int → Int → Hp → Prop) → Prop := fun σ H Q => ∃ m env S ds S' a b, RelSt K m S H ∧ RelEnv K m H env σ ∧ evEs C es env S = .ok ds S' ∧ rangeOf ds = some (a, b) ∧ ∀ (m' : Mp) (H' : Hp), Le m H m' H' → RelSt K m' S' H' → Q a b H'
theorem PRg.imp {e : Expr} {t t' : L2.St → Hp → (Int → Int → Hp → Prop) → Prop} (h : PRg X e t) (i : ∀ σ H Q, t' σ H Q → t σ H Q) : PRg X e t' := fun pins s σ H Q I hw => h pins s σ H Q I (i σ H Q hw)
theorem range_one {ds : List D} {d : D} {a b : Int} (e : rangeOf [d] = some (a, b)) : d = .int b ∧ a = 0 := by
  cases d <;> simp [rangeOf] at e
  obtain ⟨rfl, rfl⟩ := e
  exact ⟨rfl, rfl⟩
theorem range_two {d d2 : D} {a b : Int} (e : rangeOf [d, d2] = some (a, b)) : d = .int a ∧ d2 = .int b := by
  cases d <;> cases d2 <;> simp [rangeOf] at e
  obtain ⟨rfl, rfl⟩ := e
  exact ⟨rfl, rfl⟩
theorem rg_one (G : Good T k c sc X) {a : Expr} {a' : E} {p pos : Pos} (hg : isGl sc "range" = true) (h0 : free0 c "range" = true) (ha : PE X a (rE X.K (T.ctx k) a')) (hs : ∀ (es : List Expr) (env : PySem.Env), starEach (a :: es) env = (false, eval a env) :: starEach es env) :
    PRg X (.Call (.Name "range" p) [a] [] pos) (rRg X.K (T.ctx k) [a']) := by
  refine PRg.imp (prg_1 (gl_of G hg) (free_mg G h0 (by decide +kernel)) ha (hs [] X.env)) fun σ H Q ⟨m, env, S, ds, S', lo, hi, st, re, e, er, p⟩ => ?_
  rw [evEs] at e
  obtain ⟨x, S1, e1, e2⟩ := bindOk e
  obtain ⟨xs, S2, e3, e4⟩ := bindOk e2
  rw [evEs] at e3
  obtain ⟨rfl, rfl⟩ := pureOk e3
  obtain ⟨rfl, rfl⟩ := pureOk e4
  obtain ⟨rfl, rfl⟩ := range_one (ds := []) er
  exact ⟨m, env, S, _, S1, st, re, e1, fun m1 v1 H1 l1 st1 r1 => ⟨hi, relD_int r1, p m1 H1 l1 st1⟩⟩
theorem rg_two (G : Good T k c sc X) {a b : Expr} {a' b' : E} {p pos : Pos} (hg : isGl sc "range" = true) (h0 : free0 c "range" = true) (ha : PE X a (rE X.K (T.ctx k) a')) (hb : PE X b (rE X.K (T.ctx k) b'))
    (hs : ∀ (es : List Expr) (env : PySem.Env), starEach (a :: es) env = (false, eval a env) :: starEach es env) (hs2 : ∀ (es : List Expr) (env : PySem.Env), starEach (b :: es) env = (false, eval b env) :: starEach es env) :
    PRg X (.Call (.Name "range" p) [a, b] [] pos) (rRg X.K (T.ctx k) [a', b']) := by
  refine PRg.imp (prg_2 (gl_of G hg) (free_mg G h0 (by decide +kernel)) ha hb (hs _ X.env) (hs2 _ X.env) (by rw [hs2 [] X.env] <;> rfl)) fun σ H Q ⟨m, env, S, ds, S', lo, hi, st, re, e, er, p⟩ => ?_
  rw [evEs] at e
  obtain ⟨x, S1, e1, e2⟩ := bindOk e
  obtain ⟨xs, S2, e3, e4⟩ := bindOk e2
  rw [evEs] at e3
  obtain ⟨y, S3, e5, e6⟩ := bindOk e3
  obtain ⟨ys, S4, e7, e8⟩ := bindOk e6
  rw [evEs] at e7
  obtain ⟨rfl, rfl⟩ := pureOk e7
  obtain ⟨rfl, rfl⟩ := pureOk e8
  obtain ⟨rfl, rfl⟩ := pureOk e4
  obtain ⟨rfl, rfl⟩ := range_two er
  exact ⟨m, env, S, _, S1, st, re, e1, fun m1 v1 H1 l1 st1 r1 => ⟨m1, env, S1, _, S3, st1, re.mono l1, e5, fun m2 v2 H2 l2 st2 r2 => ⟨lo, hi, relD_int r1, relD_int r2, p m2 H2 (l1.trans l2) st2⟩⟩⟩
theorem s_lrange (G : Good T k c sc X) {r : Expr} {es' : List E} {p pos : Pos} (hg : isGl sc "list" = true) (h0 : free0 c "list" = true) (hr : PRg X r (rRg X.K (T.ctx k) es')) (na : starEach [r] X.env = (false, eval r X.env) :: starEach [] X.env) :
    PE X (.Call (.Name "list" p) [r] [] pos) (rE X.K (T.ctx k) (.lrange es')) := by
  refine PE.imp (pe_listRg G.calm (gl_of G hg) (free_mg G h0 (by decide +kernel)) hr na) fun σ H Q ⟨m, env, S, d, S', st, re, e, p⟩ => ?_
  rw [evE] at e
  obtain ⟨xs, S1, e1, e2⟩ := bindOk e
  cases er : rangeOf xs with
  | none => rw [er] at e2; cases e2
  | some ab =>
    obtain ⟨a, b⟩ := ab
    rw [er] at e2
    have e2' : (do chk (rgOk a b); newO (.lst (rangeL a b)) : M D) S1 = .ok d S' := e2
    obtain ⟨_, S2, e3, e4⟩ := bindOk e2'
    obtain ⟨hz, rfl⟩ := chkOk e3
    unfold newO at e4
    cases e4
    exact ⟨m, env, S, xs, S1, a, b, st, re, e1, er, fun m1 H1 l1 st1 => ⟨rgOk_spec hz, (p.le l1).lst st1 (rel_range a b)⟩⟩
theorem s_trange (G : Good T k c sc X) {r : Expr} {es' : List E} {p pos : Pos} (hg : isGl sc "tuple" = true) (h0 : free0 c "tuple" = true) (hr : PRg X r (rRg X.K (T.ctx k) es')) (na : starEach [r] X.env = (false, eval r X.env) :: starEach [] X.env) :
    PE X (.Call (.Name "tuple" p) [r] [] pos) (rE X.K (T.ctx k) (.trange es')) := by
  refine PE.imp (pe_tupRg G.calm (gl_of G hg) (free_mg G h0 (by decide +kernel)) hr na) fun σ H Q ⟨m, env, S, d, S', st, re, e, p⟩ => ?_
  rw [evE] at e
  obtain ⟨xs, S1, e1, e2⟩ := bindOk e
  cases er : rangeOf xs with
  | none => rw [er] at e2; cases e2
  | some ab =>
    obtain ⟨a, b⟩ := ab
    rw [er] at e2
    have e2' : (do chk (rgOk a b); pure (.tup (rangeL a b)) : M D) S1 = .ok d S' := e2
    obtain ⟨_, S2, e3, e4⟩ := bindOk e2'
    obtain ⟨hz, rfl⟩ := chkOk e3
    obtain ⟨rfl, rfl⟩ := pureOk e4
    exact ⟨m, env, S, xs, S1, a, b, st, re, e1, er, fun m1 H1 l1 st1 => ⟨rgOk_spec hz, (p.le l1).tup st1 (rel_range a b)⟩⟩
/-- tuple(range(a, b, -1)) -/
def PRgD (X : Cx) (e : Expr) (t : L2.St → Hp → (Int → Int → Hp → Prop) → Prop) : Prop :=
  ∀ (pins : List (Addr × Obj)) (s : Shared) (σ : L2.St) (H : Hp) (Q : Int → Int → Hp → Prop), Inv X pins σ H s → t σ H Q →
    wpAny (model X.prog X.w) X.A (eval e X.env) (fun x s' => ∃ r a b t u v H', x = .ref r ∧ IsRange s'.heap r a b (-1) t u v ∧ Inv X pins σ H' s' ∧ Q a b H') X.xe s
def tRgD (ta : TA) : L2.St → Hp → (Int → Int → Hp → Prop) → Prop := fun σ H Q => ta σ H fun vs H1 => ∃ i j : Int, vs = [.int i, .int j, .int (-1)] ∧ Q i j H1
theorem prg_down {a b c : Expr} {ta : TA} {p pos : Pos} (hg : Gl X "range") (hm : X.mg "range" = none) (ha : PA X [a, b, c] ta)
    (hs : starEach [a, b, c] X.env = (false, eval a X.env) :: starEach [b, c] X.env) (hpl : (backTo pos (starEach [b, c] X.env)).any (·.1) = false) :
    PRgD X (.Call (.Name "range" p) [a, b, c] [] pos) (tRgD ta) := by
  intro pins s σ H Q I h
  refine Call_ (ld_blt I hg hm boot_range (PyProof.Rows.callWith_type1 (thn (ha.run pos pins s σ H _ I h) fun us s1 ⟨vs, H1, I1, r1, q1⟩ => ?_) hs hpl))
  obtain ⟨i, j, rfl, q⟩ := q1
  cases r1 with
  | cons r rr =>
    cases rr with
    | cons r' rr =>
      cases rr with
      | cons r'' rr =>
        cases rr
        obtain ⟨t1, rfl⟩ := r
        obtain ⟨t2, rfl⟩ := r'
        obtain ⟨t3, rfl⟩ := r''
        have c0 : (-1 : Int) ≠ 0 := by decide
        have c1 : (-1 : Int).natAbs < 1073741824 := by decide
        refine call_range_3 c0 ?_ (.inl (PyProof.noPylong_small c1))
        exact ⟨_, i, j, _, _, _, H1, rfl, IsRange.new _ _ _ _ _ _ _, I1.kept fun b u e => Heap.get?_push_of_some _ e, q⟩
def dgV (a b : Int) : List V := (List.range (a - b).toNat).map fun i => V.int (a - (i : Nat))
theorem vals_dg {a b : Int} {acc : Array Value} (h : ItemsOf (fun i v => ∃ t, v = .int (a + i * (-1)) t) acc (a - b).toNat) : Vals (dgV a b) acc.toList := by
  have e : acc.toList.length = (a - b).toNat := by rw [Array.length_toList]; exact h.1
  unfold dgV
  rw [← e]
  refine vals_of_get acc.toList _ fun j u hj => ?_
  obtain ⟨t, rfl⟩ := h.2 j u (by rw [← hj, Array.getElem?_toList])
  exact ⟨t, by rw [show a - (j : Int) = a + (j : Int) * (-1) by omega]⟩
def tTupDn (te : L2.St → Hp → (Int → Int → Hp → Prop) → Prop) : TE := fun σ H Q => te σ H fun a b H1 => dnOk a b = true ∧ ∀ q, H1 q = none → Q (.ref q) (upd H1 q (.tup (dgV a b)))
theorem pe_tupDn {e : Expr} {te : L2.St → Hp → (Int → Int → Hp → Prop) → Prop} {p pos : Pos} (hc : X.calm = true) (hg : Gl X "tuple") (hm : X.mg "tuple" = none) (he : PRgD X e te) (na : starEach [e] X.env = (false, eval e X.env) :: starEach [] X.env) : PE X (.Call (.Name "tuple" p) [e] [] pos) (tTupDn te) := by
  refine ⟨fun pins s σ H Q I h => ?_⟩
  refine Call_ (ld_blt I hg hm boot_tuple (PyProof.Rows.callWith_type1 (args_cons (thn (he pins s σ H _ I h) fun x s1 ⟨r, a, b, t, u, v, H1, ex, hr, I1, ok, q⟩ => args_nil ?_) na) na))
  subst ex
  unfold dnOk at ok
  obtain ⟨b1, b2, b3, b4, b5⟩ := of_decide_eq_true ok
  refine call_tuple_range (n := (a - b).toNat) (I1.ok.hd hc) hr (PySem.W.small_down b1 b2 b3 b4) (PySem.W.rangeSize_downNat a b) b5 fun h' tk acc hk hi => ?_
  have I2 : Inv X pins σ H1 { s1 with heap := h', toks := tk } := I1.kept hk
  have hlen : (dgV a b).length = (a - b).toNat := by unfold dgV; rw [List.length_map, List.length_range]
  refine ⟨.ref h'.objs.size, upd H1 h'.objs.size (.tup (dgV a b)), I2.laid (t' := tk) (fun c o e => Heap.get?_push_of_some _ e) (Nat.le_refl _) (show ObjOk X.prog X.w _ _ _ (.tup (dgV a b)) from ⟨?_, acc.toList, vals_dg hi, ?_⟩), rfl, q _ (I2.hok.fresh (Nat.le_refl _))⟩
  · rw [hlen, sizeLine_eq]; omega
  · rw [Array.toArray_toList]; exact IsTup.new _ _
theorem rel_down {K : PySem.W.Frag} {m : Mp} {H : Hp} (a b : Int) : RelDs K m H (downL a b) (dgV a b) := by
  have aux : ∀ l : List Nat, RelDs K m H (l.map fun i => D.int (a - (i : Nat))) (l.map fun i => V.int (a - (i : Nat))) := by
    intro l
    induction l with
    | nil => exact relDs_nil
    | cons x l ih => exact relDs_cons (by rw [RelD]) ih
  exact aux _
theorem s_tdown (G : Good T k c sc X) {a b : Expr} {a' b' : E} {j : Nat} {p p2 p3 p4 pos pos2 : Pos} (hg : isGl sc "tuple" = true) (h0 : free0 c "tuple" = true) (hg2 : isGl sc "range" = true) (h02 : free0 c "range" = true) (ha : PE X a (rE X.K (T.ctx k) a')) (hb : PE X b (rE X.K (T.ctx k) b'))
    (hs : ∀ (es : List Expr) (env : PySem.Env), starEach (a :: es) env = (false, eval a env) :: starEach es env) (hs2 : ∀ (es : List Expr) (env : PySem.Env), starEach (b :: es) env = (false, eval b env) :: starEach es env) :
    PE X (.Call (.Name "tuple" p) [.Call (.Name "range" p2) [a, b, .UnaryOp .USub (.Constant (.int 1) j p3) p4] [] pos2] [] pos) (rE X.K (T.ctx k) (.tdown [a', b'])) := by
  have hc3 := pe_un (X := X) (pos := p4) un_neg (pe_int (X := X) (i := 1) (j := j) (pos := p3))
  refine PE.imp (pe_tupDn G.calm (gl_of G hg) (free_mg G h0 (by decide +kernel)) (prg_down (gl_of G hg2) (free_mg G h02 (by decide +kernel)) (pa_cons ha (pa_cons hb (pa_cons hc3 pa_nil rfl) (hs2 _ X.env)) (hs _ X.env)) (hs _ X.env) (by rw [hs2 _ X.env] <;> rfl)) rfl) fun σ H Q ⟨m, env, S, d, S', st, re, e, p⟩ => ?_
  rw [evE] at e
  obtain ⟨xs, S1, e1, e2⟩ := bindOk e
  rw [evEs] at e1
  obtain ⟨x, S2, e3, e4⟩ := bindOk e1
  obtain ⟨ys, S3, e5, e6⟩ := bindOk e4
  rw [evEs] at e5
  obtain ⟨y, S4, e7, e8⟩ := bindOk e5
  obtain ⟨zs, S5, e9, e10⟩ := bindOk e8
  rw [evEs] at e9
  obtain ⟨rfl, rfl⟩ := pureOk e9
  obtain ⟨rfl, rfl⟩ := pureOk e10
  obtain ⟨rfl, rfl⟩ := pureOk e6
  cases er : rangeOf [x, y] with
  | none => rw [er] at e2; cases e2
  | some ab =>
    obtain ⟨u, v⟩ := ab
    rw [er] at e2
    have e2' : (do chk (dnOk u v); pure (.tup (downL u v)) : M D) _ = .ok d S' := e2
    obtain ⟨_, S6, e11, e12⟩ := bindOk e2'
    obtain ⟨hz, rfl⟩ := chkOk e11
    obtain ⟨rfl, rfl⟩ := pureOk e12
    obtain ⟨rfl, rfl⟩ := range_two er
    refine ⟨m, env, S, _, S2, st, re, e3, fun m1 v1 H1 l1 st1 r1 => ⟨m1, env, S2, _, _, st1, re.mono l1, e7, fun m2 v2 H2 l2 st2 r2 => ⟨1, rfl, u, v, ?_, hz, ?_⟩⟩⟩
    · rw [relD_int (r1.mono l2), relD_int r2]
    · exact (p.le (l1.trans l2)).tup st2 (rel_down u v)
end
end Pi

namespace Pi
open PySem PySem.Spec PyProof.Rows L2
section
variable {X : Cx} {T : Tb} {k : Nat} {c : CC} {sc : Scope}
/-! what is walked -/
def iSeq (K : PySem.W.Frag) (tl : TE) : TI := fun σ H R => tl σ H fun x H1 => ∃ a, x = .ref a ∧ (((∃ xs, SqL K H1 a xs) ∧ R (Itl K a) H1) ∨ ((∃ xs, SqT K H1 a xs) ∧ R (Itt K a) H1) ∨ (∃ lo hi, H1 a = some (.rng lo hi) ∧ rgOk lo hi = true ∧ R (Itr lo (hi - lo).toNat) H1))
theorem rng_walk {tg : Expr} {pins : List (Addr × Obj)} {σ : L2.St} {H : Hp} {s : Shared} {R : L2.It → Hp → Prop} {E : Value → Shared → Prop} {a : Addr} {lo hi : Int} (I : Inv X pins σ H s) (hq : H a = some (.rng lo hi)) (hk : rgOk lo hi = true)
    (q : R (Itr lo (hi - lo).toNat) H) : wpAny (model X.prog X.w) X.A (pyIter (.ref a)) (PIE X pins σ tg R) E s := by
  obtain ⟨t, u, v, hr⟩ := I.hok a _ hq
  unfold rgOk at hk
  have hk := of_decide_eq_true hk
  refine wpAny_pyIter_range (a := lo) (b := hi) (c := 1) (t := t) (u := u) (v := v) hr (small_one (by omega) (by omega) (by omega) (by omega)) ?_
  refine ⟨s.heap.objs.size, [s.heap.objs.size], _, _, H, rfl, I.kept (t' := s.toks) fun b o e => Heap.get?_push_of_some _ e, turn_range _ lo (hi - lo).toNat, ?_, fun b hb => ?_, q⟩
  · have e1 : lo + ((0 : Nat) : Int) * 1 = lo := by simp
    have e2 : (((hi - lo).toNat : Nat) : Int) - ((0 : Nat) : Int) = Builtin.Range.rangeSize lo hi 1 := by rw [rangeSize_one]; split <;> omega
    show IsRangeIter _ _ (lo + ((0 : Nat) : Int) * 1) ((((hi - lo).toNat : Nat) : Int) - ((0 : Nat) : Int)) 1
    rw [e1, e2]
    exact Heap.get?_push_size _ rfl
  · have e : b = s.heap.objs.size := by simpa using hb
    subst e
    exact I.fpOk (Nat.le_refl _) (I.hok.fresh (Nat.le_refl _))
theorem pi_seq {tg l : Expr} {tl : TE} (hl : PE X l tl) : PI X tg l (iSeq X.K tl) := by
  refine ⟨fun pins s σ H R I h => ?_⟩
  refine thn (hl.run pins s σ H _ I h) fun v s1 ⟨x, H1, I1, r1, q1⟩ => ?_
  obtain ⟨a, e, q⟩ := q1
  subst e
  cases r1
  have fp : ∀ b ∈ [s1.heap.objs.size], FpOk X pins H1 b := fun b hb => by
    have e : b = s1.heap.objs.size := by simpa using hb
    subst e
    exact I1.fpOk (Nat.le_refl _) (I1.hok.fresh (Nat.le_refl _))
  rcases q with ⟨⟨xs, hq⟩, q⟩ | ⟨⟨xs, hq⟩, q⟩ | ⟨lo, hi, hq, hk, q⟩
  · obtain ⟨its, rv, p, hz⟩ := I1.list hq
    refine wpAny_pyIter_list p.isList ?_
    exact ⟨s1.heap.objs.size, [s1.heap.objs.size], _, _, H1, rfl, I1.kept (t' := s1.toks) fun b o e => Heap.get?_push_of_some _ e, turn_list a _, ⟨_, Heap.get?_push_size _ rfl, rfl, rfl⟩, fp, q⟩
  · obtain ⟨its, rv, p, hz⟩ := I1.tuple hq
    refine wpAny_pyIter_tuple (show s1.heap.IsTuple a its.toArray from p) ?_
    exact ⟨s1.heap.objs.size, [s1.heap.objs.size], _, _, H1, rfl, I1.kept (t' := s1.toks) fun b o e => Heap.get?_push_of_some _ e, turn_tuple a _, ⟨_, Heap.get?_push_size _ rfl, rfl, rfl⟩, fp, q⟩
  · exact rng_walk I1 hq hk q

/-- a sequence, as it stands and stays -/
inductive SeqR (K : PySem.W.Frag) (m : Mp) (H : Hp) : D → Addr → Prop
  | tup {l : List D} {a : Addr} {xs : List V} (h : H a = some (.tup xs) ∨ KT K a xs) (r : RelDs K m H l xs) : SeqR K m H (.tup l) a
  | clst {l : List D} {a : Addr} {xs : List V} (h : (∃ o, H a = some (.frz o (.lst xs))) ∨ KL K a xs) (r : RelDs K m H l xs) : SeqR K m H (.clst l) a
  | ref {n : Nat} {a : Addr} (h : m n = some a) : SeqR K m H (.ref n) a
def isTup : D → Bool
  | .tup _ => true
  | _ => false
theorem SeqR.mono {K : PySem.W.Frag} {m m' : Mp} {H H' : Hp} {d : D} {a : Addr} (h : SeqR K m H d a) (le : Lw m H m' H') : SeqR K m' H' d a := by
  cases h with
  | tup h r => exact .tup (h.elim (fun z => .inl (le.tups _ _ z)) .inr) (r.monow le)
  | clst h r => exact .clst (h.elim (fun ⟨o, z⟩ => .inl ⟨o, le.frzs _ _ _ z⟩) .inr) (r.monow le)
  | ref h => exact .ref (le.mp _ _ h)
theorem seqR_of {K : PySem.W.Frag} {m : Mp} {H : Hp} {S : Sto} {d : D} {v : V} {l : List D} (r : RelD K m H d v) (h : items d S = .ok l S) : ∃ a, v = .ref a ∧ SeqR K m H d a := by
  obtain ⟨_, q⟩ := items_inv h
  rcases q with rfl | rfl | ⟨n, rfl, hn⟩
  · rw [RelD] at r
    obtain ⟨a, xs, e, q, rs⟩ := r
    exact ⟨a, e, .tup q rs⟩
  · rw [RelD] at r
    obtain ⟨a, xs, e, q, rs⟩ := r
    exact ⟨a, e, .clst q rs⟩
  · rw [RelD] at r
    obtain ⟨a, e, q⟩ := r
    exact ⟨a, e, .ref q⟩
/-- at any time: the items, by the sequence's kind -/
theorem SeqR.now {K : PySem.W.Frag} {m : Mp} {H : Hp} {S : Sto} {d : D} {a : Addr} (h : SeqR K m H d a) (st : RelSt K m S H) : (∀ i, seqStep d i S = .bad) ∨ ∃ l xs, (∀ i, seqStep d i S = stepL l i) ∧ RelDs K m H l xs ∧ (isTup d = true → SqT K H a xs) ∧ (isTup d = false → SqL K H a xs) := by
  cases h with
  | @tup l _ xs h r => exact .inr ⟨l, xs, fun _ => rfl, r, fun _ => sqT_of h, fun z => (by cases z)⟩
  | @clst l _ xs h r => exact .inr ⟨l, xs, fun _ => rfl, r, fun z => (by cases z), fun _ => sqL_of h⟩
  | @ref n _ h =>
    obtain ⟨o, ho, ro⟩ := st.at h
    cases o with
    | lst l =>
      obtain ⟨xs, hx, r⟩ := ro
      refine .inr ⟨l, xs, fun i => ?_, r, fun z => (by cases z), fun _ => SqL.of hx⟩
      simp only [seqStep, ho]
    | dic t ks vs => exact .inl fun i => by simp only [seqStep, ho]
    | ins _ _ => exact ro.elim
theorem SeqR.nowS {K : PySem.W.Frag} {m : Mp} {H : Hp} {S : Sto} {d : D} {a : Addr} {l0 : List D} (h : SeqR K m H d a) (st : RelSt K m S H) (hi : items d S = .ok l0 S) : ∃ l xs, (∀ i, seqStep d i S = stepL l i) ∧ RelDs K m H l xs ∧ (isTup d = true → SqT K H a xs) ∧ (isTup d = false → SqL K H a xs) := by
  rcases h.now st with hb | q
  · exfalso
    have := hb 0
    obtain ⟨_, q⟩ := items_inv hi
    rcases q with rfl | rfl | ⟨n, rfl, hn⟩
    · simp only [seqStep, stepL] at this
      split at this <;> cases this
    · simp only [seqStep, stepL] at this
      split at this <;> cases this
    · simp only [seqStep, hn, stepL] at this
      split at this <;> cases this
  · exact q
theorem relJ_seq {K : PySem.W.Frag} {m : Mp} {H : Hp} {d : D} {a : Addr} {n : Nat} (h : SeqR K m H d a) : RelJ K m H ⟨n, seqStep d⟩ (if isTup d = true then Itt K a else Itl K a) := by
  intro m1 H1 S1 le st i
  rcases (h.mono le).now st with hb | ⟨l, xs, hs, r, t1, t2⟩
  · show (match seqStep d i S1 with | .item d' => _ | .stop => _ | .bad => True)
    rw [hb i]
    trivial
  show (match seqStep d i S1 with | .item d' => _ | .stop => _ | .bad => True)
  rw [hs i]
  unfold stepL
  cases e : l[i]? with
  | some x =>
    obtain ⟨v, hv, rv⟩ := r.get e
    by_cases ht : isTup d = true
    · rw [if_pos ht]
      exact ⟨⟨xs, v, t1 ht, hv⟩, fun x' H2 y => by
        obtain ⟨e1, y⟩ := y
        subst e1
        have := y xs (t1 ht)
        rw [hv] at this
        cases this
        exact ⟨Le.refl _ _, st, rv⟩⟩
    · have hf : isTup d = false := by simpa using ht
      rw [if_neg ht]
      exact ⟨⟨xs, v, t2 hf, hv⟩, fun x' H2 y => by
        obtain ⟨e1, y⟩ := y
        subst e1
        have := y xs (t2 hf)
        rw [hv] at this
        cases this
        exact ⟨Le.refl _ _, st, rv⟩⟩
  | none =>
    have hl : xs.length ≤ i := by
      rw [r.length]
      exact List.getElem?_eq_none_iff.mp e
    by_cases ht : isTup d = true
    · rw [if_pos ht]
      exact ⟨xs, t1 ht, hl⟩
    · rw [if_neg ht]
      exact ⟨xs, t2 (by simpa using ht), hl⟩
theorem relD_pair {K : PySem.W.Frag} {m : Mp} {H : Hp} {d e : D} {x y : V} {q : Addr} (r1 : RelD K m H d x) (r2 : RelD K m H e y) (h : H q = none) : RelD K m (upd H q (.tup [x, y])) (.tup [d, e]) (.ref q) := by
  have le := Le.new (m := m) q (.tup [x, y]) h
  rw [RelD]
  exact ⟨q, _, rfl, .inl upd_same, relDs_cons (r1.mono le) (relDs_cons (r2.mono le) relDs_nil)⟩
theorem relJ_enum {K : PySem.W.Frag} {m : Mp} {H : Hp} {d : D} {a : Addr} {n : Nat} (h : SeqR K m H d a) : RelJ K m H ⟨n, enumStep d⟩ (if isTup d = true then IteT K a else Ite K a) := by
  intro m1 H1 S1 le st i
  rcases (h.mono le).now st with hb | ⟨l, xs, hs, r, t1, t2⟩
  · show (match enumStep d i S1 with | .item d' => _ | .stop => _ | .bad => True)
    unfold enumStep
    rw [hb i]
    trivial
  show (match enumStep d i S1 with | .item d' => _ | .stop => _ | .bad => True)
  unfold enumStep
  rw [hs i]
  unfold stepL
  cases e : l[i]? with
  | some x =>
    obtain ⟨v, hv, rv⟩ := r.get e
    by_cases ht : isTup d = true
    · rw [if_pos ht]
      exact ⟨⟨xs, v, t1 ht, hv⟩, fun x' H2 y => by
        obtain ⟨q, w, e1, hq, e2, y⟩ := y
        subst e1 e2
        have := y xs (t1 ht)
        rw [hv] at this
        cases this
        exact ⟨Le.new q _ hq, st.new q _ hq, relD_pair (by rw [RelD]) rv hq⟩⟩
    · have hf : isTup d = false := by simpa using ht
      rw [if_neg ht]
      exact ⟨⟨xs, v, t2 hf, hv⟩, fun x' H2 y => by
        obtain ⟨q, w, e1, hq, e2, y⟩ := y
        subst e1 e2
        have := y xs (t2 hf)
        rw [hv] at this
        cases this
        exact ⟨Le.new q _ hq, st.new q _ hq, relD_pair (by rw [RelD]) rv hq⟩⟩
  | none =>
    have hl : xs.length ≤ i := by
      rw [r.length]
      exact List.getElem?_eq_none_iff.mp e
    by_cases ht : isTup d = true
    · rw [if_pos ht]
      exact ⟨xs, t1 ht, hl⟩
    · rw [if_neg ht]
      exact ⟨xs, t2 (by simpa using ht), hl⟩
theorem kind_same {a b : D} (h : sameKind a b = true) : isTup a = isTup b := by
  cases a <;> cases b <;> simp [sameKind, isTup] at h ⊢
theorem relJ_zip {K : PySem.W.Frag} {m : Mp} {H : Hp} {d e : D} {a b : Addr} {n : Nat} (h : SeqR K m H d a) (h' : SeqR K m H e b) (hk : sameKind d e = true) : RelJ K m H ⟨n, zipStep d e⟩ (if isTup d = true then RZ.ItzT K a b else Itz K a b) := by
  intro m1 H1 S1 le st i
  rcases (h.mono le).now st with hb | ⟨l, xs, hs, r, t1, t2⟩
  · show (match zipStep d e i S1 with | .item d' => _ | .stop => _ | .bad => True)
    unfold zipStep
    rw [hb i]
    cases seqStep e i S1 <;> trivial
  rcases (h'.mono le).now st with hb | ⟨l', ys, hs', r', t1', t2'⟩
  · show (match zipStep d e i S1 with | .item d' => _ | .stop => _ | .bad => True)
    unfold zipStep
    rw [hb i]
    cases seqStep d i S1 <;> trivial
  have ek := kind_same hk
  show (match zipStep d e i S1 with | .item d' => _ | .stop => _ | .bad => True)
  unfold zipStep
  rw [hs i, hs' i]
  unfold stepL
  cases e1 : l[i]? with
  | some x =>
    cases e2 : l'[i]? with
    | some x' =>
      obtain ⟨v, hv, rv⟩ := r.get e1
      obtain ⟨v', hv', rv'⟩ := r'.get e2
      by_cases ht : isTup d = true
      · have ht' : isTup e = true := ek ▸ ht
        rw [if_pos ht]
        exact ⟨⟨xs, ys, v, v', t1 ht, t1' ht', hv, hv'⟩, fun z H2 y => by
          obtain ⟨q, w, w', e1, hq, e2, y1, y2⟩ := y
          subst e1 e2
          have q1 := y1 xs (t1 ht)
          have q2 := y2 ys (t1' ht')
          rw [hv] at q1
          rw [hv'] at q2
          cases q1
          cases q2
          exact ⟨Le.new q _ hq, st.new q _ hq, relD_pair rv rv' hq⟩⟩
      · have hf : isTup d = false := by simpa using ht
        have hf' : isTup e = false := ek ▸ hf
        rw [if_neg ht]
        exact ⟨⟨xs, ys, v, v', t2 hf, t2' hf', hv, hv'⟩, fun z H2 y => by
          obtain ⟨q, w, w', e1, hq, e2, y1, y2⟩ := y
          subst e1 e2
          have q1 := y1 xs (t2 hf)
          have q2 := y2 ys (t2' hf')
          rw [hv] at q1
          rw [hv'] at q2
          cases q1
          cases q2
          exact ⟨Le.new q _ hq, st.new q _ hq, relD_pair rv rv' hq⟩⟩
    | none =>
      have hl : ys.length ≤ i := by
        rw [r'.length]
        exact List.getElem?_eq_none_iff.mp e2
      by_cases ht : isTup d = true
      · rw [if_pos ht]
        exact ⟨xs, ys, t1 ht, t1' (ek ▸ ht), .inr hl⟩
      · have hf : isTup d = false := by simpa using ht
        rw [if_neg ht]
        exact ⟨xs, ys, t2 hf, t2' (ek ▸ hf), .inr hl⟩
  | none =>
    have hl : xs.length ≤ i := by
      rw [r.length]
      exact List.getElem?_eq_none_iff.mp e1
    cases e2 : l'[i]? with
    | some _ =>
      by_cases ht : isTup d = true
      · rw [if_pos ht]
        exact ⟨xs, ys, t1 ht, t1' (ek ▸ ht), .inl hl⟩
      · have hf : isTup d = false := by simpa using ht
        rw [if_neg ht]
        exact ⟨xs, ys, t2 hf, t2' (ek ▸ hf), .inl hl⟩
    | none =>
      by_cases ht : isTup d = true
      · rw [if_pos ht]
        exact ⟨xs, ys, t1 ht, t1' (ek ▸ ht), .inl hl⟩
      · have hf : isTup d = false := by simpa using ht
        rw [if_neg ht]
        exact ⟨xs, ys, t2 hf, t2' (ek ▸ hf), .inl hl⟩
theorem relJ_range {K : PySem.W.Frag} {m : Mp} {H : Hp} (lo hi : Int) (n : Nat) : RelJ K m H ⟨n, fun i _ => stepL (rangeL lo hi) i⟩ (Itr lo (hi - lo).toNat) := by
  intro m1 H1 S1 le st i
  show (match stepL (rangeL lo hi) i with | .item d' => _ | .stop => _ | .bad => True)
  unfold stepL
  have hl : (rangeL lo hi).length = (hi - lo).toNat := by
    unfold rangeL
    rw [List.length_map, List.length_range]
  cases e : (rangeL lo hi)[i]? with
  | some x =>
    have hlt : i < (hi - lo).toNat := by
      rw [← hl]
      exact (List.getElem?_eq_some_iff.mp e).1
    have ex : x = .int (lo + (i : Nat)) := by
      unfold rangeL at e
      rw [List.getElem?_map, List.getElem?_range hlt] at e
      cases e
      rfl
    subst ex
    exact ⟨hlt, fun x' H2 y => by
      obtain ⟨e1, e2⟩ := y
      subst e1 e2
      exact ⟨Le.refl _ _, st, by rw [RelD]⟩⟩
  | none =>
    show (hi - lo).toNat ≤ i
    rw [← hl]
    exact List.getElem?_eq_none_iff.mp e
theorem itemsI_inv {d : D} {S S' : Sto} {l : List D} (h : itemsI d S = .ok l S') : S' = S ∧ (items d S = .ok l S ∨ ∃ lo hi, d = .rng lo hi ∧ rgOk lo hi = true) := by
  unfold itemsI at h
  split at h
  · split at h
    · rename_i hk
      cases h
      exact ⟨rfl, .inr ⟨_, _, rfl, hk⟩⟩
    · cases h
  · obtain ⟨rfl, _⟩ := items_inv h
    exact ⟨rfl, .inl h⟩
theorem s_ofI {tg a : Expr} {a' : E} (ha : PE X a (rE X.K (T.ctx k) a')) : PI X tg a (rI X.K (T.ctx k) (.of a')) := by
  refine PI.imp (pi_seq ha) fun σ H R ⟨m, env, S, J, S', st, re, e, p⟩ => ?_
  rw [evI] at e
  obtain ⟨x, S1, e1, e2⟩ := bindOk e
  unfold iterOf at e2
  obtain ⟨l, S2, e3, e4⟩ := bindOk e2
  obtain ⟨rfl, hk⟩ := itemsI_inv e3
  obtain ⟨rfl, rfl⟩ := pureOk e4
  refine ⟨m, env, S, x, S2, st, re, e1, fun m1 v1 H1 l1 st1 r1 => ?_⟩
  rcases hk with e3 | ⟨lo, hi, rfl, hk⟩
  case inr =>
    rw [RelD] at r1
    obtain ⟨a, rfl, ha⟩ := r1
    exact ⟨a, rfl, .inr (.inr ⟨lo, hi, ha, hk, p m1 H1 _ l1 st1 (relJ_range lo hi _)⟩)⟩
  obtain ⟨a, rfl, q⟩ := seqR_of r1 e3
  obtain ⟨l', xs, _, _, t1, t2⟩ := q.nowS st1 e3
  have q' := relJ_seq (n := l.length) q
  refine ⟨a, rfl, ?_⟩
  by_cases ht : isTup x = true
  · rw [if_pos ht] at q'
    exact .inr (.inl ⟨⟨xs, t1 ht⟩, p m1 H1 _ l1 st1 q'⟩)
  · rw [if_neg ht] at q'
    exact .inl ⟨⟨xs, t2 (by simpa using ht)⟩, p m1 H1 _ l1 st1 q'⟩
theorem s_enumI (G : Good T k c sc X) {a : Expr} {a' : E} {elts : List Expr} {kk : Nat} {p pos tpos : Pos} (hg : isGl sc "enumerate" = true) (h0 : free0 c "enumerate" = true) (ha : PE X a (rE X.K (T.ctx k) a'))
    (hs : ∀ (es : List Expr) (env : PySem.Env), starEach (a :: es) env = (false, eval a env) :: starEach es env) : PI X (.Tuple elts kk tpos) (.Call (.Name "enumerate" p) [a] [] pos) (rI X.K (T.ctx k) (.enum a')) := by
  refine PI.imp (pi_enumA (gl_of G hg) (free_mg G h0 (by decide +kernel)) (pa_cons ha pa_nil (hs _ X.env)) (hs _ X.env)) fun σ H R ⟨m, env, S, J, S', st, re, e, p⟩ => ?_
  rw [evI] at e
  obtain ⟨x, S1, e1, e2⟩ := bindOk e
  unfold iterEnum at e2
  obtain ⟨l, S2, e3, e4⟩ := bindOk e2
  obtain ⟨rfl, _⟩ := items_inv e3
  obtain ⟨rfl, rfl⟩ := pureOk e4
  refine ⟨m, env, S, x, S2, st, re, e1, fun m1 v1 H1 l1 st1 r1 => ?_⟩
  obtain ⟨a, rfl, q⟩ := seqR_of r1 e3
  obtain ⟨l', xs, _, _, t1, t2⟩ := q.nowS st1 e3
  have q' := relJ_enum (n := l.length) q
  refine ⟨a, xs, rfl, ?_⟩
  by_cases ht : isTup x = true
  · rw [if_pos ht] at q'
    exact .inr ⟨t1 ht, p m1 H1 _ l1 st1 q'⟩
  · rw [if_neg ht] at q'
    exact .inl ⟨t2 (by simpa using ht), p m1 H1 _ l1 st1 q'⟩
theorem revStep_tup {l : List D} {i : Nat} {S : Sto} : revStep (.tup l) i S = stepL l.reverse i := rfl
theorem rev_get {α : Type} {l : List α} {i : Nat} (h : i < l.length) : l.reverse[i]? = l[l.length - 1 - i]? := by
  rw [List.getElem?_reverse h]
theorem relJ_rev {K : PySem.W.Frag} {m : Mp} {H : Hp} {d : D} {a : Addr} {l : List D} {xs : List V} (hd : (d = .tup l ∧ (H a = some (.tup xs) ∨ KT K a xs)) ∨ (d = .clst l ∧ ((∃ o, H a = some (.frz o (.lst xs))) ∨ KL K a xs))) (r : RelDs K m H l xs) :
    RelJ K m H ⟨l.length, revStep d⟩ (if isTup d = true then RT.ItvT K a xs.length else Itv K a xs.length) := by
  intro m1 H1 S1 le st i
  have hl := r.length
  have rs := r.monow le
  have es : revStep d i S1 = stepL l.reverse i := by
    rcases hd with ⟨rfl, _⟩ | ⟨rfl, _⟩ <;> rfl
  show (match revStep d i S1 with | .item d' => _ | .stop => _ | .bad => True)
  rw [es]
  unfold stepL
  rcases Nat.lt_or_ge i l.length with hi | hi
  · rw [rev_get hi, List.getElem?_eq_getElem (show l.length - 1 - i < l.length by omega)]
    obtain ⟨v, hv, rv⟩ := rs.get (List.getElem?_eq_getElem (show l.length - 1 - i < l.length by omega))
    rw [← hl] at hv
    rcases hd with ⟨rfl, hq⟩ | ⟨rfl, hq⟩
    · have hq' : SqT K H1 a xs := sqT_of (hq.elim (fun z => .inl (le.tups _ _ z)) .inr)
      rw [if_pos (show isTup (.tup l) = true from rfl)]
      refine ⟨⟨by rw [hl]; exact hi, xs, v, hq', hv⟩, fun x' H2 y => ?_⟩
      obtain ⟨e1, y⟩ := y
      subst e1
      have := y xs hq'
      rw [hv] at this
      cases this
      exact ⟨Le.refl _ _, st, rv⟩
    · have hq' : SqL K H1 a xs := sqL_of (hq.elim (fun ⟨o, z⟩ => .inl ⟨o, le.frzs _ _ _ z⟩) .inr)
      rw [if_neg (by simp [isTup])]
      refine ⟨⟨by rw [hl]; exact hi, xs, v, hq', hv⟩, fun x' H2 y => ?_⟩
      obtain ⟨e1, y⟩ := y
      subst e1
      have := y xs hq'
      rw [hv] at this
      cases this
      exact ⟨Le.refl _ _, st, rv⟩
  · rw [List.getElem?_eq_none (by rw [List.length_reverse]; exact hi)]
    by_cases ht : isTup d = true
    · rw [if_pos ht]
      show xs.length ≤ i
      omega
    · rw [if_neg ht]
      show xs.length ≤ i
      omega
theorem s_revI (G : Good T k c sc X) {tg a : Expr} {a' : E} {p pos : Pos} (hg : isGl sc "reversed" = true) (h0 : free0 c "reversed" = true) (ha : PE X a (rE X.K (T.ctx k) a'))
    (hs : ∀ (es : List Expr) (env : PySem.Env), starEach (a :: es) env = (false, eval a env) :: starEach es env) : PI X tg (.Call (.Name "reversed" p) [a] [] pos) (rI X.K (T.ctx k) (.rev a')) := by
  refine PI.imp (RT.pi_revA (gl_of G hg) (free_mg G h0 (by decide +kernel)) ha (hs _ X.env)) fun σ H R ⟨m, env, S, J, S', st, re, e, p⟩ => ?_
  rw [evI] at e
  obtain ⟨x, S1, e1, e2⟩ := bindOk e
  unfold iterRev at e2
  obtain ⟨l, S2, e3, e4⟩ := bindOk e2
  obtain ⟨rfl, _⟩ := items_inv e3
  obtain ⟨rfl, rfl⟩ := pureOk e4
  refine ⟨m, env, S, x, S2, st, re, e1, fun m1 v1 H1 l1 st1 r1 => ?_⟩
  obtain ⟨_, q⟩ := items_inv e3
  rcases q with rfl | rfl | ⟨n, rfl, hn⟩
  · rw [RelD] at r1
    obtain ⟨b, xs, rfl, q, rs⟩ := r1
    have q' := relJ_rev (.inl ⟨rfl, q⟩) rs
    rw [if_pos (show isTup (.tup l) = true from rfl)] at q'
    exact ⟨b, xs, rfl, .inr ⟨sqT_of q, p m1 H1 _ l1 st1 q'⟩⟩
  · rw [RelD] at r1
    obtain ⟨b, xs, rfl, q, rs⟩ := r1
    have q' := relJ_rev (.inr ⟨rfl, q⟩) rs
    rw [if_neg (by simp [isTup])] at q'
    exact ⟨b, xs, rfl, .inl ⟨sqL_of q, p m1 H1 _ l1 st1 q'⟩⟩
  · rw [RelD] at r1
    obtain ⟨b, rfl, hb⟩ := r1
    obtain ⟨xs, hx, rs⟩ := st1.lst hb hn
    refine ⟨b, xs, rfl, .inl ⟨SqL.of hx, p m1 H1 _ l1 st1 ?_⟩⟩
    intro m2 H2 S2' le st2 i
    exact True.intro
/-! sorted(set(x)), x a tuple of whole numbers -/
theorem mem_onceI : ∀ {l : List Int} {k : Int}, k ∈ onceI l ↔ k ∈ l
  | [], k => by simp [onceI]
  | a :: l, k => by
    rw [onceI]
    split
    · rename_i h
      rw [mem_onceI, List.mem_cons]
      exact ⟨.inr, fun z => z.elim (fun e => e ▸ h) id⟩
    · rw [List.mem_cons, List.mem_cons, mem_onceI]
theorem nodup_onceI : ∀ l : List Int, (onceI l).Nodup
  | [] => by simp [onceI]
  | a :: l => by
    rw [onceI]
    split
    · exact nodup_onceI l
    · rename_i h
      exact List.nodup_cons.mpr ⟨fun z => h (mem_onceI.mp z), nodup_onceI l⟩
theorem ssetI_spec (ns l : List Int) (h1 : l.Pairwise (· < ·)) (h2 : ∀ k : Int, k ∈ l ↔ k ∈ ns) : l = ssetI ns := by
  have hp : (ssetI ns).Perm (onceI ns) := sortI_perm _
  have hs : (ssetI ns).Pairwise (· ≤ ·) := sortI_sorted _
  have hnd : (ssetI ns).Nodup := hp.nodup_iff.mpr (nodup_onceI ns)
  have hlt : (ssetI ns).Pairwise (· < ·) := by
    have := List.Pairwise.and hs hnd
    exact this.imp fun ⟨a, b⟩ => by omega
  have hmem : ∀ k : Int, k ∈ ssetI ns ↔ k ∈ ns := fun k => by rw [hp.mem_iff, mem_onceI]
  refine List.Perm.eq_of_pairwise (le := fun a b : Int => a ≤ b) (fun a b _ _ h1 h2 => by omega) (h1.imp fun h => by omega) hs ?_
  rw [List.perm_ext_iff_of_nodup (h1.imp fun h => by omega) hnd]
  intro k
  rw [h2, hmem]
def rSetT (K : PySem.W.Frag) (w : World) : List V → Hp → VK → Prop := fun vs H Q => ∃ (p : Addr) (ns : List Int), vs = [.ref p] ∧ SqT K H p (ns.map V.int) ∧ ns.length ≤ 60 ∧ ∀ q c, H q = none → c ≤ ns.length → Q (.ref q) (upd H q (SetO w q (fun j => decide (j ∈ ns)) c))
theorem cr_setT (hc : X.calm = true) : CallR X (.type "set") (rSetT X.K X.w) := by
  intro pins s σ H vs us Q I r h
  obtain ⟨p0, ns, rfl, hq, hl, q⟩ := h
  cases r with
  | cons r rr =>
    cases rr
    cases r
    obtain ⟨its, rv, pt, hz⟩ := I.tuple hq
    refine call_set_tupI ns (I.ok.hd hc) (show s.heap.IsTuple p0 its.toArray from pt) (ints_of_vals rv) (by unfold scanBound; omega) fun h' tk c R1 hcn kept => ?_
    have hn : H s.heap.objs.size = none := I.hok.fresh (Nat.le_refl _)
    exact ⟨.ref _, upd H s.heap.objs.size (SetO X.w s.heap.objs.size (fun j => decide (j ∈ ns)) c), I.laid (t' := tk) (fun b o z => kept b o z) (Nat.le_refl _) (setO_new R1), rfl, q _ c hn hcn⟩
theorem s_sset (G : Good T k c sc X) {a : Expr} {a' : E} {p p2 pos pos2 : Pos} (hg : isGl sc "sorted" = true) (h0 : free0 c "sorted" = true) (hg2 : isGl sc "set" = true) (h02 : free0 c "set" = true) (ha : PE X a (rE X.K (T.ctx k) a'))
    (hs : ∀ (es : List Expr) (env : PySem.Env), starEach (a :: es) env = (false, eval a env) :: starEach es env) :
    PE X (.Call (.Name "sorted" p) [.Call (.Name "set" p2) [a] [] pos2] [] pos) (rE X.K (T.ctx k) (.sset a')) := by
  have pset := pe_callTy (cr_setT G.calm) (gl_of G hg2) (free_mg G h02 (by decide +kernel)) (by decide +kernel) (pa_cons ha pa_nil (hs _ X.env)) (pos := pos2) (p := p2) (by decide) (by decide) (hs _ X.env) (by rfl)
  refine PE.imp (pe_callB (cr_sortedSet G.calm) (gl_of G hg) (free_mg G h0 (by decide +kernel)) (by decide +kernel) (pa_cons pset pa_nil (by rfl)) (by decide) (by decide) (by rfl) (by rfl)) fun σ H Q ⟨m, env, S, d, S', st, re, e, p⟩ => ?_
  rw [evE] at e
  obtain ⟨x, S1, e1, e2⟩ := bindOk e
  refine ⟨m, env, S, x, S1, st, re, e1, fun m1 v1 H1 l1 st1 r1 => ?_⟩
  unfold ssetM at e2
  split at e2
  · rename_i l
    split at e2
    · rename_i ns hn
      split at e2
      · rename_i h60
        unfold newO at e2
        cases e2
        rw [RelD] at r1
        obtain ⟨b, xs, rfl, q, rs⟩ := r1
        obtain ⟨rfl, _⟩ := rs.ints hn
        refine ⟨b, ns, rfl, sqT_of q, h60, fun z cc hz hcc => ⟨z, _, cc, rfl, upd_same, by omega, fun out w h1 h2 _ hw => ?_⟩⟩
        have eo : out = ssetI ns := ssetI_spec ns out h1 fun k => by rw [h2, decide_eq_true_eq]
        rw [eo]
        have l2 := Le.new (m := m1) z (SetO X.w z (fun j => decide (j ∈ ns)) cc) hz
        have st2 := st1.new z (SetO X.w z (fun j => decide (j ∈ ns)) cc) hz
        exact (p.le (l1.trans l2)).lst st2 (relDs_ints _) w hw
      · cases e2
    · cases e2
  · cases e2
theorem s_zipI (G : Good T k c sc X) {a b : Expr} {a' b' : E} {elts : List Expr} {kk : Nat} {p pos tpos : Pos} (hg : isGl sc "zip" = true) (h0 : free0 c "zip" = true) (ha : PE X a (rE X.K (T.ctx k) a')) (hb : PE X b (rE X.K (T.ctx k) b'))
    (hs : ∀ (es : List Expr) (env : PySem.Env), starEach (a :: es) env = (false, eval a env) :: starEach es env) (hs2 : ∀ (es : List Expr) (env : PySem.Env), starEach (b :: es) env = (false, eval b env) :: starEach es env) :
    PI X (.Tuple elts kk tpos) (.Call (.Name "zip" p) [a, b] [] pos) (rI X.K (T.ctx k) (.zip a' b')) := by
  refine PI.imp (RZ.pi_zipA (gl_of G hg) (free_mg G h0 (by decide +kernel)) (pa_cons ha (pa_cons hb pa_nil (hs2 _ X.env)) (hs _ X.env)) (hs _ X.env) (by rw [hs2 [] X.env] <;> rfl)) fun σ H R ⟨m, env, S, J, S', st, re, e, p⟩ => ?_
  rw [evI] at e
  obtain ⟨x, S1, e1, e2⟩ := bindOk e
  obtain ⟨y, S2, e3, e4⟩ := bindOk e2
  unfold iterZip at e4
  obtain ⟨l, S3, e5, e6⟩ := bindOk e4
  obtain ⟨rfl, _⟩ := items_inv e5
  obtain ⟨l2, S4, e7, e8⟩ := bindOk e6
  obtain ⟨rfl, _⟩ := items_inv e7
  obtain ⟨_, S5, e9, e10⟩ := bindOk e8
  obtain ⟨hk, rfl⟩ := chkOk e9
  obtain ⟨rfl, rfl⟩ := pureOk e10
  refine ⟨m, env, S, x, S1, st, re, e1, fun m1 v1 H1 l1 st1 r1 => ⟨m1, env, S1, y, _, st1, re.mono l1, e3, fun m2 v2 H2 l2' st2 r2 => ?_⟩⟩
  obtain ⟨a, rfl, q⟩ := seqR_of (r1.mono l2') e5
  obtain ⟨b, rfl, q2⟩ := seqR_of r2 e7
  obtain ⟨_, xs, _, _, t1, t2⟩ := q.nowS st2 e5
  obtain ⟨_, ys, _, _, t1', t2'⟩ := q2.nowS st2 e7
  have q' := relJ_zip (n := min l.length l2.length) q q2 hk
  have ek := kind_same hk
  refine ⟨a, b, xs, ys, rfl, ?_⟩
  by_cases ht : isTup x = true
  · rw [if_pos ht] at q'
    exact .inr ⟨t1 ht, t1' (ek ▸ ht), p m2 H2 _ (l1.trans l2') st2 q'⟩
  · have hf : isTup x = false := by simpa using ht
    rw [if_neg ht] at q'
    exact .inl ⟨t2 hf, t2' (ek ▸ hf), p m2 H2 _ (l1.trans l2') st2 q'⟩
theorem s_rangeI1 (G : Good T k c sc X) {tg a : Expr} {a' : E} {p pos : Pos} (hg : isGl sc "range" = true) (h0 : free0 c "range" = true) (ha : PE X a (rE X.K (T.ctx k) a'))
    (hs : ∀ (es : List Expr) (env : PySem.Env), starEach (a :: es) env = (false, eval a env) :: starEach es env) : PI X tg (.Call (.Name "range" p) [a] [] pos) (rI X.K (T.ctx k) (.range [a'])) := by
  refine PI.imp (pi_range1 (gl_of G hg) (free_mg G h0 (by decide +kernel)) (pa_cons ha pa_nil (hs _ X.env)) (hs _ X.env)) fun σ H R ⟨m, env, S, J, S', st, re, e, p⟩ => ?_
  rw [evI] at e
  obtain ⟨xs, S1, e1, e2⟩ := bindOk e
  rw [evEs] at e1
  obtain ⟨x, S2, e3, e4⟩ := bindOk e1
  obtain ⟨ys, S3, e5, e6⟩ := bindOk e4
  rw [evEs] at e5
  obtain ⟨rfl, rfl⟩ := pureOk e5
  obtain ⟨rfl, rfl⟩ := pureOk e6
  unfold iterRange at e2
  cases er : rangeOf [x] with
  | none => rw [er] at e2; cases e2
  | some ab =>
    obtain ⟨lo, hi⟩ := ab
    rw [er] at e2
    obtain ⟨rfl, rfl⟩ := range_one (ds := []) er
    obtain ⟨_, S5, e9, e10⟩ := bindOk e2
    obtain ⟨hk, rfl⟩ := chkOk e9
    obtain ⟨rfl, rfl⟩ := pureOk e10
    obtain ⟨_, _, b3, b4, _⟩ := rgOk_spec hk
    have q := fun m1 H1 => relJ_range (K := X.K) (m := m1) (H := H1) 0 hi (hi - 0).toNat
    simp only [Int.sub_zero] at q
    refine ⟨m, env, S, _, _, st, re, e3, fun m1 v1 H1 l1 st1 r1 => ⟨hi, by rw [relD_int r1], b3, b4, p m1 H1 _ l1 st1 (by simpa using q m1 H1)⟩⟩
theorem s_rangeI2 (G : Good T k c sc X) {tg a b : Expr} {a' b' : E} {p pos : Pos} (hg : isGl sc "range" = true) (h0 : free0 c "range" = true) (ha : PE X a (rE X.K (T.ctx k) a')) (hb : PE X b (rE X.K (T.ctx k) b'))
    (hs : ∀ (es : List Expr) (env : PySem.Env), starEach (a :: es) env = (false, eval a env) :: starEach es env) (hs2 : ∀ (es : List Expr) (env : PySem.Env), starEach (b :: es) env = (false, eval b env) :: starEach es env) : PI X tg (.Call (.Name "range" p) [a, b] [] pos) (rI X.K (T.ctx k) (.range [a', b'])) := by
  refine PI.imp (pi_range2 (gl_of G hg) (free_mg G h0 (by decide +kernel)) (pa_cons ha (pa_cons hb pa_nil (hs2 _ X.env)) (hs _ X.env)) (by rw [hs _ X.env, hs2 _ X.env] <;> rfl) (hs2 _ X.env)) fun σ H R ⟨m, env, S, J, S', st, re, e, p⟩ => ?_
  rw [evI] at e
  obtain ⟨xs, S1, e1, e2⟩ := bindOk e
  rw [evEs] at e1
  obtain ⟨x, S2, e3, e4⟩ := bindOk e1
  obtain ⟨ys, S3, e5, e6⟩ := bindOk e4
  rw [evEs] at e5
  obtain ⟨y, S4, e7, e8⟩ := bindOk e5
  obtain ⟨zs, S6, e11, e12⟩ := bindOk e8
  rw [evEs] at e11
  obtain ⟨rfl, rfl⟩ := pureOk e11
  obtain ⟨rfl, rfl⟩ := pureOk e12
  obtain ⟨rfl, rfl⟩ := pureOk e6
  unfold iterRange at e2
  cases er : rangeOf [x, y] with
  | none => rw [er] at e2; cases e2
  | some ab =>
    obtain ⟨lo, hi⟩ := ab
    rw [er] at e2
    obtain ⟨rfl, rfl⟩ := range_two er
    obtain ⟨_, S5, e9, e10⟩ := bindOk e2
    obtain ⟨hk, rfl⟩ := chkOk e9
    obtain ⟨rfl, rfl⟩ := pureOk e10
    obtain ⟨b1, b2, b3, b4, _⟩ := rgOk_spec hk
    exact ⟨m, env, S, _, S2, st, re, e3, fun m1 v1 H1 l1 st1 r1 => ⟨m1, env, S2, _, _, st1, re.mono l1, e7, fun m2 v2 H2 l2 st2 r2 => ⟨lo, hi, by rw [relD_int r1, relD_int r2], ⟨b1, b2, b3, b4⟩, p m2 H2 _ (l1.trans l2) st2 (relJ_range lo hi _)⟩⟩⟩
theorem cr_range1 : CallR X (.type "range") (fun vs H Q => ∃ j, vs = [V.int j] ∧ ∀ p, H p = none → Q (.ref p) (upd H p (.rng 0 j))) := by
  intro pins s σ H vs us Q I r h
  obtain ⟨j, rfl, q⟩ := h
  cases r with
  | cons ra rr =>
    cases rr
    obtain ⟨tj, rfl⟩ := ra
    refine call_range_1 ⟨.ref s.heap.objs.size, upd H s.heap.objs.size (.rng 0 j), ?_, rfl, q _ (I.hok.fresh (Nat.le_refl _))⟩
    exact I.laid (t' := s.toks + 1 + 1) (fun b o z => Heap.get?_push_of_some _ z) (Nat.le_refl _) ⟨s.toks, tj, s.toks + 1, Heap.get?_push_size _ rfl⟩
theorem s_rngv1 (G : Good T k c sc X) {e : Expr} {es : List Expr} {a' : E} {p pos : Pos} (hg : isGl sc "range" = true) (h0 : free0 c "range" = true) (h : PA X (e :: es) (rA X.K (T.ctx k) [a']))
    (hs : starEach (e :: es) X.env = (false, eval e X.env) :: starEach es X.env) (hpl : (backTo pos (starEach es X.env)).any (·.1) = false) : PE X (.Call (.Name "range" p) (e :: es) [] pos) (rE X.K (T.ctx k) (.rngv [a'])) := by
  refine PE.imp (pe_callTy cr_range1 (gl_of G hg) (free_mg G h0 (by decide +kernel)) (by decide +kernel) h (by decide) (by decide +kernel) hs hpl) fun σ H Q ⟨m, env, S, d, S', st, re, e, p⟩ => ?_
  rw [evE] at e
  obtain ⟨xs, S1, e1, e2⟩ := bindOk e
  refine ⟨m, env, S, xs, S1, st, re, e1, fun m1 vs H1 l1 st1 rs => ?_⟩
  rw [evEs] at e1
  obtain ⟨x, S2, e3, e4⟩ := bindOk e1
  obtain ⟨ys, S3, e5, e6⟩ := bindOk e4
  rw [evEs] at e5
  obtain ⟨rfl, rfl⟩ := pureOk e5
  obtain ⟨rfl, rfl⟩ := pureOk e6
  cases x with
  | int j =>
    obtain ⟨_, S5, e9, e10⟩ := bindOk (show (chk (rgOk 0 j) >>= fun _ => (pure (D.rng 0 j) : M D)) _ = .ok d S' from e2)
    obtain ⟨hk, rfl⟩ := chkOk e9
    obtain ⟨rfl, rfl⟩ := pureOk e10
    obtain ⟨v1, vs1, rfl, r1, rs⟩ := rs
    rw [RelD] at r1
    rw [RelDs] at rs
    subst r1 rs
    exact ⟨j, rfl, fun q hq => p m1 _ _ (l1.trans (Le.new q _ hq)) (st1.new q _ hq) (by rw [RelD]; exact ⟨q, rfl, upd_same⟩)⟩
  | _ => cases e2
theorem s_rngv (G : Good T k c sc X) {e : Expr} {es : List Expr} {a' b' : E} {p pos : Pos} (hg : isGl sc "range" = true) (h0 : free0 c "range" = true) (h : PA X (e :: es) (rA X.K (T.ctx k) [a', b']))
    (hs : starEach (e :: es) X.env = (false, eval e X.env) :: starEach es X.env) (hpl : (backTo pos (starEach es X.env)).any (·.1) = false) : PE X (.Call (.Name "range" p) (e :: es) [] pos) (rE X.K (T.ctx k) (.rngv [a', b'])) := by
  refine PE.imp (pe_callTy cr_range2 (gl_of G hg) (free_mg G h0 (by decide +kernel)) (by decide +kernel) h (by decide) (by decide +kernel) hs hpl) fun σ H Q ⟨m, env, S, d, S', st, re, e, p⟩ => ?_
  rw [evE] at e
  obtain ⟨xs, S1, e1, e2⟩ := bindOk e
  refine ⟨m, env, S, xs, S1, st, re, e1, fun m1 vs H1 l1 st1 rs => ?_⟩
  rw [evEs] at e1
  obtain ⟨x, S2, e3, e4⟩ := bindOk e1
  obtain ⟨ys, S3, e5, e6⟩ := bindOk e4
  rw [evEs] at e5
  obtain ⟨y, S4, e7, e8⟩ := bindOk e5
  obtain ⟨zs, S6, e11, e12⟩ := bindOk e8
  rw [evEs] at e11
  obtain ⟨rfl, rfl⟩ := pureOk e11
  obtain ⟨rfl, rfl⟩ := pureOk e12
  obtain ⟨rfl, rfl⟩ := pureOk e6
  cases er : rangeOf [x, y] with
  | none => rw [er] at e2; cases e2
  | some ab =>
    obtain ⟨lo, hi⟩ := ab
    rw [er] at e2
    obtain ⟨rfl, rfl⟩ := range_two er
    obtain ⟨_, S5, e9, e10⟩ := bindOk e2
    obtain ⟨hk, rfl⟩ := chkOk e9
    obtain ⟨rfl, rfl⟩ := pureOk e10
    obtain ⟨v1, vs1, rfl, r1, rs⟩ := rs
    obtain ⟨v2, vs2, rfl, r2, rs⟩ := rs
    rw [RelD] at r1 r2
    rw [RelDs] at rs
    subst r1 r2 rs
    exact ⟨lo, hi, rfl, fun q hq => p m1 _ _ (l1.trans (Le.new q _ hq)) (st1.new q _ hq) (by rw [RelD]; exact ⟨q, rfl, upd_same⟩)⟩
end
end Pi

/-! Dicts whose keys are tuples: a display of one pair, a walk over the pairs. -/
namespace Pi
open PySem PySem.Spec PyProof.Rows L2

section
variable {X : Cx} {pins : List (Addr × Obj)} {σ : L2.St} {H : Hp} {s : Shared} {d : Addr} {o : Obj}
theorem Inv.frzTV {kvs : List (List Key × V)} (I : L2.Inv X pins σ H s) (h : H d = some (.frz o (.dT kvs))) :
    (d == sysModules) = false ∧ s.heap.get? d = some o ∧ o.ExactDict ∧ ∃ (es : Array DictEntry) (ep : Nat), o.data = .dict es ep ∧ es.size = kvs.length ∧
      ∀ (i : Nat) (k : List Key) (v : V), kvs[i]? = some (k, v) → ∃ (en : DictEntry) (q : Addr), es[i]? = some en ∧ en.key = .ref q ∧ H q = some (.tup (k.map kV)) ∧ RelV v en.val := by
  obtain ⟨hd, z, hs, xs, pr, o', es, ep, ho, hx, hdt, he, _⟩ := I.hok d _ h
  rw [hd] at ho
  cases ho
  refine ⟨hs, hd, hx, es, ep, hdt, ?_, fun i k v e => ?_⟩
  · have l1 : es.size = xs.length := size_of_entries he
    have l2 : kvs.length = xs.length := Paired.length pr
    omega
  · obtain ⟨b, hb, e1, e2, e3⟩ := paired_get pr e
    have q := entry_at he i
    rw [hb] at q
    exact ⟨_, b.2.1, q, rfl, e2, e3⟩
end
/-- the pairs of the locked dict at d whose keys are tuples, each in a new tuple -/
def ItiT (d : Addr) (o : Obj) (kvs : List (List Key × V)) : L2.It :=
  ⟨fun i H => H d = some (.frz o (.dT kvs)) ∧ i < kvs.length, fun i H x H' => ∃ T k v q, kvs[i]? = some (k, v) ∧ H q = some (.tup (k.map kV)) ∧ x = .ref T ∧ H T = none ∧ H' = upd H T (.tup [.ref q, v]), fun i H => H d = some (.frz o (.dT kvs)) ∧ kvs.length ≤ i⟩
section
variable {P : Program} {w : World} {K : PySem.W.Frag} {d : Addr} {o : Obj} {es : Array DictEntry} {ep : Nat}
theorem turn_itemsT {kvs : List (List Key × V)} {elts : List Expr} {kk : Nat} {tpos : Pos} (it : Addr) (hod : o.data = .dict es ep) :
    Turn P w K (.Tuple elts kk tpos) (ItiT d o kvs) [it] it (fun i h => ∃ ok ov, IsItemIter h it d i kvs.length ep ok ov) where
  mem := by simp
  obj := fun i h st b hb => by
    have e : b = it := by simpa using hb
    subst e
    obtain ⟨ok, ov, e⟩ := st
    exact ⟨_, e, fun v z => nomatch z⟩
  keep := fun i h h' st k => let ⟨ok, ov, e⟩ := st; ⟨ok, ov, k it (by simp) _ e⟩
  item := by
    intro X hP hw hK hc i pins s σ H E I hf st hg
    subst hP hw hK
    obtain ⟨hd, hi⟩ := hg
    obtain ⟨hs, hgd, hx, es', ep', hdt, hsz, ent⟩ := Inv.frzTV I hd
    obtain ⟨rfl, rfl⟩ := dict_ep hod hdt
    obtain ⟨⟨k, v⟩, hkv⟩ : ∃ p, kvs[i]? = some p := ⟨kvs[i], List.getElem?_eq_getElem hi⟩
    obtain ⟨en, q, hen, hkey, hq, hv⟩ := ent i k v hkv
    obtain ⟨ok, ov, he⟩ := st
    rw [← hsz] at he
    have hlt : it < s.heap.objs.size := Heap.lt_size he
    have hies : i < es'.size := by omega
    have hen2 : es'[i] = en := by
      rw [Array.getElem?_eq_getElem hies] at hen
      exact Option.some.inj hen
    refine wpAny_pyNext_items_item_raw he ⟨o, hgd, hx, hdt⟩ hies fun h' ho hT hz hk => ?_
    refine ⟨_, rfl, wpAny_letOwnedTupleGo_items (s := { s with heap := h' }) ho fun h'' he' sb => ?_⟩
    have hT2 : h''.get? s.heap.objs.size = some { cls := .type "tuple", data := .seq #[en.key, en.val] } := by
      rw [← hen2]
      exact (sb.2 _ (Nat.ne_of_gt hlt)).trans hT
    have new : ObjOk X.prog X.w (upd H s.heap.objs.size (.tup [.ref q, v])) h'' s.heap.objs.size (.tup [.ref q, v]) :=
      ⟨by show 2 ≤ sizeLine; decide, [en.key, en.val], .cons (by rw [hkey]; rfl) (.cons hv .nil), ⟨_, hT2, rfl, _, rfl⟩⟩
    have I1 : L2.Inv X pins σ (upd H s.heap.objs.size (.tup [.ref q, v])) { s with heap := h'' } :=
      I.turnedNew (t' := s.toks) (ch := [it]) (fun b ob hb e => (sb.2 b (by simpa using hb)).trans (hk b ob (by simpa using hb) e)) hf (Nat.le_refl _) new
    refine ⟨.ref s.heap.objs.size, _, I1, rfl, ⟨_, k, v, q, hkv, hq, rfl, I.hok.fresh (Nat.le_refl _), rfl⟩, ⟨es'[i].key, es'[i].val, by rw [← hsz]; exact he'⟩, fun b hb => ?_⟩
    · have e : b = it := by simpa using hb
      rw [e, upd_ne (Nat.ne_of_lt hlt)]
      exact (hf it (by simp)).1
  done := by
    intro X hP hw hK hc i pins s σ H E I hf st hg
    subst hP hw hK
    obtain ⟨hd, hi⟩ := hg
    obtain ⟨f0, f1, f2, f3, f4, f5⟩ := hf it (by simp)
    obtain ⟨hs, hgd, hx, es', ep', hdt, hsz, ent⟩ := Inv.frzTV I hd
    obtain ⟨rfl, rfl⟩ := dict_ep hod hdt
    obtain ⟨ok, ov, he⟩ := st
    rw [← hsz] at he
    exact wpAny_pyNext_items_end_raw (I.ok.hd hc) he ⟨o, hgd, hx, hdt⟩ (by omega) fun h' eb => ⟨rfl, I.turned (t' := s.toks) (fun b ob hb e => eb b ob hb e) f0 f1 f3 f4 f5⟩
  self := fun A i s Q E st h => let ⟨_, _, e⟩ := st; PySem.W.kcp_self e h
end
/-- for .. in d.items(), the dict locked, its keys leaves or tuples -/
def iItemsA (td : TE) : TI := fun σ H R => td σ H fun x H1 => ∃ d o, x = .ref d ∧ ((∃ kvs, H1 d = some (.frz o (.dK kvs)) ∧ R (Iti d o kvs) H1) ∨ ∃ kvs, H1 d = some (.frz o (.dT kvs)) ∧ R (ItiT d o kvs) H1)
theorem pi_itemsA {X : Cx} {e : Expr} {td : TE} {apos cpos : Pos} {elts : List Expr} {kk : Nat} {tpos : Pos} (he : PE X e td) (hbase : attributeBase e "items" X.env (eval e X.env) = eval e X.env) (hline : (apos.endLine == cpos.line) = true) :
    PI X (.Tuple elts kk tpos) (.Call (.Attribute e "items" apos) [] [] cpos) (iItemsA td) := by
  refine ⟨fun pins s σ H R I h => ?_⟩
  refine wpAny_Call_method (T := "dict") (id := "dict.items") hbase rfl hline F.plainAttrs_dict F.slot_dict_items F.type_dict_items (thn (he.run pins s σ H _ I h) fun u s1 ⟨x, H1, I1, rx, d, o, ex, q0⟩ => ?_)
  subst ex
  obtain rfl : u = Value.ref d := rx
  rcases q0 with ⟨kvs, hd, q⟩ | ⟨kvs, hd, q⟩
  · obtain ⟨hs, hgd, hx, es, ep, vs, hdt, hsz, kv, hm⟩ := I1.frzK hd
    have hl : kvs.length = vs.length := Paired.length kv
    refine ⟨hm.dictOf.typeIs, hm.dictOf.mapOf.noDict, ?_⟩
    have I2 : L2.Inv X pins σ H1 { s1 with heap := s1.heap.push { cls := .type "dict_items", data := .fields #[.ref d] } } := I1.kept (t' := s1.toks) fun b ob q => Heap.get?_push_of_some _ q
    have fin : wpAny (model X.prog X.w) X.A (pyIter (.ref s1.heap.objs.size)) (PIE X pins σ (.Tuple elts kk tpos) R) X.xe { s1 with heap := s1.heap.push { cls := .type "dict_items", data := .fields #[.ref d] } } := by
      refine wpAny_pyIter_items (d := d) (knd := mixKind X.prog X.w) ⟨_, Heap.get?_push_size _ rfl, rfl, rfl⟩ (hm.push _) (pi_one (tk := s1.toks) I2 _ (turn_items _ hdt) ⟨.none, .none, ?_⟩ q)
      rw [hl]
      exact Heap.get?_push_size _ rfl
    show wpAny _ _ (callWith cpos (.builtin "dict.items") [.ref d] [] []) _ X.xe s1
    exact method_meetsIn F.slot_dict_items F.entry_dict_items rfl (PySem.evalArgs_none ⟨rfl, hm.dictOf.typeIs, F.args_dict_items_1 _, _, meets_dict_items (mixKind X.prog X.w) d hs, ⟨vs, hm.dictOf⟩, fin⟩)
  · obtain ⟨hs, hgd, hx, es, ep, hdt, hsz, ent⟩ := Inv.frzTV I1 hd
    have raw : s1.heap.DictRaw d es ep := ⟨o, hgd, hx, hdt⟩
    refine ⟨raw.typeIs, ?_, ?_⟩
    · intro a ea
      cases ea
      exact ⟨o, hgd, hx.2.1⟩
    have I2 : L2.Inv X pins σ H1 { s1 with heap := s1.heap.push { cls := .type "dict_items", data := .fields #[.ref d] } } := I1.kept (t' := s1.toks) fun b ob q => Heap.get?_push_of_some _ q
    have fin : wpAny (model X.prog X.w) X.A (pyIter (.ref s1.heap.objs.size)) (PIE X pins σ (.Tuple elts kk tpos) R) X.xe { s1 with heap := s1.heap.push { cls := .type "dict_items", data := .fields #[.ref d] } } := by
      refine wpAny_pyIter_items_raw (d := d) ⟨_, Heap.get?_push_size _ rfl, rfl, rfl⟩ (raw.at fun o e => Heap.get?_push_of_some _ e) (pi_one (tk := s1.toks) I2 _ (turn_itemsT _ hdt) ⟨.none, .none, ?_⟩ q)
      rw [← hsz]
      exact Heap.get?_push_size _ rfl
    show wpAny _ _ (callWith cpos (.builtin "dict.items") [.ref d] [] []) _ X.xe s1
    exact method_meetsIn F.slot_dict_items F.entry_dict_items rfl (PySem.evalArgs_none ⟨rfl, raw.typeIs, F.args_dict_items_1 _, _, meets_dict_items_raw d hs, ⟨es, ep, raw⟩, fin⟩)
/-- {k: v}, the key a tuple -/
def tDispT (tk tv : TE) : TE := fun σ H Q => ∀ p, H p = none → tk σ (upd H p (.dT [])) fun x H1 => tv σ H1 fun y H2 => H2 p = some (.dT []) ∧ ∃ k b, x = .ref b ∧ H2 b = some (.tup (k.map kV)) ∧ Q (.ref p) (upd H2 p (.dT [(k, y)]))
theorem pe_dispT {X : Cx} {pos : Pos} {k v : Expr} {tk tv : TE} (hu : X.A.units + 1 < cLine) (hk : PE X k tk) (hv : PE X v tv) : PE X (.Dict [some k] [v] pos) (tDispT tk tv) := by
  refine ⟨fun pins s σ H Q I q => ?_⟩
  have hn := I.hok.fresh (Nat.le_refl s.heap.objs.size)
  have I1 := I.laid (a := s.heap.objs.size) (o := .dT []) (h' := s.heap.push { cls := .type "dict", data := .dict #[] }) (t' := s.toks) (fun _ _ q => Heap.get?_push_of_some _ q) (Nat.le_refl _) (dt_empty s.heap I.big)
  rw [arm_eval_Dict, zip_pairTrees [some k] [v] X.env pos rfl rfl, dictDisplay_pairs (pairTrees [some k] [v] X.env pos) (by intro z; cases z) (by show 1 < 17; decide)]
  refine wpAny_bind (wpAny_standAt (wpAny_bind (wpAny_subDictH (knd := tupleKind (mixKind X.prog X.w)) (show (tupleKind (mixKind X.prog X.w)).room X.A from (by show X.A.units < cLine; omega)) (by show 1 ≤ 15; decide) ?_)))
  refine pairTrees_cons_walk (thn (hk.run pins _ σ _ _ I1 (q _ hn)) fun u s2 ⟨x, H2, I2, rx, q2⟩ => thn (hv.run pins s2 σ H2 _ I2 q2) fun w2 s3 ⟨y, H3, I3, ry, e, kk, b, ex, eb, q3⟩ => pairTrees_nil_walk ?_)
  subst ex
  obtain rfl : u = Value.ref b := rx
  obtain ⟨z, hd, xs, rel, dd⟩ := dt_of I3.hok e
  cases rel
  refine ⟨[(kk, b, w2)], ⟨rfl, rfl, key_of I3.hok eb, trivial⟩, dd, fun h' tk dd' hs => wpAny_pure ⟨.ref s.heap.objs.size, _, ?_, rfl, q3⟩⟩
  obtain ⟨o', es, ep, ho, h2, h3, h4, h5, h6⟩ := dd'
  refine d_write I3 (by rw [e]; exact True.intro) hs ⟨o', ho⟩ ⟨by show 1 ≤ sizeLine; decide, hd, [(kk, b, w2)], .cons ⟨rfl, ?_, ry⟩ .nil, o', es, ep, ho, h2, h3, h4, h6⟩
  rw [upd_ne (ne_of eb e (fun z => nomatch z))]
  exact eb
end Pi

/-! Dicts, as the evaluator has them. -/
namespace Pi
open PySem PySem.Spec PyProof.Rows L2
section
variable {X : Cx} {T : Tb} {k : Nat} {c : CC} {sc : Scope}
theorem s_dnew {t : Bool} {pos : Pos} : PE X (.Dict [] [] pos) (rE X.K (T.ctx k) (.dnew t)) := by
  have key : ∀ σ H Q, rE X.K (T.ctx k) (.dnew t) σ H Q → ∀ p, H p = none → Q (.ref p) (upd H p (hoD t [] [])) := fun σ H Q ⟨m, env, S, d, S', st, re, e, p⟩ q hq => by
    rw [evE] at e
    unfold newO at e
    cases e
    refine p _ _ _ (Le.ext st rfl hq) (st.extD hq relDs_nil rfl fun _ k hk => by cases hk) ?_
    rw [RelD]
    exact ⟨q, rfl, by unfold Pi.ext; rw [if_pos rfl]⟩
  cases t with
  | true => exact PE.imp pe_dnewT fun σ H Q h => key σ H Q h
  | false => exact PE.imp pe_dnewK fun σ H Q h => key σ H Q h
theorem s_disp (G : Good T k c sc X) {a b : Expr} {a' b' : E} {pos : Pos} (ha : PE X a (rE X.K (T.ctx k) a')) (hb : PE X b (rE X.K (T.ctx k) b')) : PE X (.Dict [some a] [b] pos) (rE X.K (T.ctx k) (.disp a' b')) := by
  refine PE.imp (pe_dispT (by have := G.hu; omega) ha hb) fun σ H Q ⟨m, env, S, d, S', st, re, e, p⟩ q hq => ?_
  rw [evE] at e
  obtain ⟨x, S1, e1, e2⟩ := bindOk e
  obtain ⟨y, S2, e3, e4⟩ := bindOk e2
  cases hk : keyOf true x with
  | none => rw [hk] at e4; cases e4
  | some kk =>
    rw [hk] at e4
    unfold newO at e4
    cases e4
    have l0 := Le.new (m := m) q (.dT []) hq
    refine ⟨m, env, S, x, S1, st.new q _ hq, re.mono l0, e1, fun m1 v1 H1 l1 st1 r1 => ⟨m1, env, S1, y, S2, st1, (re.mono l0).mono l1, e3, fun m2 v2 H2 l2 st2 r2 => ?_⟩⟩
    obtain ⟨h1, n1⟩ := l1.keep q _ upd_same (st.out hq)
    obtain ⟨h2, n2⟩ := l2.keep q _ h1 n1
    rcases key_rel (r1.mono l2) hk with ⟨_, b, eb, hb⟩ | ⟨z, _⟩
    · refine ⟨h2, kk, b, eb, hb, ?_⟩
      have l3 : Le m H m2 H2 := (l0.trans l1).trans l2
      have lw : Lw m2 H2 m2 (upd H2 q (.dT [(kk, v2)])) := ⟨fun _ _ h => h, fun a u hf e => by
        rw [upd_ne]
        · exact e
        · rintro rfl
          rw [h2] at e
          cases e
          cases hf⟩
      have st3 := st2.other q (.dT [(kk, v2)]) n2 lw
      have hm : ∀ j a, m2 j = some a → j ≠ S2.length := fun j a e => Nat.ne_of_lt (st2.dom j a e)
      refine p _ _ _ ((l3.updOut hq).adopt hm hq) (st3.adoptO n2 (ob := .dic true [kk] [y]) ⟨[v2], upd_same, (relDs_cons r2 relDs_nil).monow lw, rfl, fun z => by cases z⟩) ?_
      rw [RelD]
      exact ⟨q, rfl, by unfold Pi.ext; rw [if_pos rfl]⟩
    · cases z
theorem isDict_inv {a : D} {S S' : Sto} {u : Unit} (h : isDict a S = .ok u S') : S' = S ∧ ∃ p, dictAt a S = some p := by
  unfold isDict at h
  split at h
  · rename_i p hp
    cases h
    exact ⟨rfl, p, hp⟩
  · cases h
theorem dget_inv {a i : D} {S S' : Sto} {r : Option D} (h : dget a i S = .ok r S') : S' = S ∧ ∃ t ks vs kk, dictAt a S = some (t, ks, vs) ∧ keyOf t i = some kk ∧ r = valK ks vs kk := by
  unfold dget at h
  split at h
  · rename_i t ks vs hd
    split at h
    · rename_i kk hk
      cases h
      exact ⟨rfl, t, ks, vs, kk, hd, hk, rfl⟩
    · cases h
  · cases h
theorem m1_of {o e : Expr} {apos cpos : Pos} {env : PySem.Env} (hX : X.env = env) (hr : plainRecv o = true) (hl : (apos.endLine == cpos.line) = true) (hs : starEach [e] env = (false, eval e env) :: starEach [] env) : M1 X o "get" apos e cpos := by
  subst hX
  have h2 : starEach [e] X.env = [(false, eval e X.env)] := hs
  exact ⟨base_plain hr _ _, by rw [h2]; rfl, hl, by rw [h2]; rfl⟩
theorem m2_of {o e f : Expr} {apos cpos : Pos} {env : PySem.Env} (hX : X.env = env) (hr : plainRecv o = true) (hl : (apos.endLine == cpos.line) = true) (hs : starEach [e, f] env = (false, eval e env) :: starEach [f] env) (hs2 : starEach [f] env = (false, eval f env) :: starEach [] env) : M2 X o "get" apos e f cpos := by
  subst hX
  have h2 : starEach [e, f] X.env = [(false, eval e X.env), (false, eval f X.env)] := by rw [hs, hs2]; rfl
  exact ⟨base_plain hr _ _, by rw [h2]; rfl, hl, by rw [h2]; rfl⟩
theorem opt_getD {K : PySem.W.Frag} {m : Mp} {H : Hp} {o : Option D} {p : Option V} {d : D} {v : V} (h : OptRel K m H o p) (r : RelD K m H d v) : RelD K m H (o.getD d) (p.getD v) := by
  cases o <;> cases p <;> first | exact r | exact h | exact h.elim
theorem s_dget1 (G : Good T k c sc X) {o e : Expr} {o' e' : E} {apos cpos : Pos} (hr : plainRecv o = true) (hl : (apos.endLine == cpos.line) = true) (hs : starEach [e] X.env = (false, eval e X.env) :: starEach [] X.env)
    (ho : PE X o (rE X.K (T.ctx k) o')) (he : PE X e (rE X.K (T.ctx k) e')) : PE X (.Call (.Attribute o "get" apos) [e] [] cpos) (rE X.K (T.ctx k) (.dget1 o' e')) := by
  refine PE.imp (pe_dget1 (by have := G.hu; omega) ho he (m1_of rfl hr hl hs)) fun σ H Q ⟨m, env, S, d, S', st, re, e, p⟩ => ?_
  rw [evE] at e
  obtain ⟨x, S1, e1, e2⟩ := bindOk e
  obtain ⟨_, S1', e3, e4⟩ := bindOk e2
  obtain ⟨rfl, pr, hp⟩ := isDict_inv e3
  obtain ⟨y, S2, e5, e6⟩ := bindOk e4
  obtain ⟨r, S3, e7, e8⟩ := bindOk e6
  obtain ⟨rfl, t, ks, vs, kk, hd, hk, rfl⟩ := dget_inv e7
  obtain ⟨rfl, rfl⟩ := pureOk e8
  refine ⟨m, env, S, x, _, st, re, e1, fun m1 v1 H1 l1 st1 r1 => ?_⟩
  obtain ⟨a, ea, hD⟩ := isD_rel st1 r1 hp
  refine ⟨a, ea, hD, m1, env, _, y, _, st1, re.mono l1, e5, fun m2 v2 H2 l2 st2 r2 => ?_⟩
  obtain ⟨a2, o2, ea2, g, ro⟩ := dget_rel st2 (r1.mono l2) hd r2 hk
  rw [ea] at ea2
  cases ea2
  exact ⟨o2, g, p m2 _ H2 (l1.trans l2) st2 (opt_getD ro (by rw [RelD]))⟩
theorem s_dget2 (G : Good T k c sc X) {o e f : Expr} {o' e' f' : E} {apos cpos : Pos} (hr : plainRecv o = true) (hl : (apos.endLine == cpos.line) = true) (hs : starEach [e, f] X.env = (false, eval e X.env) :: starEach [f] X.env) (hs2 : starEach [f] X.env = (false, eval f X.env) :: starEach [] X.env)
    (ho : PE X o (rE X.K (T.ctx k) o')) (he : PE X e (rE X.K (T.ctx k) e')) (hf : PE X f (rE X.K (T.ctx k) f')) : PE X (.Call (.Attribute o "get" apos) [e, f] [] cpos) (rE X.K (T.ctx k) (.dget2 o' e' f')) := by
  refine PE.imp (pe_dget2 (by have := G.hu; omega) ho he hf (m2_of rfl hr hl hs hs2)) fun σ H Q ⟨m, env, S, d, S', st, re, e, p⟩ => ?_
  rw [evE] at e
  obtain ⟨x, S1, e1, e2⟩ := bindOk e
  obtain ⟨_, S1', e3, e4⟩ := bindOk e2
  obtain ⟨rfl, pr, hp⟩ := isDict_inv e3
  obtain ⟨y, S2, e5, e6⟩ := bindOk e4
  obtain ⟨z, S2', e5', e6'⟩ := bindOk e6
  obtain ⟨r, S3, e7, e8⟩ := bindOk e6'
  obtain ⟨rfl, t, ks, vs, kk, hd, hk, rfl⟩ := dget_inv e7
  obtain ⟨rfl, rfl⟩ := pureOk e8
  refine ⟨m, env, S, x, _, st, re, e1, fun m1 v1 H1 l1 st1 r1 => ?_⟩
  obtain ⟨a, ea, hD⟩ := isD_rel st1 r1 hp
  refine ⟨a, ea, hD, m1, env, _, y, _, st1, re.mono l1, e5, fun m2 v2 H2 l2 st2 r2 => ⟨m2, env, _, z, _, st2, (re.mono l1).mono l2, e5', fun m3 v3 H3 l3 st3 r3 => ?_⟩⟩
  obtain ⟨a2, o2, ea2, g, ro⟩ := dget_rel st3 ((r1.mono l2).mono l3) hd (r2.mono l3) hk
  rw [ea] at ea2
  cases ea2
  exact ⟨o2, g, p m3 _ H3 ((l1.trans l2).trans l3) st3 (opt_getD ro r3)⟩
/-! ### d.setdefault(k, x), whatever the keys -/
theorem dgp_t {H H' : Hp} {a : Addr} {y z : V} {r : Option V} (g : DGet H a y r) (p : DPut H a y z H') : (∃ kvs k, H a = some (.dK kvs) ∧ y = kV k ∧ kvs.length < sizeLine ∧ r = valV kvs k ∧ H' = upd H a (.dK (putK kvs k z))) ∨
    ∃ kvs k b, H a = some (.dT kvs) ∧ y = .ref b ∧ H b = some (.tup (k.map kV)) ∧ kvs.length < sizeLine ∧ r = valV kvs k ∧ H' = upd H a (.dT (putK kvs k z)) := by
  rcases p with ⟨kvs, k, e, ey, l, eH⟩ | ⟨kvs, k, b, e, ey, eb, l, eH⟩
  · left
    rcases g with ⟨kvs2, k2, e2, ey2, er⟩ | ⟨kvs2, k2, b2, e2, ey2, eb2, er⟩
    · rcases e2 with e2 | ⟨o, e2⟩
      · rw [e] at e2
        cases e2
        have := kV_inj (ey.symm.trans ey2)
        subst this
        exact ⟨kvs, k, e, ey, l, er, eH⟩
      · rw [e] at e2
        cases e2
    · rw [ey] at ey2
      cases k <;> cases ey2
  · right
    rcases g with ⟨kvs2, k2, e2, ey2, er⟩ | ⟨kvs2, k2, b2, e2, ey2, eb2, er⟩
    · rw [ey] at ey2
      cases k2 <;> cases ey2
    · rcases e2 with e2 | ⟨o, e2⟩
      · rw [e] at e2
        cases e2
        rw [ey] at ey2
        cases ey2
        rw [eb] at eb2
        have : k.map kV = k2.map kV := by
          injection eb2 with q
          injection q
        have := kVs_inj this
        subst this
        exact ⟨kvs, k, b, e, ey, eb, l, er, eH⟩
      · rw [e] at e2
        cases e2
theorem setd_any {X : Cx} {pins : List (Addr × Obj)} {σ : L2.St} {H H' : Hp} {s : Shared} {a : Addr} {y d : V} {u w : Value} {r : Option V} {A : Around} {E : Value → Shared → Prop} {Q : Value → Shared → Prop} (hu : A.units + 1 < cLine) (I : Inv X pins σ H s) (g : DGet H a y r) (p : DPut H a y d H') (ry : RelV y u) (rd : RelV d w)
    (h1 : ∀ v, r = some v → ∀ (w' : Value) (s' : Shared), Inv X pins σ H s' → RelV v w' → Q w' s') (h2 : r = none → ∀ (w' : Value) (s' : Shared), Inv X pins σ H' s' → RelV d w' → Q w' s') :
    wpAny (model X.prog X.w) A (call (.builtin "dict.setdefault") [.ref a, u, w]) Q E s := by
  rcases dgp_t g p with ⟨kvs, k, e, ey, l, er, eH⟩ | ⟨kvs, k, b, e, ey, eb, l, er, eH⟩
  · subst ey er eH
    exact d_setd I e ry rd l h1 h2
  · subst ey er eH
    cases (show u = Value.ref b from ry)
    obtain ⟨z, hd, xs, rel, dd⟩ := dt_of I.hok e
    have hz : xs.length ≤ sizeLine := by rw [← Paired.length rel]; exact z
    have hv := rel.val k
    refine call_setdefault_heap (hsz := hz) (tupleKind_room_in1 hu) (key_of I.hok eb) hd dd (fun q hq => ?_) fun hn h' dd' hs => ?_
    · rw [hq] at hv
      cases q0 : valV kvs k with
      | none =>
        rw [q0] at hv
        exact (show False from hv).elim
      | some v0 =>
        rw [q0] at hv
        exact h1 v0 q0 _ _ (I.tok _) hv
    · rw [hn] at hv
      cases q0 : valV kvs k with
      | some v0 =>
        rw [q0] at hv
        exact (show False from hv).elim
      | none =>
        have hl2 : (putK kvs k d).length ≤ sizeLine := by
          have := length_putK kvs k d
          omega
        obtain ⟨q, es, ep, hq, g2, g3, g4, _, g5⟩ := dd'
        refine h2 q0 _ _ (d_write (t' := s.toks + (tupleKind (mixKind X.prog X.w)).draws k) I (by rw [e]; exact True.intro) hs ⟨q, hq⟩ ⟨hl2, hd, _, (rel.put k eb rd).keeps fun c ys ec => ?_, q, es, ep, hq, g2, g3, g4, g5⟩) rd
        rw [upd_ne (ne_of ec e (fun z => nomatch z))]
        exact ec
/-- the reading of d.setdefault(y, z) -/
def tSetd (td ty tx : TE) : TE := fun σ H Q => td σ H fun x H1 => ∃ a, x = .ref a ∧ IsD H1 a ∧ ty σ H1 fun y H2 => tx σ H2 fun z H3 => ∃ r H', DGet H3 a y r ∧ DPut H3 a y z H' ∧ (∀ v, r = some v → Q v H3) ∧ (r = none → Q z H')
theorem pe_setd {o e f : Expr} {td ty tx : TE} {apos cpos : Pos} (hu : X.A.units + 1 < cLine) (ho : PE X o td) (he : PE X e ty) (hf : PE X f tx) (mm : M2 X o "setdefault" apos e f cpos) : PE X (.Call (.Attribute o "setdefault" apos) [e, f] [] cpos) (tSetd td ty tx) := by
  refine ⟨fun pins s σ H Q I h => ?_⟩
  refine wpAny_Call_method mm.base mm.few mm.line PySem.F.plainAttrs_dict PySem.F.slot_dict_setdefault PySem.F.type_dict_setdefault (thn (ho.run pins s σ H _ I h) fun u s1 ⟨x, H1, I1, rx, a, ex, d, q1⟩ => ?_)
  subst ex
  obtain rfl : u = Value.ref a := rx
  obtain ⟨t1, t2, _⟩ := isD_at I1 d
  refine ⟨t1, t2, ?_⟩
  rw [mm.trees]
  refine Calls.callWith_builtin rfl (Calls.evalArgs_plain (Calls.spliced_cons (thn (he.run pins s1 σ H1 _ I1 q1) fun iv s2 ⟨y, H2, I2, ry, q2⟩ =>
    Calls.spliced_cons (thn (hf.run pins s2 σ H2 _ I2 q2) fun fv s3 ⟨z, H3, I3, rz, r, H', g, p, q3, q4⟩ => Calls.spliced_nil ?_))))
  exact setd_any (by show X.A.units + 1 < cLine; omega) I3 g p ry rz (fun v hv w' s4 I4 rw' => ⟨v, _, I4, rw', q3 v hv⟩) fun hn w' s4 I4 rw' => ⟨z, _, I4, rw', q4 hn⟩
theorem dsetd_inv {a i v d : D} {S S' : Sto} (h : dsetd a i v S = .ok d S') : ∃ n t ks vs k, a = .ref n ∧ S[n]? = some (.dic t ks vs) ∧ keyOf t i = some k ∧ ks.length < sizeLine ∧ ((valK ks vs k = some d ∧ S' = S) ∨ (valK ks vs k = none ∧ d = v ∧ S' = S.set n (.dic t (putKs ks k) (putVs ks vs k v)))) := by
  unfold dsetd at h
  split at h
  · rename_i n
    split at h
    · rename_i t ks vs hS
      split at h
      · rename_i k hk
        split at h
        · rename_i hz
          split at h
          · rename_i w hw
            cases h
            exact ⟨n, t, ks, vs, k, rfl, hS, hk, hz, .inl ⟨hw, rfl⟩⟩
          · rename_i hw
            cases h
            exact ⟨n, t, ks, vs, k, rfl, hS, hk, hz, .inr ⟨hw, rfl, rfl⟩⟩
        · cases h
      · cases h
    · cases h
  · cases h
theorem m2_set {o e f : Expr} {apos cpos : Pos} {env : PySem.Env} (hX : X.env = env) (hr : plainRecv o = true) (hl : (apos.endLine == cpos.line) = true) (hs : starEach [e, f] env = (false, eval e env) :: starEach [f] env) (hs2 : starEach [f] env = (false, eval f env) :: starEach [] env) : M2 X o "setdefault" apos e f cpos := by
  subst hX
  have h2 : starEach [e, f] X.env = [(false, eval e X.env), (false, eval f X.env)] := by rw [hs, hs2]; rfl
  exact ⟨base_plain hr _ _, by rw [h2]; rfl, hl, by rw [h2]; rfl⟩
theorem s_dsetd (G : Good T k c sc X) {o e f : Expr} {o' e' f' : E} {apos cpos : Pos} (hr : plainRecv o = true) (hl : (apos.endLine == cpos.line) = true) (hs : starEach [e, f] X.env = (false, eval e X.env) :: starEach [f] X.env) (hs2 : starEach [f] X.env = (false, eval f X.env) :: starEach [] X.env)
    (ho : PE X o (rE X.K (T.ctx k) o')) (he : PE X e (rE X.K (T.ctx k) e')) (hf : PE X f (rE X.K (T.ctx k) f')) : PE X (.Call (.Attribute o "setdefault" apos) [e, f] [] cpos) (rE X.K (T.ctx k) (.dsetd o' e' f')) := by
  refine PE.imp (pe_setd (by have := G.hu; omega) ho he hf (m2_set rfl hr hl hs hs2)) fun σ H Q ⟨m, env, S, d, S', st, re, e, p⟩ => ?_
  rw [evE] at e
  obtain ⟨x, S1, e1, e2⟩ := bindOk e
  obtain ⟨_, S1', e3, e4⟩ := bindOk e2
  obtain ⟨rfl, pr, hp⟩ := isDict_inv e3
  obtain ⟨y, S2, e5, e6⟩ := bindOk e4
  obtain ⟨z, S3, e5', e7⟩ := bindOk e6
  obtain ⟨n, t, ks, vs, kk, rfl, hS, hk, hz, hor⟩ := dsetd_inv e7
  refine ⟨m, env, S, .ref n, _, st, re, e1, fun m1 v1 H1 l1 st1 r1 => ?_⟩
  obtain ⟨a, ea, hD⟩ := isD_rel st1 r1 hp
  refine ⟨a, ea, hD, m1, env, _, y, _, st1, re.mono l1, e5, fun m2 v2 H2 l2 st2 r2 => ⟨m2, env, _, z, _, st2, (re.mono l1).mono l2, e5', fun m3 v3 H3 l3 st3 r3 => ?_⟩⟩
  have r13 := (r1.mono l2).mono l3
  have hd : dictAt (.ref n) S3 = some (t, ks, vs) := by
    unfold dictAt
    dsimp only
    rw [hS]
  obtain ⟨a2, o2, ea2, g, ro⟩ := dget_rel st3 r13 hd (r2.mono l3) hk
  rw [ea] at ea2
  cases ea2
  have hmn : m3 n = some a := by
    rw [ea, RelD] at r13
    obtain ⟨a3, q1, q2⟩ := r13
    first
      | (cases q1; exact q2)
      | (cases q2; exact q1)
  obtain ⟨xs', hput, st4⟩ := dput_rel st3 hmn hS (r2.mono l3) hk r3 hz
  refine ⟨o2, _, g, hput, fun v hv => ?_, fun hn => ?_⟩
  · subst hv
    rcases hor with ⟨hq, rfl⟩ | ⟨hq, rfl, rfl⟩
    · rw [hq] at ro
      exact p m3 _ H3 ((l1.trans l2).trans l3) st3 ro
    · rw [hq] at ro
      exact (show False from ro).elim
  · subst hn
    rcases hor with ⟨hq, rfl⟩ | ⟨hq, rfl, rfl⟩
    · rw [hq] at ro
      exact (show False from ro).elim
    · have l4 : Le m3 H3 m3 (upd H3 a (hoD t (putKs ks kk) xs')) := Le.set st3 hmn
      exact p m3 _ _ (((l1.trans l2).trans l3).trans l4) st4 (r3.mono l4)
end
end Pi

/-! A walk over a dict's pairs; d[k] = v. -/
namespace Pi
open PySem PySem.Spec PyProof.Rows L2
section
variable {K : PySem.W.Frag} {m : Mp} {H : Hp}
theorem leafD_rel (x : Key) : RelD K m H (leafD x) (kV x) := by
  cases x <;> (show RelD K m H _ _; rw [leafD, RelD]; rfl)
theorem leafDs_rel : ∀ l : List Key, RelDs K m H (l.map leafD) (l.map kV)
  | [] => relDs_nil
  | x :: l => relDs_cons (leafD_rel x) (leafDs_rel l)
theorem pairs_get {t : Bool} {ks : List (List Key)} {vs : List D} {i : Nat} {k : List Key} {v : D} (h1 : ks[i]? = some k) (h2 : vs[i]? = some v) : (pairsD t ks vs)[i]? = some (.tup [keyD t k, v]) := by
  unfold pairsD
  rw [List.getElem?_map, List.zip_eq_zipWith, List.getElem?_zipWith, h1, h2]
  rfl
theorem zip_get {α β : Type} {ks : List α} {vs : List β} {i : Nat} {p : α × β} (h : (ks.zip vs)[i]? = some p) : ks[i]? = some p.1 ∧ vs[i]? = some p.2 := by
  rw [List.zip_eq_zipWith, List.getElem?_zipWith] at h
  cases e1 : ks[i]? with
  | none => rw [e1] at h; cases h
  | some a =>
    cases e2 : vs[i]? with
    | none => rw [e1, e2] at h; cases h
    | some b =>
      rw [e1, e2] at h
      cases h
      exact ⟨rfl, rfl⟩
theorem pairs_length {t : Bool} {ks : List (List Key)} {vs : List D} (h : ks.length = vs.length) : (pairsD t ks vs).length = ks.length := by
  unfold pairsD
  rw [List.length_map, List.length_zip, ← h, Nat.min_self]
theorem relJ_itemsT {ks : List (List Key)} {vs : List D} {xs : List V} {a : Addr} {o : Obj} {n : Nat} (q : H a = some (.frz o (.dT (ks.zip xs)))) (rs : RelDs K m H vs xs) (hl : ks.length = vs.length) : RelJ K m H ⟨n, fun i _ => stepL (pairsD true ks vs) i⟩ (ItiT a o (ks.zip xs)) := by
  intro m1 H1 S1 le st i
  have q1 := le.fix a _ rfl q
  have rs1 := rs.monow le
  have hz : (ks.zip xs).length = ks.length := by rw [List.length_zip, rs.length, hl, Nat.min_self]
  show (match stepL (pairsD true ks vs) i with | .item d' => _ | .stop => _ | .bad => True)
  unfold stepL
  rcases Nat.lt_or_ge i ks.length with hi | hi
  · have e1 := List.getElem?_eq_getElem hi
    have e2 := List.getElem?_eq_getElem (show i < vs.length by omega)
    rw [pairs_get e1 e2]
    refine ⟨⟨q1, by rw [hz]; exact hi⟩, fun x H2 y => ?_⟩
    obtain ⟨T, k, v, b, hkv, hb, ex, hT, eH⟩ := y
    obtain ⟨z1, z2⟩ := zip_get hkv
    rw [e1] at z1
    cases z1
    obtain ⟨w, hw, rv⟩ := rs1.get e2
    rw [z2] at hw
    cases hw
    subst ex eH
    refine ⟨Le.new T _ hT, st.new T _ hT, relD_pair ?_ rv hT⟩
    show RelD K m1 H1 (.tup _) _
    rw [RelD]
    exact ⟨b, _, rfl, .inl hb, leafDs_rel _⟩
  · rw [List.getElem?_eq_none (by rw [pairs_length hl]; exact hi)]
    exact ⟨q1, by rw [hz]; exact hi⟩
theorem relJ_itemsK {ks : List (List Key)} {vs : List D} {xs : List V} {a : Addr} {o : Obj} {n : Nat} (q : H a = some (.frz o (.dK ((ks.map hdK).zip xs)))) (rs : RelDs K m H vs xs) (hl : ks.length = vs.length) : RelJ K m H ⟨n, fun i _ => stepL (pairsD false ks vs) i⟩ (Iti a o ((ks.map hdK).zip xs)) := by
  intro m1 H1 S1 le st i
  have q1 := le.fix a _ rfl q
  have rs1 := rs.monow le
  have hz : ((ks.map hdK).zip xs).length = ks.length := by rw [List.length_zip, List.length_map, rs.length, hl, Nat.min_self]
  show (match stepL (pairsD false ks vs) i with | .item d' => _ | .stop => _ | .bad => True)
  unfold stepL
  rcases Nat.lt_or_ge i ks.length with hi | hi
  · have e1 := List.getElem?_eq_getElem hi
    have e2 := List.getElem?_eq_getElem (show i < vs.length by omega)
    rw [pairs_get e1 e2]
    refine ⟨⟨q1, by rw [hz]; exact hi⟩, fun x H2 y => ?_⟩
    obtain ⟨T, k, v, hkv, ex, hT, eH⟩ := y
    obtain ⟨z1, z2⟩ := zip_get hkv
    rw [List.getElem?_map, e1] at z1
    cases z1
    obtain ⟨w, hw, rv⟩ := rs1.get e2
    rw [z2] at hw
    cases hw
    subst ex eH
    exact ⟨Le.new T _ hT, st.new T _ hT, relD_pair (leafD_rel _) rv hT⟩
  · rw [List.getElem?_eq_none (by rw [pairs_length hl]; exact hi)]
    exact ⟨q1, by rw [hz]; exact hi⟩
end
section
variable {X : Cx} {T : Tb} {k : Nat} {c : CC} {sc : Scope}
theorem s_itemsI {o : Expr} {o' : E} {elts : List Expr} {kk : Nat} {apos cpos tpos : Pos} (hr : plainRecv o = true) (hl : (apos.endLine == cpos.line) = true) (ho : PE X o (rE X.K (T.ctx k) o')) :
    PI X (.Tuple elts kk tpos) (.Call (.Attribute o "items" apos) [] [] cpos) (rI X.K (T.ctx k) (.items o')) := by
  refine PI.imp (pi_itemsA ho (base_plain hr _ _) hl) fun σ H R ⟨m, env, S, J, S', st, re, e, p⟩ => ?_
  rw [evI] at e
  obtain ⟨x, S1, e1, e2⟩ := bindOk e
  unfold iterItems at e2
  split at e2
  · rename_i t ks vs
    cases e2
    refine ⟨m, env, S, _, _, st, re, e1, fun m1 v1 H1 l1 st1 r1 => ?_⟩
    rw [RelD] at r1
    obtain ⟨a, xs, ev, ⟨ob, q⟩, rs, hlen, ok⟩ := r1
    refine ⟨a, ob, ev, ?_⟩
    cases t with
    | true => exact .inr ⟨_, q, p m1 H1 _ l1 st1 (relJ_itemsT q rs hlen)⟩
    | false => exact .inl ⟨_, q, p m1 H1 _ l1 st1 (relJ_itemsK q rs hlen)⟩
  · cases e2
end
end Pi

/-! list(d.items()). -/
namespace Pi
open PySem PySem.Spec PyProof.Rows L2
/-- the pairs of d, each in a new tuple, in a new list -/
def rListIt : List V → Hp → VK → Prop := fun xs H Q => ∃ (p a : Addr) (kvs : List (List Key × V)), xs = [.ref p] ∧ H p = some (DX.itemsO p a) ∧ H a = some (.dT kvs) ∧
  ∀ (l : Addr) (as : List Addr) (H' : Hp), (∀ b o, H b = some o → H' b = some o) → H l = none → H' l = some (.lst (as.map V.ref)) → as.length = kvs.length →
    (∀ (j : Nat) (b : Addr), as[j]? = some b → H b = none ∧ ∃ k v q, kvs[j]? = some (k, v) ∧ H q = some (.tup (k.map kV)) ∧ H' b = some (.tup [.ref q, v])) → Q (.ref l) H'
theorem lt_len2 {α : Type} {l : List α} {i : Nat} {x : α} (h : l[i]? = some x) : i < l.length := (List.getElem?_eq_some_iff.mp h).1
theorem cr_listIt {X : Cx} (hc : X.calm = true) : CallR X (.type "list") rListIt := by
  intro pins s σ H xs us Q I r h
  obtain ⟨p, a, kvs, rfl, hp, ha, q⟩ := h
  obtain rfl := Vals.ref1 r
  have view : s.heap.IsItemsView p a := (show ObjOk X.prog X.w H s.heap p (DX.itemsO p a) from I.hok p _ hp).1
  obtain ⟨z, hd, xs', rel, o, es, ep, ho, hx, hdat, hes, his, hn⟩ := dt_of I.hok ha
  have l1 : kvs.length = xs'.length := Paired.length rel
  have l2 : es.size = xs'.length := size_of_entries hes
  have hh : X.A.handled = none := I.ok.hd hc
  refine PySem.W.dil_call (es := es) (ep := ep) hh view ⟨o, ho, hx, hdat⟩ (by omega) fun h' tk acc cc as hk hS hl hG hacc => ?_
  have nd : as.Nodup := List.Pairwise.imp (fun h => Nat.ne_of_lt h) hG.rise
  have pr : ∀ (j : Nat) (b : Addr), as[j]? = some b → ∃ k v kq w, kvs[j]? = some (k, v) ∧ H kq = some (.tup (k.map kV)) ∧ RelV v w ∧ h'.get? b = some { cls := .type "tuple", data := .seq #[Value.ref kq, w] } := by
    intro j b hj
    obtain ⟨hj2, hg⟩ := hG.pairs j b hj
    have hen := entry_at hes j
    rw [Array.getElem?_eq_getElem hj2] at hen
    cases hxj : xs'[j]? with
    | none => rw [hxj] at hen; cases hen
    | some x =>
      rw [hxj] at hen
      have een : es[j] = entryOfKey (tupleKind (mixKind X.prog X.w)) x := Option.some.inj hen
      obtain ⟨e0, he0, r1, r2, r3⟩ := DX.pget rel hxj
      refine ⟨e0.1, e0.2, x.2.1, x.2.2, he0, r2, r3, ?_⟩
      rw [hg, een]
      rfl
  have I1 : L2.Inv X pins σ H { s with heap := h', toks := tk } := I.kept hk
  have hlo : H s.heap.objs.size = none := I.hok.fresh (Nat.le_refl _)
  have its : Vals (as.map V.ref) (as.map Value.ref) := by
    clear hl hG hacc nd pr
    induction as with
    | nil => exact .nil
    | cons b as ih => exact .cons rfl ih
  have I2 : L2.Inv X pins σ (upd H s.heap.objs.size (.lst (as.map V.ref))) { s with heap := h', toks := tk } := I1.take (h' := h') (t' := tk) (fun b ob _ e => e) (I.fpOk (Nat.le_refl _) hlo) ⟨by rw [List.length_map]; omega, as.map Value.ref, cc, its, by rw [hS, ← hacc]⟩
  obtain ⟨H2, I3, g2, q2⟩ := DX.takeT (P := fun b vs => ∃ (j : Nat) (k : List Key) (v : V) (kq : Addr), as[j]? = some b ∧ kvs[j]? = some (k, v) ∧ H kq = some (.tup (k.map kV)) ∧ vs = [.ref kq, v]) I as (upd H s.heap.objs.size (.lst (as.map V.ref))) I2 nd fun b hb => by
    obtain ⟨j, hj⟩ := List.mem_iff_getElem?.mp hb
    obtain ⟨k, v, kq, w, h1, h2, h3, h4⟩ := pr j b hj
    have hlt := hG.above b hb
    refine ⟨Nat.le_of_lt hlt, by rw [upd_ne (Nat.ne_of_gt hlt)]; exact I.hok.fresh (Nat.le_of_lt hlt), _, ⟨j, k, v, kq, hj, h1, h2, rfl⟩, fun H3 => ⟨by show 2 ≤ sizeLine; decide, [Value.ref kq, w], .cons rfl (.cons h3 .nil), ⟨_, h4, rfl, _, rfl⟩⟩⟩
  have old : ∀ b o, H b = some o → H2 b = some o := fun b o e => g2 b o (by rw [upd_ne (ne_of_none e hlo)]; exact e)
  refine ⟨.ref s.heap.objs.size, H2, I3, rfl, q _ as H2 old hlo (g2 _ _ upd_same) (by omega) fun j b hj => ?_⟩
  have hb := List.mem_of_getElem? hj
  obtain ⟨vs, ⟨j2, k, v, kq, h1, h2, h3, rfl⟩, h5⟩ := q2 b hb
  have hjj : j2 = j := by
    have e1 := lt_len2 h1
    have e2 := lt_len2 hj
    rw [List.getElem?_eq_getElem e1] at h1
    rw [List.getElem?_eq_getElem e2] at hj
    exact (List.getElem_inj nd).mp ((Option.some.inj h1).trans (Option.some.inj hj).symm)
  subst hjj
  exact ⟨I.hok.fresh (Nat.le_of_lt (hG.above b hb)), k, v, kq, h2, h3, h5⟩
end Pi
namespace Pi
open PySem PySem.Spec PyProof.Rows L2
section
variable {K : PySem.W.Frag} {m m1 : Mp} {H H1 H' : Hp} {S S1 : Sto}
theorem RelSt.grow (r : RelSt K m S H) (old : ∀ b o, H b = some o → H' b = some o) : RelSt K m S H' :=
  ⟨r.dom, r.inj, fun n ob e => by
    obtain ⟨a, ha, q⟩ := r.ob n ob e
    exact ⟨a, ha, q.monow ⟨fun _ _ h => h, fun a u _ e => old a u e⟩ fun u z => old a u z⟩⟩
theorem Le.grow (old : ∀ b o, H b = some o → H' b = some o) : Le m H m H' := ⟨⟨fun _ _ h => h, fun a u _ e => old a u e⟩, fun a o e n => ⟨old a o e, n⟩⟩
theorem Le.back {a : Addr} (l : Le m H m1 H1) (st : RelSt K m1 S1 H1) (h : H1 a = none) : H a = none := by
  cases e : H a with
  | none => rfl
  | some o =>
    by_cases q : ∃ n, m n = some a
    · obtain ⟨n, hn⟩ := q
      obtain ⟨u, hu, _⟩ := st.img (l.mp n a hn)
      rw [h] at hu
      cases hu
    · have := (l.keep a o e fun n z => q ⟨n, z⟩).1
      rw [h] at this
      cases this
theorem relDs_of_get : ∀ {l : List D} {xs : List V}, l.length = xs.length → (∀ (i : Nat) (d : D), l[i]? = some d → ∃ v, xs[i]? = some v ∧ RelD K m H d v) → RelDs K m H l xs
  | [], [], _, _ => relDs_nil
  | [], _ :: _, h, _ => by simp at h
  | _ :: _, [], h, _ => by simp at h
  | d :: l, v :: xs, h, q => by
    obtain ⟨w, hw, r⟩ := q 0 d rfl
    cases hw
    exact relDs_cons r (relDs_of_get (by simpa using h) fun i d e => q (i + 1) d (by simpa using e))
end
section
variable {X : Cx} {T : Tb} {k : Nat} {c : CC} {sc : Scope}
theorem relD_ref' {K : PySem.W.Frag} {m : Mp} {H : Hp} {n : Nat} {x : V} (h : RelD K m H (.ref n) x) : ∃ a, m n = some a ∧ x = .ref a := by
  rw [RelD] at h
  obtain ⟨a, e, q⟩ := h
  exact ⟨a, q, e⟩
theorem litems_inv {x d : D} {S S' : Sto} (h : litems x S = .ok d S') : ∃ n ks vs, x = .ref n ∧ S[n]? = some (.dic true ks vs) ∧ d = .ref S.length ∧ S' = S ++ [.lst (pairsD true ks vs)] := by
  unfold litems at h
  split at h
  · split at h
    · rename_i n _ ks vs hS
      unfold newO at h
      cases h
      exact ⟨_, ks, vs, rfl, hS, rfl, rfl⟩
    · cases h
  · cases h
theorem s_litems (G : Good T k c sc X) {o : Expr} {o' : E} {x : Str} {p pos apos cpos : Pos} (hx : x = ("list" : Str)) (hg : isGl sc x = true) (hp : plainName x = true) (h0 : free0 c x = true) (hr : plainRecv o = true) (hl : (apos.endLine == cpos.line) = true) (ho : PE X o (rE X.K (T.ctx k) o')) :
    PE X (.Call (.Name x p) [.Call (.Attribute o "items" apos) [] [] cpos] [] pos) (rE X.K (T.ctx k) (.litems o')) := by
  subst hx
  obtain ⟨hv, hm⟩ := bi_boot .list "list" rfl
  unfold free0 at h0
  simp only [Bool.and_eq_true, Bool.not_eq_true'] at h0
  have hmg := G.facts.bl _ hm h0.1 h0.2
  have inner := pe_bm0 (X := X) PySem.F.plainAttrs_dict PySem.F.slot_dict_items PySem.F.type_dict_items DX.mt_itemsT ho (base_plain hr _ _) hl
  refine PE.imp (pe_callTy (cr_listIt G.calm) (gl_of G hg) hmg hv (pa_cons inner pa_nil rfl) (plain_nm hp) (plain_db hp) rfl rfl) fun σ H Q ⟨m, env, S, d, S', st, re, e, pq⟩ => ?_
  rw [evE] at e
  obtain ⟨y, S1, e1, e2⟩ := bindOk e
  obtain ⟨n, ks, vs, rfl, hS, rfl, rfl⟩ := litems_inv e2
  refine ⟨m, env, S, _, S1, st, re, e1, fun m1 v1 H1 l1 st1 r1 => ?_⟩
  obtain ⟨a, hmn, rfl⟩ := relD_ref' r1
  obtain ⟨xs, hx, rs, hlen, ok⟩ := st1.dic hmn hS
  refine ⟨.inr (.inr (.inl ⟨rfl, .inr ⟨_, hx⟩⟩)), a, _, rfl, rfl, hx, fun q hq => ⟨q, a, _, rfl, upd_same, by rw [upd_ne (ne_of_none hx hq)]; exact hx, fun l as H' old hl0 hlst hal hall => ?_⟩⟩
  have l2 := Le.new (m := m1) q (DX.itemsO q a) hq
  have st2 := st1.new q (DX.itemsO q a) hq
  have st3 := st2.grow old
  have l3 : Le m H m1 H' := (l1.trans l2).trans (Le.grow old)
  have hH1 : upd H1 q (DX.itemsO q a) l = none := hl0
  have hn1 : ∀ j, m1 j ≠ some l := st2.out hH1
  have hHl : H l = none := Le.back (l1.trans l2) st2 hH1
  have hz : (ks.zip xs).length = ks.length := by rw [List.length_zip, rs.length, hlen, Nat.min_self]
  refine pq _ _ _ (l3.adopt (fun j b e => Nat.ne_of_lt (st3.dom j b e)) hHl) (st3.adopt hn1 hlst (relDs_of_get (by rw [pairs_length hlen, List.length_map]; omega) fun i d e => ?_)) ?_
  · have hi : i < ks.length := by
      have := lt_len2 e
      rw [pairs_length hlen] at this
      exact this
    have ek := List.getElem?_eq_getElem hi
    have ev := List.getElem?_eq_getElem (show i < vs.length by omega)
    rw [pairs_get ek ev] at e
    cases e
    have hia : i < as.length := by omega
    have ea := List.getElem?_eq_getElem hia
    obtain ⟨hb0, kk, v, b, h1, h2, h3⟩ := hall i _ ea
    obtain ⟨z1, z2⟩ := zip_get h1
    rw [ek] at z1
    cases z1
    obtain ⟨w, hw, rv⟩ := rs.get ev
    rw [z2] at hw
    cases hw
    refine ⟨V.ref as[i], by rw [List.getElem?_map, ea]; rfl, ?_⟩
    rw [RelD]
    refine ⟨_, _, rfl, .inl h3, relDs_cons ?_ (relDs_cons ((rv.mono l2).mono (Le.grow old)) relDs_nil)⟩
    show RelD X.K m1 H' (.tup _) _
    rw [RelD]
    exact ⟨b, _, rfl, .inl (old _ _ h2), leafDs_rel _⟩
  · rw [RelD]
    exact ⟨l, rfl, by unfold Pi.ext; rw [if_pos rfl]⟩
end
end Pi

namespace Pi
open PySem PySem.Spec PyProof.Rows L2
/-! targets -/
mutual
def gOf (K : PySem.W.Frag) : Tg → TG
  | .name i => gName i
  | .tup ts => fun v σ H Q => ∃ a xs, v = .ref a ∧ (SqT K H a xs ∨ SqL K H a xs) ∧ xs.length = ts.length ∧ gsOf K ts xs σ H Q
def gsOf (K : PySem.W.Frag) : List Tg → TGs
  | [] => gNil
  | t :: ts => gCons (gOf K t) (gsOf K ts)
end
mutual
def tgSlots : Tg → List Nat
  | .name i => [i]
  | .tup ts => tgSlotss ts
def tgSlotss : List Tg → List Nat
  | [] => []
  | t :: ts => tgSlots t ++ tgSlotss ts
end
theorem wipe_set_comm {i : Nat} {o : Option V} : ∀ {vs : List Nat} {σ : L2.St}, i ∉ vs → L2.wipe (σ.set i o) vs = (L2.wipe σ vs).set i o
  | [], σ, _ => rfl
  | v :: vs, σ, h => by
    have h1 : i ≠ v := fun e => h (by simp [e])
    have h2 : i ∉ vs := fun e => h (List.mem_cons_of_mem _ e)
    show (L2.wipe (σ.set i o) vs).set v none = ((L2.wipe σ vs).set v none).set i o
    rw [wipe_set_comm h2, List.set_comm _ _ h1]
theorem wipe_set {i : Nat} {o : Option V} : ∀ {vs : List Nat} {σ : L2.St}, i ∈ vs → L2.wipe (σ.set i o) vs = L2.wipe σ vs
  | [], σ, h => absurd h (by simp)
  | v :: vs, σ, h => by
    show (L2.wipe (σ.set i o) vs).set v none = (L2.wipe σ vs).set v none
    by_cases hv : i ∈ vs
    · rw [wipe_set hv]
    · have e : i = v := by
        rcases List.mem_cons.mp h with e | e
        · exact e
        · exact absurd e hv
      rw [wipe_set_comm hv, e, List.set_set]
theorem wipe_idem (σ : L2.St) (vs : List Nat) : L2.wipe (L2.wipe σ vs) vs = L2.wipe σ vs := by
  have aux : ∀ us : List Nat, (∀ u ∈ us, u ∈ vs) → L2.wipe (L2.wipe σ us) vs = L2.wipe σ vs := by
    intro us
    induction us with
    | nil => intro _; rfl
    | cons u us ih =>
      intro h
      show L2.wipe ((L2.wipe σ us).set u none) vs = _
      rw [wipe_set (h u List.mem_cons_self)]
      exact ih fun w hw => h w (List.mem_cons_of_mem _ hw)
  exact aux vs fun _ h => h
section
variable {K : PySem.W.Frag} {m : Mp} {H : Hp}
mutual
theorem gOf_use : ∀ {t : Tg} {d : D} {v : V} {env env' : Env} {σ : L2.St} {Q : L2.St → Hp → Prop}, RelEnv K m H env σ → RelD K m H d v → put t d env = some env' →
    (∀ σ', RelEnv K m H env' σ' → (∀ vs, (∀ i ∈ tgSlots t, i ∈ vs) → L2.wipe σ' vs = L2.wipe σ vs) → Q σ' H) → gOf K t v σ H Q
  | .name i, d, v, env, env', σ, Q, re, rd, e, q => by
    rw [put] at e
    split at e
    · cases e
      refine q _ (re.set rd) fun vs hv => wipe_set (hv i ?_)
      simp [tgSlots]
    · cases e
  | .tup ts, .tup l, v, env, env', σ, Q, re, rd, e, q => by
    rw [put] at e
    rw [RelD] at rd
    obtain ⟨a, xs, e1, hq, rs⟩ := rd
    have hl := gsOf_len e
    refine ⟨a, xs, e1, .inl (sqT_of hq), by rw [rs.length]; exact hl.symm, gsOf_use re rs e fun σ' r w => q σ' r fun vs hv => w vs fun i hi => hv i ?_⟩
    rw [tgSlots]
    exact hi
  | .tup ts, .clst l, v, env, env', σ, Q, re, rd, e, q => by
    rw [put] at e
    rw [RelD] at rd
    obtain ⟨a, xs, e1, hq, rs⟩ := rd
    have hl := gsOf_len e
    refine ⟨a, xs, e1, .inr (sqL_of hq), by rw [rs.length]; exact hl.symm, gsOf_use re rs e fun σ' r w => q σ' r fun vs hv => w vs fun i hi => hv i ?_⟩
    rw [tgSlots]
    exact hi
  | .tup _, .non, _, _, _, _, _, _, _, e, _ => by simp [put] at e
  | .tup _, .bl _, _, _, _, _, _, _, _, e, _ => by simp [put] at e
  | .tup _, .int _, _, _, _, _, _, _, _, e, _ => by simp [put] at e
  | .tup _, .str _, _, _, _, _, _, _, _, e, _ => by simp [put] at e
  | .tup _, .ref _, _, _, _, _, _, _, _, e, _ => by simp [put] at e
  | .tup _, .rng _ _, _, _, _, _, _, _, _, e, _ => by simp [put] at e
  | .tup _, .cdic _ _ _, _, _, _, _, _, _, _, e, _ => by simp [put] at e
theorem gsOf_use : ∀ {ts : List Tg} {ds : List D} {vs : List V} {env env' : Env} {σ : L2.St} {Q : L2.St → Hp → Prop}, RelEnv K m H env σ → RelDs K m H ds vs → puts ts ds env = some env' →
    (∀ σ', RelEnv K m H env' σ' → (∀ vs, (∀ i ∈ tgSlotss ts, i ∈ vs) → L2.wipe σ' vs = L2.wipe σ vs) → Q σ' H) → gsOf K ts vs σ H Q
  | [], [], vs, env, env', σ, Q, re, rs, e, q => by
    rw [puts] at e
    cases e
    rw [RelDs] at rs
    subst rs
    exact ⟨rfl, q σ re fun _ _ => rfl⟩
  | t :: ts, d :: ds, vs, env, env', σ, Q, re, rs, e, q => by
    rw [puts] at e
    split at e
    · rename_i env1 h1
      rw [RelDs] at rs
      obtain ⟨v, vs', e1, r1, rs⟩ := rs
      subst e1
      refine ⟨v, vs', rfl, gOf_use re r1 h1 fun σ1 r w => gsOf_use r rs e fun σ2 r2 w2 => q σ2 r2 fun us hu => ?_⟩
      rw [w2 us fun i hi => hu i ?_, w us fun i hi => hu i ?_]
      · rw [tgSlotss]
        exact List.mem_append_left _ hi
      · rw [tgSlotss]
        exact List.mem_append_right _ hi
    · cases e
  | [], _ :: _, _, _, _, _, _, _, _, e, _ => by simp [puts] at e
  | _ :: _, [], _, _, _, _, _, _, _, e, _ => by simp [puts] at e
theorem gsOf_len : ∀ {ts : List Tg} {ds : List D} {env env' : Env}, puts ts ds env = some env' → ts.length = ds.length
  | [], [], _, _, _ => rfl
  | t :: ts, d :: ds, env, env', e => by
    rw [puts] at e
    split at e
    · rw [List.length_cons, List.length_cons, gsOf_len e]
    · cases e
  | [], _ :: _, _, _, e => by simp [puts] at e
  | _ :: _, [], _, _, e => by simp [puts] at e
end
end
section
variable {X : Cx} {T : Tb} {k : Nat} {c : CC} {sc : Scope}
/-- names that may be stored -/
def TgOk (X : Cx) (sc : Scope) : Prop := ∀ x, isLoc sc x = true → Loc X.env.scope x ∧ (X.fn x = true ∨ X.env.scope.names.lookup x = some .local)
theorem tg_star {c : CC} {sc : Scope} {n : Nat} {e : Expr} {t : Tg} (h : cTg c sc n e = some t) (es : List Expr) (env : PySem.Env) : assignEach (e :: es) env = (false, assign e env) :: assignEach es env := by
  cases e with
  | Starred _ _ => cases n <;> simp [cTg] at h
  | _ => rfl
theorem s_tg (hN : X.N = c.N) (hnd : X.N.Nodup) (hc : X.calm = true) (ok : TgOk X sc) : ∀ (n : Nat) (e : Expr) (t : Tg), cTg c sc n e = some t → PG X e (gOf X.K t)
  | 0, _, _, h => by simp [cTg] at h
  | n + 1, e, t, h => by
    have many : ∀ (es : List Expr) (ts : List Tg), es.mapM (cTg c sc n) = some ts → PGs X es (gsOf X.K ts) ∧ (assignEach es X.env).length = ts.length ∧ (assignEach es X.env).findIdx? (·.1) = none := by
      intro es
      induction es with
      | nil =>
        intro ts e
        simp at e
        subst e
        exact ⟨by rw [gsOf]; exact pgs_nil, rfl, rfl⟩
      | cons e es ih =>
        intro ts h
        obtain ⟨t1, ts1, h1, h2, rfl⟩ := mapM_cons_some h
        obtain ⟨i1, i2, i3⟩ := ih ts1 h2
        have hs := tg_star h1 es X.env
        refine ⟨?_, ?_, ?_⟩
        · rw [gsOf]
          exact pgs_cons (s_tg hN hnd hc ok n e t1 h1) i1 (by rw [hs] <;> rfl)
        · rw [hs, List.length_cons, List.length_cons, i2]
        · rw [hs, List.findIdx?_cons]
          simp [i3]
    cases e with
    | Name x pos =>
      simp only [cTg] at h
      split at h
      · rename_i hl
        cases e : slotOf c x with
        | none => rw [e] at h; simp at h
        | some i =>
          rw [e] at h
          simp only [Option.map_some, Option.some.injEq] at h
          subst h
          obtain ⟨a, b⟩ := slotOf_spec e
          obtain ⟨o1, o2⟩ := ok x hl
          rw [gOf]
          exact pg_name hnd (by rw [hN]; exact a) o1 o2
      · cases h
    | Tuple es kk pos =>
      simp only [cTg] at h
      cases e : es.mapM (cTg c sc n) with
      | none => rw [e] at h; simp at h
      | some ts =>
        rw [e] at h
        simp only [Option.map_some, Option.some.injEq] at h
        subst h
        obtain ⟨h1, h2, h3⟩ := many es ts e
        rw [gOf]
        refine ⟨fun pins s σ H v u Q I r hw => ?_⟩
        obtain ⟨a, xs, e1, hq, hl, hw⟩ := hw
        rcases hq with hq | hq
        · exact (pg_tup hc h1 h2 h3).run pins s σ H v u Q I r ⟨a, xs, e1, hq, hl, hw⟩
        · exact (pg_lst hc h1 h2 h3).run pins s σ H v u Q I r ⟨a, xs, e1, hq, hl, hw⟩
    | _ => simp [cTg] at h
theorem slots_own {c : CC} {sc : Scope} : ∀ (n : Nat) (e : Expr) (t : Tg) (own : List (Str × Nat)), cTg c sc n e = some t → ownOf c n e = some own → tgSlots t = own.map (·.2)
  | 0, _, _, _, h, _ => by simp [cTg] at h
  | n + 1, e, t, own, h, h' => by
    have many : ∀ (es : List Expr) (ts : List Tg) (os : List (List (Str × Nat))), es.mapM (cTg c sc n) = some ts → es.mapM (ownOf c n) = some os → tgSlotss ts = os.flatten.map (·.2) := by
      intro es
      induction es with
      | nil =>
        intro ts os e e'
        simp at e e'
        subst e e'
        rfl
      | cons e es ih =>
        intro ts os h h'
        obtain ⟨t1, ts1, h1, h2, rfl⟩ := mapM_cons_some h
        obtain ⟨o1, os1, h1', h2', rfl⟩ := mapM_cons_some h'
        rw [tgSlotss, List.flatten_cons, List.map_append, slots_own n e t1 o1 h1 h1', ih ts1 os1 h2 h2']
    cases e with
    | Name x pos =>
      simp only [cTg] at h
      simp only [ownOf] at h'
      split at h
      · cases e : slotOf c x with
        | none => rw [e] at h; simp at h
        | some i =>
          rw [e] at h h'
          simp only [Option.map_some, Option.some.injEq] at h h'
          subst h h'
          rfl
      · cases h
    | Tuple es kk pos =>
      simp only [cTg] at h
      simp only [ownOf] at h'
      cases e : es.mapM (cTg c sc n) with
      | none => rw [e] at h; simp at h
      | some ts =>
        cases e2 : es.mapM (ownOf c n) with
        | none => rw [e2] at h'; simp at h'
        | some os =>
          rw [e] at h
          rw [e2] at h'
          simp only [Option.map_some, Option.some.injEq] at h h'
          subst h h'
          rw [tgSlots]
          exact many es ts os e e2
    | _ => simp [cTg] at h
/-- a comprehension's block -/
theorem Good.blk (G : Good T k c sc X) (s : Shared) (H : Hp) (scope : Scope) (C : Addr) (cl : List (Str × Addr)) (fp : List Addr) : Good T k c (L2.relS scope sc) (X.blk s H scope (compEnvC scope cl C X.env) fp) where
  nm := G.nm
  sco := by
    have e := G.sco
    subst e
    rfl
  calm := G.calm
  room := G.room
  nd := G.nd
  facts := G.facts
  calls := G.calls
theorem tgOk_blk (s : Shared) (H : Hp) (scope : Scope) (C : Addr) (cl : List (Str × Addr)) (fp : List Addr) : TgOk (X.blk s H scope (compEnvC scope cl C X.env) fp) scope := fun x hx => by
  rcases isLoc_spec hx with h | h
  · have q : (L2.relS scope X.env.scope).names.lookup x = some .local := lookup_relS_keep (by decide) h
    exact ⟨.inl q, .inr q⟩
  · have q : (L2.relS scope X.env.scope).names.lookup x = some .cell := lookup_relS_keep (by decide) h
    refine ⟨.inr q, .inl ?_⟩
    show (scope.names.lookup x == some .cell) = true
    rw [h]
    rfl
theorem compLoop_inv {get : Nat → Sto → Step} {body : D → M (Option D)} {n i : Nat} {acc l : List D} {S S' : Sto} (h : compLoop get body n i acc S = .ok l S') :
    ∃ n', n = n' + 1 ∧ ((get i S = .stop ∧ l = acc ∧ S' = S) ∨ (∃ x o S1, get i S = .item x ∧ body x S = .ok o S1 ∧ (∀ y, o = some y → acc.length < sizeLine) ∧ compLoop get body n' (i + 1) (match o with | some y => acc ++ [y] | none => acc) S1 = .ok l S')) := by
  cases n with
  | zero => simp [compLoop] at h
  | succ n =>
    refine ⟨n, rfl, ?_⟩
    unfold compLoop at h
    cases e : get i S with
    | stop =>
      rw [e] at h
      cases h
      exact .inl ⟨rfl, rfl, rfl⟩
    | bad => rw [e] at h; cases h
    | item x =>
      rw [e] at h
      dsimp only at h
      cases e2 : body x S with
      | bad => rw [e2] at h; cases h
      | err a b S1 => rw [e2] at h; cases h
      | ok o S1 =>
        rw [e2] at h
        cases o with
        | none => exact .inr ⟨x, none, S1, rfl, e2, fun y z => (by cases z), h⟩
        | some y =>
          dsimp only at h
          split at h
          · rename_i hz
            exact .inr ⟨x, some y, S1, rfl, e2, fun _ _ => hz, h⟩
          · cases h
def rTs (K : PySem.W.Frag) (C : Ctx) (cs : List E) : TT := fun σ H Q => ∃ m env S b S', RelSt K m S H ∧ RelEnv K m H env σ ∧ evTs C cs env S = .ok b S' ∧ PostB K m H S' b Q
theorem comp_read {K : PySem.W.Frag} {C : Ctx} {own : List Nat} {t : Tg} {it : It} {cs : List E} {e' : E} {σ : L2.St} {H : Hp} {Q : VK} (hsl : tgSlots t = own) (h : rE K C (.comp own t it cs e') σ H Q) :
    tLc (rI K C it) (gOf K t) (rTs K C cs) (rE K C e') own σ H Q := by
  obtain ⟨m, env, S, d, S', st, re, e, p⟩ := h
  rw [evE] at e
  obtain ⟨J, S1, e1, e2⟩ := bindOk e
  obtain ⟨l, S2, e3, e4⟩ := bindOk e2
  unfold newO at e4
  cases e4
  refine ⟨m, env, S, J, S1, st, re, e1, fun m1 H1 J' l1 st1 rj D hD => ?_⟩
  generalize hbody : (fun x => match put t x (wipe env (own)) with | some env' => (do let b ← evTs (C) cs env'; if b = true then (do let y ← evE (C) e' env'; pure (some y)) else pure none : M (Option Pi.D)) | none => bad) = body at e3
  refine ⟨fun i f H' => ∃ m' S' acc accV, Le m1 H1 m' H' ∧ RelSt K m' S' H' ∧ (∀ n, m' n ≠ some D) ∧ H' D = some (.lst accV) ∧ RelDs K m' H' acc accV ∧ compLoop J.get body f i acc S' = .ok l S2,
    ⟨J.n + 1, m1, S1, [], [], Le.new D _ hD, st1.new D _ hD, st1.out hD, upd_same, relDs_nil, e3⟩, ?_⟩
  rintro i f H' ⟨m', S', acc, accV, le, st', nD, hDl, racc, ec⟩
  obtain ⟨f', rfl, hc⟩ := compLoop_inv ec
  have hj := rj m' H' S' le.toLw st' i
  rcases hc with ⟨hg, rfl, rfl⟩ | ⟨x, o, S3, hg, hbd, hz, hrest⟩
  · rw [hg] at hj
    refine .inl ⟨hj, ?_⟩
    have hdom : ∀ k a, m' k = some a → k ≠ S2.length := fun k a e => Nat.ne_of_lt (st'.dom k a e)
    have l2 : Le m1 H1 (ext m' S2.length D) H' := le.adopt hdom hD
    exact p (ext m' S2.length D) (.ref D) H' (l1.trans l2) (st'.adopt nD hDl racc) (by rw [RelD]; exact ⟨D, rfl, by unfold ext; rw [if_pos rfl]⟩)
  · rw [hg] at hj
    refine .inr ⟨hj.1, fun H2 => ∃ m' S' acc accV, Le m1 H1 m' H2 ∧ RelSt K m' S' H2 ∧ (∀ n, m' n ≠ some D) ∧ H2 D = some (.lst accV) ∧ RelDs K m' H2 acc accV ∧ compLoop J.get body f' (i + 1) acc S' = .ok l S2,
      fun H2 w => ⟨f', Nat.lt_succ_self _, w⟩, fun v H2 y => ?_⟩
    obtain ⟨le2, st2, rv⟩ := hj.2 v H2 y
    obtain ⟨hD2, nD2⟩ := le2.keep D _ hDl nD
    rw [← hbody] at hbd
    dsimp only at hbd
    cases ep : put t x (wipe env (own)) with
    | none => rw [ep] at hbd; cases hbd
    | some env' =>
      rw [ep] at hbd
      have hbd' : (do let b ← evTs (C) cs env'; if b = true then (do let y ← evE (C) e' env'; pure (some y)) else pure none : M (Option Pi.D)) S' = .ok o S3 := hbd
      have re2 : RelEnv K m' H2 (wipe env (own)) (L2.wipe σ (own)) := ((re.mono l1).mono (le.trans le2)).wipe _
      refine gOf_use re2 rv ep fun σ' re' wq => ⟨?_, ?_⟩
      · rw [wq _ (by rw [hsl]; exact fun _ h => h), wipe_idem]
      · obtain ⟨b, S4, e5, e6⟩ := bindOk hbd'
        refine ⟨m', env', S', b, S4, st2, re', e5, fun m3 H3 l3 st3 => ?_⟩
        obtain ⟨hD3, nD3⟩ := l3.keep D _ hD2 nD2
        have le3 := (le.trans le2).trans l3
        have racc3 := (racc.mono le2).mono l3
        cases b with
        | false =>
          obtain ⟨rfl, rfl⟩ := pureOk e6
          exact ⟨m3, S4, acc, accV, le3, st3, nD3, hD3, racc3, hrest⟩
        | true =>
          have e6' : (do let y ← evE (C) e' env'; pure (some y) : M (Option Pi.D)) S4 = .ok o S3 := e6
          obtain ⟨y, S5, e7, e8⟩ := bindOk e6'
          obtain ⟨rfl, rfl⟩ := pureOk e8
          refine ⟨m3, env', S4, y, S5, st3, re'.mono l3, e7, fun m4 v4 H4 l4 st4 r4 => ?_⟩
          obtain ⟨hD4, nD4⟩ := l4.keep D _ hD3 nD3
          have le4 := le3.trans l4
          have lw : Lw m4 H4 m4 (upd H4 D (.lst (accV ++ [v4]))) := ⟨fun _ _ h => h, (fun a ob f e => by
            rw [upd_ne]
            · exact e
            · rintro rfl
              rw [hD4] at e
              cases e
              cases f)⟩
          refine ⟨accV, hD4, by rw [racc.length]; exact hz y rfl, m4, S5, acc ++ [y], accV ++ [v4], le4.updOut hD, st4.other D _ nD4 lw, nD4, upd_same, ((racc3.mono l4).append (relDs_cons r4 relDs_nil)).monow lw, hrest⟩
theorem comp2Loop_inv {get : Nat → Sto → Step} {inner : D → List D → M (List D)} {n i : Nat} {acc l : List D} {S S' : Sto} (h : comp2Loop get inner n i acc S = .ok l S') :
    ∃ n', n = n' + 1 ∧ ((get i S = .stop ∧ l = acc ∧ S' = S) ∨ (∃ x acc1 S1, get i S = .item x ∧ inner x acc S = .ok acc1 S1 ∧ comp2Loop get inner n' (i + 1) acc1 S1 = .ok l S')) := by
  cases n with
  | zero => simp [comp2Loop] at h
  | succ n =>
    refine ⟨n, rfl, ?_⟩
    unfold comp2Loop at h
    cases e : get i S with
    | stop =>
      rw [e] at h
      cases h
      exact .inl ⟨rfl, rfl, rfl⟩
    | bad => rw [e] at h; cases h
    | item x =>
      rw [e] at h
      dsimp only at h
      cases e2 : inner x acc S with
      | bad => rw [e2] at h; cases h
      | err a b S1 => rw [e2] at h; cases h
      | ok o S1 =>
        rw [e2] at h
        exact .inr ⟨x, o, S1, rfl, e2, h⟩
theorem comp2_read {K : PySem.W.Frag} {C : Ctx} {own own1 : List Nat} {t t1 : Tg} {it it1 : It} {cs : List E} {e' : E} {σ : L2.St} {H : Hp} {Q : VK} (hsl : ∀ i ∈ tgSlots t, i ∈ own) (hsl1 : tgSlots t1 = own1) (h : rE K C (.comp2 own t it own1 t1 it1 cs e') σ H Q) :
    tLc2 (rI K C it) (gOf K t) (fun _ H Q => Q true H) (rI K C it1) (gOf K t1) (rTs K C cs) (rE K C e') own own1 σ H Q := by
  obtain ⟨m, env, S, d, S', st, re, e, p⟩ := h
  rw [evE] at e
  obtain ⟨J, S1, e1, e2⟩ := bindOk e
  obtain ⟨l, S2, e3, e4⟩ := bindOk e2
  unfold newO at e4
  cases e4
  refine ⟨m, env, S, J, S1, st, re, e1, fun m1 H1 J' l1 st1 rj D hD => ?_⟩
  generalize hinner : (fun (x : Pi.D) (acc : List Pi.D) => (match put t x (wipe env own) with
      | some env' => (do
        let J1 ← evI C it1 env'
        compLoop J1.get (fun y => match put t1 y (wipe env' own1) with
          | some env2 => (do
            let b ← evTs C cs env2
            if b = true then (do
              let z ← evE C e' env2
              pure (some z))
            else pure none : M (Option Pi.D))
          | none => bad) (J1.n + 1) 0 acc : M (List Pi.D))
      | none => bad)) = inner at e3
  refine ⟨fun i f H' => ∃ m' S' acc accV, Le m1 H1 m' H' ∧ RelSt K m' S' H' ∧ (∀ n, m' n ≠ some D) ∧ H' D = some (.lst accV) ∧ RelDs K m' H' acc accV ∧ comp2Loop J.get inner f i acc S' = .ok l S2,
    ⟨J.n + 1, m1, S1, [], [], Le.new D _ hD, st1.new D _ hD, st1.out hD, upd_same, relDs_nil, e3⟩, ?_⟩
  rintro i f H' ⟨m', S', acc, accV, le, st', nD, hDl, racc, ec⟩
  obtain ⟨f', rfl, hc⟩ := comp2Loop_inv ec
  have hj := rj m' H' S' le.toLw st' i
  rcases hc with ⟨hg, rfl, rfl⟩ | ⟨x, acc1, S3, hg, hbd, hrest⟩
  · rw [hg] at hj
    refine .inl ⟨hj, ?_⟩
    have hdom : ∀ k a, m' k = some a → k ≠ S2.length := fun k a e => Nat.ne_of_lt (st'.dom k a e)
    have l2 : Le m1 H1 (ext m' S2.length D) H' := le.adopt hdom hD
    exact p (ext m' S2.length D) (.ref D) H' (l1.trans l2) (st'.adopt nD hDl racc) (by rw [RelD]; exact ⟨D, rfl, by unfold ext; rw [if_pos rfl]⟩)
  · rw [hg] at hj
    refine .inr ⟨hj.1, fun H2 => ∃ m' S' acc accV, Le m1 H1 m' H2 ∧ RelSt K m' S' H2 ∧ (∀ n, m' n ≠ some D) ∧ H2 D = some (.lst accV) ∧ RelDs K m' H2 acc accV ∧ comp2Loop J.get inner f' (i + 1) acc S' = .ok l S2,
      fun H2 w => ⟨f', Nat.lt_succ_self _, w⟩, fun v H2 y => ?_⟩
    obtain ⟨le2, st2, rv⟩ := hj.2 v H2 y
    obtain ⟨hD2, nD2⟩ := le2.keep D _ hDl nD
    rw [← hinner] at hbd
    dsimp only at hbd
    cases ep : put t x (wipe env own) with
    | none => rw [ep] at hbd; cases hbd
    | some env' =>
      rw [ep] at hbd
      dsimp only at hbd
      obtain ⟨J1, S4, e5, e6⟩ := bindOk hbd
      have re2 : RelEnv K m' H2 (wipe env own) (L2.wipe σ own) := ((re.mono l1).mono (le.trans le2)).wipe _
      refine gOf_use re2 rv ep fun σ' re' wq => ⟨?_, ?_⟩
      · rw [wq _ hsl, wipe_idem]
      · dsimp only
        simp only [if_true]
        refine ⟨m', env', S', J1, S4, st2, re', e5, fun m3 H3 J1' l3 st3 rj1 => ?_⟩
        obtain ⟨hD3, nD3⟩ := l3.keep D _ hD2 nD2
        generalize hbody : (fun (y : Pi.D) => (match put t1 y (wipe env' own1) with
          | some env2 => (do
            let b ← evTs C cs env2
            if b = true then (do
              let z ← evE C e' env2
              pure (some z))
            else pure none : M (Option Pi.D))
          | none => bad)) = body at e6
        refine ⟨fun j f2 Hc => ∃ mc Sc ac aV, Le m1 H1 mc Hc ∧ Lw m3 H3 mc Hc ∧ RelSt K mc Sc Hc ∧ (∀ n, mc n ≠ some D) ∧ Hc D = some (.lst aV) ∧ RelDs K mc Hc ac aV ∧ compLoop J1.get body f2 j ac Sc = .ok acc1 S3,
          ⟨J1.n + 1, m3, S4, acc, accV, (le.trans le2).trans l3, (Le.refl _ _).toLw, st3, nD3, hD3, (racc.mono le2).mono l3, e6⟩, ?_⟩
        rintro j f2 Hc ⟨mc, Sc, ac, aV, lc1, lc3, stc, nDc, hDc, rac, ecc⟩
        obtain ⟨f2', rfl, hcc⟩ := compLoop_inv ecc
        have hj1 := rj1 mc Hc Sc lc3 stc j
        rcases hcc with ⟨hg1, rfl, rfl⟩ | ⟨x1, o, S5, hg1, hbd1, hz, hrest1⟩
        · rw [hg1] at hj1
          exact .inl ⟨hj1, mc, S3, acc1, aV, lc1, stc, nDc, hDc, rac, hrest⟩
        · rw [hg1] at hj1
          refine .inr ⟨hj1.1, fun Hd => ∃ mc Sc ac aV, Le m1 H1 mc Hd ∧ Lw m3 H3 mc Hd ∧ RelSt K mc Sc Hd ∧ (∀ n, mc n ≠ some D) ∧ Hd D = some (.lst aV) ∧ RelDs K mc Hd ac aV ∧ compLoop J1.get body f2' (j + 1) ac Sc = .ok acc1 S3,
            fun Hd w => ⟨f2', Nat.lt_succ_self _, w⟩, fun v1 Hd y1 => ?_⟩
          obtain ⟨led, std, rv1⟩ := hj1.2 v1 Hd y1
          obtain ⟨hDd, nDd⟩ := led.keep D _ hDc nDc
          rw [← hbody] at hbd1
          dsimp only at hbd1
          cases ep1 : put t1 x1 (wipe env' own1) with
          | none => rw [ep1] at hbd1; cases hbd1
          | some env2 =>
            rw [ep1] at hbd1
            have hbd1' : (do let b ← evTs C cs env2; if b = true then (do let y ← evE C e' env2; pure (some y)) else pure none : M (Option Pi.D)) Sc = .ok o S5 := hbd1
            have re3 : RelEnv K mc Hd (wipe env' own1) (L2.wipe σ' own1) := ((re'.mono l3).monow (lc3.trans led.toLw)).wipe _
            refine gOf_use re3 rv1 ep1 fun σ2 re4 wq1 => ⟨?_, ?_⟩
            · rw [wq1 _ (by rw [hsl1]; exact fun _ h => h), wipe_idem]
            · obtain ⟨b, S6, e7, e8⟩ := bindOk hbd1'
              refine ⟨mc, env2, Sc, b, S6, std, re4, e7, fun me He le6 st6 => ?_⟩
              obtain ⟨hD6, nD6⟩ := le6.keep D _ hDd nDd
              have L1 := (lc1.trans led).trans le6
              have L3 := (lc3.trans led.toLw).trans le6.toLw
              have rac6 := (rac.mono led).mono le6
              cases b with
              | false =>
                obtain ⟨rfl, rfl⟩ := pureOk e8
                exact ⟨me, S6, ac, aV, L1, L3, st6, nD6, hD6, rac6, hrest1⟩
              | true =>
                have e8' : (do let y ← evE C e' env2; pure (some y) : M (Option Pi.D)) S6 = .ok o S5 := e8
                obtain ⟨yy, S7, e9, e10⟩ := bindOk e8'
                obtain ⟨rfl, rfl⟩ := pureOk e10
                refine ⟨me, env2, S6, yy, S7, st6, re4.mono le6, e9, fun m7 v7 H7 l7 st7 r7 => ?_⟩
                obtain ⟨hD7, nD7⟩ := l7.keep D _ hD6 nD6
                have lw : Lw m7 H7 m7 (upd H7 D (.lst (aV ++ [v7]))) := ⟨fun _ _ h => h, fun a ob f e => by
                  rw [upd_ne]
                  · exact e
                  · rintro rfl
                    rw [hD7] at e
                    cases e
                    cases f⟩
                refine ⟨aV, hD7, by rw [rac.length]; exact hz yy rfl, m7, S7, ac ++ [yy], aV ++ [v7], (L1.trans l7).updOut hD, (L3.trans l7.toLw).trans lw, st7.other D _ nD7 lw, nD7, upd_same, ((rac6.mono l7).append (relDs_cons r7 relDs_nil)).monow lw, hrest1⟩
theorem s_comp (G : Good T k c sc X) {elt tg iter : Expr} {ifs : List Expr} {scope : Scope} {own : List (Str × Nat)} {pos : Pos} {it : It} {t : Tg} {cs : List E} {e' : E} {n : Nat}
    (ho : ownOf c n tg = some own) (hb : blkC c.N sc scope own = true) (hi : PI X tg iter (rI X.K (T.ctx k) it)) (htg : cTg c scope n tg = some t)
    (ht : ∀ X', Good T k c (L2.relS scope sc) X' → X'.K = X.K → PTs X' ifs (rTs X.K (T.ctx k) cs))
    (he : ∀ X', Good T k c (L2.relS scope sc) X' → X'.K = X.K → PE X' elt (rE X.K (T.ctx k) e')) (hs : ∀ x, foldedSetIterable iter X.env x = pure x) :
    PE X (.ListComp elt [⟨tg, iter, ifs, 0⟩] scope pos) (rE X.K (T.ctx k) (.comp (own.map (·.2)) t it cs e')) := by
  have hsl := slots_own n tg t own htg ho
  exact PE.imp (pe_lc (own := own) (g := gOf X.K t) G.calm G.nd hi (blkOk_by (by rw [G.nm, G.sco]; exact hb))
    (fun s H C cl fp => s_tg (X := X.blk s H scope (compEnvC scope cl C X.env) fp) G.nm G.nd G.calm (tgOk_blk s H scope C cl fp) n tg t htg)
    (fun s H C cl fp => ht _ (G.blk s H scope C cl fp) rfl) (fun s H C cl fp => he _ (G.blk s H scope C cl fp) rfl) hs) fun σ H Q h => comp_read hsl h
theorem s_comp2 (G : Good T k c sc X) {elt tg iter tg1 iter1 : Expr} {ifs1 : List Expr} {scope : Scope} {o o1 : List (Str × Nat)} {pos : Pos} {it it1 : It} {t t1 : Tg} {cs : List E} {e' : E} {n : Nat}
    (ho : ownOf c n tg = some o) (ho1 : ownOf c n tg1 = some o1) (hb : blkC c.N sc scope (o ++ o1) = true) (hi : PI X tg iter (rI X.K (T.ctx k) it)) (htg : cTg c scope n tg = some t) (htg1 : cTg c scope n tg1 = some t1)
    (hi1 : ∀ X', Good T k c (L2.relS scope sc) X' → X'.K = X.K → PI X' tg1 iter1 (rI X.K (T.ctx k) it1))
    (ht : ∀ X', Good T k c (L2.relS scope sc) X' → X'.K = X.K → PTs X' ifs1 (rTs X.K (T.ctx k) cs))
    (he : ∀ X', Good T k c (L2.relS scope sc) X' → X'.K = X.K → PE X' elt (rE X.K (T.ctx k) e')) (hs : ∀ x, foldedSetIterable iter X.env x = pure x) (hs1 : ∀ env x, foldedSetIterable iter1 env x = pure x) :
    PE X (.ListComp elt [⟨tg, iter, [], 0⟩, ⟨tg1, iter1, ifs1, 0⟩] scope pos) (rE X.K (T.ctx k) (.comp2 ((o ++ o1).map (·.2)) t it (o1.map (·.2)) t1 it1 cs e')) := by
  have hsl := slots_own n tg t o htg ho
  have hsl1 := slots_own n tg1 t1 o1 htg1 ho1
  exact PE.imp (pe_lc2 (own := o ++ o1) (vs1 := o1.map (·.2)) (g := gOf X.K t) (g1 := gOf X.K t1) G.calm G.nd hi (blkOk_by (by rw [G.nm, G.sco]; exact hb)) (fun i hi => by rw [List.map_append]; exact List.mem_append_right _ hi)
    (fun s H C cl fp => s_tg (X := X.blk s H scope (compEnvC scope cl C X.env) fp) G.nm G.nd G.calm (tgOk_blk s H scope C cl fp) n tg t htg)
    (fun s H C cl fp => pts_nil) (fun s H C cl fp => hi1 _ (G.blk s H scope C cl fp) rfl)
    (fun s H C cl fp => s_tg (X := X.blk s H scope (compEnvC scope cl C X.env) fp) G.nm G.nd G.calm (tgOk_blk s H scope C cl fp) n tg1 t1 htg1)
    (fun s H C cl fp => ht _ (G.blk s H scope C cl fp) rfl) (fun s H C cl fp => he _ (G.blk s H scope C cl fp) rfl) hs hs1) fun σ H Q h => comp2_read (fun i hi => by rw [List.map_append, ← hsl]; exact List.mem_append_left _ hi) hsl1 h
end
end Pi

/-! Expressions: what was compiled is what is done. -/
namespace Pi
open PySem PySem.Spec PyProof.Rows L2

section
variable {T : Tb} {k : Nat} {c : CC}
def OkE (T : Tb) (k : Nat) (c : CC) (n : Nat) : Prop := ∀ sc e e', cE c n sc e = some e' → ∀ X, Good T k c sc X → PE X e (rE X.K (T.ctx k) e') ∧ PT X e (rT X.K (T.ctx k) e')
def OkR (T : Tb) (k : Nat) (c : CC) (n : Nat) : Prop := ∀ sc e e', cR c n sc e = some e' → ∀ X, Good T k c sc X → PE X e (rE X.K (T.ctx k) e') ∧ PT X e (rT X.K (T.ctx k) e')
def OkEs (T : Tb) (k : Nat) (c : CC) (n : Nat) : Prop := ∀ sc es es', cEs c n sc es = some es' → ∀ X, Good T k c sc X → PA X es (rA X.K (T.ctx k) es')
def OkDs (T : Tb) (k : Nat) (c : CC) (n : Nat) : Prop := ∀ sc es es', cDs c n sc es = some es' → ∀ X, Good T k c sc X → PA X es (rDs X.K (T.ctx k) es')
def OkO (T : Tb) (k : Nat) (c : CC) (n : Nat) : Prop := ∀ sc e e', cO c n sc e = some e' → ∀ X, Good T k c sc X → PO X e (rO X.K (T.ctx k) e')
def OkI (T : Tb) (k : Nat) (c : CC) (n : Nat) : Prop := ∀ sc tp e e', cI c n sc tp e = some e' → ∀ X, Good T k c sc X → ∀ tg, (tp = true → ∃ a b p, tg = .Tuple a b p) → PI X tg e (rI X.K (T.ctx k) e')
def OkC (T : Tb) (k : Nat) (c : CC) (n : Nat) : Prop := ∀ sc f es e', cCall c n sc f es = some e' → ∀ X, Good T k c sc X → ∀ pos, PE X (.Call f es [] pos) (rE X.K (T.ctx k) e') ∧ ∀ env, evT (T.ctx k) e' env = (do let x ← evE (T.ctx k) e' env; truth x)
def OkB (T : Tb) (k : Nat) (c : CC) (n : Nat) : Prop := ∀ sc es es', cEs c n sc es = some es' → ∀ X, Good T k c sc X → ∀ op e' pos, foldB op es' = some e' → PE X (.BoolOp op es pos) (rE X.K (T.ctx k) e') ∧ PW X (.BoolOp op es pos) (rT X.K (T.ctx k) e')
def OkTs (T : Tb) (k : Nat) (c : CC) (n : Nat) : Prop := ∀ sc es es', cEs c n sc es = some es' → ∀ X, Good T k c sc X →
  PTs X es (rTs X.K (T.ctx k) es')
structure All (T : Tb) (k : Nat) (c : CC) (n : Nat) : Prop where
  oe : OkE T k c n
  orr : OkR T k c n
  oes : OkEs T k c n
  ods : OkDs T k c n
  oo : OkO T k c n
  oi : OkI T k c n
  oc : OkC T k c n
  ob : OkB T k c n
  ot : OkTs T k c n

theorem all_zero : All T k c 0 where
  oe := fun sc e e' h => by simp [cE] at h
  orr := fun sc e e' h => by simp [cR] at h
  oes := fun sc e e' h => by simp [cEs] at h
  ods := fun sc e e' h => by simp [cDs] at h
  oo := fun sc e e' h => by simp [cO] at h
  oi := fun sc tp e e' h => by simp [cI] at h
  oc := fun sc f es e' h => by simp [cCall] at h
  ob := fun sc es e' h => by simp [cEs] at h
  ot := fun sc es e' h => by simp [cEs] at h
theorem es_succ {n : Nat} (A : All T k c n) : OkEs T k c (n + 1) := by
  intro sc es es' h X G
  cases es with
  | nil =>
    cases cEs_nil h
    exact s_nil
  | cons e es =>
    obtain ⟨x, xs, h1, h2, rfl⟩ := cEs_cons h
    exact s_cons (not_star h1) (A.oe sc e x h1 X G).1 (A.oes sc es xs h2 X G)
theorem ds_succ {n : Nat} (A : All T k c n) : OkDs T k c (n + 1) := by
  intro sc es es' h X G
  cases es with
  | nil =>
    simp only [cDs] at h
    cases h
    exact s_dnil
  | cons e es =>
    have dflt : ∀ x xs, cE c n sc e = some x → cDs c n sc es = some xs → ¬ isStar x = true → es' = x :: xs → PA X (e :: es) (rDs X.K (T.ctx k) es') := by
      rintro x xs h1 h2 h3 rfl
      exact s_dcons (fun a q => h3 (by rw [q]; rfl)) (not_star h1) (A.oe sc e x h1 X G).1 (A.ods sc es xs h2 X G)
    cases e with
    | Starred a p =>
      simp only [cDs] at h
      split at h
      · rename_i x xs h1 h2
        cases h
        exact s_dstar (A.oe sc a x h1 X G).1 (A.ods sc es xs h2 X G)
      · cases h
    | _ =>
      simp only [cDs] at h
      split at h
      · rename_i x xs h1 h2
        split at h
        · cases h
        · rename_i h3
          cases h
          exact dflt x xs h1 h2 h3 rfl
      · cases h
theorem o_succ {n : Nat} (A : All T k c n) : OkO T k c (n + 1) := by
  intro sc e e' h X G
  cases e with
  | none =>
    simp only [cO] at h
    cases h
    exact s_none
  | some e =>
    simp only [cO, Option.map_eq_some_iff] at h
    obtain ⟨a, ha, rfl⟩ := h
    exact s_some (A.oe sc e a ha X G).1
theorem b_succ {n : Nat} (A : All T k c n) : OkB T k c (n + 1) := by
  intro sc es es' h X G op e' pos hf
  cases es with
  | nil =>
    cases cEs_nil h
    simp [foldB] at hf
  | cons e es =>
    obtain ⟨x, xs, h1, h2, rfl⟩ := cEs_cons h
    obtain ⟨p1, p2⟩ := A.oe sc e x h1 X G
    cases es with
    | nil =>
      cases cEs_nil h2
      simp only [foldB] at hf
      cases hf
      refine ⟨pe_one p1, ?_⟩
      cases op with
      | And => exact pw_and1 p2
      | Or => exact pw_or1 p2
    | cons d es =>
      cases xs with
      | nil =>
        cases n with
        | zero => simp [cEs] at h2
        | succ n =>
          obtain ⟨_, _, _, _, q⟩ := cEs_cons h2
          cases q
      | cons y ys =>
        simp only [foldB] at hf
        split at hf
        · rename_i r hr
          obtain ⟨q1, q2⟩ := A.ob sc (d :: es) (y :: ys) h2 X G op r pos hr
          cases op with
          | And =>
            cases hf
            exact ⟨s_and1 p1 q1, s_andT p2 q2⟩
          | Or =>
            cases hf
            exact ⟨s_or1 p1 q1, s_orT p2 q2⟩
        · cases hf
theorem t_succ {n : Nat} (A : All T k c n) : OkTs T k c (n + 1) := by
  intro sc es es' h X G
  cases es with
  | nil =>
    cases cEs_nil h
    refine ⟨fun pins s σ H Q I hw => pts_nil.run pins s σ H Q I ?_⟩
    obtain ⟨m, env, S, b, S', st, re, e, p⟩ := hw
    rw [evTs] at e
    obtain ⟨rfl, rfl⟩ := pureOk e
    exact p m H (Le.refl m H) st
  | cons e es =>
    obtain ⟨x, xs, h1, h2, rfl⟩ := cEs_cons h
    cases es with
    | nil =>
      cases cEs_nil h2
      refine ⟨fun pins s σ H Q I hw => (pts_one (A.oe sc e x h1 X G).2).run pins s σ H Q I ?_⟩
      obtain ⟨m, env, S, b, S', st, re, e, p⟩ := hw
      rw [evTs] at e
      exact ⟨m, env, S, b, S', st, re, e, p⟩
    | cons d es =>
      cases xs with
      | nil =>
        cases n with
        | zero => simp [cEs] at h2
        | succ n =>
          obtain ⟨_, _, _, _, q⟩ := cEs_cons h2
          cases q
      | cons y ys =>
        refine ⟨fun pins s σ H Q I hw => ?_⟩
        obtain ⟨m, env, S, b, S', st, re, e, p⟩ := hw
        simp only [evTs] at e
        cases e
theorem args_plain {n : Nat} {sc : Scope} {es : List Expr} {es' : List E} (h : cEs c n sc es = some es') (env : PySem.Env) (pos : Pos) :
    ∀ e r, es = e :: r → starEach (e :: r) env = (false, eval e env) :: starEach r env ∧ (backTo pos (starEach r env)).any (·.1) = false := by
  rintro e r rfl
  cases n with
  | zero => simp [cEs] at h
  | succ n =>
    obtain ⟨x, xs, h1, h2, rfl⟩ := cEs_cons h
    exact ⟨not_star h1 r env, plain_all h2 pos env⟩
theorem args_nil {n : Nat} {sc : Scope} {es : List Expr} {es' : List E} (h : cEs c n sc es = some es') : es = [] → es' = [] := by
  rintro rfl
  exact cEs_nil h
theorem cEs_len {c : CC} : ∀ {n : Nat} {sc : Scope} {es : List Expr} {es' : List E}, cEs c n sc es = some es' → es.length = es'.length
  | 0, _, _, _, h => by simp [cEs] at h
  | n + 1, sc, [], _, h => by rw [cEs_nil h]; rfl
  | n + 1, sc, e :: es, es', h => by
    obtain ⟨x, xs, h1, h2, rfl⟩ := cEs_cons h
    rw [List.length_cons, List.length_cons, cEs_len h2]
theorem cEs_one {c : CC} {n : Nat} {sc : Scope} {es : List Expr} {a : E} (h : cEs c n sc es = some [a]) : ∃ e m, es = [e] ∧ m < n ∧ cE c m sc e = some a := by
  have hl := cEs_len h
  cases es with
  | nil => cases hl
  | cons e r =>
    cases r with
    | nil =>
      cases n with
      | zero => simp [cEs] at h
      | succ n =>
        obtain ⟨x, xs, h1, h2, q⟩ := cEs_cons h
        cases q
        exact ⟨e, n, rfl, Nat.lt_succ_self _, h1⟩
    | cons _ _ => simp at hl
theorem cEs_two {c : CC} {n : Nat} {sc : Scope} {es : List Expr} {a b : E} (h : cEs c n sc es = some [a, b]) : ∃ e d m m', es = [e, d] ∧ m < n ∧ m' < n ∧ cE c m sc e = some a ∧ cE c m' sc d = some b := by
  cases es with
  | nil => cases cEs_nil h
  | cons e r =>
    cases n with
    | zero => simp [cEs] at h
    | succ n =>
      obtain ⟨x, xs, h1, h2, q⟩ := cEs_cons h
      cases q
      obtain ⟨d, m, rfl, hm, h3⟩ := cEs_one h2
      exact ⟨e, d, n, m, rfl, Nat.lt_succ_self _, Nat.lt_succ_of_lt hm, h1, h3⟩
theorem i_succ {n : Nat} (A : ∀ m, m < n + 1 → All T k c m) : OkI T k c (n + 1) := by
  intro sc tp e e' h X G tg htp
  have dflt : ∀ e e', (cE c n sc e).map It.of = some e' → PI X tg e (rI X.K (T.ctx k) e') := by
    intro e e' h
    simp only [Option.map_eq_some_iff] at h
    obtain ⟨a, ha, rfl⟩ := h
    exact s_ofI ((A n (Nat.lt_succ_self n)).oe sc e a ha X G).1
  have go : ∀ x p es pos, e = .Call (.Name x p) es [] pos → PI X tg e (rI X.K (T.ctx k) e') := by
    rintro x p es pos rfl
    simp only [cI] at h
    split at h
    · rename_i hc
      simp only [Bool.and_eq_true] at hc
      obtain ⟨⟨hg, hp⟩, h0⟩ := hc
      split at h
      · rename_i hx
        subst hx
        split at h
        · rename_i a ha
          cases h
          obtain ⟨e, m, rfl, hm, h1⟩ := cEs_one ha
          exact s_rangeI1 G hg h0 ((A m (Nat.lt_succ_of_lt hm)).oe sc e a h1 X G).1 (not_star h1)
        · rename_i a b ha
          cases h
          obtain ⟨e, d, m, m', rfl, hm, hm', h1, h2⟩ := cEs_two ha
          exact s_rangeI2 G hg h0 ((A m (Nat.lt_succ_of_lt hm)).oe sc e a h1 X G).1 ((A m' (Nat.lt_succ_of_lt hm')).oe sc d b h2 X G).1 (not_star h1) (not_star h2)
        · cases h
      · split at h
        · rename_i _ hx
          subst hx
          split at h
          · rename_i e
            split at h
            · rename_i ht
              obtain ⟨a, b, p, rfl⟩ := htp ht
              simp only [Option.map_eq_some_iff] at h
              obtain ⟨y, hy, rfl⟩ := h
              exact s_enumI G hg h0 ((A n (Nat.lt_succ_self n)).oe sc e y hy X G).1 (not_star hy)
            · cases h
          · cases h
        · split at h
          · rename_i _ _ hx
            subst hx
            split at h
            · rename_i e d
              split at h
              · rename_i ht
                obtain ⟨a, b, p, rfl⟩ := htp ht
                split at h
                · rename_i y z hy hz
                  cases h
                  exact s_zipI G hg h0 ((A n (Nat.lt_succ_self n)).oe sc e y hy X G).1 ((A n (Nat.lt_succ_self n)).oe sc d z hz X G).1 (not_star hy) (not_star hz)
                · cases h
              · cases h
            · cases h
          · split at h
            · rename_i _ _ _ hx
              subst hx
              split at h
              · rename_i e
                simp only [Option.map_eq_some_iff] at h
                obtain ⟨y, hy, rfl⟩ := h
                exact s_revI G hg h0 ((A n (Nat.lt_succ_self n)).oe sc e y hy X G).1 (not_star hy)
              · cases h
            · exact dflt _ _ h
    · exact dflt _ _ h
  have goA : ∀ o m apos cpos, e = .Call (.Attribute o m apos) [] [] cpos → PI X tg e (rI X.K (T.ctx k) e') := by
    rintro o m apos cpos rfl
    simp only [cI] at h
    split at h
    · rename_i hm
      subst hm
      split at h
      · rename_i hc
        simp only [Bool.and_eq_true] at hc
        obtain ⟨⟨ht, hl⟩, hr⟩ := hc
        obtain ⟨a, b, p, rfl⟩ := htp ht
        simp only [Option.map_eq_some_iff] at h
        obtain ⟨y, hy, rfl⟩ := h
        exact s_itemsI hr hl ((A n (Nat.lt_succ_self n)).oe sc o y hy X G).1
      · cases h
    · exact dflt _ _ h
  unfold cI at h
  split at h
  · cases ‹_ = _›
  · exact go _ _ _ _ rfl
  · exact goA _ _ _ _ rfl
  · rename_i heq _ _
    cases heq
    exact dflt _ _ h
theorem tyArgs_spec {c : CC} {sc : Scope} {b : Expr} {ts : List String} (h : tyArgs c sc b = some ts) : (∃ t, ts = [t] ∧ TyN c sc b t) ∨ (∃ e d x p t u, b = .Tuple [e, d] x p ∧ ts = [t, u] ∧ TyN c sc e t ∧ TyN c sc d u) := by
  unfold tyArgs at h
  split at h
  · split at h
    · rename_i h1 h2
      cases h
      obtain ⟨t, rfl, p⟩ := tyList_spec h1
      obtain ⟨u, rfl, q⟩ := tyList_spec h2
      exact .inr ⟨_, _, _, _, t, u, rfl, rfl, p, q⟩
    · cases h
  · exact .inl (tyList_spec h)
theorem c_succ {n : Nat} (A : ∀ m, m < n + 1 → All T k c m) : OkC T k c (n + 1) := by
  intro sc f es e' h X G pos
  have An := A n (Nat.lt_succ_self n)
  cases f with
  | Name x p =>
    simp only [cCall] at h
    split at h
    · cases h
    · rename_i hc
      simp only [Bool.not_eq_true', Bool.not_eq_false', Bool.not_eq_eq_eq_not, Bool.not_true, Bool.not_false, Bool.and_eq_true, Bool.not_eq_false, Bool.and_eq_false_imp] at hc
      have hg : isGl sc x = true := by
        revert hc
        cases isGl sc x <;> simp
      have hp : plainName x = true := by
        revert hc
        cases plainName x <;> simp
      split at h
      · rename_i hf
        simp only [Option.map_eq_some_iff] at h
        obtain ⟨l, hl, rfl⟩ := h
        exact ⟨s_call G hg hp hf (An.oes sc es l hl X G) (args_nil hl) (args_plain hl X.env pos), fun env => by simp only [evT]⟩
      · rename_i hnf
        split at h
        · cases h
        · rename_i hng
          have h0 : free0 c x = true := by
            unfold free0
            simp only [Bool.not_eq_true] at hnf hng
            rw [hnf, hng]
            rfl
          have dflt : ∀ f e es l, biOf x = some f → cEs c n sc (e :: es) = some l → e' = .bi f l → PE X (.Call (.Name x p) (e :: es) [] pos) (rE X.K (T.ctx k) e') ∧ ∀ env, evT (T.ctx k) e' env = (do let x ← evE (T.ctx k) e' env; truth x) := by
            rintro f e es l hf hl rfl
            obtain ⟨s1, s2⟩ := args_plain hl X.env pos e es rfl
            exact ⟨s_bi G hg hp h0 hf (An.oes sc _ l hl X G) s1 s2, fun env => by simp only [evT]⟩
          split at h
          · rename_i hx
            subst hx
            split at h
            · rename_i a b
              split at h
              · rename_i e ts ha hb
                cases h
                have pa := (An.oe sc a e ha X G).1
                refine ⟨?_, fun env => by simp only [evT]⟩
                rcases tyArgs_spec hb with ⟨t, rfl, q⟩ | ⟨e1, d1, x1, p1, t, u, rfl, rfl, q1, q2⟩
                · exact s_isi1 G hg h0 q pa (not_star ha)
                · exact s_isi2 G hg h0 q1 q2 pa (not_star ha)
              · cases h
            · cases h
          · split at h
            · rename_i hx
              subst hx
              split at h
              · rename_i a ha
                cases h
                obtain ⟨e, m, rfl, hm, h1⟩ := cEs_one ha
                exact ⟨s_rngv1 G hg h0 (An.oes sc _ _ ha X G) (args_plain ha X.env pos e [] rfl).1 (args_plain ha X.env pos e [] rfl).2, fun env => by simp only [evT]⟩
              · rename_i a b ha
                cases h
                obtain ⟨e, d, m, m', rfl, hm, hm', h1, h2⟩ := cEs_two ha
                exact ⟨s_rngv G hg h0 (An.oes sc _ _ ha X G) (args_plain ha X.env pos e [d] rfl).1 (args_plain ha X.env pos e [d] rfl).2, fun env => by simp only [evT]⟩
              · cases h
            split at h
            · rename_i r rp rs rpos
              split at h
              · rename_i hc2
                simp only [Bool.and_eq_true, Bool.or_eq_true, decide_eq_true_eq] at hc2
                obtain ⟨⟨⟨⟨⟨hgr, hr⟩, h0r⟩, hpr⟩, hx⟩, hlen⟩ := hc2
                subst hr
                split at h
                · rename_i l hl
                  have prg : PRg X (.Call (.Name "range" rp) rs [] rpos) (rRg X.K (T.ctx k) l) := by
                    have hll := cEs_len hl
                    match l, hl, hll with
                    | [], _, hll => simp at hll; simp [hll] at hlen
                    | [a], hl, _ =>
                      obtain ⟨e, m, rfl, hm, h1⟩ := cEs_one hl
                      exact rg_one G hgr h0r ((A m (Nat.lt_succ_of_lt hm)).oe sc e a h1 X G).1 (not_star h1)
                    | [a, b], hl, _ =>
                      obtain ⟨e, d, m, m', rfl, hm, hm', h1, h2⟩ := cEs_two hl
                      exact rg_two G hgr h0r ((A m (Nat.lt_succ_of_lt hm)).oe sc e a h1 X G).1 ((A m' (Nat.lt_succ_of_lt hm')).oe sc d b h2 X G).1 (not_star h1) (not_star h2)
                    | _ :: _ :: _ :: _, _, hll =>
                      rw [hll] at hlen
                      simp at hlen
                  rcases hx with rfl | rfl
                  · rw [if_pos rfl] at h
                    cases h
                    exact ⟨s_lrange G hg h0 prg rfl, fun env => by simp only [evT]⟩
                  · rw [if_neg (by decide)] at h
                    cases h
                    exact ⟨s_trange G hg h0 prg rfl, fun env => by simp only [evT]⟩
                · cases h
              · split at h
                · rename_i hc2
                  simp only [Bool.and_eq_true, Bool.or_eq_true, decide_eq_true_eq] at hc2
                  obtain ⟨⟨⟨⟨⟨hgr, hr⟩, h0r⟩, hpr⟩, hx⟩, hdn⟩ := hc2
                  subst hr hx
                  unfold isDown at hdn
                  split at hdn
                  · rename_i i0 kd j0 q0 q1
                    have hi0 : i0 = 1 := eq_of_beq hdn
                    subst hi0
                    split at h
                    · rename_i l hl
                      have hll := cEs_len hl
                      match l, hl, hll with
                      | [a, b], hl, _ =>
                        obtain ⟨e, d, m, m', he, hm, hm', h1, h2⟩ := cEs_two hl
                        cases he
                        cases h
                        exact ⟨s_tdown G hg h0 hgr h0r ((A m (Nat.lt_succ_of_lt hm)).oe sc _ a h1 X G).1 ((A m' (Nat.lt_succ_of_lt hm')).oe sc _ b h2 X G).1 (not_star h1) (not_star h2), fun env => by simp only [evT]⟩
                      | [], _, hll => simp at hll
                      | [_], _, hll => simp at hll
                      | _ :: _ :: _ :: _, _, hll => simp at hll
                    · cases h
                  · cases hdn
                · split at h
                  rename_i hc3
                  · simp only [Bool.and_eq_true, decide_eq_true_eq] at hc3
                    obtain ⟨⟨⟨⟨⟨hg2, hr2⟩, h02⟩, h0x⟩, _⟩, hx2⟩ := hc3
                    subst hr2 hx2
                    match rs, h with
                    | [e0], h =>
                      simp only [Option.map_eq_some_iff] at h
                      obtain ⟨y, hy, rfl⟩ := h
                      exact ⟨s_sset G hg h0x hg2 h02 (An.oe sc e0 y hy X G).1 (not_star hy), fun env => by simp only [evT]⟩
                    | [], h => cases h
                    | _ :: _ :: _, h => cases h
                  split at h
                  · rename_i f l hf hl
                    cases h
                    exact dflt f _ _ l hf hl rfl
                  · cases h
            · split at h
              · rename_i hxm
                obtain ⟨hx, hm⟩ := hxm
                subst hm
                split at h
                · rename_i hc2
                  simp only [Bool.and_eq_true] at hc2
                  simp only [Option.map_eq_some_iff] at h
                  obtain ⟨y, hy, rfl⟩ := h
                  exact ⟨s_litems G hx hg hp h0 hc2.1.2 hc2.1.1 (An.oe sc _ y hy X G).1, fun env => by simp only [evT]⟩
                · cases h
              · split at h
                · rename_i f l hf hl
                  cases h
                  exact dflt f _ _ l hf hl rfl
                · cases h
            · split at h
              · rename_i f l hf hl
                cases h
                exact dflt f _ _ l hf hl rfl
              · cases h
            · split at h <;> cases h
  | _ => simp [cCall] at h
theorem set_iter {c : CC} {n : Nat} {sc : Scope} {tp : Bool} {e : Expr} {e' : It} (h : cI c n sc tp e = some e') (env : PySem.Env) (x : Value) : foldedSetIterable e env x = pure x := by
  cases e with
  | Set _ _ _ =>
    cases n with
    | zero => simp [cI] at h
    | succ n =>
      simp only [cI] at h
      rcases n with _ | _ | n <;> simp [cE, cR] at h
  | _ => rfl
theorem cL_inv {n : Nat} {sc : Scope} {elt : Expr} {gs : List Comprehension} {scope : Scope} {e' : E} (h : cL c n sc elt gs scope = some e') :
    (∃ tg iter ifs own it t cs e m, n = m + 1 ∧ gs = [⟨tg, iter, ifs, 0⟩] ∧ ownOf c 9 tg = some own ∧ L2.blkC c.N sc scope own = true ∧ cI c m sc (isTupE tg) iter = some it ∧ cTg c scope 9 tg = some t ∧ cEs c m (L2.relS scope sc) ifs = some cs ∧ cE c m (L2.relS scope sc) elt = some e ∧ e' = .comp (own.map (·.2)) t it cs e) ∨
    (∃ tg iter tg1 iter1 ifs1 o o1 it t it1 t1 cs e m, n = m + 1 ∧ gs = [⟨tg, iter, [], 0⟩, ⟨tg1, iter1, ifs1, 0⟩] ∧ ownOf c 9 tg = some o ∧ ownOf c 9 tg1 = some o1 ∧ L2.blkC c.N sc scope (o ++ o1) = true ∧ cI c m sc (isTupE tg) iter = some it ∧ cTg c scope 9 tg = some t ∧ cI c m (L2.relS scope sc) (isTupE tg1) iter1 = some it1 ∧ cTg c scope 9 tg1 = some t1 ∧ cEs c m (L2.relS scope sc) ifs1 = some cs ∧ cE c m (L2.relS scope sc) elt = some e ∧ e' = .comp2 ((o ++ o1).map (·.2)) t it (o1.map (·.2)) t1 it1 cs e) := by
  cases n with
  | zero => simp only [cL] at h; cases h
  | succ m =>
    match gs, h with
    | [], h => simp only [cL] at h; cases h
    | [⟨tg, iter, ifs, ia⟩], h =>
      simp only [cL] at h
      split at h
      · rename_i hia
        subst hia
        split at h
        · rename_i own ho
          split at h
          · rename_i hb
            split at h
            · rename_i it t cs e hit ht hcs he
              cases h
              exact .inl ⟨tg, iter, ifs, own, it, t, cs, e, m, rfl, rfl, ho, hb, hit, ht, hcs, he, rfl⟩
            · cases h
          · cases h
        · cases h
      · cases h
    | [⟨tg, iter, ifs, ia⟩, ⟨tg1, iter1, ifs1, ib⟩], h =>
      simp only [cL] at h
      split at h
      · rename_i hia
        obtain ⟨rfl, rfl, hl⟩ := hia
        have hl' : ifs = [] := List.eq_nil_of_length_eq_zero hl
        subst hl'
        split at h
        · rename_i o o1 ho ho1
          split at h
          · rename_i hb
            split at h
            · rename_i it t it1 t1 cs e hit ht hit1 ht1 hcs he
              cases h
              exact .inr ⟨tg, iter, tg1, iter1, ifs1, o, o1, it, t, it1, t1, cs, e, m, rfl, rfl, ho, ho1, hb, hit, ht, hit1, ht1, hcs, he, rfl⟩
            · cases h
          · cases h
        · cases h
      · cases h
    | _ :: _ :: _ :: _, h => simp only [cL] at h; cases h
theorem r_succ {n : Nat} (A : ∀ m, m < n + 1 → All T k c m) : OkR T k c (n + 1) := by
  intro sc e e' h X G
  have An := A n (Nat.lt_succ_self n)
  cases e with
  | Name x pos =>
    simp only [cR] at h
    split at h
    · rename_i hv
      simp only [Option.map_eq_some_iff] at h
      obtain ⟨i, hi, rfl⟩ := h
      have p := s_var (pos := pos) G hv hi
      exact ⟨p, s_truth p (fun _ => rfl) fun env => by simp only [evT]⟩
    · split at h
      · rename_i hc
        simp only [Bool.and_eq_true] at hc
        cases h
        have p := s_glob (pos := pos) G hc.1.1 hc.1.2 hc.2
        exact ⟨p, s_truth p (fun _ => rfl) fun env => by simp only [evT]⟩
      · cases h
  | Constant kk j pos =>
    simp only [cR] at h
    have p : PE X (.Constant kk j pos) (rE X.K (T.ctx k) e') ∧ ∀ env, evT (T.ctx k) e' env = (do let x ← evE (T.ctx k) e' env; truth x) := by
      cases kk <;> first | (cases h; done) | skip
      all_goals cases h
      all_goals refine ⟨?_, fun env => by simp only [evT]⟩
      · exact s_lit pe_non fun m H => by rw [RelD]
      · exact s_lit pe_bl fun m H => by rw [RelD]
      · exact s_lit pe_int fun m H => by rw [RelD]
      · exact s_lit pe_str fun m H => by rw [RelD]
    exact ⟨p.1, s_truth p.1 (fun _ => rfl) p.2⟩
  | BinOp a op b pos =>
    simp only [cR] at h
    split at h
    · rename_i o x y ho hx hy
      cases h
      have pa : PE X a (rE X.K (T.ctx k) x) := by
        split at hx
        · exact (An.orr sc a x hx X G).1
        · exact (An.oe sc a x hx X G).1
      have p := s_bin (pos := pos) ho pa (An.oe sc b y hy X G).1
      exact ⟨p, s_truth p (fun _ => rfl) fun env => by simp only [evT]⟩
    · cases h
  | UnaryOp op a pos =>
    simp only [cR] at h
    split at h
    · rename_i x hx
      cases h
      have p := s_neg (pos := pos) (An.oe sc a x hx X G).1
      exact ⟨p, s_truth p (fun _ => rfl) fun env => by simp only [evT]⟩
    · rename_i x hx
      cases h
      exact ⟨s_not (An.oe sc a x hx X G).1, s_notT (An.oe sc a x hx X G).2⟩
    · cases h
  | BoolOp op es pos =>
    simp only [cR] at h
    split at h
    · rename_i l hl
      obtain ⟨p, q⟩ := An.ob sc es l hl X G op e' pos h
      exact ⟨p, q.pt⟩
    · cases h
  | Compare a ops bs pos =>
    match ops, bs, h with
    | [op], [b], h =>
      simp only [cR] at h
      split at h
      · rename_i o x y ho hx hy
        cases h
        have hm := not_set hy op
        exact ⟨s_cmp G ho hm (An.oe sc a x hx X G).1 (An.oe sc b y hy X G).1, s_cmpT G ho hm (An.oe sc a x hx X G).1 (An.oe sc b y hy X G).1⟩
      · cases h
    | [op, op'], [b, d], h =>
      simp only [cR] at h
      split at h
      · rename_i o o' x y z ho ho' hx hy hz
        cases h
        have hm : lastMarks [op, op'] [b, d] = false := not_set hz op'
        exact ⟨s_chain G ho ho' hm (An.oe sc a x hx X G).1 (An.oe sc b y hy X G).1 (An.oe sc d z hz X G).1, s_chainT G ho ho' hm (An.oe sc a x hx X G).1 (An.oe sc b y hy X G).1 (An.oe sc d z hz X G).1⟩
      · cases h
    | [], _, h => simp [cR] at h
    | [_], [], h => simp [cR] at h
    | [_], _ :: _ :: _, h => simp [cR] at h
    | [_, _], [], h => simp [cR] at h
    | [_, _], [_], h => simp [cR] at h
    | [_, _], _ :: _ :: _ :: _, h => simp [cR] at h
    | _ :: _ :: _ :: _, _, h => simp [cR] at h
  | IfExp t a b pos =>
    simp only [cR] at h
    split at h
    · rename_i x y z hx hy hz
      cases h
      exact ⟨s_ite (An.oe sc t x hx X G).2 (An.oe sc a y hy X G).1 (An.oe sc b z hz X G).1, s_iteT (An.oe sc t x hx X G).2 (An.oe sc a y hy X G).2 (An.oe sc b z hz X G).2⟩
    · cases h
  | Tuple es ct pos =>
    simp only [cR] at h
    split at h
    · simp only [Option.map_eq_some_iff] at h
      obtain ⟨l, hl, rfl⟩ := h
      have p := s_tupS (x1 := ct) (pos := pos) (An.ods sc es l hl X G)
      exact ⟨p, s_truth p (fun _ => rfl) fun env => by simp only [evT]⟩
    · simp only [Option.map_eq_some_iff] at h
      obtain ⟨l, hl, rfl⟩ := h
      have p := s_tup (x1 := ct) (pos := pos) (An.oes sc es l hl X G)
      exact ⟨p, s_truth p (fun _ => rfl) fun env => by simp only [evT]⟩
  | List es pos =>
    simp only [cR] at h
    split at h
    · simp only [Option.map_eq_some_iff] at h
      obtain ⟨l, hl, rfl⟩ := h
      have p := s_lstS (pos := pos) (An.ods sc es l hl X G)
      exact ⟨p, s_truth p (fun _ => rfl) fun env => by simp only [evT]⟩
    · simp only [Option.map_eq_some_iff] at h
      obtain ⟨l, hl, rfl⟩ := h
      have p := s_lst (pos := pos) (An.oes sc es l hl X G)
      exact ⟨p, s_truth p (fun _ => rfl) fun env => by simp only [evT]⟩
  | Call f es kws pos =>
    have dflt : kws = [] → cCall c n sc f es = some e' → PE X (.Call f es kws pos) (rE X.K (T.ctx k) e') ∧ PT X (.Call f es kws pos) (rT X.K (T.ctx k) e') := by
      rintro rfl h
      obtain ⟨p, q⟩ := An.oc sc f es e' h X G pos
      exact ⟨p, s_truth p (fun _ => rfl) q⟩
    cases kws with
    | cons _ _ => cases f <;> simp [cR] at h
    | nil =>
      cases f with
      | Attribute o m apos =>
        simp only [cR] at h
        split at h
        · rename_i hm
          subst hm
          split at h
          · rename_i hc
            simp only [Bool.and_eq_true] at hc
            split at h
            · rename_i x a hx ha
              cases h
              obtain ⟨e1, m1, rfl, hm1, h1⟩ := cEs_one ha
              have p := s_dget1 (apos := apos) (cpos := pos) G hc.2 hc.1 (not_star h1 [] X.env) (An.oe sc o x hx X G).1 ((A m1 (Nat.lt_succ_of_lt hm1)).oe sc e1 a h1 X G).1
              exact ⟨p, s_truth p (fun _ => rfl) fun env => by simp only [evT]⟩
            · rename_i x a b hx ha
              cases h
              obtain ⟨e1, d1, m1, m2, rfl, hm1, hm2, h1, h2⟩ := cEs_two ha
              have p := s_dget2 (apos := apos) (cpos := pos) G hc.2 hc.1 (not_star h1 [d1] X.env) (not_star h2 [] X.env) (An.oe sc o x hx X G).1 ((A m1 (Nat.lt_succ_of_lt hm1)).oe sc e1 a h1 X G).1 ((A m2 (Nat.lt_succ_of_lt hm2)).oe sc d1 b h2 X G).1
              exact ⟨p, s_truth p (fun _ => rfl) fun env => by simp only [evT]⟩
            · cases h
          · cases h
        split at h
        · rename_i hm
          subst hm
          split at h
          · rename_i hc
            simp only [Bool.and_eq_true] at hc
            split at h
            · rename_i x a b hx ha
              cases h
              obtain ⟨e1, d1, m1, m2, rfl, hm1, hm2, h1, h2⟩ := cEs_two ha
              have p := s_dsetd (apos := apos) (cpos := pos) G hc.2 hc.1 (not_star h1 [d1] X.env) (not_star h2 [] X.env) (An.oe sc o x hx X G).1 ((A m1 (Nat.lt_succ_of_lt hm1)).oe sc e1 a h1 X G).1 ((A m2 (Nat.lt_succ_of_lt hm2)).oe sc d1 b h2 X G).1
              exact ⟨p, s_truth p (fun _ => rfl) fun env => by simp only [evT]⟩
            · cases h
          · cases h
        split at h
        · rename_i hc
          simp only [Bool.and_eq_true, decide_eq_true_eq] at hc
          split at h
          · rename_i f x l hf hx hl
            cases h
            have p := s_meth (apos := apos) (cpos := pos) hf hc.2 hc.1.1 hc.1.2 (An.oe sc o x hx X G).1 (An.oes sc es l hl X G) (args_nil hl) (args_plain hl X.env pos)
            exact ⟨p, s_truth p (fun _ => rfl) fun env => by simp only [evT]⟩
          · cases h
        · cases h
      | _ =>
        simp only [cR] at h
        exact dflt rfl h
  | Subscript a i pos =>
    have dflt : ∀ x y, cE c n sc a = some x → cE c n sc i = some y → e' = .idx x y → PE X (.Subscript a i pos) (rE X.K (T.ctx k) e') ∧ PT X (.Subscript a i pos) (rT X.K (T.ctx k) e') := by
      rintro x y hx hy rfl
      have p := s_idx (pos := pos) G (not_slice hy) (An.oe sc a x hx X G).1 (An.oe sc i y hy X G).1
      exact ⟨p, s_truth p (fun _ => rfl) fun env => by simp only [evT]⟩
    cases i with
    | Slice lo hi st p2 =>
      cases st with
      | none =>
        simp only [cR] at h
        split at h
        · rename_i x l hh hx hl hhh
          cases h
          have p := s_slice (p2 := p2) (pos := pos) (An.oe sc a x hx X G).1 (An.oo sc lo l hl X G) (An.oo sc hi hh hhh X G)
          exact ⟨p, s_truth p (fun _ => rfl) fun env => by simp only [evT]⟩
        · cases h
      | some _ =>
        simp only [cR] at h
        split at h
        · rename_i x y hx hy
          cases h
          exact dflt x y hx hy rfl
        · cases h
    | _ =>
      simp only [cR] at h
      split at h
      · rename_i x y hx hy
        cases h
        exact dflt x y hx hy rfl
      · cases h
  | Dict keys vals pos =>
    simp only [cR] at h
    split at h
    · cases h
      have p := s_dnew (X := X) (T := T) (k := k) (t := c.fl.contains (1000000 + pos.line)) (pos := pos)
      exact ⟨p, s_truth p (fun _ => rfl) fun env => by simp only [evT]⟩
    · split at h
      · split at h
        · rename_i x y hx hy
          cases h
          have p := s_disp (pos := pos) G (An.oe sc _ x hx X G).1 (An.oe sc _ y hy X G).1
          exact ⟨p, s_truth p (fun _ => rfl) fun env => by simp only [evT]⟩
        · cases h
      · cases h
    · cases h
  | ListComp elt gs scope pos =>
    simp only [cR] at h
    have tup : ∀ tg, isTupE tg = true → ∃ a b p, tg = Expr.Tuple a b p := fun tg q => by
      unfold isTupE at q
      split at q
      · exact ⟨_, _, _, rfl⟩
      · cases q
    rcases cL_inv h with ⟨tg, iter, ifs, own, it, t, cs, e, m, rfl, rfl, ho, hb, hit, ht, hcs, he, rfl⟩ | ⟨tg, iter, tg1, iter1, ifs1, o, o1, it, t, it1, t1, cs, e, m, rfl, rfl, ho, ho1, hb, hit, ht, hit1, ht1, hcs, he, rfl⟩
    · have Am := A m (by omega)
      have p1 : PI X tg iter (rI X.K (T.ctx k) it) := Am.oi sc _ iter it hit X G tg (tup tg)
      have p2 : ∀ X', Good T k c (L2.relS scope sc) X' → X'.K = X.K → PTs X' ifs (rTs X.K (T.ctx k) cs) := fun X' G' hK => by
        have := Am.ot _ ifs cs hcs X' G'
        rw [hK] at this
        exact this
      have p3 : ∀ X', Good T k c (L2.relS scope sc) X' → X'.K = X.K → PE X' elt (rE X.K (T.ctx k) e) := fun X' G' hK => by
        have := (Am.oe _ elt e he X' G').1
        rw [hK] at this
        exact this
      have p := s_comp (pos := pos) G ho hb p1 ht p2 p3 (set_iter hit X.env)
      exact ⟨p, s_truth p (fun _ => rfl) fun env => by simp only [evT]⟩
    · have Am := A m (by omega)
      have p1 : PI X tg iter (rI X.K (T.ctx k) it) := Am.oi sc _ iter it hit X G tg (tup tg)
      have p4 : ∀ X', Good T k c (L2.relS scope sc) X' → X'.K = X.K → PI X' tg1 iter1 (rI X.K (T.ctx k) it1) := fun X' G' hK => by
        have := Am.oi _ _ iter1 it1 hit1 X' G' tg1 (tup tg1)
        rw [hK] at this
        exact this
      have p2 : ∀ X', Good T k c (L2.relS scope sc) X' → X'.K = X.K → PTs X' ifs1 (rTs X.K (T.ctx k) cs) := fun X' G' hK => by
        have := Am.ot _ ifs1 cs hcs X' G'
        rw [hK] at this
        exact this
      have p3 : ∀ X', Good T k c (L2.relS scope sc) X' → X'.K = X.K → PE X' elt (rE X.K (T.ctx k) e) := fun X' G' hK => by
        have := (Am.oe _ elt e he X' G').1
        rw [hK] at this
        exact this
      have p := s_comp2 (pos := pos) G ho ho1 hb p1 ht ht1 p4 p2 p3 (set_iter hit X.env) (set_iter hit1)
      exact ⟨p, s_truth p (fun _ => rfl) fun env => by simp only [evT]⟩
  | _ => simp [cR] at h
theorem allocE_true {e : Expr} (h : allocE e = true) (env : PySem.Env) : ∀ whole, PySem.isTrue e env whole = (do let v ← whole; standAt e.pos; holding [v] (truthy v)) := by
  cases e <;> first | (cases h; done) | (intro _; rfl)
theorem e_of_r {n : Nat} (R : OkR T k c n) : OkE T k c (n + 1) := by
  intro sc e e' h X G
  simp only [cE, Option.map_eq_some_iff] at h
  obtain ⟨x, hx, rfl⟩ := h
  obtain ⟨p, q⟩ := R sc e x hx X G
  unfold fzw
  split
  · rename_i ha
    rw [Bool.and_eq_true] at ha
    have p' := s_fz p
    exact ⟨p', s_truth p' (allocE_true ha.1 X.env) fun env => by simp only [evT]⟩
  · exact ⟨p, q⟩
theorem all_ok : ∀ n, All T k c n := by
  intro n
  induction n using Nat.strongRecOn with
  | ind n ih =>
    cases n with
    | zero => exact all_zero
    | succ n =>
      have An := ih n (Nat.lt_succ_self n)
      exact ⟨e_of_r An.orr, r_succ ih, es_succ An, ds_succ An, o_succ An, i_succ ih, c_succ ih, b_succ An, t_succ An⟩
end
end Pi

/-! Statements: compiled, and sound. -/
namespace Pi
open PySem PySem.Spec PyProof.Rows L2

def lcSwap (sc : Scope) (t : Str) (tpos : Pos) (scope : Scope) (vpos : Pos) : Bool :=
  (sc.names.lookup t == some .local) && (tpos.line == vpos.line) && !(scope.names.any fun (n, k) => n == t && (k == .local || k == .cell))
def isLC : Expr → Bool
  | .ListComp _ _ _ _ => true
  | _ => false
def augOf : Operator → Option BOp
  | .Add => some .add | .Sub => some .sub
  | _ => none
def isTupV : Expr → Bool
  | .Tuple _ _ _ => true
  | _ => false
def isLocal (sc : Scope) (x : Str) : Bool := match sc.names.lookup x with
  | some .local => true
  | _ => false
/-- two plain local names of one line -/
def pairOk (sc : Scope) (x y : Str) (px py : Pos) (a b : Expr) : Bool :=
  isLocal sc x && isLocal sc y && py.line == px.line && !(y == x) && !(foldedForSure 8 a && foldedForSure 8 b) && !(constantsAlone 8 a && constantsAlone 8 b)
/-- three plain local names of one line -/
def tripOk (sc : Scope) (x y z : Str) (px py pz : Pos) (a b d : Expr) : Bool :=
  isLocal sc x && isLocal sc y && isLocal sc z && py.line == px.line && pz.line == px.line && !(y == x) && !(z == x) && !(z == y) && !(foldedForSure 8 a && foldedForSure 8 b && foldedForSure 8 d) && !(constantsAlone 8 a && constantsAlone 8 b && constantsAlone 8 d)
/-- two names, one of them no plain local -/
def pairNo (sc : Scope) (x y : Str) : Bool := !(isLocal sc x && isLocal sc y)
/-- of a name: the list stays open if it changes later -/
def cM (c : CC) (n : Nat) (sc : Scope) (x : Str) (e : Expr) : Option E := if c.mu.contains x then (match n with
  | 0 => none
  | m + 1 => cR c m sc e) else cE c n sc e
/-- the general assignment -/
def cAsg (c : CC) (n : Nat) (sc : Scope) (tg e : Expr) : Pi.S := match cTg c sc 9 tg, cE c n sc e with
  | some t, some x => .asg t x
  | _, _ => .never
def cAsgN (c : CC) (n : Nat) (sc : Scope) (x : Str) (p : Pos) (e : Expr) : Pi.S := match cTg c sc 9 (.Name x p), cM c n sc x e with
  | some t, some x => .asg t x
  | _, _ => .never
def cAssign (c : CC) (n : Nat) (sc : Scope) (tg e : Expr) (pos : Pos) : Pi.S := match tg, e with
  | .Name x p, .ListComp elt gs scope vpos => cAsgN c n sc x p (.ListComp elt gs scope vpos)
  | .Subscript o i _, e => if isLC e then .never else match cE c n sc o, cE c n sc i, cE c n sc e with
    | some x, some y, some z => .sub x y z
    | _, _, _ => .never
  | .Tuple [.Name x px, .Name y py] k pt, .Tuple [a, b] k2 p2 =>
    if pairOk sc x y px py a b then match slotOf c x, slotOf c y, cM c n sc x a, cM c n sc y b with
      | some i, some j, some a', some b' => if i = j then .never else .par i j a' b'
      | _, _, _, _ => .never
    else if pairNo sc x y then cAsg c n sc (.Tuple [.Name x px, .Name y py] k pt) (.Tuple [a, b] k2 p2)
    else .never
  | .Tuple [.Name x px, .Name y py, .Name z pz] k pt, .Tuple [a, b, d] k2 p2 =>
    if tripOk sc x y z px py pz a b d then match slotOf c x, slotOf c y, slotOf c z, cM c n sc x a, cM c n sc y b, cM c n sc z d with
      | some i, some j, some l, some a', some b', some d' => if i = j ∨ i = l ∨ j = l then .never else .par3 i j l a' b' d'
      | _, _, _, _, _, _ => .never
    else .never
  | .Tuple ts k pt, e => if isTupV e && decide (ts.length < 4) then .never else cAsg c n sc (.Tuple ts k pt) e
  | .Name x p, e => cAsgN c n sc x p e
  | _, _ => .never

mutual
def cS (c : CC) : Nat → Scope → Stmt → Pi.S
  | 0, _, _ => .never
  | n + 1, sc, .Expr (.Constant (.str _) _ _) _ => .pass
  | n + 1, sc, .Expr e _ => if isLC e then .never else match cE c n sc e with
    | some x => .expr x
    | none => .never
  | n + 1, sc, .Return none _ => .retN
  | n + 1, sc, .Return (some e) _ => match cE c n sc e with
    | some x => .ret x
    | none => .never
  | n + 1, sc, .Pass _ => .pass
  | n + 1, sc, .Break _ => .brk
  | n + 1, sc, .Continue _ => .cont
  | n + 1, sc, .If t a b _ => match cE c n sc t with
    | some x => .ifs x (cSs c n sc a) (cSs c n sc b)
    | none => .never
  | n + 1, sc, .While t b [] _ => match cE c n sc t with
    | some x => .whil x (cSs c n sc b)
    | none => .never
  | n + 1, sc, .For tg iter b [] _ => match cI c n sc (isTupE tg) iter, cTg c sc 9 tg with
    | some it, some t => .for t it (cSs c n sc b)
    | _, _ => .never
  | n + 1, sc, .AugAssign (.Name x _) op e _ => match augOf op, slotOf c x, cE c n sc e with
    | some o, some i, some y => if isLoc sc x then .aug i o y else .never
    | _, _, _ => .never
  | n + 1, sc, .Assign [tg] e pos => cAssign c n sc tg e pos
  | _ + 1, _, _ => .never
def cSs (c : CC) : Nat → Scope → List Stmt → List Pi.S
  | 0, _, _ => [.never]
  | _ + 1, _, [] => []
  | n + 1, sc, s :: ss => cS c n sc s :: cSs c n sc ss
end

section
variable {K : PySem.W.Frag} {C : Ctx}
def PostF (K : PySem.W.Frag) (m : Mp) (H : Hp) (S' : Sto) (f : Fl) (D : Ends) : Prop := match f with
  | .nx env' => ∀ (m' : Mp) (σ' : L2.St) (H' : Hp), Le m H m' H' → RelSt K m' S' H' → RelEnv K m' H' env' σ' → D.nx σ' H'
  | .brk env' => ∀ (m' : Mp) (σ' : L2.St) (H' : Hp), Le m H m' H' → RelSt K m' S' H' → RelEnv K m' H' env' σ' → D.bk σ' H'
  | .cont env' => ∀ (m' : Mp) (σ' : L2.St) (H' : Hp), Le m H m' H' → RelSt K m' S' H' → RelEnv K m' H' env' σ' → D.ct σ' H'
  | .ret d => ∀ (m' : Mp) (v : V) (H' : Hp), Le m H m' H' → RelSt K m' S' H' → RelD K m' H' d v → D.rt v H'
theorem PostF.le {m m1 : Mp} {H H1 : Hp} {S' : Sto} {f : Fl} {D : Ends} (p : PostF K m H S' f D) (l : Le m H m1 H1) : PostF K m1 H1 S' f D := by
  cases f with
  | nx e => exact fun m' σ' H' l' => p m' σ' H' (l.trans l')
  | brk e => exact fun m' σ' H' l' => p m' σ' H' (l.trans l')
  | cont e => exact fun m' σ' H' l' => p m' σ' H' (l.trans l')
  | ret d => exact fun m' v H' l' => p m' v H' (l.trans l')
def rS (K : PySem.W.Frag) (C : Ctx) (s : Pi.S) : TS := fun D σ H => ∃ m env S f S', RelSt K m S H ∧ RelEnv K m H env σ ∧ evS C s env S = .ok f S' ∧ PostF K m H S' f D
def rSs (K : PySem.W.Frag) (C : Ctx) (s : List Pi.S) : TS := fun D σ H => ∃ m env S f S', RelSt K m S H ∧ RelEnv K m H env σ ∧ evSs C s env S = .ok f S' ∧ PostF K m H S' f D
theorem PS.imp {X : Cx} {e : Stmt} {t t' : TS} (h : PS X e t) (i : ∀ D σ H, t' D σ H → t D σ H) : PS X e t' := ⟨fun pins s σ H D I hw => h.run pins s σ H D I (i D σ H hw)⟩
theorem PSs.imp {X : Cx} {e : List Stmt} {t t' : TS} (h : PSs X e t) (i : ∀ D σ H, t' D σ H → t D σ H) : PSs X e t' := ⟨fun pins s σ H D I hw => h.run pins s σ H D I (i D σ H hw)⟩
theorem never_S {X : Cx} {st : Stmt} : PS X st (rS K C .never) := PS.imp ps_never fun D σ H ⟨m, env, S, f, S', st, re, e, p⟩ => by
  simp only [evS] at e
  cases e
end

structure GoodS (T : Tb) (k : Nat) (c : CC) (sc : Scope) (X : Cx) : Prop extends Good T k c sc X where
  hp : PassesOwn (model X.prog X.w) X.A X.env X.xe
  tg : TgOk X sc
  kd : sc.kind = .function

section
variable {X : Cx} {T : Tb} {k : Nat} {c : CC} {sc : Scope}
theorem sw_falseR {tg e : Expr} {l : Nat} {env : PySem.Env} {n : Nat} {e' : E} (h : cR c n sc e = some e') (hl : isLC e = false) : swapsWithSole [tg] e l env = pure false ∧ swapsWith e none l env = pure false := by
  cases e with
  | ListComp _ _ _ _ => cases hl
  | SetComp _ _ _ _ => cases n <;> simp [cR] at h
  | DictComp _ _ _ _ _ => cases n <;> simp [cR] at h
  | _ => exact ⟨rfl, rfl⟩
theorem sw_false {tg e : Expr} {l : Nat} {env : PySem.Env} {n : Nat} {e' : E} (h : cE c n sc e = some e') (hl : isLC e = false) : swapsWithSole [tg] e l env = pure false ∧ swapsWith e none l env = pure false := by
  cases e with
  | ListComp _ _ _ _ => cases hl
  | SetComp _ _ _ _ => rcases n with _ | _ | n <;> simp [cE, cR] at h
  | DictComp _ _ _ _ _ => rcases n with _ | _ | n <;> simp [cE, cR] at h
  | _ => exact ⟨rfl, rfl⟩
theorem sw_lc (G : GoodS T k c sc X) {x : Str} {p : Pos} {elt : Expr} {gs : List Comprehension} {scope : Scope} {vpos : Pos} {l : Nat} : swapsWith (.ListComp elt gs scope vpos) (some (.Name x p)) l X.env = pure (lcSwap sc x p scope vpos) := by
  have hb : X.env.blockKind = .function := by
    unfold Env.blockKind
    rw [G.sco, G.kd]
    rfl
  have hk : X.env.kindOf x = sc.names.lookup x := by
    unfold Env.kindOf
    rw [G.sco]
  unfold swapsWith
  simp only [hb, hk, Expr.pos]
  unfold lcSwap
  simp only [BEq.rfl, Bool.true_and]
theorem s_asg {tg e : Expr} {t : Tg} {e' : E} {pos : Pos} (he : PE X e (rE X.K (T.ctx k) e')) (hg : PG X tg (gOf X.K t)) (hs : swapsWithSole [tg] e pos.line X.env = pure false) (hw : swappedStores [tg] e X.env = pure none) (h1 : (assignEach [tg] X.env).map (·.2) = [assign tg X.env]) :
    PS X (.Assign [tg] e pos) (rS X.K (T.ctx k) (.asg t e')) := by
  refine PS.imp (ps_asg he hg hs hw h1) fun D σ H ⟨m, env, S, f, S', st, re, e, p⟩ => ?_
  simp only [evS] at e
  obtain ⟨x, S1, e1, e2⟩ := bindOk e
  obtain ⟨env', S2, e3, e4⟩ := bindOk e2
  obtain ⟨rfl, rfl⟩ := pureOk e4
  unfold putM at e3
  refine ⟨m, env, S, x, S1, st, re, e1, fun m1 v1 H1 l1 st1 r1 => ?_⟩
  cases ep : put t x env with
  | none => rw [ep] at e3; cases e3
  | some en =>
    rw [ep] at e3
    obtain ⟨rfl, rfl⟩ := pureOk e3
    exact gOf_use (re.mono l1) r1 ep fun σ' re' _ => p m1 σ' H1 l1 st1 re'
theorem s_setLc (G : GoodS T k c sc X) {x : Str} {p : Pos} {i : Nat} {elt tg iter : Expr} {ifs : List Expr} {scope : Scope} {own : List (Str × Nat)} {pos spos : Pos} {it : It} {t : Tg} {cs : List E} {e' : E} {n : Nat}
    (hsw : lcSwap sc x p scope pos = true) (hx : slotOf c x = some i) (ho : ownOf c n tg = some own) (hb : blkC c.N sc scope own = true) (hi : PI X tg iter (rI X.K (T.ctx k) it)) (htg : cTg c scope n tg = some t)
    (ht : ∀ X', Good T k c (L2.relS scope sc) X' → X'.K = X.K → PTs X' ifs (rTs X.K (T.ctx k) cs))
    (he : ∀ X', Good T k c (L2.relS scope sc) X' → X'.K = X.K → PE X' elt (rE X.K (T.ctx k) e')) (hs : ∀ x, foldedSetIterable iter X.env x = pure x) :
    PS X (.Assign [.Name x p] (.ListComp elt [⟨tg, iter, ifs, 0⟩] scope pos) spos) (rS X.K (T.ctx k) (.asg (.name i) (.comp (own.map (·.2)) t it cs e'))) := by
  have hsl := slots_own n tg t own htg ho
  have hloc : X.env.scope.names.lookup x = some .local := by
    rw [G.sco]
    unfold lcSwap at hsw
    simp only [Bool.and_eq_true] at hsw
    exact eq_of_beq hsw.1.1
  refine PS.imp (ps_setLc (i := i) (own := own) (g := gOf X.K t) G.calm G.nd (by rw [G.nm]; exact (slotOf_spec hx).1) hloc (by rw [sw_lc G, hsw]) hi (blkOk_by (by rw [G.nm, G.sco]; exact hb))
    (fun s H C cl fp => s_tg (X := X.blk s H scope (compEnvC scope cl C X.env) fp) G.nm G.nd G.calm (tgOk_blk s H scope C cl fp) n tg t htg)
    (fun s H C cl fp => ht _ (G.toGood.blk s H scope C cl fp) rfl) (fun s H C cl fp => he _ (G.toGood.blk s H scope C cl fp) rfl) hs) fun D σ H ⟨m, env, S, f, S', st, re, e, p⟩ => ?_
  simp only [evS] at e
  obtain ⟨y, S1, e1, e2⟩ := bindOk e
  obtain ⟨env', S2, e3, e4⟩ := bindOk e2
  obtain ⟨rfl, rfl⟩ := pureOk e4
  unfold putM at e3
  refine comp_read hsl ⟨m, env, S, y, S1, st, re, e1, fun m1 v1 H1 l1 st1 r1 => ?_⟩
  rw [put] at e3
  by_cases hlt : i < env.length
  · rw [if_pos hlt] at e3
    obtain ⟨rfl, rfl⟩ := pureOk e3
    exact p m1 _ H1 l1 st1 ((re.mono l1).set r1)
  · rw [if_neg hlt] at e3
    cases e3
theorem s_setLc2 (G : GoodS T k c sc X) {x : Str} {p : Pos} {i : Nat} {elt tg iter tg1 iter1 : Expr} {ifs1 : List Expr} {scope : Scope} {o o1 : List (Str × Nat)} {pos spos : Pos} {it it1 : It} {t t1 : Tg} {cs : List E} {e' : E} {n : Nat}
    (hsw : lcSwap sc x p scope pos = true) (hx : slotOf c x = some i) (ho : ownOf c n tg = some o) (ho1 : ownOf c n tg1 = some o1) (hb : blkC c.N sc scope (o ++ o1) = true) (hi : PI X tg iter (rI X.K (T.ctx k) it)) (htg : cTg c scope n tg = some t) (htg1 : cTg c scope n tg1 = some t1)
    (hi1 : ∀ X', Good T k c (L2.relS scope sc) X' → X'.K = X.K → PI X' tg1 iter1 (rI X.K (T.ctx k) it1))
    (ht : ∀ X', Good T k c (L2.relS scope sc) X' → X'.K = X.K → PTs X' ifs1 (rTs X.K (T.ctx k) cs))
    (he : ∀ X', Good T k c (L2.relS scope sc) X' → X'.K = X.K → PE X' elt (rE X.K (T.ctx k) e')) (hs : ∀ x, foldedSetIterable iter X.env x = pure x) (hs1 : ∀ env x, foldedSetIterable iter1 env x = pure x) :
    PS X (.Assign [.Name x p] (.ListComp elt [⟨tg, iter, [], 0⟩, ⟨tg1, iter1, ifs1, 0⟩] scope pos) spos) (rS X.K (T.ctx k) (.asg (.name i) (.comp2 ((o ++ o1).map (·.2)) t it (o1.map (·.2)) t1 it1 cs e'))) := by
  have hsl := slots_own n tg t o htg ho
  have hsl1 := slots_own n tg1 t1 o1 htg1 ho1
  have hloc : X.env.scope.names.lookup x = some .local := by
    rw [G.sco]
    unfold lcSwap at hsw
    simp only [Bool.and_eq_true] at hsw
    exact eq_of_beq hsw.1.1
  refine PS.imp (ps_setLc2 (i := i) (own := o ++ o1) (vs1 := o1.map (·.2)) (g := gOf X.K t) (g1 := gOf X.K t1) G.calm G.nd (by rw [G.nm]; exact (slotOf_spec hx).1) hloc (by rw [sw_lc G, hsw]) hi (blkOk_by (by rw [G.nm, G.sco]; exact hb)) (fun i hi => by rw [List.map_append]; exact List.mem_append_right _ hi)
    (fun s H C cl fp => s_tg (X := X.blk s H scope (compEnvC scope cl C X.env) fp) G.nm G.nd G.calm (tgOk_blk s H scope C cl fp) n tg t htg)
    (fun s H C cl fp => pts_nil) (fun s H C cl fp => hi1 _ (G.toGood.blk s H scope C cl fp) rfl)
    (fun s H C cl fp => s_tg (X := X.blk s H scope (compEnvC scope cl C X.env) fp) G.nm G.nd G.calm (tgOk_blk s H scope C cl fp) n tg1 t1 htg1)
    (fun s H C cl fp => ht _ (G.toGood.blk s H scope C cl fp) rfl) (fun s H C cl fp => he _ (G.toGood.blk s H scope C cl fp) rfl) hs hs1) fun D σ H ⟨m, env, S, f, S', st, re, e, p⟩ => ?_
  simp only [evS] at e
  obtain ⟨y, S1, e1, e2⟩ := bindOk e
  obtain ⟨env', S2, e3, e4⟩ := bindOk e2
  obtain ⟨rfl, rfl⟩ := pureOk e4
  unfold putM at e3
  refine comp2_read (fun i hi => by rw [List.map_append, ← hsl]; exact List.mem_append_left _ hi) hsl1 ⟨m, env, S, y, S1, st, re, e1, fun m1 v1 H1 l1 st1 r1 => ?_⟩
  rw [put] at e3
  by_cases hlt : i < env.length
  · rw [if_pos hlt] at e3
    obtain ⟨rfl, rfl⟩ := pureOk e3
    exact p m1 _ H1 l1 st1 ((re.mono l1).set r1)
  · rw [if_neg hlt] at e3
    cases e3
theorem sub_plain {o i : Expr} {p : Pos} {n : Nat} {i' : E} (h : cE c n sc i = some i') (v : Value) : assign (.Subscript o i p) X.env v = (do
      let ov ← holding [v] (eval o X.env)
      let iv ← holding [v, ov] (eval i X.env)
      standAt p
      holding [v, ov, iv] (PySem.setItem ov iv v)
      release [v, ov, iv] []) := by
  cases i with
  | Slice _ _ _ _ => rcases n with _ | _ | n <;> simp [cE, cR] at h
  | _ => rfl
theorem setItem0_inv {a i v : D} {S S' : Sto} {u : Unit} (h : setItem0 a i v S = .ok u S') : ∃ n j l k, a = .ref n ∧ i = .int j ∧ S[n]? = some (.lst l) ∧ L2.ixN l.length j = some k ∧ S' = S.set n (.lst (l.set k v)) := by
  unfold setItem0 at h
  cases a with
  | ref n =>
    cases i with
    | int j =>
      dsimp only at h
      cases e : S[n]? with
      | none => rw [e] at h; cases h
      | some o =>
        rw [e] at h
        cases o with
        | lst l =>
          dsimp only at h
          cases q : L2.ixN l.length j with
          | none => rw [q] at h; cases h
          | some k =>
            rw [q] at h
            cases h
            exact ⟨n, j, l, k, rfl, rfl, e, q, rfl⟩
        | _ => cases h
    | _ => cases h
  | _ => cases h
theorem setItem_inv {a i v : D} {S S' : Sto} {u : Unit} (h : setItem a i v S = .ok u S') : (∃ n j l k, a = .ref n ∧ i = .int j ∧ S[n]? = some (.lst l) ∧ L2.ixN l.length j = some k ∧ S' = S.set n (.lst (l.set k v))) ∨
    ∃ n t ks vs k, a = .ref n ∧ S[n]? = some (.dic t ks vs) ∧ keyOf t i = some k ∧ ks.length < sizeLine ∧ S' = S.set n (.dic t (putKs ks k) (putVs ks vs k v)) := by
  unfold setItem at h
  split at h
  · right
    unfold dput at h
    split at h
    · rename_i n _
      split at h
      · rename_i t ks vs hS
        split at h
        · rename_i k hk
          split at h
          · rename_i hz
            cases h
            exact ⟨n, t, ks, vs, k, rfl, hS, hk, hz, rfl⟩
          · cases h
        · cases h
      · cases h
    · cases h
  · exact .inl (setItem0_inv h)
theorem set_both (hu : X.A.units + 65 < cLine) : PSet X (fun o i v H Q => rSetL o i v H Q ∨ ∃ a H', o = .ref a ∧ DPut H a i v H' ∧ Q H') := by
  intro pins s σ H o i v ov iv u Q I ro ri rv h
  rcases h with h | ⟨a, H', rfl, g, q⟩
  · exact set_list pins s σ H o i v ov iv u Q I ro ri rv h
  · obtain rfl : ov = Value.ref a := ro
    exact d_setItem (by omega) I g ri rv fun s' I' => ⟨H', I', q⟩
theorem relD_ref {K : PySem.W.Frag} {m : Mp} {H : Hp} {n : Nat} {x : V} (h : RelD K m H (.ref n) x) : ∃ a, m n = some a ∧ x = .ref a := by
  rw [RelD] at h
  obtain ⟨a, e, q⟩ := h
  first | exact ⟨a, q, e⟩ | exact ⟨a, e, q⟩
theorem s_sub (hu : X.A.units + 65 < cLine) {a i e : Expr} {a' i' e' : E} {p pos : Pos} {n : Nat} (hi' : cE c n sc i = some i') (ha : PE X a (rE X.K (T.ctx k) a')) (hi : PE X i (rE X.K (T.ctx k) i')) (he : PE X e (rE X.K (T.ctx k) e')) (hs : swapsWithSole [.Subscript a i p] e pos.line X.env = pure false) :
    PS X (.Assign [.Subscript a i p] e pos) (rS X.K (T.ctx k) (.sub a' i' e')) := by
  refine PS.imp (ps_asg he (pg_sub (pos := p) ha hi (set_both hu) (sub_plain hi')) hs rfl rfl) fun D σ H ⟨m, env, S, f, S', st, re, e, p⟩ => ?_
  simp only [evS] at e
  obtain ⟨v, S1, e1, e2⟩ := bindOk e
  obtain ⟨x, S2, e3, e4⟩ := bindOk e2
  obtain ⟨y, S3, e5, e6⟩ := bindOk e4
  obtain ⟨u, S4, e7, e8⟩ := bindOk e6
  obtain ⟨rfl, rfl⟩ := pureOk e8
  refine ⟨m, env, S, v, S1, st, re, e1, fun m1 v1 H1 l1 st1 r1 => ⟨m1, env, S1, x, S2, st1, re.mono l1, e3, fun m2 v2 H2 l2 st2 r2 => ⟨m2, env, S2, y, S3, st2, (re.mono l1).mono l2, e5, fun m3 v3 H3 l3 st3 r3 => ?_⟩⟩⟩
  rcases setItem_inv e7 with ⟨n, j, l, kk, rfl, rfl, hS, hix, rfl⟩ | ⟨n, t, ks, vs, kk, rfl, hS, hk, hz, rfl⟩
  case inr =>
    obtain ⟨ad, hmn, rfl⟩ := relD_ref (r2.mono l3)
    obtain ⟨xs', hput, st4⟩ := dput_rel st3 hmn hS r3 hk ((r1.mono l2).mono l3) hz
    right
    refine ⟨ad, _, rfl, hput, ?_⟩
    have l4 : Le m3 H3 m3 (upd H3 ad (hoD t (putKs ks kk) xs')) := Le.set st3 hmn
    exact p m3 σ _ (((l1.trans l2).trans l3).trans l4) st4 ((((re.mono l1).mono l2).mono l3).mono l4)
  left
  obtain ⟨ad, hmn, rfl⟩ := relD_ref (r2.mono l3)
  obtain ⟨xs, hx, rx⟩ := st3.lst hmn hS
  have hk := (ixN_seq hix).2.1
  have rx' : RelDs X.K m3 H3 (l.set kk v) (xs.set kk v1) := RelDs.set kk rx ((r1.mono l2).mono l3)
  refine ⟨ad, xs, j, kk, rfl, relD_int r3, hx, by rw [rx.length]; exact hix, ?_⟩
  have st4 := st3.set hmn rx'
  have l4 : Le m3 H3 m3 (upd H3 ad (.lst (xs.set kk v1))) := Le.set st3 hmn
  exact p m3 σ _ (((l1.trans l2).trans l3).trans l4) st4 ((((re.mono l1).mono l2).mono l3).mono l4)
theorem augop_inv {op : BOp} {x y z : D} {S S' : Sto} (h : augop op x y S = .ok z S') : ∃ i j, x = .int i ∧ y = .int j ∧ S' = S ∧ ((op = .add ∧ z = .int (i + j)) ∨ (op = .sub ∧ z = .int (i - j))) := by
  unfold augop at h
  cases op <;> cases x <;> cases y <;> first | (cases h; done) | skip
  all_goals cases h
  · exact ⟨_, _, rfl, rfl, rfl, .inl ⟨rfl, rfl⟩⟩
  · exact ⟨_, _, rfl, rfl, rfl, .inr ⟨rfl, rfl⟩⟩
theorem s_aug (G : GoodS T k c sc X) {x : Str} {e : Expr} {i : Nat} {e' : E} {o : BOp} {op : Operator} {p pos : Pos} (ho : augOf op = some o) (hx : slotOf c x = some i) (hl : isLoc sc x = true) (he : PE X e (rE X.K (T.ctx k) e')) :
    PS X (.AugAssign (.Name x p) op e pos) (rS X.K (T.ctx k) (.aug i o e')) := by
  have hN := (slotOf_spec hx).1
  have hL := (G.tg x hl)
  have key : ∃ f : Int → Int → Int, PIp X op (ipI f) ∧ ∀ a b z, ((o = .add ∧ z = D.int (a + b)) ∨ (o = .sub ∧ z = D.int (a - b))) → z = .int (f a b) := by
    cases op <;> simp [augOf] at ho
    · subst ho
      refine ⟨_, ip_add, fun a b z h => ?_⟩
      rcases h with ⟨_, h⟩ | ⟨h, _⟩
      · exact h
      · cases h
    · subst ho
      refine ⟨_, ip_sub, fun a b z h => ?_⟩
      rcases h with ⟨h, _⟩ | ⟨_, h⟩
      · cases h
      · exact h
  obtain ⟨g, hg, hz⟩ := key
  refine PS.imp (ps_aug (i := i) G.nd (by rw [G.nm]; exact hN) hL.1 he hg hL.2) fun D σ H ⟨m, env, S, f, S', st, re, e, p⟩ => ?_
  simp only [evS] at e
  obtain ⟨a, S1, e1, e2⟩ := bindOk e
  obtain ⟨b, S2, e3, e4⟩ := bindOk e2
  obtain ⟨z, S3, e5, e6⟩ := bindOk e4
  obtain ⟨rfl, rfl⟩ := pureOk e6
  rw [evE] at e1
  dsimp only at e1
  split at e1
  · rename_i d' hd
    cases e1
    obtain ⟨u, v, rfl, rfl, rfl, q⟩ := augop_inv e5
    obtain ⟨w, hw, r⟩ := re.2 i _ hd
    have := relD_int r
    subst this
    refine ⟨_, hw, m, env, S, _, _, st, re, e3, fun m1 v1 H1 l1 st1 r1 => ⟨u, v, rfl, relD_int r1, ?_⟩⟩
    have hz' := hz u v z q
    subst hz'
    exact p m1 _ H1 l1 st1 ((re.mono l1).set (by rw [RelD]))
  · cases e1
theorem s_par (G : GoodS T k c sc X) {x y : Str} {px py pt : Pos} {kt k2 : Nat} {p2 pos : Pos} {a b : Expr} {a' b' : E} {i j : Nat} (hok : pairOk sc x y px py a b = true) (hx : slotOf c x = some i) (hy : slotOf c y = some j) (hij : i ≠ j)
    (ha : PE X a (rE X.K (T.ctx k) a')) (hb : PE X b (rE X.K (T.ctx k) b')) (hsa : ∀ (es : List Expr) (env : PySem.Env), starEach (a :: es) env = (false, eval a env) :: starEach es env) (hsb : ∀ (es : List Expr) (env : PySem.Env), starEach (b :: es) env = (false, eval b env) :: starEach es env)
    (nsa : ∀ v p, a ≠ .Starred v p) (nsb : ∀ v p, b ≠ .Starred v p) :
    PS X (.Assign [.Tuple [.Name x px, .Name y py] kt pt] (.Tuple [a, b] k2 p2) pos) (rS X.K (T.ctx k) (.par i j a' b')) := by
  unfold pairOk at hok
  simp only [Bool.and_eq_true, Bool.not_eq_true'] at hok
  obtain ⟨⟨⟨⟨⟨h1, h2⟩, h3⟩, h4⟩, h5⟩, h6⟩ := hok
  have loc : ∀ z, isLocal sc z = true → X.env.scope.names.lookup z = some .local := fun z hz => by
    rw [G.sco]
    unfold isLocal at hz
    split at hz
    · assumption
    · cases hz
  have hb' : X.env.blockKind = .function := by
    unfold Env.blockKind
    rw [G.sco, G.kd]
    rfl
  have hw : swappedStores [.Tuple [.Name x px, .Name y py] kt pt] (.Tuple [a, b] k2 p2) X.env = pure (some [x, y]) := by
    have kx : X.env.kindOf x = some .local := loc x h1
    have ky : X.env.kindOf y = some .local := loc y h2
    have h3' : py.line = px.line := eq_of_beq h3
    have na : ∀ z : Expr, (∀ v p, z ≠ .Starred v p) → (match z with | .Starred .. => true | _ => false) = false := fun z hz => by
      split
      · exact absurd rfl (hz _ _)
      · rfl
    have h4' : ¬ y = x := fun e => by rw [e] at h4; simp at h4
    unfold swappedStores
    simp [hb', kx, ky, h3', na a nsa, na b nsb, Expr.pos, List.eraseDups_cons, h4']
    simp only [Bool.and_eq_false_iff] at h5 h6
    rw [if_neg, if_neg]
    · rintro ⟨u, v⟩
      rcases h6 with h6 | h6
      · rw [u] at h6; cases h6
      · rw [v] at h6; cases h6
    · rintro ⟨u, v⟩
      rcases h5 with h5 | h5
      · rw [u] at h5; cases h5
      · rw [v] at h5; cases h5
  refine PS.imp (ps_par (i := i) (j := j) G.calm G.nd (by rw [G.nm]; exact (slotOf_spec hx).1) (by rw [G.nm]; exact (slotOf_spec hy).1) hij (loc x h1) (loc y h2) (pa_cons ha (pa_cons hb pa_nil (hsb _ X.env)) (hsa _ X.env)) hw) fun D σ H ⟨m, env, S, f, S', st, re, e, p⟩ => ?_
  simp only [evS] at e
  obtain ⟨u, S1, e1, e2⟩ := bindOk e
  obtain ⟨v, S2, e3, e4⟩ := bindOk e2
  obtain ⟨w, S3, e5, e6⟩ := bindOk e4
  obtain ⟨rfl, rfl⟩ := pureOk e6
  obtain ⟨hc, rfl⟩ := chkOk e5
  refine ⟨m, env, S, u, S1, st, re, e1, fun m1 v1 H1 l1 st1 r1 => ⟨m1, env, S1, v, S2, st1, re.mono l1, e3, fun m2 v2 H2 l2 st2 r2 => ⟨v1, v2, rfl, ?_⟩⟩⟩
  exact p m2 _ H2 (l1.trans l2) st2 ((((re.mono l1).mono l2).set (r1.mono l2)).set r2)
theorem s_par3 (G : GoodS T k c sc X) {x y z : Str} {px py pz pt : Pos} {kt k2 : Nat} {p2 pos : Pos} {a b d : Expr} {a' b' d' : E} {i j l : Nat} (hok : tripOk sc x y z px py pz a b d = true) (hx : slotOf c x = some i) (hy : slotOf c y = some j) (hz : slotOf c z = some l) (hij : i ≠ j) (hil : i ≠ l) (hjl : j ≠ l)
    (ha : PE X a (rE X.K (T.ctx k) a')) (hb : PE X b (rE X.K (T.ctx k) b')) (hd : PE X d (rE X.K (T.ctx k) d')) (hsa : ∀ (es : List Expr) (env : PySem.Env), starEach (a :: es) env = (false, eval a env) :: starEach es env) (hsb : ∀ (es : List Expr) (env : PySem.Env), starEach (b :: es) env = (false, eval b env) :: starEach es env)
    (hsd : ∀ (es : List Expr) (env : PySem.Env), starEach (d :: es) env = (false, eval d env) :: starEach es env) (nsa : ∀ v p, a ≠ .Starred v p) (nsb : ∀ v p, b ≠ .Starred v p) (nsd : ∀ v p, d ≠ .Starred v p) :
    PS X (.Assign [.Tuple [.Name x px, .Name y py, .Name z pz] kt pt] (.Tuple [a, b, d] k2 p2) pos) (rS X.K (T.ctx k) (.par3 i j l a' b' d')) := by
  unfold tripOk at hok
  simp only [Bool.and_eq_true, Bool.not_eq_true'] at hok
  obtain ⟨⟨⟨⟨⟨⟨⟨⟨⟨h1, h2⟩, h2'⟩, h3⟩, h3b⟩, h4⟩, h4b⟩, h4c⟩, h5⟩, h6⟩ := hok
  have loc : ∀ z, isLocal sc z = true → X.env.scope.names.lookup z = some .local := fun z hz => by
    rw [G.sco]
    unfold isLocal at hz
    split at hz
    · assumption
    · cases hz
  have hb' : X.env.blockKind = .function := by
    unfold Env.blockKind
    rw [G.sco, G.kd]
    rfl
  have hw : swappedStores [.Tuple [.Name x px, .Name y py, .Name z pz] kt pt] (.Tuple [a, b, d] k2 p2) X.env = pure (some [x, y, z]) := by
    have kx : X.env.kindOf x = some .local := loc x h1
    have ky : X.env.kindOf y = some .local := loc y h2
    have kz : X.env.kindOf z = some .local := loc z h2'
    have h3' : py.line = px.line := eq_of_beq h3
    have h3b' : pz.line = px.line := eq_of_beq h3b
    have na : ∀ z : Expr, (∀ v p, z ≠ .Starred v p) → (match z with | .Starred .. => true | _ => false) = false := fun z hz => by
      split
      · exact absurd rfl (hz _ _)
      · rfl
    have h4' : ¬ y = x := fun e => by rw [e] at h4; simp at h4
    have h4b' : ¬ z = x := fun e => by rw [e] at h4b; simp at h4b
    have h4c' : ¬ z = y := fun e => by rw [e] at h4c; simp at h4c
    unfold swappedStores
    simp [hb', kx, ky, kz, h3', h3b', na a nsa, na b nsb, na d nsd, Expr.pos, List.eraseDups_cons, h4', h4b', h4c']
    simp only [Bool.and_eq_false_iff] at h5 h6
    rw [if_neg, if_neg]
    · rintro ⟨u, v, w⟩
      rcases h6 with (h6 | h6) | h6
      · rw [u] at h6; cases h6
      · rw [v] at h6; cases h6
      · rw [w] at h6; cases h6
    · rintro ⟨u, v, w⟩
      rcases h5 with (h5 | h5) | h5
      · rw [u] at h5; cases h5
      · rw [v] at h5; cases h5
      · rw [w] at h5; cases h5
  refine PS.imp (ps_par3 (i := i) (j := j) (l := l) G.calm G.nd (by rw [G.nm]; exact (slotOf_spec hx).1) (by rw [G.nm]; exact (slotOf_spec hy).1) (by rw [G.nm]; exact (slotOf_spec hz).1) hij hil hjl (loc x h1) (loc y h2) (loc z h2') (pa_cons ha (pa_cons hb (pa_cons hd pa_nil (hsd _ X.env)) (hsb _ X.env)) (hsa _ X.env)) hw) fun D σ H ⟨m, env, S, f, S', st, re, e, p⟩ => ?_
  simp only [evS] at e
  obtain ⟨u, S1, e1, e2⟩ := bindOk e
  obtain ⟨v, S2, e3, e4⟩ := bindOk e2
  obtain ⟨w, S3, e3', e4'⟩ := bindOk e4
  obtain ⟨_, S4, e5, e6⟩ := bindOk e4'
  obtain ⟨rfl, rfl⟩ := pureOk e6
  obtain ⟨hc, rfl⟩ := chkOk e5
  refine ⟨m, env, S, u, S1, st, re, e1, fun m1 v1 H1 l1 st1 r1 => ⟨m1, env, S1, v, S2, st1, re.mono l1, e3, fun m2 v2 H2 l2 st2 r2 => ⟨m2, env, S2, w, S3, st2, (re.mono l1).mono l2, e3', fun m3 v3 H3 l3 st3 r3 => ⟨v1, v2, v3, rfl, ?_⟩⟩⟩⟩
  exact p m3 _ H3 ((l1.trans l2).trans l3) st3 ((((((re.mono l1).mono l2).mono l3).set ((r1.mono l2).mono l3)).set (r2.mono l3)).set r3)
theorem s_expr {e : Expr} {e' : E} {pos : Pos} (he : PE X e (rE X.K (T.ctx k) e')) (hs : swapsWith e none pos.line X.env = pure false) : PS X (.Expr e pos) (rS X.K (T.ctx k) (.expr e')) := by
  refine PS.imp (ps_expr he hs) fun D σ H ⟨m, env, S, f, S', st, re, e, p⟩ => ?_
  simp only [evS] at e
  obtain ⟨x, S1, e1, e2⟩ := bindOk e
  obtain ⟨rfl, rfl⟩ := pureOk e2
  exact ⟨m, env, S, x, S1, st, re, e1, fun m1 v1 H1 l1 st1 r1 => p m1 σ H1 l1 st1 (re.mono l1)⟩
theorem s_ret {e : Expr} {e' : E} {pos : Pos} (he : PE X e (rE X.K (T.ctx k) e')) : PS X (.Return (some e) pos) (rS X.K (T.ctx k) (.ret e')) := by
  refine PS.imp (ps_ret he) fun D σ H ⟨m, env, S, f, S', st, re, e, p⟩ => ?_
  simp only [evS] at e
  obtain ⟨x, S1, e1, e2⟩ := bindOk e
  obtain ⟨rfl, rfl⟩ := pureOk e2
  exact ⟨m, env, S, x, S1, st, re, e1, fun m1 v1 H1 l1 st1 r1 => p m1 v1 H1 l1 st1 r1⟩
theorem s_retN {pos : Pos} : PS X (.Return none pos) (rS X.K (T.ctx k) .retN) := by
  refine PS.imp ps_retN fun D σ H ⟨m, env, S, f, S', st, re, e, p⟩ => ?_
  simp only [evS] at e
  obtain ⟨rfl, rfl⟩ := pureOk e
  exact p m .non H (Le.refl m H) st (by rw [RelD])
theorem s_next {st : Stmt} (h : PS X st tNext) : PS X st (rS X.K (T.ctx k) .pass) := by
  refine PS.imp h fun D σ H ⟨m, env, S, f, S', st, re, e, p⟩ => ?_
  simp only [evS] at e
  obtain ⟨rfl, rfl⟩ := pureOk e
  exact p m σ H (Le.refl m H) st re
theorem s_brk {pos : Pos} : PS X (.Break pos) (rS X.K (T.ctx k) .brk) := by
  refine PS.imp ps_break fun D σ H ⟨m, env, S, f, S', st, re, e, p⟩ => ?_
  simp only [evS] at e
  obtain ⟨rfl, rfl⟩ := pureOk e
  exact p m σ H (Le.refl m H) st re
theorem s_cont {pos : Pos} : PS X (.Continue pos) (rS X.K (T.ctx k) .cont) := by
  refine PS.imp ps_continue fun D σ H ⟨m, env, S, f, S', st, re, e, p⟩ => ?_
  simp only [evS] at e
  obtain ⟨rfl, rfl⟩ := pureOk e
  exact p m σ H (Le.refl m H) st re
theorem s_if {t : Expr} {a b : List Stmt} {t' : E} {a' b' : List Pi.S} {pos : Pos} (ht : PT X t (rT X.K (T.ctx k) t')) (ha : PSs X a (rSs X.K (T.ctx k) a')) (hb : PSs X b (rSs X.K (T.ctx k) b')) : PS X (.If t a b pos) (rS X.K (T.ctx k) (.ifs t' a' b')) := by
  refine PS.imp (ps_if ht ha hb) fun D σ H ⟨m, env, S, f, S', st, re, e, p⟩ => ?_
  simp only [evS] at e
  obtain ⟨x, S1, e1, e2⟩ := bindOk e
  refine ⟨m, env, S, x, S1, st, re, e1, fun m1 H1 l1 st1 => ?_⟩
  cases x with
  | true => exact ⟨m1, env, S1, f, S', st1, re.mono l1, e2, p.le l1⟩
  | false => exact ⟨m1, env, S1, f, S', st1, re.mono l1, e2, p.le l1⟩
theorem ss_nil : PSs X [] (rSs X.K (T.ctx k) []) := by
  refine PSs.imp pss_nil fun D σ H ⟨m, env, S, f, S', st, re, e, p⟩ => ?_
  simp only [evSs] at e
  obtain ⟨rfl, rfl⟩ := pureOk e
  exact p m σ H (Le.refl m H) st re
theorem ss_cons {s : Stmt} {ss : List Stmt} {s' : Pi.S} {ss' : List Pi.S} (h1 : PS X s (rS X.K (T.ctx k) s')) (h2 : PSs X ss (rSs X.K (T.ctx k) ss')) : PSs X (s :: ss) (rSs X.K (T.ctx k) (s' :: ss')) := by
  refine PSs.imp (pss_cons h1 h2) fun D σ H ⟨m, env, S, f, S', st, re, e, p⟩ => ?_
  simp only [evSs] at e
  cases e1 : evS (T.ctx k) s' env S with
  | bad => rw [e1] at e; cases e
  | err _ _ _ => rw [e1] at e; cases e
  | ok g S1 =>
    rw [e1] at e
    cases g with
    | nx env1 => exact ⟨m, env, S, .nx env1, S1, st, re, e1, fun m1 σ1 H1 l1 st1 re1 => ⟨m1, env1, S1, f, S', st1, re1, e, p.le l1⟩⟩
    | ret d => cases e; exact ⟨m, env, S, .ret d, _, st, re, e1, p⟩
    | brk d => cases e; exact ⟨m, env, S, .brk d, _, st, re, e1, p⟩
    | cont d => cases e; exact ⟨m, env, S, .cont d, _, st, re, e1, p⟩
theorem whileLoop_inv {test : Env → M Bool} {body : Env → M Fl} {n : Nat} {env : Env} {S S' : Sto} {r : Fl} (h : whileLoop test body n env S = .ok r S') :
    ∃ n' b S1, n = n' + 1 ∧ test env S = .ok b S1 ∧ ((b = false ∧ r = .nx env ∧ S' = S1) ∨ (b = true ∧ ∃ f S2, body env S1 = .ok f S2 ∧ (match f with
      | .nx e => whileLoop test body n' e S2 = .ok r S'
      | .cont e => whileLoop test body n' e S2 = .ok r S'
      | .brk e => r = .nx e ∧ S' = S2
      | .ret d => r = .ret d ∧ S' = S2))) := by
  cases n with
  | zero => simp [whileLoop] at h
  | succ n =>
    unfold whileLoop at h
    cases e : test env S with
    | bad => rw [e] at h; cases h
    | err _ _ _ => rw [e] at h; cases h
    | ok b S1 =>
      rw [e] at h
      refine ⟨n, b, S1, rfl, rfl, ?_⟩
      cases b with
      | false => cases h; exact .inl ⟨rfl, rfl, rfl⟩
      | true =>
        dsimp only at h
        cases e2 : body env S1 with
        | bad => rw [e2] at h; cases h
        | err _ _ _ => rw [e2] at h; cases h
        | ok f S2 =>
          rw [e2] at h
          refine .inr ⟨rfl, f, S2, rfl, ?_⟩
          cases f with
          | nx e => exact h
          | cont e => exact h
          | brk e => cases h; exact ⟨rfl, rfl⟩
          | ret d => cases h; exact ⟨rfl, rfl⟩
theorem forLoop_inv {get : Nat → Sto → Step} {body : D → Env → M Fl} {n i : Nat} {env : Env} {S S' : Sto} {r : Fl} (h : forLoop get body n i env S = .ok r S') :
    ∃ n', n = n' + 1 ∧ ((get i S = .stop ∧ r = .nx env ∧ S' = S) ∨ (∃ x f S2, get i S = .item x ∧ body x env S = .ok f S2 ∧ (match f with
      | .nx e => forLoop get body n' (i + 1) e S2 = .ok r S'
      | .cont e => forLoop get body n' (i + 1) e S2 = .ok r S'
      | .brk e => r = .nx e ∧ S' = S2
      | .ret d => r = .ret d ∧ S' = S2))) := by
  cases n with
  | zero => simp [forLoop] at h
  | succ n =>
    unfold forLoop at h
    cases e : get i S with
    | bad => rw [e] at h; cases h
    | stop => rw [e] at h; cases h; exact ⟨n, rfl, .inl ⟨rfl, rfl, rfl⟩⟩
    | item x =>
      rw [e] at h
      dsimp only at h
      cases e2 : body x env S with
      | bad => rw [e2] at h; cases h
      | err _ _ _ => rw [e2] at h; cases h
      | ok f S2 =>
        rw [e2] at h
        refine ⟨n, rfl, .inr ⟨x, f, S2, rfl, e2, ?_⟩⟩
        cases f with
        | nx e => exact h
        | cont e => exact h
        | brk e => cases h; exact ⟨rfl, rfl⟩
        | ret d => cases h; exact ⟨rfl, rfl⟩
theorem PostF.ends {K : PySem.W.Frag} {m : Mp} {H : Hp} {S' : Sto} {f : Fl} {D D' : Ends} (h : PostF K m H S' f D) (h1 : D.nx = D'.nx) (h2 : D.bk = D'.bk) (h3 : D.ct = D'.ct) (h4 : D.rt = D'.rt) : PostF K m H S' f D' := by
  cases f with
  | nx e => exact fun m' σ' H' l s r => h1 ▸ h m' σ' H' l s r
  | brk e => exact fun m' σ' H' l s r => h2 ▸ h m' σ' H' l s r
  | cont e => exact fun m' σ' H' l s r => h3 ▸ h m' σ' H' l s r
  | ret d => exact fun m' v H' l s r => h4 ▸ h m' v H' l s r
theorem s_while (G : GoodS T k c sc X) {t : Expr} {b : List Stmt} {t' : E} {b' : List Pi.S} {pos : Pos} (ht : PT X t (rT X.K (T.ctx k) t')) (hb : PSs X b (rSs X.K (T.ctx k) b')) : PS X (.While t b [] pos) (rS X.K (T.ctx k) (.whil t' b')) := by
  refine PS.imp (ps_while G.hp ht hb) fun D σ H ⟨m, env, S, f, S', st, re, e, p⟩ => ?_
  simp only [evS] at e
  refine ⟨fun n σ H => ∃ m env S, RelSt X.K m S H ∧ RelEnv X.K m H env σ ∧ whileLoop (fun e => evT (T.ctx k) t' e) (fun e => evSs (T.ctx k) b' e) n env S = .ok f S' ∧ PostF X.K m H S' f D, ⟨_, m, env, S, st, re, e, p⟩, ?_⟩
  rintro n σ1 H1 ⟨m1, env1, S1, st1, re1, e1, p1⟩
  obtain ⟨n', bb, S2, rfl, ht', hc⟩ := whileLoop_inv e1
  refine ⟨m1, env1, S1, bb, S2, st1, re1, ht', fun m2 H2 l2 st2 => ?_⟩
  rcases hc with ⟨rfl, rfl, rfl⟩ | ⟨rfl, g, S3, hg, hk⟩
  · exact p1 m2 σ1 H2 l2 st2 (re1.mono l2)
  · refine ⟨fun σ H => ∃ m env S, RelSt X.K m S H ∧ RelEnv X.K m H env σ ∧ whileLoop (fun e => evT (T.ctx k) t' e) (fun e => evSs (T.ctx k) b' e) n' env S = .ok f S' ∧ PostF X.K m H S' f D, fun σ' H' w => ⟨n', Nat.lt_succ_self _, w⟩, ?_⟩
    refine ⟨m2, env1, S2, g, S3, st2, re1.mono l2, hg, ?_⟩
    cases g with
    | nx en => exact fun m3 σ3 H3 l3 st3 re3 => ⟨m3, en, S3, st3, re3, hk, p1.le (l2.trans l3)⟩
    | cont en => exact fun m3 σ3 H3 l3 st3 re3 => ⟨m3, en, S3, st3, re3, hk, p1.le (l2.trans l3)⟩
    | brk en =>
      obtain ⟨rfl, rfl⟩ := hk
      exact fun m3 σ3 H3 l3 st3 re3 => p1 m3 σ3 H3 (l2.trans l3) st3 re3
    | ret d =>
      obtain ⟨rfl, rfl⟩ := hk
      exact fun m3 v3 H3 l3 st3 re3 => p1 m3 v3 H3 (l2.trans l3) st3 re3
theorem s_for (G : GoodS T k c sc X) {tg iter : Expr} {b : List Stmt} {it : It} {t : Tg} {b' : List Pi.S} {pos : Pos} (hi : PI X tg iter (rI X.K (T.ctx k) it)) (hg : PG X tg (gOf X.K t)) (hb : PSs X b (rSs X.K (T.ctx k) b')) (hs : ∀ x, foldedSetIterable iter X.env x = pure x) :
    PS X (.For tg iter b [] pos) (rS X.K (T.ctx k) (.for t it b')) := by
  refine PS.imp (ps_for G.hp G.calm hi hg hb hs) fun D σ H ⟨m, env, S, f, S', st, re, e, p⟩ => ?_
  simp only [evS] at e
  obtain ⟨J, S1, e1, e2⟩ := bindOk e
  refine ⟨m, env, S, J, S1, st, re, e1, fun m1 H1 J' l1 st1 rj => ?_⟩
  refine ⟨fun i n σ H => ∃ m env S, Le m1 H1 m H ∧ RelSt X.K m S H ∧ RelEnv X.K m H env σ ∧ forLoop J.get (fun x e => do
      let e' ← putM t x e
      evSs (T.ctx k) b' e') n i env S = .ok f S' ∧ PostF X.K m H S' f D, ⟨_, m1, env, S1, Le.refl m1 H1, st1, re.mono l1, e2, p.le l1⟩, ?_⟩
  rintro i n σ2 H2 ⟨m2, env2, S2, le2, st2, re2, e3, p2⟩
  obtain ⟨n', rfl, hc⟩ := forLoop_inv e3
  have hj := rj m2 H2 S2 le2.toLw st2 i
  rcases hc with ⟨hg', rfl, rfl⟩ | ⟨x, g, S3, hg', hbd, hk⟩
  · rw [hg'] at hj
    exact .inl ⟨hj, p2 m2 σ2 H2 (Le.refl m2 H2) st2 re2⟩
  · rw [hg'] at hj
    refine .inr ⟨hj.1, fun σ H => ∃ m env S, Le m1 H1 m H ∧ RelSt X.K m S H ∧ RelEnv X.K m H env σ ∧ forLoop J.get (fun x e => do
      let e' ← putM t x e
      evSs (T.ctx k) b' e') n' (i + 1) env S = .ok f S' ∧ PostF X.K m H S' f D, fun σ' H' w => ⟨n', Nat.lt_succ_self _, w⟩, fun v H3 y => ?_⟩
    obtain ⟨le3, st3, rv⟩ := hj.2 v H3 y
    obtain ⟨env', S4, e4, e5⟩ := bindOk hbd
    unfold putM at e4
    cases ep : put t x env2 with
    | none => rw [ep] at e4; cases e4
    | some en =>
      rw [ep] at e4
      obtain ⟨rfl, rfl⟩ := pureOk e4
      refine gOf_use (re2.mono le3) rv ep fun σ' re' _ => ⟨m2, _, _, g, S3, st3, re', e5, ?_⟩
      cases g with
      | nx en => exact fun m4 σ4 H4 l4 st4 re4 => ⟨m4, en, S3, (le2.trans le3).trans l4, st4, re4, hk, p2.le (le3.trans l4)⟩
      | cont en => exact fun m4 σ4 H4 l4 st4 re4 => ⟨m4, en, S3, (le2.trans le3).trans l4, st4, re4, hk, p2.le (le3.trans l4)⟩
      | brk en =>
        obtain ⟨rfl, rfl⟩ := hk
        exact fun m4 σ4 H4 l4 st4 re4 => p2 m4 σ4 H4 (le3.trans l4) st4 re4
      | ret d =>
        obtain ⟨rfl, rfl⟩ := hk
        exact fun m4 v4 H4 l4 st4 re4 => p2 m4 v4 H4 (le3.trans l4) st4 re4
/-- what a statement leaves is made fast -/
def DFz (D : Ends) : Ends := { D with nx := fun σ H => ∃ as : Addr → Prop, (∀ b, as b → ∃ u, H b = some u ∧ canFz u = true) ∧ ∀ H2, FrzTo as H H2 → D.nx σ H2 }
theorem PS.frz {X : Cx} {st : Stmt} {t : TS} (h : PS X st t) : PS X st (fun D σ H => t (DFz D) σ H) := by
  refine ⟨fun pins s σ H D I hw => wpAny_mono (h.run pins s σ H (DFz D) I hw) (fun f s' z => ?_) fun _ _ z => z⟩
  cases f with
  | next =>
    obtain ⟨σ', H1, I1, as, ha, q⟩ := z
    obtain ⟨H2, f, ft⟩ := frz_ex s'.heap (Inv.objs I1) ha
    exact ⟨σ', H2, Inv.frz I1 f ft, q H2 f⟩
  | brk => exact z
  | cont => exact z
  | ret u => exact z
theorem s_asgF {st : Stmt} {i : Nat} {e' : E} (h : PS X st (rS X.K (T.ctx k) (.asg (.name i) e'))) : PS X st (rS X.K (T.ctx k) (.asg (.name i) (.fz e'))) := by
  refine PS.imp (PS.frz h) fun D σ H ⟨m, env, S, f, S', st, re, e, p⟩ => ?_
  simp only [evS, evE] at e
  obtain ⟨d', S2, e1, e2⟩ := bindOk e
  obtain ⟨env', S3, e3, e4⟩ := bindOk e2
  obtain ⟨rfl, rfl⟩ := pureOk e4
  obtain ⟨d, S1, e5, kp, ef, rfl⟩ := fzM_inv e1
  unfold putM at e3
  rw [put] at e3
  by_cases hlt : i < env.length
  · rw [if_pos hlt] at e3
    obtain ⟨rfl, rfl⟩ := pureOk e3
    refine ⟨m, env, S, .nx (env.set i (some d)), S1, st, re, ?_, fun m1 σ1 H1 l1 st1 re1 => ⟨newAt m1 S.length, canFz_at st1, fun H2 f => ?_⟩⟩
    · simp only [evS]
      rw [bind_ap, e5]
      show (putM (.name i) d env >>= fun env' => (pure (Fl.nx env') : M Fl)) S1 = _
      unfold putM
      rw [put, if_pos hlt]
      rfl
    · refine p _ σ1 H2 (Le.frz st st1 l1 f) (RelSt.frz st st1 f kp) ⟨by rw [re1.1, List.length_set, List.length_set], fun j x hx => ?_⟩
      by_cases hj : j = i
      · subst hj
        rw [List.getElem?_set_self hlt] at hx
        cases hx
        obtain ⟨v, hv, r⟩ := re1.2 j d (by rw [List.getElem?_set_self hlt])
        exact ⟨v, hv, frz_rel st1 f depthP d v d' r ef⟩
      · rw [List.getElem?_set_ne (Ne.symm hj)] at hx
        obtain ⟨v0, _, r0⟩ := re.2 j x hx
        obtain ⟨v, hv, r⟩ := re1.2 j x (by rw [List.getElem?_set_ne (Ne.symm hj)]; exact hx)
        exact ⟨v, hv, fine_rel f (relD_fine (fun i a e => st.dom i a e) r0) r⟩
  · rw [if_neg hlt] at e3
    cases e3
theorem asg1 {e : Expr} {tg : Expr} {t : Tg} (ht : cTg c sc 9 tg = some t) (env : PySem.Env) : (assignEach [tg] env).map (·.2) = [assign tg env] := by
  rw [tg_star ht [] env]
  rfl
theorem ok_asg (G : GoodS T k c sc X) {n : Nat} {tg e : Expr} {pos : Pos} (hs : swapsWithSole [tg] e pos.line X.env = pure false) (hw : swappedStores [tg] e X.env = pure none) : PS X (.Assign [tg] e pos) (rS X.K (T.ctx k) (cAsg c n sc tg e)) := by
  unfold cAsg
  split
  · rename_i t x ht hx
    exact s_asg ((all_ok n).oe sc e x hx X G.toGood).1 (s_tg G.nm G.nd G.calm G.tg 9 tg t ht) hs hw (asg1 (e := e) ht X.env)
  · exact never_S
theorem cAsg_never {n : Nat} {tg e : Expr} (h : cE c n sc e = none) : cAsg c n sc tg e = .never := by
  unfold cAsg
  rw [h]
  split
  · rename_i h2
    cases h2
  · rfl
theorem cM_of {n : Nat} {x : Str} {e : Expr} {e' : E} (h : cM c n sc x e = some e') : cE c n sc e = some e' ∨ ∃ m, n = m + 1 ∧ cR c m sc e = some e' := by
  unfold cM at h
  split at h
  · split at h
    · cases h
    · exact .inr ⟨_, rfl, h⟩
  · exact .inl h
theorem cM_pe {n : Nat} {x : Str} {e : Expr} {e' : E} (h : cM c n sc x e = some e') (G : GoodS T k c sc X) : PE X e (rE X.K (T.ctx k) e') := by
  rcases cM_of h with h2 | ⟨m, rfl, h2⟩
  · exact ((all_ok n).oe sc e e' h2 X G.toGood).1
  · exact ((all_ok m).orr sc e e' h2 X G.toGood).1
theorem cM_star {n : Nat} {x : Str} {e : Expr} {e' : E} (h : cM c n sc x e = some e') : (∀ (es : List Expr) (env : PySem.Env), starEach (e :: es) env = (false, eval e env) :: starEach es env) ∧ ∀ v p, e ≠ .Starred v p := by
  have ns : ∀ v p, e ≠ .Starred v p := fun v p q => by
    subst q
    rcases cM_of h with h2 | ⟨m, rfl, h2⟩
    · rcases n with _ | _ | n <;> simp [cE, cR] at h2
    · rcases m with _ | m <;> simp [cR] at h2
  refine ⟨fun es env => ?_, ns⟩
  cases e with
  | Starred v p => exact absurd rfl (ns v p)
  | _ => rfl
theorem cM_sw {n : Nat} {x : Str} {tg e : Expr} {e' : E} {l : Nat} {env : PySem.Env} (h : cM c n sc x e = some e') (hl : isLC e = false) : swapsWithSole [tg] e l env = pure false := by
  rcases cM_of h with h2 | ⟨m, rfl, h2⟩
  · exact (sw_false h2 hl).1
  · exact (sw_falseR h2 hl).1
theorem cAsgN_never {n : Nat} {x : Str} {p : Pos} {e : Expr} (h : cM c n sc x e = none) : cAsgN c n sc x p e = .never := by
  unfold cAsgN
  rw [h]
  split
  · rename_i h2
    cases h2
  · rfl
theorem sw_none {tg e : Expr} {env : PySem.Env} (h : isTupV e = false) : swappedStores [tg] e env = pure none := by
  cases e with
  | Tuple _ _ _ => cases h
  | _ => cases tg <;> rfl
theorem sw_name {x : Str} {p : Pos} {e : Expr} {env : PySem.Env} : swappedStores [.Name x p] e env = pure none := by
  cases e <;> rfl
theorem sw_subs {o i : Expr} {p : Pos} {e : Expr} {env : PySem.Env} : swappedStores [.Subscript o i p] e env = pure none := by
  cases e <;> rfl
theorem ok_asgN (G : GoodS T k c sc X) {n : Nat} {x : Str} {p : Pos} {e : Expr} {pos : Pos} (hs : swapsWithSole [.Name x p] e pos.line X.env = pure false) : PS X (.Assign [.Name x p] e pos) (rS X.K (T.ctx k) (cAsgN c n sc x p e)) := by
  unfold cAsgN
  split
  · rename_i t y ht hy
    exact s_asg (cM_pe hy G) (s_tg G.nm G.nd G.calm G.tg 9 _ t ht) hs sw_name (asg1 (e := e) ht X.env)
  · exact never_S
theorem sw_tup {ts : List Expr} {k : Nat} {pt : Pos} {e : Expr} {l : Nat} {env : PySem.Env} {n : Nat} {e' : E} (h : cE c n sc e = some e') : swapsWithSole [.Tuple ts k pt] e l env = pure false := by
  cases e with
  | ListComp _ _ _ _ => rfl
  | SetComp _ _ _ _ => rcases n with _ | _ | n <;> simp [cE, cR] at h
  | DictComp _ _ _ _ _ => rcases n with _ | _ | n <;> simp [cE, cR] at h
  | _ => rfl
theorem sw_four {ts : List Expr} {k : Nat} {pt : Pos} {e : Expr} {env : PySem.Env} (h : (isTupV e && decide (ts.length < 4)) = false) : swappedStores [.Tuple ts k pt] e env = pure none := by
  cases e with
  | Tuple vs k2 p2 =>
    have h4 : ¬ ts.length < 4 := by simpa [isTupV] using h
    have h2 : ((ts.length == 2) || (ts.length == 3)) = false := by
      rw [Bool.or_eq_false_iff]
      exact ⟨by simpa using (show ts.length ≠ 2 by omega), by simpa using (show ts.length ≠ 3 by omega)⟩
    unfold swappedStores
    simp [h2]
  | _ => rfl
theorem ok_assign (G : GoodS T k c sc X) {n : Nat} {tg e : Expr} {pos : Pos} : PS X (.Assign [tg] e pos) (rS X.K (T.ctx k) (cAssign c n sc tg e pos)) := by
  have nolc : ∀ tg, isLC e = false → swappedStores [tg] e X.env = pure none → PS X (.Assign [tg] e pos) (rS X.K (T.ctx k) (cAsg c n sc tg e)) := by
    intro tg hl hw
    cases he : cE c n sc e with
    | none =>
      rw [cAsg_never he]
      exact never_S
    | some x => exact ok_asg G (sw_false he hl).1 hw
  unfold cAssign
  split
  · -- a name, a comprehension
    rename_i x p elt gs scope vpos
    cases hsw : lcSwap sc x p scope vpos with
    | false => exact ok_asgN G ((sw_lc (l := pos.line) G).trans (by rw [hsw]))
    | true =>
      unfold cAsgN
      split
      · rename_i t' y ht hy
        have hsl : ∃ i, slotOf c x = some i ∧ t' = .name i := by
          simp only [cTg] at ht
          split at ht
          · simp only [Option.map_eq_some_iff] at ht
            obtain ⟨i, hi, rfl⟩ := ht
            exact ⟨i, hi, rfl⟩
          · cases ht
        obtain ⟨i, hi, rfl⟩ := hsl
        have tup : ∀ tg, isTupE tg = true → ∃ a b p, tg = Expr.Tuple a b p := fun tg q => by
          unfold isTupE at q
          split at q
          · exact ⟨_, _, _, rfl⟩
          · cases q
        have core : ∀ (m : Nat) (y : E), cR c m sc (.ListComp elt gs scope vpos) = some y → PS X (.Assign [.Name x p] (.ListComp elt gs scope vpos) pos) (rS X.K (T.ctx k) (.asg (.name i) y)) := by
          intro m y hy
          cases m with
          | zero => simp [cR] at hy
          | succ m =>
            simp only [cR] at hy
            rcases cL_inv hy with ⟨tg', iter, ifs, own, it, t, cs, e, q, rfl, rfl, ho, hb, hit, htg, hcs, he, rfl⟩ | ⟨tg', iter, tg1, iter1, ifs1, o, o1, it, t, it1, t1, cs, e, q, rfl, rfl, ho, ho1, hb, hit, htg, hit1, htg1, hcs, he, rfl⟩
            · have An := all_ok (T := T) (k := k) (c := c) q
              refine s_setLc (n := 9) G hsw hi ho hb (An.oi sc _ iter it hit X G.toGood tg' (tup tg')) htg (fun X' G' hK => ?_) (fun X' G' hK => ?_) (set_iter hit X.env)
              · have := An.ot _ ifs cs hcs X' G'
                rw [hK] at this
                exact this
              · have := (An.oe _ elt e he X' G').1
                rw [hK] at this
                exact this
            · have An := all_ok (T := T) (k := k) (c := c) q
              refine s_setLc2 (n := 9) G hsw hi ho ho1 hb (An.oi sc _ iter it hit X G.toGood tg' (tup tg')) htg htg1 (fun X' G' hK => ?_) (fun X' G' hK => ?_) (fun X' G' hK => ?_) (set_iter hit X.env) (set_iter hit1)
              · have := An.oi _ _ iter1 it1 hit1 X' G' tg1 (tup tg1)
                rw [hK] at this
                exact this
              · have := An.ot _ ifs1 cs hcs X' G'
                rw [hK] at this
                exact this
              · have := (An.oe _ elt e he X' G').1
                rw [hK] at this
                exact this
        rcases cM_of hy with hy2 | ⟨m, rfl, hy2⟩
        · cases n with
          | zero => simp [cE] at hy2
          | succ m =>
            simp only [cE, Option.map_eq_some_iff] at hy2
            obtain ⟨z, hz, rfl⟩ := hy2
            unfold fzw
            split
            · exact s_asgF (core m z hz)
            · exact core m z hz
        · exact core m y hy2
      · exact never_S
  · -- a subscript
    rename_i o i p
    split
    · exact never_S
    · rename_i hl
      split
      · rename_i x y z hx hy hz
        have An := all_ok (T := T) (k := k) (c := c) n
        exact s_sub G.toGood.hu hy (An.oe sc o x hx X G.toGood).1 (An.oe sc i y hy X G.toGood).1 (An.oe sc _ z hz X G.toGood).1 (sw_false hz (by simpa using hl)).1
      · exact never_S
  · -- a pair of names, a pair
    rename_i x px y py kt pt a b k2 p2
    split
    · rename_i hok
      split
      · rename_i i j a' b' hi hj ha hb
        split
        · exact never_S
        · rename_i hij
          exact s_par G hok hi hj hij (cM_pe ha G) (cM_pe hb G) (cM_star ha).1 (cM_star hb).1 (cM_star ha).2 (cM_star hb).2
      · exact never_S
    · split
      · rename_i hno
        refine nolc _ rfl ?_
        have hb' : X.env.blockKind = .function := by
          unfold Env.blockKind
          rw [G.sco, G.kd]
          rfl
        have hk : ∀ z, X.env.kindOf z = sc.names.lookup z := fun z => by
          unfold Env.kindOf
          rw [G.sco]
        have hl : ∀ z, isLocal sc z = false → (X.env.kindOf z == some .local) = false := fun z hz => by
          rw [hk]
          unfold isLocal at hz
          split at hz
          · cases hz
          · rename_i hne
            cases q : sc.names.lookup z with
            | none => rfl
            | some kd =>
              cases kd with
              | «local» => exact absurd q hne
              | _ => rfl
        unfold pairNo at hno
        simp only [Bool.not_eq_true', Bool.and_eq_false_iff] at hno
        rcases hno with h | h
        · have h1 := hl x h
          unfold swappedStores
          have h1' : ¬ X.env.kindOf x = some .local := fun e => by rw [e] at h1; simp at h1
          simp [hb', Expr.pos]
          intro _ _ hlen
          exfalso
          simp only [List.filterMap_cons, List.filterMap_nil, h1', false_and, if_false] at hlen
          split at hlen <;> simp at hlen
        · have h1 := hl y h
          unfold swappedStores
          have h1' : ¬ X.env.kindOf y = some .local := fun e => by rw [e] at h1; simp at h1
          simp [hb', Expr.pos]
          intro _ _ hlen
          exfalso
          simp only [List.filterMap_cons, List.filterMap_nil, h1', false_and, if_false] at hlen
          split at hlen <;> simp at hlen
      · exact never_S
  · -- three names, three
    rename_i x px y py z pz kt pt a b d k2 p2
    split
    · rename_i hok
      split
      · rename_i i j l a' b' d' hi hj hl ha hb hd
        split
        · exact never_S
        · rename_i hij
          exact s_par3 G hok hi hj hl (fun e => hij (.inl e)) (fun e => hij (.inr (.inl e))) (fun e => hij (.inr (.inr e))) (cM_pe ha G) (cM_pe hb G) (cM_pe hd G) (cM_star ha).1 (cM_star hb).1 (cM_star hd).1 (cM_star ha).2 (cM_star hb).2 (cM_star hd).2
      · exact never_S
    · exact never_S
  · rename_i ts kt pt _ _
    split
    · exact never_S
    · rename_i h1
      cases he : cE c n sc e with
      | none =>
        rw [cAsg_never he]
        exact never_S
      | some x => exact ok_asg G (sw_tup he) (sw_four (by simpa using h1))
  · rename_i x p hnl
    cases hy : cM c n sc x e with
    | none =>
      rw [cAsgN_never hy]
      exact never_S
    | some y =>
      refine ok_asgN G (cM_sw hy ?_)
      cases e with
      | ListComp _ _ _ _ => exact absurd rfl (hnl _ _ _ _)
      | _ => rfl
  · exact never_S
theorem fs_nil_iter {n : Nat} {tp : Bool} {e : Expr} {e' : It} (h : cI c n sc tp e = some e') (env : PySem.Env) : ∀ x, foldedSetIterable e env x = pure x := set_iter h env
theorem stmts_ok (T : Tb) (k : Nat) (c : CC) (sc : Scope) (X : Cx) (G : GoodS T k c sc X) : ∀ n, (∀ st, PS X st (rS X.K (T.ctx k) (cS c n sc st))) ∧ (∀ ss, PSs X ss (rSs X.K (T.ctx k) (cSs c n sc ss))) := by
  intro n
  induction n with
  | zero =>
    refine ⟨fun st => ?_, fun ss => ?_⟩
    · rw [cS]
      exact never_S
    · rw [cSs]
      refine PSs.imp pss_never fun D σ H ⟨m, env, S, f, S', st, re, e, p⟩ => ?_
      simp only [evSs, evS] at e
      cases e
  | succ n ih =>
    have An := all_ok (T := T) (k := k) (c := c) n
    refine ⟨fun st => ?_, fun ss => ?_⟩
    · cases st with
      | Expr e pos =>
        have go : ∀ (r : Pi.S), r = (if isLC e then .never else match cE c n sc e with | some x => .expr x | none => .never) → PS X (.Expr e pos) (rS X.K (T.ctx k) r) := by
          rintro r rfl
          split
          · exact never_S
          · rename_i hl
            split
            · rename_i x hx
              exact s_expr (An.oe sc e x hx X G.toGood).1 (sw_false (tg := e) hx (by simpa using hl)).2
            · exact never_S
        cases e with
        | Constant kk j p =>
          cases kk with
          | str x =>
            rw [cS]
            exact s_next ps_doc
          | _ =>
            simp only [cS]
            exact go _ rfl
        | _ =>
          simp only [cS]
          exact go _ rfl
      | Return e pos =>
        cases e with
        | none =>
          rw [cS]
          exact s_retN
        | some e =>
          simp only [cS]
          split
          · rename_i x hx
            exact s_ret (An.oe sc e x hx X G.toGood).1
          · exact never_S
      | Pass pos =>
        rw [cS]
        exact s_next ps_pass
      | Break pos =>
        rw [cS]
        exact s_brk
      | Continue pos =>
        rw [cS]
        exact s_cont
      | If t a b pos =>
        simp only [cS]
        split
        · rename_i x hx
          exact s_if (An.oe sc t x hx X G.toGood).2 (ih.2 a) (ih.2 b)
        · exact never_S
      | While t b els pos =>
        cases els with
        | nil =>
          simp only [cS]
          split
          · rename_i x hx
            exact s_while G (An.oe sc t x hx X G.toGood).2 (ih.2 b)
          · exact never_S
        | cons _ _ =>
          simp only [cS]
          exact never_S
      | For tg iter b els pos =>
        cases els with
        | nil =>
          simp only [cS]
          split
          · rename_i it t hi ht
            have p1 : PI X tg iter (rI X.K (T.ctx k) it) := An.oi sc _ iter it hi X G.toGood tg fun q => by
              unfold isTupE at q
              split at q
              · exact ⟨_, _, _, rfl⟩
              · cases q
            exact s_for G p1 (s_tg G.nm G.nd G.calm G.tg 9 tg t ht) (ih.2 b) (set_iter hi X.env)
          · exact never_S
        | cons _ _ =>
          simp only [cS]
          exact never_S
      | AugAssign tg op e pos =>
        cases tg with
        | Name x p =>
          simp only [cS]
          split
          · rename_i o i y ho hi hy
            split
            · rename_i hl
              exact s_aug G ho hi hl (An.oe sc e y hy X G.toGood).1
            · exact never_S
          · exact never_S
        | _ =>
          simp only [cS]
          exact never_S
      | Assign tgs e pos =>
        match tgs with
        | [tg] =>
          rw [cS]
          exact ok_assign G
        | [] =>
          simp only [cS]
          exact never_S
        | _ :: _ :: _ =>
          simp only [cS]
          exact never_S
      | _ =>
        simp only [cS]
        exact never_S
    · cases ss with
      | nil =>
        rw [cSs]
        exact ss_nil
      | cons s ss =>
        rw [cSs]
        exact ss_cons (ih.1 s) (ih.2 ss)
end
end Pi

/-! The defs of a text, all at once. -/
namespace Pi
open PySem PySem.Spec PyProof.Rows L2

structure DefOk (K : PySem.W.Frag) (mg : Str → Option Value) (T : Tb) (fns gls : List Str) (fl : List Nat) (fuel : Nat) (f : Str) (d : DefI) (st : Stmt) : Prop where
  find : T.find f = some d
  fn : ∃ fa fd, mg f = some (.ref fa) ∧ PySem.W.keepIn K (.ref fa) = true ∧ Fun K f f st fa fd ∧ ∀ us : List Value, us.length = d.ps.length → bindArgs fd ⟨us, []⟩ = pure (d.ps.zip us)
  sc : FnScope d.N d.ps (defScope st)
  body : d.body = cSs ⟨d.N, fns, gls, d.mu, fl⟩ fuel (defScope st) (defBody st)
section
variable {P : Program} {w : World} {K : PySem.W.Frag} {mg : Str → Option Value} {base : Heap} {T : Tb} {fns gls : List Str} {fl : List Nat} {fuel : Nat}
theorem start_rel {m : Mp} {H : Hp} {ds : List D} {vs : List V} (h : RelDs K m H ds vs) (N : List Str) : RelEnv K m H (startE N ds) (L2.start N vs) := by
  have hl := h.length
  unfold startE L2.start
  refine ⟨by simp [hl], fun i d e => ?_⟩
  rw [List.getElem?_append] at e
  rw [List.length_map] at e
  split at e
  · rename_i hi
    rw [List.getElem?_map] at e
    simp only [Option.map_eq_some_iff] at e
    obtain ⟨a, ha, q⟩ := e
    cases q
    obtain ⟨v, hv, r⟩ := h.get ha
    refine ⟨v, ?_, r⟩
    rw [List.getElem?_append_left (by rw [List.length_map, hl]; exact hi), List.getElem?_map, hv]
    rfl
  · rw [List.getElem?_replicate] at e
    split at e <;> cases e
theorem callK_zero (f : Str) (ds : List D) (S : Sto) : callK T 0 f ds S = .bad := rfl
theorem callK_inv {k : Nat} {f : Str} {ds : List D} {S S' : Sto} {d : D} {di : DefI} (hd : T.find f = some di) (h : callK T (k + 1) f ds S = .ok d S') :
    ds.length = di.ps.length ∧ ∃ r, evSs (T.ctx k) di.body (startE di.N ds) S = .ok r S' ∧ (r = .ret d ∨ ∃ e, r = .nx e ∧ d = .non) := by
  rw [callK] at h
  rw [hd] at h
  dsimp only at h
  split at h
  · rename_i hl
    refine ⟨hl, ?_⟩
    show ∃ r, evSs ⟨callK T k, fun x => T.gl.lookup x, T.wf⟩ di.body (startE di.N ds) S = .ok r S' ∧ _
    cases e : evSs ⟨callK T k, fun x => T.gl.lookup x, T.wf⟩ di.body (startE di.N ds) S with
    | bad => rw [e] at h; cases h
    | err _ _ _ => rw [e] at h; cases h
    | ok r S1 =>
      rw [e] at h
      cases r with
      | ret v => cases h; exact ⟨_, rfl, .inl rfl⟩
      | nx en => cases h; exact ⟨_, rfl, .inr ⟨_, rfl, rfl⟩⟩
      | brk _ => cases h
      | cont _ => cases h
  · cases h
theorem def_step {k : Nat} (hF : ∀ N mu, Facts K mg T ⟨N, fns, gls, mu, fl⟩) (ih : ∀ N mu, CallsOk P w K mg base T k ⟨N, fns, gls, mu, fl⟩) {f : Str} {d : DefI} {st : Stmt} {fa : Addr} {fd : FuncData} (hfind : T.find f = some d) (hsc : FnScope d.N d.ps (defScope st))
    (hbody : d.body = cSs ⟨d.N, fns, gls, d.mu, fl⟩ fuel (defScope st) (defBody st)) (h3 : Fun K f f st fa fd) : FnOk P w K mg base CX0 (k + 1) fa fd d.ps (spE K T (k + 1) f) := by
  refine h3.ok hsc (fun vs H Q E ⟨m, S, ds, r, S', _, rd, e, _⟩ => ?_) (fun cdv A outer s H vs Q E hr hsp => ?_)
  · obtain ⟨hl, _⟩ := callK_inv hfind e
    rw [rd.length, hl]
  · obtain ⟨m, S, ds, r, S', st', rd, e, p⟩ := hsp
    obtain ⟨hl, flw, ev, hfl⟩ := callK_inv hfind e
    have hG : GoodS T k ⟨d.N, fns, gls, d.mu, fl⟩ (defScope st) (cxOf CX0 P w K mg base d.N f (defScope st) fa cdv A outer s H E).nox :=
      { nm := rfl, sco := rfl, calm := rfl, room := hr, nd := hsc.nd, facts := hF d.N d.mu, calls := ih d.N d.mu, hp := PassesOwn.never, tg := fun x hx => ⟨isLoc_spec hx, .inl rfl⟩, kd := hsc.kind }
    refine ⟨_, (stmts_ok T k ⟨d.N, fns, gls, d.mu, fl⟩ (defScope st) _ hG fuel).2 (defBody st), ?_⟩
    refine ⟨m, startE d.N ds, S, flw, S', st', start_rel rd d.N, ?_, ?_⟩
    · rw [← hbody]
      exact ev
    · rcases hfl with rfl | ⟨en, rfl, rfl⟩
      · exact p
      · exact fun m' σ' H' l s r => p m' .non H' l s (by rw [RelD])
theorem defs_ok (hF : ∀ N mu, Facts K mg T ⟨N, fns, gls, mu, fl⟩) (hd : ∀ f, fns.contains f = true → ∃ d st, DefOk K mg T fns gls fl fuel f d st) :
    ∀ k N mu, CallsOk P w K mg base T k ⟨N, fns, gls, mu, fl⟩ := by
  intro k
  induction k with
  | zero =>
    intro N mu
    refine ⟨fun f hf => ?_⟩
    obtain ⟨d, st, D⟩ := hd f hf
    obtain ⟨fa, fd, h1, h2, h3, h4⟩ := D.fn
    refine ⟨d.ps, fa, fd, h1, h2, .all h4, ⟨fun vs H Q E ⟨m, S, ds, r, S', _, _, e, _⟩ => ?_, fun A outer s H args us vs Q E _ _ _ _ ⟨m, S, ds, r, S', _, _, e, _⟩ => ?_⟩⟩
    · rw [callK_zero] at e
      cases e
    · rw [callK_zero] at e
      cases e
  | succ k ih =>
    intro N mu
    refine ⟨fun f hf => ?_⟩
    obtain ⟨d, st, D⟩ := hd f hf
    obtain ⟨fa, fd, h1, h2, h3, h4⟩ := D.fn
    exact ⟨d.ps, fa, fd, h1, h2, .all h4, def_step hF ih D.find D.sc D.body h3⟩
theorem fun_binds {x qual : Str} {st : Stmt} {f : Addr} {fd : FuncData} {ps : List Str} (F : Fun K x qual st f fd)
    (h : ∀ (kV doc pm : Value) (an : Option Addr) (cdv ct : Value) (us : List Value), us.length = ps.length → bindArgs (PySem.W.fnOf x qual (defArgs st) (defBody st) (defScope st) .none kV doc pm an cdv ct) ⟨us, []⟩ = pure (ps.zip us)) :
    ∀ us : List Value, us.length = ps.length → bindArgs fd ⟨us, []⟩ = pure (ps.zip us) := by
  obtain ⟨oc, od, kV, doc, pm, an, cdv, ct, osl, rfl, lk, hcd⟩ := F.ex
  exact h kV doc pm an cdv ct
/-- the law, as the evaluator runs it -/
def LawTrue (T : Tb) (k : Nat) (f : Str) (n : Nat) : Prop := ∀ ns : List Int, ns.length ≤ n → ∃ S', callK T k f [.clst (ns.map .int)] [] = .ok (.bl true) S'
theorem law_sp {K : PySem.W.Frag} {T : Tb} {k : Nat} {f : Str} {n : Nat} (L : LawTrue T k f n) (H : Hp) (a : Addr) (ns : List Int) (hl : ns.length ≤ n) (hO : Only H) (hS : SqL K H a (ns.map V.int)) :
    spE K T k f [.ref a] H (fun v _ => v = .bl true) (fun _ _ _ => False) := by
  obtain ⟨S', e⟩ := L ns hl
  refine ⟨fun _ => none, [], [.clst (ns.map .int)], .bl true, S', ⟨(fun _ _ h => by cases h), (fun _ _ _ h => by cases h), (fun n o h => by simp at h)⟩, relDs_cons ?_ relDs_nil, e, fun m' v H' _ _ r => relD_bl r⟩
  rw [RelD]
  refine ⟨a, ns.map V.int, rfl, ?_, relDs_ints ns⟩
  rcases hS with (h | h) | h
  · rcases hO a with q | ⟨o, xs, q⟩
    · rw [h] at q; cases q
    · rw [h] at q; cases q
  · exact .inl h
  · exact .inr h
theorem law_walk {l : PySem.W.OpenLaw} {n k fuel : Nat} {q : Program} {loose : List Str} {XP : (Str → Option Value) → Heap → Prop} {YP : World → Heap → Prop} {d : DefRec} {KK : Params → PySem.W.Frag} {T : Tb} {fns gls : List Str} {fl : List Nat} {x f : Str} {di : DefI}
    (hn : l.most = some n) (hn2 : n ≤ sizeLine) (hdf : d.params.defaults = []) (hr : Room (k + 1) callerA) (hname : d.name = f) (hf : fns.contains f = true) (hdi : T.find f = some di) (hps : di.ps = [x])
    (hY : ∀ (w : World) (h : Heap), YP w h → (KK w.params).In h)
    (F : ∀ (w : World) (mg : Str → Option Value) (h : Heap), (KK w.params).In h → h.Ns mainGlobals mg → (∀ N mu, Facts (KK w.params) mg T ⟨N, fns, gls, mu, fl⟩) ∧ ∀ f, fns.contains f = true → ∃ d st, DefOk (KK w.params) mg T fns gls fl fuel f d st)
    (L : LawTrue T (k + 1) f n) :
    PySem.W.WalkO q loose XP YP l.row.toRowW d [] (fun f vs => PySem.call f vs) := by
  subst hname
  refine walk_of (n := n) (k := k + 1) (x := x) (CX := fun _ => CX0) (sp := fun w => spE (KK w.params) T (k + 1) d.name) hn hn2 hdf hr hY (fun w mg fa h KX G hmg => ?_) (fun w H a ns hl hO hS => law_sp L H a ns hl hO hS) fun _ _ _ _ _ z => z
  obtain ⟨hF, hD⟩ := F w mg h KX G
  obtain ⟨d2, st, D⟩ := hD d.name hf
  obtain ⟨fa', fd, h1, h2, h3, h4⟩ := D.fn
  rw [hmg] at h1
  cases h1
  have e : d2 = di := by
    have := D.find
    rw [hdi] at this
    cases this
    rfl
  subst e
  refine ⟨fd, fun s u => .of_eq ?_, fun base hb hns => ?_⟩
  · have := h4 [u] (by rw [hps]; rfl)
    rw [hps] at this
    exact this
  · rw [← hps]
    exact def_step hF (defs_ok hF hD k) D.find D.sc D.body h3
end
end Pi

/-! The end: what a law's file says of the text. -/
namespace Pi
open PySem PySem.Spec PyProof.Rows L2

structure DefIn (K : PySem.W.Frag) (f : Str) (st : Stmt) : Prop where
  ex : ∃ (fa : Addr) (oc : Value) (od : Option Addr) (kV doc pm : Value) (an : Option Addr) (cdv ct : Value) (sl : Array (Option Value)),
    PySem.W.nsIn K mainGlobals f = some (some (.ref fa)) ∧ K.lookup fa = some ⟨oc, od, .func (PySem.W.fnOf f f (defArgs st) (defBody st) (defScope st) .none kV doc pm an cdv ct), sl⟩ ∧ PySem.W.codeIn K cdv f = true ∧ PySem.W.keepIn K (.ref fa) = true
theorem defIn_mk {K : PySem.W.Frag} {f : Str} {st : Stmt} {fa : Addr} {oc : Value} {od : Option Addr} {kV doc pm : Value} {an : Option Addr} {cdv ct : Value} {sl : Array (Option Value)}
    (a : PySem.W.nsIn K mainGlobals f = some (some (.ref fa))) (l : K.lookup fa = some ⟨oc, od, .func (PySem.W.fnOf f f (defArgs st) (defBody st) (defScope st) .none kV doc pm an cdv ct), sl⟩) (c : PySem.W.codeIn K cdv f = true) (k : PySem.W.keepIn K (.ref fa) = true) : DefIn K f st :=
  ⟨⟨fa, oc, od, kV, doc, pm, an, cdv, ct, sl, a, l, c, k⟩⟩
section
variable {K : PySem.W.Frag} {h : Heap} {mg : Str → Option Value} {T : Tb} {fns gls : List Str} {fl : List Nat} {fuel : Nat}
theorem defOk_of (X : K.In h) (G : h.Ns mainGlobals mg) {f : Str} {st : Stmt} {d : DefI} (D : DefIn K f st) (find : T.find f = some d) (sc : FnScope d.N d.ps (defScope st)) (body : d.body = cSs ⟨d.N, fns, gls, d.mu, fl⟩ fuel (defScope st) (defBody st))
    (bnd : ∀ (kV doc pm : Value) (an : Option Addr) (cdv ct : Value) (us : List Value), us.length = d.ps.length → bindArgs (PySem.W.fnOf f f (defArgs st) (defBody st) (defScope st) .none kV doc pm an cdv ct) ⟨us, []⟩ = pure (d.ps.zip us)) : DefOk K mg T fns gls fl fuel f d st := by
  obtain ⟨fa, oc, od, kV, doc, pm, an, cdv, ct, sl, e1, e2, e3, e4⟩ := D.ex
  have F := fun_mk (st := st) e2 e3 e4
  exact ⟨find, ⟨fa, _, PySem.W.mg_of X G e1, e4, F, bnd kV doc pm an cdv ct⟩, sc, body⟩
theorem facts_of (X : K.In h) (G : h.Ns mainGlobals mg) (hb : ∀ x ∈ blNames, PySem.W.nsIn K mainGlobals x = some none)
    (hg : ∀ x, gls.contains x = true → ∃ d v u, T.gl.lookup x = some d ∧ PySem.W.nsIn K mainGlobals x = some (some u) ∧ RelV v u ∧ ∀ m H, RelD K m H d v) (N mu : List Str) : Facts K mg T ⟨N, fns, gls, mu, fl⟩ :=
  ⟨fun x hx _ _ => PySem.W.mg_none_of X G (hb x hx), fun x hx => by
    obtain ⟨d, v, u, e1, e2, e3, e4⟩ := hg x hx
    exact ⟨d, v, u, e1, PySem.W.mg_of X G e2, e3, e4⟩⟩
/-- a whole number as a constant of the text -/
theorem gl_int {x : Str} {i : Int} {t : Tok} (e1 : T.gl.lookup x = some (.int i)) (e2 : PySem.W.nsIn K mainGlobals x = some (some (.int i t))) : ∃ d v u, T.gl.lookup x = some d ∧ PySem.W.nsIn K mainGlobals x = some (some u) ∧ RelV v u ∧ ∀ m H, RelD K m H d v :=
  ⟨.int i, .int i, .int i t, e1, e2, ⟨t, rfl⟩, fun m H => by rw [RelD]⟩
theorem each_nil {P : Str → Prop} {x : Str} (h : ([] : List Str).contains x = true) : P x := by simp at h
theorem each_cons {P : Str → Prop} {a : Str} {l : List Str} (ha : P a) (hl : ∀ x, l.contains x = true → P x) : ∀ x, (a :: l).contains x = true → P x := by
  intro x h
  rw [List.contains_cons, Bool.or_eq_true] at h
  rcases h with h | h
  · have := eq_of_beq h
    subst this
    exact ha
  · exact hl x h
theorem all_cons {P : Str → Prop} {a : Str} {l : List Str} (ha : P a) (hl : ∀ x ∈ l, P x) : ∀ x ∈ a :: l, P x := by
  intro x h
  rcases List.mem_cons.mp h with rfl | h
  · exact ha
  · exact hl x h
end
end Pi

/-! What a run of the evaluator ends in. -/
namespace Pi
open PySem

abbrev XP := Str → List (Str × D) → Sto → Prop
def NoX : XP := fun _ _ _ => False
/-- a run ends well, with Q, or raises, with E -/
def Wp {α : Type} (m : M α) (S : Sto) (Q : α → Sto → Prop) (E : XP) : Prop := match m S with
  | .ok a S' => Q a S'
  | .err c fs S' => E c fs S'
  | .bad => False
section
variable {α β : Type}
theorem wp_ap (m : M α) (S : Sto) (Q : α → Sto → Prop) (E : XP) : Wp m S Q E = (match m S with | .ok a S' => Q a S' | .err c fs S' => E c fs S' | .bad => False) := rfl
theorem Wp.mono {m : M α} {S : Sto} {Q Q' : α → Sto → Prop} {E : XP} (h : Wp m S Q E) (i : ∀ a S', Q a S' → Q' a S') : Wp m S Q' E := by
  rw [wp_ap] at h ⊢
  cases e : m S with
  | ok a S' => rw [e] at h; exact i a S' h
  | err c fs S' => rw [e] at h; exact h
  | bad => rw [e] at h; exact h
theorem Wp.monoE {m : M α} {S : Sto} {Q Q' : α → Sto → Prop} {E E' : XP} (h : Wp m S Q E) (i : ∀ a S', Q a S' → Q' a S') (i' : ∀ c fs S', E c fs S' → E' c fs S') : Wp m S Q' E' := by
  rw [wp_ap] at h ⊢
  cases e : m S with
  | ok a S' => rw [e] at h; exact i a S' h
  | err c fs S' => rw [e] at h; exact i' c fs S' h
  | bad => rw [e] at h; exact h
theorem wp_pure (a : α) (S : Sto) (Q : α → Sto → Prop) (E : XP) : Wp (pure a) S Q E = Q a S := rfl
theorem wp_bind (m : M α) (f : α → M β) (S : Sto) (Q : β → Sto → Prop) (E : XP) : Wp (m >>= f) S Q E = Wp m S (fun a S' => Wp (f a) S' Q E) E := by
  rw [wp_ap, wp_ap, bind_ap]
  cases m S <;> rfl
theorem wp_bad (S : Sto) (Q : α → Sto → Prop) (E : XP) : Wp (bad : M α) S Q E = False := rfl
theorem wp_ite (c : Prop) [Decidable c] (m m' : M α) (S : Sto) (Q : α → Sto → Prop) (E : XP) : Wp (if c then m else m') S Q E = (if c then Wp m S Q E else Wp m' S Q E) := by
  split <;> rfl
theorem wp_chk (b : Bool) (S : Sto) (Q : Unit → Sto → Prop) (E : XP) : Wp (chk b) S Q E = (b = true ∧ Q () S) := by
  rw [wp_ap]
  unfold chk
  cases b <;> simp
theorem wp_new (o : Ob) (S : Sto) (Q : D → Sto → Prop) (E : XP) : Wp (newO o) S Q E = Q (.ref S.length) (S ++ [o]) := rfl
/-- what is made fast -/
def FzQ (S : Sto) (Q : D → Sto → Prop) : D → Sto → Prop := fun d S1 => Kept S S1 ∧ ∃ d', frzD depthP S.length S1 d = some d' ∧ Q d' (S1.take S.length)
def FzE (S : Sto) (E : XP) : XP := fun c fs S1 => (Kept S S1 ∧ ∀ p ∈ fs, fine S.length p.2 = true) ∧ E c fs (S1.take S.length)
theorem wp_fzM (m : M D) (S : Sto) (Q : D → Sto → Prop) (E : XP) : Wp (fzM m) S Q E = Wp m S (FzQ S Q) (FzE S E) := by
  rw [wp_ap, wp_ap]
  unfold fzM
  cases m S with
  | ok d S1 =>
    dsimp only
    apply propext
    unfold FzQ
    split
    · rename_i d0 S0 h
      split at h
      · rename_i hk
        split at h
        · rename_i d' hd
          cases h
          exact ⟨fun q => ⟨hk, _, hd, q⟩, fun ⟨_, d2, h2, q⟩ => by rw [hd] at h2; cases h2; exact q⟩
        · cases h
      · cases h
    · rename_i h
      split at h
      · split at h <;> cases h
      · cases h
    · rename_i h
      split at h
      · rename_i hk
        split at h
        · cases h
        · rename_i hd
          exact ⟨False.elim, fun ⟨_, d2, h2, q⟩ => by rw [hd] at h2; cases h2⟩
      · rename_i hk
        exact ⟨False.elim, fun ⟨h1, _⟩ => hk h1⟩
  | err c fs S1 =>
    dsimp only
    unfold FzE
    split
    · rename_i h
      split at h <;> cases h
    · rename_i h
      split at h
      · rename_i hk
        cases h
        exact propext ⟨fun q => ⟨hk, q⟩, fun q => q.2⟩
      · cases h
    · rename_i h
      split at h
      · cases h
      · rename_i hk
        exact propext ⟨False.elim, fun q => hk q.1⟩
  | bad => rfl
end

/-! ### expressions -/
section
variable (C : Ctx) (S : Sto) (env : Env)
theorem wp_var (i : Nat) (Q : D → Sto → Prop) (E : XP) : Wp (evE C (.var i) env) S Q E = (match env[i]? with | some (some d) => Q d S | _ => False) := by
  rw [wp_ap, evE]
  dsimp only
  cases env[i]? with
  | none => rfl
  | some o => cases o <;> rfl
theorem wp_lit (d : D) (Q : D → Sto → Prop) (E : XP) : Wp (evE C (.lit d) env) S Q E = Q d S := by
  rw [evE, wp_pure]
theorem wp_glob (x : Str) (Q : D → Sto → Prop) (E : XP) : Wp (evE C (.glob x) env) S Q E = (match C.gl x with | some d => Q d S | none => False) := by
  rw [wp_ap, evE]
  dsimp only
  cases C.gl x <;> rfl
theorem wp_bin (op : BOp) (a b : E) (Q : D → Sto → Prop) (E : XP) : Wp (evE C (.bin op a b) env) S Q E = Wp (evE C a env) S (fun x S1 => Wp (evE C b env) S1 (fun y S2 => Wp (binop op x y) S2 Q E) E) E := by
  rw [evE]
  simp only [wp_bind]
theorem wp_neg (a : E) (Q : D → Sto → Prop) (E : XP) : Wp (evE C (.neg a) env) S Q E = Wp (evE C a env) S (fun x S1 => match x with | .int i => Q (.int (-i)) S1 | _ => False) E := by
  rw [evE]
  simp only [wp_bind]
  congr 1
  funext x S1
  cases x <;> simp only [wp_pure, wp_bad]
theorem wp_not (a : E) (Q : D → Sto → Prop) (E : XP) : Wp (evE C (.not a) env) S Q E = Wp (evE C a env) S (fun x S1 => Wp (truth x) S1 (fun b S2 => Q (.bl (!b)) S2) E) E := by
  rw [evE]
  simp only [wp_bind, wp_pure]
theorem wp_and (a b : E) (Q : D → Sto → Prop) (E : XP) : Wp (evE C (.and a b) env) S Q E = Wp (evE C a env) S (fun x S1 => Wp (truth x) S1 (fun t S2 => if t = true then Wp (evE C b env) S2 Q E else Q x S2) E) E := by
  rw [evE]
  simp only [wp_bind, wp_pure, wp_ite]
theorem wp_or (a b : E) (Q : D → Sto → Prop) (E : XP) : Wp (evE C (.or a b) env) S Q E = Wp (evE C a env) S (fun x S1 => Wp (truth x) S1 (fun t S2 => if t = true then Q x S2 else Wp (evE C b env) S2 Q E) E) E := by
  rw [evE]
  simp only [wp_bind, wp_pure, wp_ite]
theorem wp_cmp (op : COp) (a b : E) (Q : D → Sto → Prop) (E : XP) : Wp (evE C (.cmp op a b) env) S Q E = Wp (evE C a env) S (fun x S1 => Wp (evE C b env) S1 (fun y S2 => Wp (cmpop op x y) S2 (fun c S3 => Q (.bl c) S3) E) E) E := by
  rw [evE]
  simp only [wp_bind, wp_pure]
theorem wp_cmp2 (o p : COp) (a b c : E) (Q : D → Sto → Prop) (E : XP) : Wp (evE C (.cmp2 o p a b c) env) S Q E = Wp (evE C a env) S (fun x S1 => Wp (evE C b env) S1 (fun y S2 => Wp (cmpop o x y) S2 (fun t S3 => if t = true then Wp (evE C c env) S3 (fun z S4 => Wp (cmpop p y z) S4 (fun r S5 => Q (.bl r) S5) E) E else Q (.bl false) S3) E) E) E := by
  rw [evE]
  simp only [wp_bind, wp_pure, wp_ite]
theorem wp_iteE (c a b : E) (Q : D → Sto → Prop) (E : XP) : Wp (evE C (.ite c a b) env) S Q E = Wp (evT C c env) S (fun t S1 => if t = true then Wp (evE C a env) S1 Q E else Wp (evE C b env) S1 Q E) E := by
  rw [evE]
  simp only [wp_bind, wp_ite]
theorem wp_tup (es : List E) (Q : D → Sto → Prop) (E : XP) : Wp (evE C (.tup es) env) S Q E = Wp (evEs C es env) S (fun xs S1 => xs.length ≤ sizeLine ∧ Q (.tup xs) S1) E := by
  rw [evE]
  simp only [wp_bind, wp_pure, wp_chk, decide_eq_true_eq]
theorem wp_lst (es : List E) (Q : D → Sto → Prop) (E : XP) : Wp (evE C (.lst es) env) S Q E = Wp (evEs C es env) S (fun xs S1 => xs.length ≤ sizeLine ∧ Q (.ref S1.length) (S1 ++ [.lst xs])) E := by
  rw [evE]
  simp only [wp_bind, wp_chk, decide_eq_true_eq, wp_new]
theorem wp_call (f : Str) (es : List E) (Q : D → Sto → Prop) (E : XP) : Wp (evE C (.call f es) env) S Q E = Wp (evEs C es env) S (fun xs S1 => Wp (fzM (C.cf f xs)) S1 Q E) E := by
  rw [evE]
  simp only [wp_bind]
theorem wp_bi (f : BI) (es : List E) (Q : D → Sto → Prop) (E : XP) : Wp (evE C (.bi f es) env) S Q E = Wp (evEs C es env) S (fun xs S1 => Wp (builtin f xs) S1 Q E) E := by
  rw [evE]
  simp only [wp_bind]
theorem wp_isi (e : E) (ts : List String) (Q : D → Sto → Prop) (E : XP) : Wp (evE C (.isi e ts) env) S Q E = Wp (evE C e env) S (fun x S1 => Wp (isinst x ts) S1 (fun b S2 => Q (.bl b) S2) E) E := by
  rw [evE]
  simp only [wp_bind, wp_pure]
theorem wp_idx (a i : E) (Q : D → Sto → Prop) (E : XP) : Wp (evE C (.idx a i) env) S Q E = Wp (evE C a env) S (fun x S1 => Wp (evE C i env) S1 (fun y S2 => Wp (index x y) S2 Q E) E) E := by
  rw [evE]
  simp only [wp_bind]
theorem wp_slice (a : E) (lo hi : Option E) (Q : D → Sto → Prop) (E : XP) : Wp (evE C (.slice a lo hi) env) S Q E = Wp (evE C a env) S (fun x S1 => Wp (evO C lo env) S1 (fun l S2 => Wp (evO C hi env) S2 (fun h S3 => Wp (part l) S3 (fun l' S4 => Wp (part h) S4 (fun h' S5 => Wp (sliceOf x l' h') S5 Q E) E) E) E) E) E := by
  rw [evE]
  simp only [wp_bind]
theorem wp_meth (m : MT) (o : E) (es : List E) (Q : D → Sto → Prop) (E : XP) : Wp (evE C (.meth m o es) env) S Q E = Wp (evE C o env) S (fun x S1 => Wp (recv m x) S1 (fun _ S2 => Wp (evEs C es env) S2 (fun xs S3 => Wp (method m x xs) S3 Q E) E) E) E := by
  rw [evE]
  simp only [wp_bind]
theorem wp_lrange (es : List E) (Q : D → Sto → Prop) (E : XP) : Wp (evE C (.lrange es) env) S Q E = Wp (evEs C es env) S (fun xs S1 => match rangeOf xs with | some p => rgOk p.1 p.2 = true ∧ Q (.ref S1.length) (S1 ++ [.lst (rangeL p.1 p.2)]) | none => False) E := by
  rw [evE]
  simp only [wp_bind]
  congr 1
  funext xs S1
  cases rangeOf xs <;> simp only [wp_bind, wp_chk, wp_new, wp_bad]
theorem wp_trange (es : List E) (Q : D → Sto → Prop) (E : XP) : Wp (evE C (.trange es) env) S Q E = Wp (evEs C es env) S (fun xs S1 => match rangeOf xs with | some p => rgOk p.1 p.2 = true ∧ Q (.tup (rangeL p.1 p.2)) S1 | none => False) E := by
  rw [evE]
  simp only [wp_bind]
  congr 1
  funext xs S1
  cases rangeOf xs <;> simp only [wp_bind, wp_chk, wp_pure, wp_bad]
theorem wp_tdown (es : List E) (Q : D → Sto → Prop) (E : XP) : Wp (evE C (.tdown es) env) S Q E = Wp (evEs C es env) S (fun xs S1 => match rangeOf xs with | some p => dnOk p.1 p.2 = true ∧ Q (.tup (downL p.1 p.2)) S1 | none => False) E := by
  rw [evE]
  simp only [wp_bind]
  congr 1
  funext xs S1
  cases rangeOf xs <;> simp only [wp_bind, wp_chk, wp_pure, wp_bad]
noncomputable def compB (C : Ctx) (own : List Nat) (t : Tg) (cs : List E) (elt : E) (env : Env) (x : D) : M (Option D) := match put t x (wipe env own) with
  | some env' => do
    let b ← evTs C cs env'
    if b then do
      let y ← evE C elt env'
      pure (some y)
    else pure none
  | none => bad
theorem wp_comp (own : List Nat) (t : Tg) (it : It) (cs : List E) (elt : E) (Q : D → Sto → Prop) (E : XP) : Wp (evE C (.comp own t it cs elt) env) S Q E = Wp (evI C it env) S (fun J S1 => Wp (compLoop J.get (compB C own t cs elt env) (J.n + 1) 0 []) S1 (fun l S2 => Q (.ref S2.length) (S2 ++ [.lst l])) E) E := by
  rw [evE]
  simp only [wp_bind, wp_new]
  rfl
theorem wp_compB (own : List Nat) (t : Tg) (cs : List E) (elt : E) (x : D) (Q : Option D → Sto → Prop) (E : XP) : Wp (compB C own t cs elt env x) S Q E = (match put t x (wipe env own) with | some env' => Wp (evTs C cs env') S (fun b S1 => if b = true then Wp (evE C elt env') S1 (fun y S2 => Q (some y) S2) E else Q none S1) E | none => False) := by
  unfold compB
  cases put t x (wipe env own) <;> simp only [wp_bind, wp_ite, wp_pure, wp_bad]
theorem wp_rngv (es : List E) (Q : D → Sto → Prop) (E : XP) : Wp (evE C (.rngv es) env) S Q E = Wp (evEs C es env) S (fun xs S1 => match rangeOf xs with | some p => rgOk p.1 p.2 = true ∧ Q (.rng p.1 p.2) S1 | none => False) E := by
  rw [evE]
  simp only [wp_bind]
  congr 1
  funext xs S1
  cases rangeOf xs <;> simp only [wp_bind, wp_chk, wp_pure, wp_bad]
noncomputable def comp2B (C : Ctx) (own : List Nat) (t : Tg) (it1 : It) (own1 : List Nat) (t1 : Tg) (cs : List E) (elt : E) (env : Env) (x : D) (acc : List D) : M (List D) := match put t x (wipe env own) with
  | some env' => do
    let J1 ← evI C it1 env'
    compLoop J1.get (compB C own1 t1 cs elt env') (J1.n + 1) 0 acc
  | none => bad
theorem wp_comp2 (own : List Nat) (t : Tg) (it : It) (own1 : List Nat) (t1 : Tg) (it1 : It) (cs : List E) (elt : E) (Q : D → Sto → Prop) (E : XP) : Wp (evE C (.comp2 own t it own1 t1 it1 cs elt) env) S Q E = Wp (evI C it env) S (fun J S1 => Wp (comp2Loop J.get (comp2B C own t it1 own1 t1 cs elt env) (J.n + 1) 0 []) S1 (fun l S2 => Q (.ref S2.length) (S2 ++ [.lst l])) E) E := by
  rw [evE]
  simp only [wp_bind, wp_new]
  rfl
theorem wp_comp2B (own : List Nat) (t : Tg) (it1 : It) (own1 : List Nat) (t1 : Tg) (cs : List E) (elt : E) (x : D) (acc : List D) (Q : List D → Sto → Prop) (E : XP) : Wp (comp2B C own t it1 own1 t1 cs elt env x acc) S Q E = (match put t x (wipe env own) with | some env' => Wp (evI C it1 env') S (fun J1 S1 => Wp (compLoop J1.get (compB C own1 t1 cs elt env') (J1.n + 1) 0 acc) S1 Q E) E | none => False) := by
  unfold comp2B
  cases put t x (wipe env own) <;> simp only [wp_bind, wp_bad]
theorem wp_es_nil (Q : List D → Sto → Prop) (E : XP) : Wp (evEs C [] env) S Q E = Q [] S := by
  rw [evEs, wp_pure]
theorem wp_es_cons (e : E) (es : List E) (Q : List D → Sto → Prop) (E : XP) : Wp (evEs C (e :: es) env) S Q E = Wp (evE C e env) S (fun x S1 => Wp (evEs C es env) S1 (fun xs S2 => Q (x :: xs) S2) E) E := by
  rw [evEs]
  simp only [wp_bind, wp_pure]
theorem wp_o_none (Q : Option D → Sto → Prop) (E : XP) : Wp (evO C none env) S Q E = Q none S := by
  rw [evO, wp_pure]
theorem wp_o_some (e : E) (Q : Option D → Sto → Prop) (E : XP) : Wp (evO C (some e) env) S Q E = Wp (evE C e env) S (fun x S1 => Q (some x) S1) E := by
  rw [evO]
  simp only [wp_bind, wp_pure]
theorem wp_ts_nil (Q : Bool → Sto → Prop) (E : XP) : Wp (evTs C [] env) S Q E = Q true S := by
  rw [evTs, wp_pure]
theorem wp_ts_one (e : E) (Q : Bool → Sto → Prop) (E : XP) : Wp (evTs C [e] env) S Q E = Wp (evT C e env) S Q E := by
  rw [evTs]
/-! tests -/
theorem wt_not (a : E) (Q : Bool → Sto → Prop) (E : XP) : Wp (evT C (.not a) env) S Q E = Wp (evT C a env) S (fun b S1 => Q (!b) S1) E := by
  rw [evT]
  simp only [wp_bind, wp_pure]
theorem wt_and (a b : E) (Q : Bool → Sto → Prop) (E : XP) : Wp (evT C (.and a b) env) S Q E = Wp (evT C a env) S (fun x S1 => if x = true then Wp (evT C b env) S1 Q E else Q false S1) E := by
  rw [evT]
  simp only [wp_bind, wp_pure, wp_ite]
theorem wt_or (a b : E) (Q : Bool → Sto → Prop) (E : XP) : Wp (evT C (.or a b) env) S Q E = Wp (evT C a env) S (fun x S1 => if x = true then Q true S1 else Wp (evT C b env) S1 Q E) E := by
  rw [evT]
  simp only [wp_bind, wp_pure, wp_ite]
theorem wt_cmp (op : COp) (a b : E) (Q : Bool → Sto → Prop) (E : XP) : Wp (evT C (.cmp op a b) env) S Q E = Wp (evE C a env) S (fun x S1 => Wp (evE C b env) S1 (fun y S2 => Wp (cmpop op x y) S2 Q E) E) E := by
  rw [evT]
  simp only [wp_bind]
theorem wt_ite (c a b : E) (Q : Bool → Sto → Prop) (E : XP) : Wp (evT C (.ite c a b) env) S Q E = Wp (evT C c env) S (fun t S1 => if t = true then Wp (evT C a env) S1 Q E else Wp (evT C b env) S1 Q E) E := by
  rw [evT]
  simp only [wp_bind, wp_ite]
theorem wt_var (i : Nat) (Q : Bool → Sto → Prop) (E : XP) : Wp (evT C (.var i) env) S Q E = Wp (evE C (.var i) env) S (fun x S1 => Wp (truth x) S1 Q E) E := by
  have e : evT C (.var i) env = (do let x ← evE C (.var i) env; truth x) := by simp only [evT]
  rw [e, wp_bind]
theorem wt_call (f : Str) (es : List E) (Q : Bool → Sto → Prop) (E : XP) : Wp (evT C (.call f es) env) S Q E = Wp (evE C (.call f es) env) S (fun x S1 => Wp (truth x) S1 Q E) E := by
  have e : evT C (.call f es) env = (do let x ← evE C (.call f es) env; truth x) := by simp only [evT]
  rw [e, wp_bind]
theorem wt_bi (f : BI) (es : List E) (Q : Bool → Sto → Prop) (E : XP) : Wp (evT C (.bi f es) env) S Q E = Wp (evE C (.bi f es) env) S (fun x S1 => Wp (truth x) S1 Q E) E := by
  have e : evT C (.bi f es) env = (do let x ← evE C (.bi f es) env; truth x) := by simp only [evT]
  rw [e, wp_bind]
theorem wt_isi (f : E) (es : List String) (Q : Bool → Sto → Prop) (E : XP) : Wp (evT C (.isi f es) env) S Q E = Wp (evE C f env) S (fun x S1 => Wp (isinst x es) S1 Q E) E := by
  have e : evT C (.isi f es) env = (do let x ← evE C (.isi f es) env; truth x) := by simp only [evT]
  rw [e, wp_bind, wp_isi]
  rfl
theorem wt_cmp2 (o p : COp) (a b c : E) (Q : Bool → Sto → Prop) (E : XP) : Wp (evT C (.cmp2 o p a b c) env) S Q E = Wp (evE C a env) S (fun x S1 => Wp (evE C b env) S1 (fun y S2 => Wp (cmpop o x y) S2 (fun t S3 => if t = true then Wp (evE C c env) S3 (fun z S4 => Wp (cmpop p y z) S4 Q E) E else Q false S3) E) E) E := by
  have e : evT C (.cmp2 o p a b c) env = (do let x ← evE C (.cmp2 o p a b c) env; truth x) := by simp only [evT]
  have tr : ∀ (b : Bool) (S : Sto), Wp (truth (.bl b)) S Q E = Q b S := fun b S => by rw [wp_ap]; rfl
  rw [e, wp_bind, wp_cmp2]
  simp only [tr]
theorem wt_idx (a i : E) (Q : Bool → Sto → Prop) (E : XP) : Wp (evT C (.idx a i) env) S Q E = Wp (evE C (.idx a i) env) S (fun x S1 => Wp (truth x) S1 Q E) E := by
  have e : evT C (.idx a i) env = (do let x ← evE C (.idx a i) env; truth x) := by simp only [evT]
  rw [e, wp_bind]
theorem wt_lit (d : D) (Q : Bool → Sto → Prop) (E : XP) : Wp (evT C (.lit d) env) S Q E = Wp (truth d) S Q E := by
  have e : evT C (.lit d) env = (do let x ← evE C (.lit d) env; truth x) := by simp only [evT]
  rw [e, wp_bind, wp_lit]
/-! what is walked -/
theorem wi_of (e : E) (Q : Iter → Sto → Prop) (E : XP) : Wp (evI C (.of e) env) S Q E = Wp (evE C e env) S (fun x S1 => Wp (itemsI x) S1 (fun l S2 => Q ⟨l.length, seqStep x⟩ S2) E) E := by
  rw [evI]
  unfold iterOf
  simp only [wp_bind, wp_pure]
theorem wi_enum (e : E) (Q : Iter → Sto → Prop) (E : XP) : Wp (evI C (.enum e) env) S Q E = Wp (evE C e env) S (fun x S1 => Wp (items x) S1 (fun l S2 => Q ⟨l.length, enumStep x⟩ S2) E) E := by
  rw [evI]
  unfold iterEnum
  simp only [wp_bind, wp_pure]
theorem wi_zip (a b : E) (Q : Iter → Sto → Prop) (E : XP) : Wp (evI C (.zip a b) env) S Q E = Wp (evE C a env) S (fun x S1 => Wp (evE C b env) S1 (fun y S2 => Wp (items x) S2 (fun l S3 => Wp (items y) S3 (fun r S4 => sameKind x y = true ∧ Q ⟨min l.length r.length, zipStep x y⟩ S4) E) E) E) E := by
  rw [evI]
  unfold iterZip
  simp only [wp_bind, wp_pure, wp_chk]
theorem wi_range (es : List E) (Q : Iter → Sto → Prop) (E : XP) : Wp (evI C (.range es) env) S Q E = Wp (evEs C es env) S (fun xs S1 => match rangeOf xs with | some p => rgOk p.1 p.2 = true ∧ Q ⟨(p.2 - p.1).toNat, fun i _ => stepL (rangeL p.1 p.2) i⟩ S1 | none => False) E := by
  rw [evI]
  unfold iterRange
  simp only [wp_bind]
  congr 1
  funext xs S1
  cases rangeOf xs <;> simp only [wp_bind, wp_chk, wp_pure, wp_bad]
theorem wp_fz (e : E) (Q : D → Sto → Prop) (E : XP) : Wp (evE C (.fz e) env) S Q E = Wp (evE C e env) S (FzQ S Q) (FzE S E) := by
  rw [evE, wp_fzM]
theorem wp_tupS (es : List E) (Q : D → Sto → Prop) (E : XP) : Wp (evE C (.tupS es) env) S Q E = Wp (evDs C es env) S (fun xs S1 => xs.length ≤ sizeLine ∧ Q (.tup xs) S1) E := by
  rw [evE]
  simp only [wp_bind, wp_pure, wp_chk, decide_eq_true_eq]
theorem wp_lstS (es : List E) (Q : D → Sto → Prop) (E : XP) : Wp (evE C (.lstS es) env) S Q E = Wp (evDs C es env) S (fun xs S1 => xs.length ≤ sizeLine ∧ Q (.ref S1.length) (S1 ++ [.lst xs])) E := by
  rw [evE]
  simp only [wp_bind, wp_chk, decide_eq_true_eq, wp_new]
theorem wp_dnew (t : Bool) (Q : D → Sto → Prop) (E : XP) : Wp (evE C (.dnew t) env) S Q E = Q (.ref S.length) (S ++ [.dic t [] []]) := by
  rw [evE, wp_new]
theorem wp_disp (k v : E) (Q : D → Sto → Prop) (E : XP) : Wp (evE C (.disp k v) env) S Q E = Wp (evE C k env) S (fun x S1 => Wp (evE C v env) S1 (fun y S2 => match keyOf true x with | some kk => Q (.ref S2.length) (S2 ++ [.dic true [kk] [y]]) | none => False) E) E := by
  rw [evE]
  simp only [wp_bind]
  congr 1
  funext x S1
  congr 1
  funext y S2
  cases keyOf true x <;> simp only [wp_new, wp_bad]
theorem wp_dget1 (o k : E) (Q : D → Sto → Prop) (E : XP) : Wp (evE C (.dget1 o k) env) S Q E = Wp (evE C o env) S (fun x S1 => Wp (isDict x) S1 (fun _ S2 => Wp (evE C k env) S2 (fun y S3 => Wp (dget x y) S3 (fun r S4 => Q (r.getD .non) S4) E) E) E) E := by
  rw [evE]
  simp only [wp_bind, wp_pure]
theorem wp_dget2 (o k z : E) (Q : D → Sto → Prop) (E : XP) : Wp (evE C (.dget2 o k z) env) S Q E = Wp (evE C o env) S (fun x S1 => Wp (isDict x) S1 (fun _ S2 => Wp (evE C k env) S2 (fun y S3 => Wp (evE C z env) S3 (fun w S4 => Wp (dget x y) S4 (fun r S5 => Q (r.getD w) S5) E) E) E) E) E := by
  rw [evE]
  simp only [wp_bind, wp_pure]
theorem wp_dsetd (o k z : E) (Q : D → Sto → Prop) (E : XP) : Wp (evE C (.dsetd o k z) env) S Q E = Wp (evE C o env) S (fun x S1 => Wp (isDict x) S1 (fun _ S2 => Wp (evE C k env) S2 (fun y S3 => Wp (evE C z env) S3 (fun w S4 => Wp (dsetd x y w) S4 Q E) E) E) E) E := by
  rw [evE]
  simp only [wp_bind, wp_pure]
theorem wp_litems (e : E) (Q : D → Sto → Prop) (E : XP) : Wp (evE C (.litems e) env) S Q E = Wp (evE C e env) S (fun x S1 => Wp (litems x) S1 Q E) E := by
  rw [evE]
  simp only [wp_bind]
theorem wp_sset (e : E) (Q : D → Sto → Prop) (E : XP) : Wp (evE C (.sset e) env) S Q E = Wp (evE C e env) S (fun x S1 => Wp (ssetM x) S1 Q E) E := by
  rw [evE]
  simp only [wp_bind]
theorem wi_rev (e : E) (Q : Iter → Sto → Prop) (E : XP) : Wp (evI C (.rev e) env) S Q E = Wp (evE C e env) S (fun x S1 => Wp (items x) S1 (fun l S2 => Q ⟨l.length, revStep x⟩ S2) E) E := by
  rw [evI]
  unfold iterRev
  simp only [wp_bind, wp_pure]
theorem wi_items (e : E) (Q : Iter → Sto → Prop) (E : XP) : Wp (evI C (.items e) env) S Q E = Wp (evE C e env) S (fun x S1 => Wp (iterItems x) S1 Q E) E := by
  rw [evI]
  simp only [wp_bind]
theorem wp_ds_nil (Q : List D → Sto → Prop) (E : XP) : Wp (evDs C [] env) S Q E = Q [] S := by
  rw [evDs, wp_pure]
theorem wp_ds_star (e : E) (es : List E) (Q : List D → Sto → Prop) (E : XP) : Wp (evDs C (.star e :: es) env) S Q E = Wp (evE C e env) S (fun x S1 => Wp (items x) S1 (fun l S2 => Wp (evDs C es env) S2 (fun xs S3 => Q (l ++ xs) S3) E) E) E := by
  rw [evDs]
  simp only [wp_bind, wp_pure]
def notStar : E → Bool
  | .star _ => false
  | _ => true
theorem wp_ds_cons (e : E) (es : List E) (h : notStar e = true) (Q : List D → Sto → Prop) (E : XP) : Wp (evDs C (e :: es) env) S Q E = Wp (evE C e env) S (fun x S1 => Wp (evDs C es env) S1 (fun xs S2 => Q (x :: xs) S2) E) E := by
  have e0 : evDs C (e :: es) env = (do
    let x ← evE C e env
    let xs ← evDs C es env
    pure (x :: xs)) := by
    cases e <;> first | (cases h; done) | rw [evDs]
    all_goals (intro a h; cases h)
  rw [e0]
  simp only [wp_bind, wp_pure]
/-! statements -/
theorem ws_asg (t : Tg) (e : E) (Q : Fl → Sto → Prop) (E : XP) : Wp (evS C (.asg t e) env) S Q E = Wp (evE C e env) S (fun x S1 => match put t x env with | some env' => Q (.nx env') S1 | none => False) E := by
  rw [evS]
  unfold putM
  simp only [wp_bind]
  congr 1
  funext x S1
  cases put t x env <;> simp only [wp_pure, wp_bad]
theorem ws_par (i j : Nat) (a b : E) (Q : Fl → Sto → Prop) (E : XP) : Wp (evS C (.par i j a b) env) S Q E = Wp (evE C a env) S (fun x S1 => Wp (evE C b env) S1 (fun y S2 => (i < env.length ∧ j < env.length) ∧ Q (.nx ((env.set i (some x)).set j (some y))) S2) E) E := by
  rw [evS]
  simp only [wp_bind, wp_pure, wp_chk, decide_eq_true_eq]
theorem ws_par3 (i j l : Nat) (a b d : E) (Q : Fl → Sto → Prop) (E : XP) : Wp (evS C (.par3 i j l a b d) env) S Q E = Wp (evE C a env) S (fun x S1 => Wp (evE C b env) S1 (fun y S2 => Wp (evE C d env) S2 (fun z S3 => (i < env.length ∧ j < env.length ∧ l < env.length) ∧ Q (.nx (((env.set i (some x)).set j (some y)).set l (some z))) S3) E) E) E := by
  rw [evS]
  simp only [wp_bind, wp_pure, wp_chk, decide_eq_true_eq]
theorem ws_sub (a i e : E) (Q : Fl → Sto → Prop) (E : XP) : Wp (evS C (.sub a i e) env) S Q E = Wp (evE C e env) S (fun v S1 => Wp (evE C a env) S1 (fun x S2 => Wp (evE C i env) S2 (fun k S3 => Wp (setItem x k v) S3 (fun _ S4 => Q (.nx env) S4) E) E) E) E := by
  rw [evS]
  simp only [wp_bind, wp_pure]
theorem ws_aug (i : Nat) (op : BOp) (e : E) (Q : Fl → Sto → Prop) (E : XP) : Wp (evS C (.aug i op e) env) S Q E = Wp (evE C (.var i) env) S (fun x S1 => Wp (evE C e env) S1 (fun y S2 => Wp (augop op x y) S2 (fun z S3 => Q (.nx (env.set i (some z))) S3) E) E) E := by
  rw [evS]
  simp only [wp_bind, wp_pure]
theorem ws_expr (e : E) (Q : Fl → Sto → Prop) (E : XP) : Wp (evS C (.expr e) env) S Q E = Wp (evE C e env) S (fun _ S1 => Q (.nx env) S1) E := by
  rw [evS]
  simp only [wp_bind, wp_pure]
theorem ws_ret (e : E) (Q : Fl → Sto → Prop) (E : XP) : Wp (evS C (.ret e) env) S Q E = Wp (evE C e env) S (fun x S1 => Q (.ret x) S1) E := by
  rw [evS]
  simp only [wp_bind, wp_pure]
theorem ws_retN (Q : Fl → Sto → Prop) (E : XP) : Wp (evS C .retN env) S Q E = Q (.ret .non) S := by
  rw [evS, wp_pure]
theorem ws_pass (Q : Fl → Sto → Prop) (E : XP) : Wp (evS C .pass env) S Q E = Q (.nx env) S := by
  rw [evS, wp_pure]
theorem ws_brk (Q : Fl → Sto → Prop) (E : XP) : Wp (evS C .brk env) S Q E = Q (.brk env) S := by
  rw [evS, wp_pure]
theorem ws_cont (Q : Fl → Sto → Prop) (E : XP) : Wp (evS C .cont env) S Q E = Q (.cont env) S := by
  rw [evS, wp_pure]
theorem ws_ifs (c : E) (a b : List Pi.S) (Q : Fl → Sto → Prop) (E : XP) : Wp (evS C (.ifs c a b) env) S Q E = Wp (evT C c env) S (fun t S1 => if t = true then Wp (evSs C a env) S1 Q E else Wp (evSs C b env) S1 Q E) E := by
  rw [evS]
  simp only [wp_bind, wp_ite]
theorem ws_for (t : Tg) (it : It) (b : List Pi.S) (Q : Fl → Sto → Prop) (E : XP) : Wp (evS C (.for t it b) env) S Q E = Wp (evI C it env) S (fun J S1 => Wp (forLoop J.get (fun x e => do
      let e' ← putM t x e
      evSs C b e') (J.n + 1) 0 env) S1 Q E) E := by
  rw [evS]
  simp only [wp_bind]
theorem ws_whil (c : E) (b : List Pi.S) (Q : Fl → Sto → Prop) (E : XP) : Wp (evS C (.whil c b) env) S Q E = Wp (whileLoop (fun e => evT C c e) (fun e => evSs C b e) C.wf env) S Q E := by
  rw [evS]
theorem wss_nil (Q : Fl → Sto → Prop) (E : XP) : Wp (evSs C [] env) S Q E = Q (.nx env) S := by
  rw [evSs, wp_pure]
def thenSs (C : Ctx) (ss : List Pi.S) (Q : Fl → Sto → Prop) (E : XP) (f : Fl) (S : Sto) : Prop := match f with
  | .nx e => Wp (evSs C ss e) S Q E
  | r => Q r S
theorem wss_cons (s : Pi.S) (ss : List Pi.S) (Q : Fl → Sto → Prop) (E : XP) : Wp (evSs C (s :: ss) env) S Q E = Wp (evS C s env) S (thenSs C ss Q E) E := by
  rw [wp_ap, wp_ap, evSs]
  dsimp only
  cases e : evS C s env S with
  | bad => rfl
  | err _ _ _ => rfl
  | ok f S1 =>
    cases f with
    | nx env1 => rfl
    | _ => rfl
theorem then_nx (ss : List Pi.S) (Q : Fl → Sto → Prop) (E : XP) (e : Env) : thenSs C ss Q E (.nx e) S = Wp (evSs C ss e) S Q E := rfl
theorem then_ret (ss : List Pi.S) (Q : Fl → Sto → Prop) (E : XP) (d : D) : thenSs C ss Q E (.ret d) S = Q (.ret d) S := rfl
theorem then_brk (ss : List Pi.S) (Q : Fl → Sto → Prop) (E : XP) (d : Env) : thenSs C ss Q E (.brk d) S = Q (.brk d) S := rfl
theorem then_cont (ss : List Pi.S) (Q : Fl → Sto → Prop) (E : XP) (d : Env) : thenSs C ss Q E (.cont d) S = Q (.cont d) S := rfl
end
/-! defs -/
def outC (Q : D → Sto → Prop) (f : Fl) (S : Sto) : Prop := match f with
  | .ret d => Q d S
  | .nx _ => Q .non S
  | _ => False
theorem out_ret (Q : D → Sto → Prop) (d : D) (S : Sto) : outC Q (.ret d) S = Q d S := rfl
theorem out_nx (Q : D → Sto → Prop) (d : Env) (S : Sto) : outC Q (.nx d) S = Q .non S := rfl
theorem wp_def {T : Tb} {k : Nat} {f : Str} {d : DefI} (hd : T.find f = some d) {ds : List D} (hl : ds.length = d.ps.length) {S : Sto} {Q : D → Sto → Prop} {E : XP} (h : Wp (evSs (T.ctx k) d.body (startE d.N ds)) S (outC Q) E) : Wp (callK T (k + 1) f ds) S Q E := by
  rw [wp_ap] at h ⊢
  rw [callK, hd]
  dsimp only
  rw [if_pos hl]
  have ec : T.ctx k = ⟨callK T k, fun x => T.gl.lookup x, T.wf⟩ := rfl
  rw [ec] at h
  cases e : evSs ⟨callK T k, fun x => T.gl.lookup x, T.wf⟩ d.body (startE d.N ds) S with
  | ok r S1 =>
    rw [e] at h
    cases r with
    | ret v => exact h
    | nx v => exact h
    | _ => exact h.elim
  | err c fs S1 =>
    rw [e] at h
    exact h
  | bad =>
    rw [e] at h
    exact h.elim
theorem ctx_cf (T : Tb) (k : Nat) : (T.ctx k).cf = callK T k := rfl
theorem ctx_gl (T : Tb) (k : Nat) (x : Str) : (T.ctx k).gl x = T.gl.lookup x := rfl
end Pi

/-! Values, frames, loops. -/
namespace Pi
open PySem

/-! ### stores that grow -/
/-- what stood is as it was -/
def Ext (S S' : Sto) : Prop := ∀ (n : Nat) (o : Ob), S[n]? = some o → S'[n]? = some o
/-- all but r -/
def ExtX (r : Nat) (S S' : Sto) : Prop := S.length ≤ S'.length ∧ ∀ (n : Nat) (o : Ob), n ≠ r → S[n]? = some o → S'[n]? = some o
theorem Ext.refl (S : Sto) : Ext S S := fun _ _ h => h
theorem Ext.trans {S S1 S2 : Sto} (a : Ext S S1) (b : Ext S1 S2) : Ext S S2 := fun n o h => b n o (a n o h)
theorem Ext.len {S S' : Sto} (a : Ext S S') : S.length ≤ S'.length := by
  rcases Nat.lt_or_ge S'.length S.length with h | h
  · have := a S'.length _ (List.getElem?_eq_getElem h)
    simp at this
  · exact h
theorem Ext.snoc (S : Sto) (o : Ob) : Ext S (S ++ [o]) := fun n p h => by
  rw [List.getElem?_append_left]
  · exact h
  · rcases Nat.lt_or_ge n S.length with q | q
    · exact q
    · rw [List.getElem?_eq_none q] at h
      cases h
theorem Ext.x {S S' : Sto} (a : Ext S S') (r : Nat) : ExtX r S S' := ⟨a.len, fun n o _ h => a n o h⟩
theorem ExtX.refl (r : Nat) (S : Sto) : ExtX r S S := ⟨Nat.le_refl _, fun _ _ _ h => h⟩
theorem ExtX.trans {r : Nat} {S S1 S2 : Sto} (a : ExtX r S S1) (b : ExtX r S1 S2) : ExtX r S S2 := ⟨Nat.le_trans a.1 b.1, fun n o h e => b.2 n o h (a.2 n o h e)⟩
theorem ExtX.set (r : Nat) (S : Sto) (o : Ob) : ExtX r S (S.set r o) := ⟨by simp, fun n p h e => by rw [List.getElem?_set_ne (Ne.symm h)]; exact e⟩
theorem get_last (S : Sto) (o : Ob) : (S ++ [o])[S.length]? = some o := by simp
theorem lt_of_get {S : Sto} {n : Nat} {o : Ob} (h : S[n]? = some o) : n < S.length := by
  rcases Nat.lt_or_ge n S.length with q | q
  · exact q
  · rw [List.getElem?_eq_none q] at h
    cases h
theorem get_set {S : Sto} {n : Nat} {o p : Ob} (h : S[n]? = some o) : (S.set n p)[n]? = some p := by
  rw [List.getElem?_set_self (lt_of_get h)]
/-- a new object that is changed afterwards is none of the old ones -/
theorem ExtX.fresh {S S' : Sto} {r : Nat} (a : ExtX r S S') (h : S.length ≤ r) : Ext S S' := fun n o e => a.2 n o (Nat.ne_of_lt (Nat.lt_of_lt_of_le (lt_of_get e) h)) e
theorem Ext.thenX {S S1 S2 : Sto} {r : Nat} (a : Ext S S1) (b : ExtX r S1 S2) (h : S.length ≤ r) : Ext S S2 := fun n o e => b.2 n o (Nat.ne_of_lt (Nat.lt_of_lt_of_le (lt_of_get e) h)) (a n o e)

theorem Ext.put {S S' : Sto} {n : Nat} (a : Ext S S') (h : S.length ≤ n) (o : Ob) : Ext S (S'.set n o) := fun m p e => by
  rw [List.getElem?_set_ne (Nat.ne_of_gt (Nat.lt_of_lt_of_le (lt_of_get e) h))]
  exact a m p e
theorem ExtX.put {S S' : Sto} {r n : Nat} (a : ExtX r S S') (h : S.length ≤ n) (o : Ob) : ExtX r S (S'.set n o) := ⟨by rw [List.length_set]; exact a.1, fun m p hm e => by
  rw [List.getElem?_set_ne (Nat.ne_of_gt (Nat.lt_of_lt_of_le (lt_of_get e) h))]
  exact a.2 m p hm e⟩
/-! ### whole numbers, bools, tuples -/
section
variable (S : Sto)
theorem vb_add (i j : Int) (Q : D → Sto → Prop) (E : XP) : Wp (binop .add (.int i) (.int j)) S Q E = Q (.int (i + j)) S := by rw [wp_ap]; rfl
theorem vb_sub (i j : Int) (Q : D → Sto → Prop) (E : XP) : Wp (binop .sub (.int i) (.int j)) S Q E = Q (.int (i - j)) S := by rw [wp_ap]; rfl
theorem vb_mul (i j : Int) (Q : D → Sto → Prop) (E : XP) : Wp (binop .mul (.int i) (.int j)) S Q E = (((-(2 ^ 64) < i ∧ i < 2 ^ 64) ∨ (-(2 ^ 64) < j ∧ j < 2 ^ 64)) ∧ Q (.int (i * j)) S) := by
  rw [wp_ap]
  unfold binop
  dsimp only
  by_cases h : (-(2 ^ 64) < i ∧ i < 2 ^ 64) ∨ (-(2 ^ 64) < j ∧ j < 2 ^ 64)
  · rw [if_pos h, eq_true h, true_and]
  · rw [if_neg h, eq_false h, false_and]
theorem vb_fdiv (i j : Int) (Q : D → Sto → Prop) (E : XP) : Wp (binop .fdiv (.int i) (.int j)) S Q E = ((0 < j ∧ j < 1073741824) ∧ Q (.int (i / j)) S) := by
  rw [wp_ap]
  unfold binop
  dsimp only
  by_cases h : 0 < j ∧ j < 1073741824
  · rw [if_pos h, eq_true h, true_and]
  · rw [if_neg h, eq_false h, false_and]
theorem vb_mod (i j : Int) (Q : D → Sto → Prop) (E : XP) : Wp (binop .mod (.int i) (.int j)) S Q E = (0 < j ∧ Q (.int (i % j)) S) := by
  rw [wp_ap]
  unfold binop
  dsimp only
  by_cases h : 0 < j
  · rw [if_pos h, eq_true h, true_and]
  · rw [if_neg h, eq_false h, false_and]
theorem vb_pow (i j : Int) (Q : D → Sto → Prop) (E : XP) : Wp (binop .pow (.int i) (.int j)) S Q E = ((0 ≤ j ∧ j ≤ 1000000 ∧ i.natAbs < 2 ^ 64) ∧ Q (.int (i ^ j.toNat)) S) := by
  rw [wp_ap]
  unfold binop
  dsimp only
  by_cases h : 0 ≤ j ∧ j ≤ 1000000 ∧ i.natAbs < 2 ^ 64
  · rw [if_pos h, eq_true h, true_and]
  · rw [if_neg h, eq_false h, false_and]
theorem vb_addT (k l : List D) (Q : D → Sto → Prop) (E : XP) : Wp (binop .add (.tup k) (.tup l)) S Q E = (k.length + l.length ≤ sizeLine ∧ Q (.tup (k ++ l)) S) := by
  rw [wp_ap]
  unfold binop
  dsimp only
  by_cases h : k.length + l.length ≤ sizeLine
  · rw [if_pos h, eq_true h, true_and]
  · rw [if_neg h, eq_false h, false_and]
theorem vc_lt (i j : Int) (Q : Bool → Sto → Prop) (E : XP) : Wp (cmpop .lt (.int i) (.int j)) S Q E = Q (decide (i < j)) S := by rw [wp_ap]; rfl
theorem vc_le (i j : Int) (Q : Bool → Sto → Prop) (E : XP) : Wp (cmpop .le (.int i) (.int j)) S Q E = Q (decide (i ≤ j)) S := by rw [wp_ap]; rfl
theorem vc_gt (i j : Int) (Q : Bool → Sto → Prop) (E : XP) : Wp (cmpop .gt (.int i) (.int j)) S Q E = Q (decide (j < i)) S := by rw [wp_ap]; rfl
theorem vc_ge (i j : Int) (Q : Bool → Sto → Prop) (E : XP) : Wp (cmpop .ge (.int i) (.int j)) S Q E = Q (decide (j ≤ i)) S := by rw [wp_ap]; rfl
theorem vc_eqv (x y : D) (Q : Bool → Sto → Prop) (E : XP) : Wp (cmpop .eq x y) S Q E = Wp (eqv x y) S Q E := by rw [wp_ap, wp_ap]; rfl
theorem vc_nev (x y : D) (Q : Bool → Sto → Prop) (E : XP) : Wp (cmpop .ne x y) S Q E = Wp (eqv x y) S (fun b S' => Q (!b) S') E := by
  have e : Wp (cmpop .ne x y) S Q E = Wp (do let b ← eqv x y; pure (!b) : M Bool) S Q E := by rw [wp_ap, wp_ap]; rfl
  rw [e, wp_bind]
  simp only [wp_pure]
theorem vc_inv (x y : D) (Q : Bool → Sto → Prop) (E : XP) : Wp (cmpop .in_ x y) S Q E = Wp (inSeq x y) S Q E := by rw [wp_ap, wp_ap]; rfl
theorem vc_ninv (x y : D) (Q : Bool → Sto → Prop) (E : XP) : Wp (cmpop .nin x y) S Q E = Wp (inSeq x y) S (fun b S' => Q (!b) S') E := by
  have e : Wp (cmpop .nin x y) S Q E = Wp (do let b ← inSeq x y; pure (!b) : M Bool) S Q E := by rw [wp_ap, wp_ap]; rfl
  rw [e, wp_bind]
  simp only [wp_pure]
theorem ve_int (i j : Int) (Q : Bool → Sto → Prop) (E : XP) : Wp (eqv (.int i) (.int j)) S Q E = Q (i == j) S := by rw [wp_ap]; rfl
theorem ve_bl (i j : Bool) (Q : Bool → Sto → Prop) (E : XP) : Wp (eqv (.bl i) (.bl j)) S Q E = Q (i == j) S := by rw [wp_ap]; rfl
theorem vt_bl (b : Bool) (Q : Bool → Sto → Prop) (E : XP) : Wp (truth (.bl b)) S Q E = Q b S := by rw [wp_ap]; rfl
theorem vt_int (b : Int) (Q : Bool → Sto → Prop) (E : XP) : Wp (truth (.int b)) S Q E = Q (b != 0) S := by rw [wp_ap]; rfl
theorem vt_tup (l : List D) (Q : Bool → Sto → Prop) (E : XP) : Wp (truth (.tup l)) S Q E = Q (!l.isEmpty) S := by rw [wp_ap]; rfl
theorem vt_non (Q : Bool → Sto → Prop) (E : XP) : Wp (truth .non) S Q E = Q false S := by rw [wp_ap]; rfl
theorem vi_int (i : Int) (ts : List String) (Q : Bool → Sto → Prop) (E : XP) : Wp (isinst (.int i) ts) S Q E = Q (ts.any (isTy "int")) S := by rw [wp_ap]; rfl
theorem vi_bl (i : Bool) (ts : List String) (Q : Bool → Sto → Prop) (E : XP) : Wp (isinst (.bl i) ts) S Q E = Q (ts.any (isTy "bool")) S := by rw [wp_ap]; rfl
theorem vi_str (i : Str) (ts : List String) (Q : Bool → Sto → Prop) (E : XP) : Wp (isinst (.str i) ts) S Q E = Q (ts.any (isTy "str")) S := by rw [wp_ap]; rfl
theorem vi_non (ts : List String) (Q : Bool → Sto → Prop) (E : XP) : Wp (isinst .non ts) S Q E = Q (ts.any (isTy "NoneType")) S := by rw [wp_ap]; rfl
theorem vi_tup (i : List D) (ts : List String) (Q : Bool → Sto → Prop) (E : XP) : Wp (isinst (.tup i) ts) S Q E = Q (ts.any (isTy "tuple")) S := by rw [wp_ap]; rfl
theorem vi_clst (i : List D) (ts : List String) (Q : Bool → Sto → Prop) (E : XP) : Wp (isinst (.clst i) ts) S Q E = Q (ts.any (isTy "list")) S := by rw [wp_ap]; rfl
theorem vi_ref {n : Nat} {l : List D} (h : S[n]? = some (.lst l)) (ts : List String) (Q : Bool → Sto → Prop) (E : XP) : Wp (isinst (.ref n) ts) S Q E = Q (ts.any (isTy "list")) S := by
  rw [wp_ap]
  unfold isinst tyOf
  dsimp only
  rw [h]
theorem vt_ref {n : Nat} {l : List D} (h : S[n]? = some (.lst l)) (Q : Bool → Sto → Prop) (E : XP) : Wp (truth (.ref n)) S Q E = Q (!l.isEmpty) S := by
  rw [wp_ap]
  unfold truth
  dsimp only
  rw [h]
theorem vs_tup (l : List D) (Q : List D → Sto → Prop) (E : XP) : Wp (items (.tup l)) S Q E = Q l S := by rw [wp_ap]; rfl
theorem vs_clst (l : List D) (Q : List D → Sto → Prop) (E : XP) : Wp (items (.clst l)) S Q E = Q l S := by rw [wp_ap]; rfl
theorem vI_tup (l : List D) (Q : List D → Sto → Prop) (E : XP) : Wp (itemsI (.tup l)) S Q E = Q l S := by rw [wp_ap]; rfl
theorem vI_clst (l : List D) (Q : List D → Sto → Prop) (E : XP) : Wp (itemsI (.clst l)) S Q E = Q l S := by rw [wp_ap]; rfl
theorem vI_rng (lo hi : Int) (Q : List D → Sto → Prop) (E : XP) : Wp (itemsI (.rng lo hi)) S Q E = (rgOk lo hi = true ∧ Q (rangeL lo hi) S) := by
  rw [wp_ap]
  unfold itemsI
  dsimp only
  by_cases h : rgOk lo hi = true
  · rw [if_pos h, eq_true h, true_and]
  · rw [if_neg h, eq_false h, false_and]
theorem vI_ref (n : Nat) (Q : List D → Sto → Prop) (E : XP) : Wp (itemsI (.ref n)) S Q E = Wp (items (.ref n)) S Q E := by rw [wp_ap, wp_ap]; rfl
theorem vs_ref {n : Nat} {l : List D} (h : S[n]? = some (.lst l)) (Q : List D → Sto → Prop) (E : XP) : Wp (items (.ref n)) S Q E = Q l S := by
  rw [wp_ap]
  unfold items
  dsimp only
  rw [h]
theorem vx_tup (l : List D) (j : Int) (Q : D → Sto → Prop) (E : XP) : Wp (index (.tup l) (.int j)) S Q E = (match L2.atI l j with | some v => Q v S | none => False) := by
  rw [wp_ap]
  unfold index index0 dictAt
  dsimp only
  cases L2.atI l j <;> rfl
theorem vx_clst (l : List D) (j : Int) (Q : D → Sto → Prop) (E : XP) : Wp (index (.clst l) (.int j)) S Q E = (match L2.atI l j with | some v => Q v S | none => False) := by
  rw [wp_ap]
  unfold index index0 dictAt
  dsimp only
  cases L2.atI l j <;> rfl
theorem vx_ref {n : Nat} {l : List D} (h : S[n]? = some (.lst l)) (j : Int) (Q : D → Sto → Prop) (E : XP) : Wp (index (.ref n) (.int j)) S Q E = (match L2.atI l j with | some v => Q v S | none => False) := by
  rw [wp_ap]
  unfold index index0 dictAt
  dsimp only
  rw [h]
  dsimp only
  cases L2.atI l j <;> rfl
theorem vp_none (Q : Option Int → Sto → Prop) (E : XP) : Wp (part none) S Q E = Q none S := by rw [wp_ap]; rfl
theorem vp_int (i : Int) (Q : Option Int → Sto → Prop) (E : XP) : Wp (part (some (.int i))) S Q E = Q (some i) S := by rw [wp_ap]; rfl
theorem vl_tup (l : List D) (lo hi : Option Int) (Q : D → Sto → Prop) (E : XP) : Wp (sliceOf (.tup l) lo hi) S Q E = Q (.tup (cut l lo hi)) S := by rw [wp_ap]; rfl
theorem vl_clst (l : List D) (lo hi : Option Int) (Q : D → Sto → Prop) (E : XP) : Wp (sliceOf (.clst l) lo hi) S Q E = Q (.ref S.length) (S ++ [.lst (cut l lo hi)]) := by rw [wp_ap]; rfl
theorem vl_ref {n : Nat} {l : List D} (h : S[n]? = some (.lst l)) (lo hi : Option Int) (Q : D → Sto → Prop) (E : XP) : Wp (sliceOf (.ref n) lo hi) S Q E = Q (.ref S.length) (S ++ [.lst (cut l lo hi)]) := by
  rw [wp_ap]
  unfold sliceOf
  dsimp only
  rw [h]
  rfl
/-! built-ins -/
theorem vf_len_tup (l : List D) (Q : D → Sto → Prop) (E : XP) : Wp (builtin .len [.tup l]) S Q E = Q (.int l.length) S := by rw [wp_ap]; rfl
theorem vf_len_clst (l : List D) (Q : D → Sto → Prop) (E : XP) : Wp (builtin .len [.clst l]) S Q E = Q (.int l.length) S := by rw [wp_ap]; rfl
theorem vf_len_ref {n : Nat} {l : List D} (h : S[n]? = some (.lst l)) (Q : D → Sto → Prop) (E : XP) : Wp (builtin .len [.ref n]) S Q E = Q (.int l.length) S := by
  have e : Wp (builtin .len [.ref n]) S Q E = Wp (do let l ← items (.ref n); pure (.int l.length) : M D) S Q E := by rw [wp_ap, wp_ap]; rfl
  rw [e, wp_bind, vs_ref S h, wp_pure]
theorem vf_int (i : Int) (Q : D → Sto → Prop) (E : XP) : Wp (builtin .int [.int i]) S Q E = Q (.int i) S := by rw [wp_ap]; rfl
theorem vf_tup (l : List D) (Q : D → Sto → Prop) (E : XP) : Wp (builtin .tuple [.tup l]) S Q E = Q (.tup l) S := by rw [wp_ap]; rfl
theorem vf_tup_ref {n : Nat} {l : List D} (h : S[n]? = some (.lst l)) (Q : D → Sto → Prop) (E : XP) : Wp (builtin .tuple [.ref n]) S Q E = Q (.tup l) S := by
  have e : Wp (builtin .tuple [.ref n]) S Q E = Wp (do let l ← items (.ref n); pure (.tup l) : M D) S Q E := by rw [wp_ap, wp_ap]; rfl
  rw [e, wp_bind, vs_ref S h, wp_pure]
theorem vf_list_tup (l : List D) (Q : D → Sto → Prop) (E : XP) : Wp (builtin .list [.tup l]) S Q E = Q (.ref S.length) (S ++ [.lst l]) := by rw [wp_ap]; rfl
theorem vf_list_ref {n : Nat} {l : List D} (h : S[n]? = some (.lst l)) (Q : D → Sto → Prop) (E : XP) : Wp (builtin .list [.ref n]) S Q E = Q (.ref S.length) (S ++ [.lst l]) := by
  have e : Wp (builtin .list [.ref n]) S Q E = Wp (do let l ← items (.ref n); newO (.lst l) : M D) S Q E := by rw [wp_ap, wp_ap]; rfl
  rw [e, wp_bind, vs_ref S h, wp_new]
theorem intL_map (l : List Int) : intL (l.map .int) = some l := by
  induction l with
  | nil => rfl
  | cons a l ih => rw [List.map_cons, intL, ih]; rfl
theorem boolL_map (l : List Bool) : boolL (l.map .bl) = some l := by
  induction l with
  | nil => rfl
  | cons a l ih => rw [List.map_cons, boolL, ih]; rfl
/-- what stands in a sequence -/
def Its (S : Sto) (d : D) (l : List D) : Prop := items d S = .ok l S
theorem its_tup (S : Sto) (l : List D) : Its S (.tup l) l := rfl
theorem its_clst (S : Sto) (l : List D) : Its S (.clst l) l := rfl
theorem its_ref {S : Sto} {n : Nat} {l : List D} (h : S[n]? = some (.lst l)) : Its S (.ref n) l := by
  unfold Its items
  dsimp only
  rw [h]
theorem Its.wp {S : Sto} {d : D} {l : List D} (h : Its S d l) (Q : List D → Sto → Prop) (E : XP) : Wp (items d) S Q E = Q l S := by
  rw [wp_ap, h]
theorem vf_sorted_i {d : D} {l : List Int} (h : Its S d (l.map .int)) (Q : D → Sto → Prop) (E : XP) : Wp (builtin .sorted [d]) S Q E = Q (.ref S.length) (S ++ [.lst ((sortI l).map .int)]) := by
  have e : builtin .sorted [d] S = (do
    let l ← items d
    match intL l with
    | some ns => newO (.lst ((sortI ns).map .int))
    | none => if isTupD d then bad else sortM l : M D) S := rfl
  rw [wp_ap, e, ← wp_ap, wp_bind, h.wp, intL_map]
  rfl
theorem vf_sorted_tup (l : List Int) (Q : D → Sto → Prop) (E : XP) : Wp (builtin .sorted [.tup (l.map .int)]) S Q E = Q (.ref S.length) (S ++ [.lst ((sortI l).map .int)]) := vf_sorted_i S (its_tup S _) Q E
theorem vf_sorted_clst (l : List Int) (Q : D → Sto → Prop) (E : XP) : Wp (builtin .sorted [.clst (l.map .int)]) S Q E = Q (.ref S.length) (S ++ [.lst ((sortI l).map .int)]) := vf_sorted_i S (its_clst S _) Q E
theorem vf_sorted_ref {n : Nat} {l : List Int} (h : S[n]? = some (.lst (l.map .int))) (Q : D → Sto → Prop) (E : XP) : Wp (builtin .sorted [.ref n]) S Q E = Q (.ref S.length) (S ++ [.lst ((sortI l).map .int)]) := vf_sorted_i S (its_ref h) Q E
theorem vf_all_i {d : D} {l : List Bool} (h : Its S d (l.map .bl)) (ht : isTupD d = false) (Q : D → Sto → Prop) (E : XP) : Wp (builtin .all [d]) S Q E = Q (.bl (l.all id)) S := by
  have e : builtin .all [d] S = (if isTupD d then .bad else (do
    let l ← items d
    match boolL l with
    | some bs => pure (.bl (bs.all id))
    | none => bad : M D) S) := rfl
  rw [wp_ap, e, ht]
  simp only [Bool.false_eq_true, if_false]
  rw [← wp_ap, wp_bind, h.wp, boolL_map]
  rfl
theorem vf_any_i {d : D} {l : List Bool} (h : Its S d (l.map .bl)) (ht : isTupD d = false) (Q : D → Sto → Prop) (E : XP) : Wp (builtin .any [d]) S Q E = Q (.bl (l.any id)) S := by
  have e : builtin .any [d] S = (if isTupD d then .bad else (do
    let l ← items d
    match boolL l with
    | some bs => pure (.bl (bs.any id))
    | none => bad : M D) S) := rfl
  rw [wp_ap, e, ht]
  simp only [Bool.false_eq_true, if_false]
  rw [← wp_ap, wp_bind, h.wp, boolL_map]
  rfl
theorem vf_sum_i {d : D} {l : List Int} (h : Its S d (l.map .int)) (ht : isTupD d = false) (Q : D → Sto → Prop) (E : XP) : Wp (builtin .sum [d]) S Q E = Q (.int l.sum) S := by
  have e : builtin .sum [d] S = (if isTupD d then .bad else (do
    let l ← items d
    match intL l with
    | some ns => pure (.int ns.sum)
    | none => bad : M D) S) := rfl
  rw [wp_ap, e, ht]
  simp only [Bool.false_eq_true, if_false]
  rw [← wp_ap, wp_bind, h.wp, intL_map]
  rfl
theorem vf_all (l : List Bool) (Q : D → Sto → Prop) (E : XP) : Wp (builtin .all [.clst (l.map .bl)]) S Q E = Q (.bl (l.all id)) S := vf_all_i S (its_clst S _) rfl Q E
theorem vf_any (l : List Bool) (Q : D → Sto → Prop) (E : XP) : Wp (builtin .any [.clst (l.map .bl)]) S Q E = Q (.bl (l.any id)) S := vf_any_i S (its_clst S _) rfl Q E
theorem vf_sum (l : List Int) (Q : D → Sto → Prop) (E : XP) : Wp (builtin .sum [.clst (l.map .int)]) S Q E = Q (.int l.sum) S := vf_sum_i S (its_clst S _) rfl Q E
theorem vf_tup_clst (l : List D) (Q : D → Sto → Prop) (E : XP) : Wp (builtin .tuple [.clst l]) S Q E = Q (.tup l) S := rfl
theorem vf_list_clst (l : List D) (Q : D → Sto → Prop) (E : XP) : Wp (builtin .list [.clst l]) S Q E = Q (.ref S.length) (S ++ [.lst l]) := rfl
theorem vf_min2 (i j : Int) (Q : D → Sto → Prop) (E : XP) : Wp (builtin .min [.int i, .int j]) S Q E = Q (.int (if j < i then j else i)) S := by rw [wp_ap]; rfl
theorem vf_max2 (i j : Int) (Q : D → Sto → Prop) (E : XP) : Wp (builtin .max [.int i, .int j]) S Q E = Q (.int (if j > i then j else i)) S := by rw [wp_ap]; rfl
theorem vf_abs (i : Int) (Q : D → Sto → Prop) (E : XP) : Wp (builtin .abs [.int i]) S Q E = Q (.int (if i < 0 then -i else i)) S := by rw [wp_ap]; rfl
theorem vf_str (i : Int) (Q : D → Sto → Prop) (E : XP) : Wp (builtin .str [.int i]) S Q E = (i.natAbs.log2 < 1920 ∧ Q (.str (toString i)) S) := by
  rw [wp_ap]
  unfold builtin
  dsimp only
  by_cases h : i.natAbs.log2 < 1920
  · rw [if_pos h, eq_true h, true_and]
  · rw [if_neg h, eq_false h, false_and]
/-! methods -/
theorem vr_ref {n : Nat} {l : List D} (h : S[n]? = some (.lst l)) (m : MT) (Q : Unit → Sto → Prop) (E : XP) : Wp (recv m (.ref n)) S Q E = Q () S := by
  rw [wp_ap]
  unfold recv
  dsimp only
  rw [h]
theorem vm_append {n : Nat} {l : List D} (h : S[n]? = some (.lst l)) (x : D) (Q : D → Sto → Prop) (E : XP) : Wp (method .append (.ref n) [x]) S Q E = (l.length < sizeLine ∧ Q .non (S.set n (.lst (l ++ [x])))) := by
  rw [wp_ap]
  unfold method
  dsimp only
  rw [h]
  dsimp only
  by_cases q : l.length < sizeLine
  · rw [if_pos q, eq_true q, true_and]
  · rw [if_neg q, eq_false q, false_and]
theorem vm_pop {n : Nat} {l : List D} (h : S[n]? = some (.lst l)) (Q : D → Sto → Prop) (E : XP) : Wp (method .pop (.ref n) []) S Q E = (match l[l.length - 1]? with | some y => Q y (S.set n (.lst l.dropLast)) | none => False) := by
  rw [wp_ap]
  unfold method
  dsimp only
  rw [h]
  dsimp only
  cases l[l.length - 1]? <;> rfl
theorem vm_popI {n : Nat} {l : List D} (h : S[n]? = some (.lst l)) {i : Int} (h0 : 0 ≤ i) (h1 : i < l.length) (hl : l.length < 2 ^ 62) (Q : D → Sto → Prop) (E : XP) : Wp (method .pop (.ref n) [.int i]) S Q E = Q (l[i.toNat]'(by omega)) (S.set n (.lst (l.eraseIdx i.toNat))) := by
  have e1 : seqIndex? i l.length = some i.toNat := by
    have h0' : ¬ i < 0 := by omega
    unfold seqIndex?
    simp only [h0', if_false]
    rw [if_pos (by simp [h0, h1])]
  rw [wp_ap]
  unfold method
  dsimp only
  rw [h]
  dsimp only
  rw [if_pos (by omega), e1]
  dsimp only
  rw [List.getElem?_eq_getElem (by omega)]
theorem vm_extend {n b : Nat} {l k : List D} (h : S[n]? = some (.lst l)) (h2 : S[b]? = some (.lst k)) (Q : D → Sto → Prop) (E : XP) : Wp (method .extend (.ref n) [.ref b]) S Q E = (l.length + k.length ≤ sizeLine ∧ Q .non (S.set n (.lst (l ++ k)))) := by
  rw [wp_ap]
  unfold method
  dsimp only
  rw [h, h2]
  dsimp only
  by_cases q : l.length + k.length ≤ sizeLine
  · rw [if_pos q, eq_true q, true_and]
  · rw [if_neg q, eq_false q, false_and]
theorem vm_reverse {n : Nat} {l : List D} (h : S[n]? = some (.lst l)) (Q : D → Sto → Prop) (E : XP) : Wp (method .reverse (.ref n) []) S Q E = Q .non (S.set n (.lst l.reverse)) := by
  rw [wp_ap]
  unfold method
  dsimp only
  rw [h]
theorem vset {n : Nat} {l : List D} (h : S[n]? = some (.lst l)) (j : Int) (v : D) (Q : Unit → Sto → Prop) (E : XP) : Wp (setItem (.ref n) (.int j) v) S Q E = (match L2.ixN l.length j with | some k => Q () (S.set n (.lst (l.set k v))) | none => False) := by
  rw [wp_ap]
  unfold setItem setItem0 dictAt
  dsimp only
  rw [h]
  dsimp only
  cases L2.ixN l.length j <;> rfl
theorem vr_index (l : List D) (Q : Unit → Sto → Prop) (E : XP) : Wp (recv .index (.clst l)) S Q E = Q () S := by rw [wp_ap]; rfl
theorem vr_count (l : List D) (Q : Unit → Sto → Prop) (E : XP) : Wp (recv .count (.clst l)) S Q E = Q () S := by rw [wp_ap]; rfl
theorem vm_index {l : List Int} {i : Int} {k : Nat} (h : l.findIdx? (fun j => decide (j = i)) = some k) (Q : D → Sto → Prop) (E : XP) : Wp (method .index (.clst (l.map .int)) [.int i]) S Q E = Q (.int (k : Nat)) S := by
  rw [wp_ap]
  unfold method
  simp only [intL_map, h]
theorem vm_count (l : List Int) (i : Int) (Q : D → Sto → Prop) (E : XP) : Wp (method .count (.clst (l.map .int)) [.int i]) S Q E = Q (.int (l.count i : Nat)) S := by
  rw [wp_ap]
  unfold method
  simp only [intL_map]
theorem vf_sset {l : List Int} (h : l.length ≤ 60) (Q : D → Sto → Prop) (E : XP) : Wp (ssetM (.tup (l.map .int))) S Q E = Q (.ref S.length) (S ++ [.lst ((ssetI l).map .int)]) := by
  rw [wp_ap]
  unfold ssetM
  simp only [intL_map, if_pos h]
  rfl
theorem va_add (i j : Int) (Q : D → Sto → Prop) (E : XP) : Wp (augop .add (.int i) (.int j)) S Q E = Q (.int (i + j)) S := by rw [wp_ap]; rfl
theorem va_sub (i j : Int) (Q : D → Sto → Prop) (E : XP) : Wp (augop .sub (.int i) (.int j)) S Q E = Q (.int (i - j)) S := by rw [wp_ap]; rfl
end
/-! places -/
theorem at_pos {α : Type} {l : List α} {j : Int} (h0 : 0 ≤ j) (h1 : j < l.length) : L2.atI l j = l[j.toNat]? := by
  unfold L2.atI L2.ixN
  rw [if_pos h0, if_pos h1]
  rfl
theorem at_get {α : Type} {l : List α} {j : Int} (h0 : 0 ≤ j) (h1 : j < l.length) : L2.atI l j = some (l[j.toNat]'(by omega)) := by
  rw [at_pos h0 h1, List.getElem?_eq_getElem (by omega)]
theorem at_int {l : List Int} {j : Int} (h0 : 0 ≤ j) (h1 : j < l.length) : L2.atI (l.map D.int) j = some (.int (l.getD j.toNat 0)) := by
  rw [at_pos h0 (by rw [List.length_map]; exact h1), List.getElem?_map, List.getElem?_eq_getElem (by omega), List.getD_eq_getElem?_getD, List.getElem?_eq_getElem (by omega)]
  rfl
theorem cut_pre (l : List D) {d : Int} (h0 : 0 ≤ d) : cut l none (some d) = l.take d.toNat := by
  have h0' : ¬ d < 0 := by omega
  unfold cut HT.sIx
  simp only [h0', if_false, List.drop_zero, Nat.sub_zero]
  rw [List.take_eq_take_iff]
  omega
theorem cut_suf (l : List D) {d : Int} (h0 : 0 ≤ d) : cut l (some d) none = l.drop d.toNat := by
  have h0' : ¬ d < 0 := by omega
  unfold cut HT.sIx
  simp only [h0', if_false]
  by_cases h : d.toNat ≤ l.length
  · rw [Nat.min_eq_left h, List.take_of_length_le (by rw [List.length_drop]; omega)]
  · rw [Nat.min_eq_right (by omega), List.drop_eq_nil_of_le (Nat.le_refl _), List.drop_eq_nil_of_le (by omega)]
    simp
end Pi

/-! Loops, comprehensions, equality of data. -/
namespace Pi
open PySem

theorem put_name (i : Nat) (d : D) (env : Env) : put (.name i) d env = if i < env.length then some (env.set i (some d)) else none := by rw [put]
theorem put_tup (ts : List Tg) (l : List D) (env : Env) : put (.tup ts) (.tup l) env = puts ts l env := by rw [put]
theorem put_clst (ts : List Tg) (l : List D) (env : Env) : put (.tup ts) (.clst l) env = puts ts l env := by rw [put]
theorem puts_nil (env : Env) : puts [] [] env = some env := by rw [puts]
theorem puts_cons (t : Tg) (ts : List Tg) (d : D) (ds : List D) (env : Env) : puts (t :: ts) (d :: ds) env = (match put t d env with | some e => puts ts ds e | none => none) := by
  rw [puts] <;> cases put t d env <;> rfl
theorem stepL_some {l : List D} {i : Nat} {x : D} (h : l[i]? = some x) : stepL l i = .item x := by
  unfold stepL
  rw [h]
theorem stepL_none {l : List D} : stepL l l.length = .stop := by
  unfold stepL
  rw [List.getElem?_eq_none (Nat.le_refl _)]
def turnF (Q : Fl → Sto → Prop) (I : Env → Sto → Prop) (f : Fl) (S : Sto) : Prop := match f with
  | .nx e => I e S
  | .cont e => I e S
  | .brk e => Q (.nx e) S
  | .ret d => Q (.ret d) S
theorem turn_nx (Q : Fl → Sto → Prop) (I : Env → Sto → Prop) (e : Env) (S : Sto) : turnF Q I (.nx e) S = I e S := rfl
theorem turn_cont (Q : Fl → Sto → Prop) (I : Env → Sto → Prop) (e : Env) (S : Sto) : turnF Q I (.cont e) S = I e S := rfl
theorem turn_brk (Q : Fl → Sto → Prop) (I : Env → Sto → Prop) (e : Env) (S : Sto) : turnF Q I (.brk e) S = Q (.nx e) S := rfl
theorem turn_ret (Q : Fl → Sto → Prop) (I : Env → Sto → Prop) (d : D) (S : Sto) : turnF Q I (.ret d) S = Q (.ret d) S := rfl
theorem for_rule {get : Nat → Sto → Step} {body : D → Env → M Fl} {Q : Fl → Sto → Prop} {E : XP} (l : List D) (I : Nat → Env → Sto → Prop) (hget : ∀ i env S, I i env S → get i S = stepL l i)
    (hs : ∀ i x env S, l[i]? = some x → I i env S → Wp (body x env) S (turnF Q (I (i + 1))) E) (hd : ∀ env S, I l.length env S → Q (.nx env) S) :
    ∀ (n i : Nat) (env : Env) (S : Sto), l.length + 1 ≤ n + i → i ≤ l.length → I i env S → Wp (forLoop get body n i env) S Q E
  | 0, i, env, S, h, h2, _ => by omega
  | n + 1, i, env, S, h, h2, hi => by
    rw [wp_ap, forLoop]
    dsimp only
    rw [hget i env S hi]
    by_cases q : i < l.length
    · rw [stepL_some (List.getElem?_eq_getElem q)]
      dsimp only
      have r := hs i _ env S (List.getElem?_eq_getElem q) hi
      rw [wp_ap] at r
      cases e : body l[i] env S with
      | bad => rw [e] at r; exact r
      | err c fs S' => rw [e] at r; exact r
      | ok f S' =>
        rw [e] at r
        have nxt : ∀ e', I (i + 1) e' S' → Wp (forLoop get body n (i + 1) e') S' Q E := fun e' he => for_rule l I hget hs hd n (i + 1) e' S' (by omega) (by omega) he
        cases f with
        | nx e' => have := nxt e' r; rw [wp_ap] at this; exact this
        | cont e' => have := nxt e' r; rw [wp_ap] at this; exact this
        | brk e' => exact r
        | ret d => exact r
    · have : i = l.length := by omega
      subst this
      rw [stepL_none]
      exact hd env S hi
theorem for_list {get : Nat → Sto → Step} {body : D → Env → M Fl} {Q : Fl → Sto → Prop} {E : XP} (l : List D) (I : Nat → Env → Sto → Prop) {m : Nat} (hm : m = l.length) {env : Env} {S : Sto} (h0 : I 0 env S) (hget : ∀ i env S, I i env S → get i S = stepL l i)
    (hs : ∀ i x env S, l[i]? = some x → I i env S → Wp (body x env) S (turnF Q (I (i + 1))) E) (hd : ∀ env S, I l.length env S → Q (.nx env) S) : Wp (forLoop get body (m + 1) 0 env) S Q E := by
  subst hm
  exact for_rule l I hget hs hd (l.length + 1) 0 env S (by omega) (Nat.zero_le _) h0
theorem wp_putM (t : Tg) (x : D) (env : Env) (S : Sto) (Q : Env → Sto → Prop) (E : XP) : Wp (putM t x env) S Q E = (match put t x env with | some e => Q e S | none => False) := by
  unfold putM
  cases put t x env <;> simp only [wp_pure, wp_bad]
theorem wp_turn {C : Ctx} {t : Tg} {b : List Pi.S} {x : D} {e : Env} {S : Sto} {Q : Fl → Sto → Prop} {E : XP} : Wp (do let e' ← putM t x e; evSs C b e') S Q E = (match put t x e with | some e' => Wp (evSs C b e') S Q E | none => False) := by
  unfold putM
  rw [wp_bind]
  cases put t x e <;> simp only [wp_pure, wp_bad]
/-- while: an invariant with a measure -/
theorem while_rule {test : Env → M Bool} {body : Env → M Fl} {Q : Fl → Sto → Prop} {E : XP} (I : Nat → Env → Sto → Prop)
    (hs : ∀ m env S, I m env S → Wp (test env) S (fun b S1 => if b = true then Wp (body env) S1 (turnF Q fun e S2 => ∃ m', m' < m ∧ I m' e S2) E else Q (.nx env) S1) E) :
    ∀ (n m : Nat) (env : Env) (S : Sto), m < n → I m env S → Wp (whileLoop test body n env) S Q E
  | 0, m, env, S, h, _ => by omega
  | n + 1, m, env, S, h, hi => by
    rw [wp_ap, whileLoop]
    dsimp only
    have r := hs m env S hi
    rw [wp_ap] at r
    cases e : test env S with
    | bad => rw [e] at r; exact r
    | err c fs S' => rw [e] at r; exact r
    | ok b S1 =>
    rw [e] at r
    cases b with
    | false => exact r
    | true =>
      dsimp only at r ⊢
      rw [if_pos rfl, wp_ap] at r
      cases e2 : body env S1 with
      | bad => rw [e2] at r; exact r
      | err c fs S' => rw [e2] at r; exact r
      | ok f S2 =>
      rw [e2] at r
      have r2 := r
      have nxt : ∀ e', (∃ m', m' < m ∧ I m' e' S2) → Wp (whileLoop test body n e') S2 Q E := fun e' ⟨m', hm, he⟩ => while_rule I hs n m' e' S2 (by omega) he
      cases f with
      | nx e' => have := nxt e' r2; rw [wp_ap] at this; exact this
      | cont e' => have := nxt e' r2; rw [wp_ap] at this; exact this
      | brk e' => exact r2
      | ret d => exact r2

/-! ### comprehensions -/
theorem comp_rule {get : Nat → Sto → Step} {body : D → M (Option D)} {Q : List D → Sto → Prop} {E : XP} (l : List D) (I : Nat → List D → Sto → Prop) (hget : ∀ i acc S, I i acc S → get i S = stepL l i)
    (hs : ∀ i x acc S, l[i]? = some x → I i acc S → Wp (body x) S (fun o S' => match o with | some y => acc.length < sizeLine ∧ I (i + 1) (acc ++ [y]) S' | none => I (i + 1) acc S') E) (hd : ∀ acc S, I l.length acc S → Q acc S) :
    ∀ (n i : Nat) (acc : List D) (S : Sto), l.length + 1 ≤ n + i → i ≤ l.length → I i acc S → Wp (compLoop get body n i acc) S Q E
  | 0, i, acc, S, h, h2, _ => by omega
  | n + 1, i, acc, S, h, h2, hi => by
    rw [wp_ap, compLoop]
    dsimp only
    rw [hget i acc S hi]
    by_cases q : i < l.length
    · rw [stepL_some (List.getElem?_eq_getElem q)]
      dsimp only
      have r := hs i _ acc S (List.getElem?_eq_getElem q) hi
      rw [wp_ap] at r
      cases e : body l[i] S with
      | bad => rw [e] at r; exact r
      | err c fs S' => rw [e] at r; exact r
      | ok f S' =>
      rw [e] at r
      have nxt : ∀ acc', I (i + 1) acc' S' → Wp (compLoop get body n (i + 1) acc') S' Q E := fun acc' he => comp_rule l I hget hs hd n (i + 1) acc' S' (by omega) (by omega) he
      cases f with
      | none => have := nxt acc r; rw [wp_ap] at this; exact this
      | some y =>
        dsimp only
        rw [if_pos r.1]
        have := nxt _ r.2
        rw [wp_ap] at this
        exact this
    · have : i = l.length := by omega
      subst this
      rw [stepL_none]
      exact hd acc S hi
theorem comp_list {get : Nat → Sto → Step} {body : D → M (Option D)} {Q : List D → Sto → Prop} {E : XP} (l : List D) (I : Nat → List D → Sto → Prop) {m : Nat} (hm : m = l.length) {S : Sto} (h0 : I 0 [] S) (hget : ∀ i acc S, I i acc S → get i S = stepL l i)
    (hs : ∀ i x acc S, l[i]? = some x → I i acc S → Wp (body x) S (fun o S' => match o with | some y => acc.length < sizeLine ∧ I (i + 1) (acc ++ [y]) S' | none => I (i + 1) acc S') E) (hd : ∀ acc S, I l.length acc S → Q acc S) : Wp (compLoop get body (m + 1) 0 []) S Q E := by
  subst hm
  exact comp_rule l I hget hs hd (l.length + 1) 0 [] S (by omega) (Nat.zero_le _) h0
theorem comp_all {get : Nat → Sto → Step} {body : D → M (Option D)} {Q : List D → Sto → Prop} {E : XP} (l : List D) (P : D → Prop) (W : Sto → Prop) {m : Nat} (hm : m = l.length) {S : Sto} (h0 : W S) (hl : l.length ≤ sizeLine) (hget : ∀ i S', W S' → get i S' = stepL l i)
    (hs : ∀ x ∈ l, ∀ S', W S' → Wp (body x) S' (fun o S'' => (∃ y, o = some y ∧ P y) ∧ W S'') E) (hd : ∀ acc S', acc.length = l.length → (∀ y ∈ acc, P y) → W S' → Q acc S') : Wp (compLoop get body (m + 1) 0 []) S Q E := by
  refine comp_list l (fun i acc S' => i ≤ l.length ∧ acc.length = i ∧ (∀ y ∈ acc, P y) ∧ W S') hm ⟨Nat.zero_le _, rfl, by simp, h0⟩ (fun i acc S' h => hget i S' h.2.2.2) (fun i x acc S' hx ⟨h1, h2, h3, h4⟩ => ?_) (fun acc S' ⟨_, h2, h3, h4⟩ => hd acc S' h2 h3 h4)
  refine (hs x (List.mem_of_getElem? hx) S' h4).mono fun o S'' ⟨⟨y, ho, hy⟩, he⟩ => ?_
  have hi : i < l.length := by
    rcases Nat.lt_or_ge i l.length with q | q
    · exact q
    · rw [List.getElem?_eq_none q] at hx; cases hx
  subst ho
  refine ⟨by omega, hi, by simp [h2], fun z hz => ?_, he⟩
  rcases List.mem_append.mp hz with q | q
  · exact h3 z q
  · rw [List.mem_singleton.mp q]
    exact hy
/-- some of the items, in their order -/
theorem comp_sub {get : Nat → Sto → Step} {body : D → M (Option D)} {Q : List D → Sto → Prop} {E : XP} (l : List D) (W : Sto → Prop) {m : Nat} (hm : m = l.length) {S : Sto} (h0 : W S) (hl : l.length ≤ sizeLine) (hget : ∀ i S', W S' → get i S' = stepL l i)
    (hs : ∀ x ∈ l, ∀ S', W S' → Wp (body x) S' (fun o S'' => (o = none ∨ o = some x) ∧ W S'') E) (hd : ∀ acc S', acc.Sublist l → W S' → Q acc S') : Wp (compLoop get body (m + 1) 0 []) S Q E := by
  refine comp_list l (fun i acc S' => i ≤ l.length ∧ acc.Sublist (l.take i) ∧ W S') hm ⟨Nat.zero_le _, by simp, h0⟩ (fun i acc S' h => hget i S' h.2.2) (fun i x acc S' hx ⟨h1, h2, h4⟩ => ?_) (fun acc S' ⟨_, h2, h4⟩ => hd acc S' (by rw [List.take_length] at h2; exact h2) h4)
  refine (hs x (List.mem_of_getElem? hx) S' h4).mono fun o S'' ⟨ho, he⟩ => ?_
  have hi : i < l.length := by
    rcases Nat.lt_or_ge i l.length with q | q
    · exact q
    · rw [List.getElem?_eq_none q] at hx; cases hx
  have ht : l.take (i + 1) = l.take i ++ [x] := by rw [List.take_add_one, hx]; rfl
  rcases ho with rfl | rfl
  · exact ⟨hi, by rw [ht]; exact h2.trans (List.sublist_append_left _ _), he⟩
  · refine ⟨?_, hi, by rw [ht]; exact List.Sublist.append h2 (List.Sublist.refl _), he⟩
    have := h2.length_le
    rw [List.length_take] at this
    omega

theorem comp2_rule {get : Nat → Sto → Step} {inner : D → List D → M (List D)} {Q : List D → Sto → Prop} {E : XP} (l : List D) (I : Nat → List D → Sto → Prop) (hget : ∀ i acc S, I i acc S → get i S = stepL l i)
    (hs : ∀ i x acc S, l[i]? = some x → I i acc S → Wp (inner x acc) S (I (i + 1)) E) (hd : ∀ acc S, I l.length acc S → Q acc S) :
    ∀ (n i : Nat) (acc : List D) (S : Sto), l.length + 1 ≤ n + i → i ≤ l.length → I i acc S → Wp (comp2Loop get inner n i acc) S Q E
  | 0, i, acc, S, h, h2, _ => by omega
  | n + 1, i, acc, S, h, h2, hi => by
    rw [wp_ap, comp2Loop]
    dsimp only
    rw [hget i acc S hi]
    by_cases q : i < l.length
    · rw [stepL_some (List.getElem?_eq_getElem q)]
      dsimp only
      have r := hs i _ acc S (List.getElem?_eq_getElem q) hi
      rw [wp_ap] at r
      cases e : inner l[i] acc S with
      | bad => rw [e] at r; exact r
      | err c fs S' => rw [e] at r; exact r
      | ok f S' =>
      rw [e] at r
      have := comp2_rule l I hget hs hd n (i + 1) f S' (by omega) (by omega) r
      rw [wp_ap] at this
      exact this
    · have : i = l.length := by omega
      subst this
      rw [stepL_none]
      exact hd acc S hi
/-! pure comprehensions: the store stays as it is -/
theorem comp_acc {get : Nat → Sto → Step} {body : D → M (Option D)} {Q : List D → Sto → Prop} {E : XP} (l : List D) (g : D → Option D) {m : Nat} (hm : m = l.length) {S : Sto} (acc : List D) (hl : acc.length + (l.filterMap g).length ≤ sizeLine) (hget : ∀ i, get i S = stepL l i)
    (hs : ∀ x ∈ l, Wp (body x) S (fun o S' => o = g x ∧ S' = S) NoX) (hd : Q (acc ++ l.filterMap g) S) : Wp (compLoop get body (m + 1) 0 acc) S Q E := by
  subst hm
  refine comp_rule l (fun i a S' => i ≤ l.length ∧ S' = S ∧ a = acc ++ (l.take i).filterMap g) (fun i a S' h => by rw [h.2.1]; exact hget i) (fun i x a S' hx ⟨h1, h2, h3⟩ => ?_) (fun a S' ⟨_, h2, h3⟩ => ?_) (l.length + 1) 0 acc S (by omega) (Nat.zero_le _) ⟨Nat.zero_le _, rfl, by simp⟩
  · subst h2
    have hi : i < l.length := by
      rcases Nat.lt_or_ge i l.length with q | q
      · exact q
      · rw [List.getElem?_eq_none q] at hx; cases hx
    have ht : (l.take (i + 1)).filterMap g = (l.take i).filterMap g ++ (g x).toList := by
      rw [List.take_add_one, hx, List.filterMap_append]
      cases hg : g x <;> simp [hg]
    have hle : ((l.take (i + 1)).filterMap g).length ≤ (l.filterMap g).length := ((List.take_sublist _ _).filterMap g).length_le
    rw [ht, List.length_append] at hle
    refine (hs x (List.mem_of_getElem? hx)).monoE (fun o S'' ⟨ho, he⟩ => ?_) fun c fs S'' h => h.elim
    subst ho he
    cases hg : g x with
    | none =>
      rw [hg] at ht
      exact ⟨hi, rfl, by rw [h3, ht]; simp⟩
    | some y =>
      rw [hg] at ht hle
      refine ⟨?_, hi, rfl, by rw [h3, ht, List.append_assoc]; rfl⟩
      rw [h3, List.length_append]
      simp only [Option.toList_some, List.length_singleton] at hle
      omega
  · subst h2 h3
    rw [List.take_length]
    exact hd
theorem comp_flat {get : Nat → Sto → Step} {body : D → M (Option D)} {Q : List D → Sto → Prop} {E : XP} (l : List D) (g : D → Option D) {m : Nat} (hm : m = l.length) {S : Sto} (hl : (l.filterMap g).length ≤ sizeLine) (hget : ∀ i, get i S = stepL l i)
    (hs : ∀ x ∈ l, Wp (body x) S (fun o S' => o = g x ∧ S' = S) NoX) (hd : Q (l.filterMap g) S) : Wp (compLoop get body (m + 1) 0 []) S Q E :=
  comp_acc l g hm [] (by simpa using hl) hget hs (by simpa using hd)
theorem filterMap_enc {α β : Type} (e : α → D) (e' : β → D) (g : α → Option β) (g' : D → Option D) : ∀ (L : List α), (∀ a ∈ L, g' (e a) = (g a).map e') → (L.map e).filterMap g' = (L.filterMap g).map e'
  | [], _ => rfl
  | a :: L, h => by
    rw [List.map_cons, List.filterMap_cons, h a List.mem_cons_self]
    have ih := filterMap_enc e e' g g' L fun b hb => h b (List.mem_cons_of_mem _ hb)
    cases hg : g a with
    | none =>
      rw [List.filterMap_cons, hg]
      exact ih
    | some b =>
      rw [List.filterMap_cons, hg]
      show e' b :: _ = _
      rw [ih]
      rfl
/-- by what the items stand for; the encoding is one to one as far as the body tells -/
theorem comp_encA {α β : Type} {get : Nat → Sto → Step} {body : D → M (Option D)} {Q : List D → Sto → Prop} {E : XP} (L : List α) (e : α → D) (e' : β → D) (g : α → Option β) {m : Nat} (hm : m = L.length) {S : Sto} (acc : List D) (hl : acc.length + (L.filterMap g).length ≤ sizeLine) (hget : ∀ i, get i S = stepL (L.map e) i)
    (hs : ∀ a ∈ L, Wp (body (e a)) S (fun o S' => o = (g a).map e' ∧ S' = S) NoX) (hd : Q (acc ++ (L.filterMap g).map e') S) : Wp (compLoop get body (m + 1) 0 acc) S Q E := by
  have key : ∀ a ∈ L, ∀ b ∈ L, e a = e b → (g a).map e' = (g b).map e' := fun a ha b hb h => by
    have h1 := hs a ha
    have h2 := hs b hb
    rw [h] at h1
    rw [wp_ap] at h1 h2
    cases q : body (e b) S with
    | ok o S' => rw [q] at h1 h2; rw [← h1.1, ← h2.1]
    | err _ _ _ => rw [q] at h1; exact h1.elim
    | bad => rw [q] at h1; exact h1.elim
  classical
  let g' : D → Option D := fun d => if h : ∃ a ∈ L, e a = d then (g h.choose).map e' else none
  have hg' : ∀ a ∈ L, g' (e a) = (g a).map e' := fun a ha => by
    have h : ∃ b ∈ L, e b = e a := ⟨a, ha, rfl⟩
    simp only [g', dif_pos h]
    exact key _ h.choose_spec.1 a ha h.choose_spec.2
  have ef := filterMap_enc e e' g g' L hg'
  refine comp_acc (L.map e) g' (by rw [hm, List.length_map]) acc (by rw [ef, List.length_map]; exact hl) hget (fun x hx => ?_) (by rw [ef]; exact hd)
  obtain ⟨a, ha, rfl⟩ := List.mem_map.mp hx
  rw [hg' a ha]
  exact hs a ha
theorem comp_enc {α β : Type} {get : Nat → Sto → Step} {body : D → M (Option D)} {Q : List D → Sto → Prop} {E : XP} (L : List α) (e : α → D) (e' : β → D) (g : α → Option β) {m : Nat} (hm : m = L.length) {S : Sto} (hl : L.length ≤ sizeLine) (hget : ∀ i, get i S = stepL (L.map e) i)
    (hs : ∀ a ∈ L, Wp (body (e a)) S (fun o S' => o = (g a).map e' ∧ S' = S) NoX) (hd : Q ((L.filterMap g).map e') S) : Wp (compLoop get body (m + 1) 0 []) S Q E :=
  comp_encA L e e' g hm [] (by have := List.length_filterMap_le g L; simp; omega) hget hs (by simpa using hd)
/-- without a test -/
theorem comp_map {α β : Type} {get : Nat → Sto → Step} {body : D → M (Option D)} {Q : List D → Sto → Prop} {E : XP} (L : List α) (e : α → D) (e' : β → D) (g : α → β) {m : Nat} (hm : m = L.length) {S : Sto} (hl : L.length ≤ sizeLine) (hget : ∀ i, get i S = stepL (L.map e) i)
    (hs : ∀ a ∈ L, Wp (body (e a)) S (fun o S' => o = some (e' (g a)) ∧ S' = S) NoX) (hd : Q ((L.map g).map e') S) : Wp (compLoop get body (m + 1) 0 []) S Q E :=
  comp_enc L e e' (fun a => some (g a)) hm hl hget hs (by rw [List.filterMap_eq_map']; exact hd)
theorem filterMap_if {α : Type} (p : α → Bool) : ∀ L : List α, L.filterMap (fun a => if p a then some a else none) = L.filter p
  | [] => rfl
  | a :: L => by
    rw [List.filterMap_cons, List.filter_cons, filterMap_if p L]
    cases p a <;> rfl
/-- with a test alone -/
theorem comp_filter {α : Type} {get : Nat → Sto → Step} {body : D → M (Option D)} {Q : List D → Sto → Prop} {E : XP} (L : List α) (e : α → D) (p : α → Bool) {m : Nat} (hm : m = L.length) {S : Sto} (hl : L.length ≤ sizeLine) (hget : ∀ i, get i S = stepL (L.map e) i)
    (hs : ∀ a ∈ L, Wp (body (e a)) S (fun o S' => o = (if p a then some (e a) else none) ∧ S' = S) NoX) (hd : Q ((L.filter p).map e) S) : Wp (compLoop get body (m + 1) 0 []) S Q E :=
  comp_enc L e e (fun a => if p a then some a else none) hm hl hget (fun a ha => (hs a ha).mono fun o S' ⟨h1, h2⟩ => ⟨by rw [h1]; split <;> rfl, h2⟩) (by rw [filterMap_if]; exact hd)
theorem comp2_enc {α γ : Type} {get : Nat → Sto → Step} {inner : D → List D → M (List D)} {Q : List D → Sto → Prop} {E : XP} (L : List α) (e : α → D) (e' : γ → D) (g : α → List γ) {m : Nat} (hm : m = L.length) {S : Sto} (hl : (L.flatMap g).length ≤ sizeLine) (hget : ∀ i, get i S = stepL (L.map e) i)
    (hs : ∀ a ∈ L, ∀ acc : List D, acc.length + (g a).length ≤ sizeLine → Wp (inner (e a) acc) S (fun o S' => o = acc ++ (g a).map e' ∧ S' = S) NoX) (hd : Q ((L.flatMap g).map e') S) : Wp (comp2Loop get inner (m + 1) 0 []) S Q E := by
  subst hm
  refine comp2_rule (L.map e) (fun i acc S' => i ≤ L.length ∧ S' = S ∧ acc = ((L.take i).flatMap g).map e') (fun i acc S' h => by rw [h.2.1]; exact hget i) (fun i x acc S' hx ⟨h1, h2, h3⟩ => ?_) (fun acc S' ⟨_, h2, h3⟩ => ?_) (L.length + 1) 0 [] S (by simp) (Nat.zero_le _) ⟨Nat.zero_le _, rfl, by simp⟩
  · subst h2
    rw [List.getElem?_map, Option.map_eq_some_iff] at hx
    obtain ⟨a, ha, rfl⟩ := hx
    have hi : i < L.length := by
      rcases Nat.lt_or_ge i L.length with q | q
      · exact q
      · rw [List.getElem?_eq_none q] at ha; cases ha
    have ht : (L.take (i + 1)).flatMap g = (L.take i).flatMap g ++ g a := by
      rw [List.take_add_one, ha, List.flatMap_append]
      simp
    have hle : ((L.take (i + 1)).flatMap g).length ≤ (L.flatMap g).length := by
      have e : L.flatMap g = (L.take (i + 1)).flatMap g ++ (L.drop (i + 1)).flatMap g := by rw [← List.flatMap_append, List.take_append_drop]
      rw [e, List.length_append]
      omega
    rw [ht, List.length_append] at hle
    refine (hs a (List.mem_of_getElem? ha) acc (by rw [h3, List.length_map]; omega)).monoE (fun o S'' ⟨ho, he⟩ => ⟨hi, he, by rw [ho, h3, ht, List.map_append]⟩) fun c fs S'' h => h.elim
  · subst h2 h3
    rw [List.length_map, List.take_length]
    exact hd

/-! ### what is walked, as a list -/
def enumL (l : List D) : List D := l.mapIdx fun i x => .tup [.int (i : Nat), x]
def zipL (a b : List D) : List D := (a.zip b).map fun p => .tup [p.1, p.2]
theorem enumL_length (l : List D) : (enumL l).length = l.length := by unfold enumL; rw [List.length_mapIdx]
theorem zipL_length (a b : List D) : (zipL a b).length = min a.length b.length := by unfold zipL; rw [List.length_map, List.length_zip]
theorem rangeL_length (lo hi : Int) : (rangeL lo hi).length = (hi - lo).toNat := by unfold rangeL; rw [List.length_map, List.length_range]
theorem enum_step {l : List D} {d : D} {i : Nat} {S : Sto} (h : seqStep d i S = stepL l i) : enumStep d i S = stepL (enumL l) i := by
  unfold enumStep
  rw [h]
  unfold stepL enumL
  rw [List.getElem?_mapIdx]
  cases l[i]? <;> rfl
theorem zip_step {l k : List D} {d e : D} {i : Nat} {S : Sto} (h : seqStep d i S = stepL l i) (h2 : seqStep e i S = stepL k i) : zipStep d e i S = stepL (zipL l k) i := by
  unfold zipStep
  rw [h, h2]
  unfold stepL zipL
  rw [List.getElem?_map, List.zip_eq_zipWith, List.getElem?_zipWith]
  cases l[i]? <;> cases k[i]? <;> rfl
theorem seq_tup (l : List D) (i : Nat) (S : Sto) : seqStep (.tup l) i S = stepL l i := rfl
theorem seq_clst (l : List D) (i : Nat) (S : Sto) : seqStep (.clst l) i S = stepL l i := rfl
theorem seq_ref {n : Nat} {l : List D} {S : Sto} (h : S[n]? = some (.lst l)) (i : Nat) : seqStep (.ref n) i S = stepL l i := by
  unfold seqStep
  dsimp only
  rw [h]

/-! ### lists, whatever they lie in -/
inductive LstAt (S : Sto) : D → List D → Prop
  | c (l : List D) : LstAt S (.clst l) l
  | r {n : Nat} {l : List D} (h : S[n]? = some (.lst l)) : LstAt S (.ref n) l
section
variable {S : Sto} {d : D} {l : List D}
theorem LstAt.ext {S' : Sto} (h : LstAt S d l) (e : Ext S S') : LstAt S' d l := by
  cases h with
  | c l => exact .c l
  | r h => exact .r (e _ _ h)
theorem LstAt.isi (h : LstAt S d l) (ts : List String) (Q : Bool → Sto → Prop) (E : XP) : Wp (isinst d ts) S Q E = Q (ts.any (isTy "list")) S := by
  cases h with
  | c l => exact vi_clst S l ts Q E
  | r h => exact vi_ref S h ts Q E
theorem LstAt.items (h : LstAt S d l) (Q : List D → Sto → Prop) (E : XP) : Wp (Pi.items d) S Q E = Q l S := by
  cases h with
  | c l => exact vs_clst S l Q E
  | r h => exact vs_ref S h Q E
theorem LstAt.len (h : LstAt S d l) (Q : D → Sto → Prop) (E : XP) : Wp (builtin .len [d]) S Q E = Q (.int l.length) S := by
  cases h with
  | c l => exact vf_len_clst S l Q E
  | r h => exact vf_len_ref S h Q E
theorem LstAt.idx (h : LstAt S d l) (j : Int) (Q : D → Sto → Prop) (E : XP) : Wp (index d (.int j)) S Q E = (match L2.atI l j with | some v => Q v S | none => False) := by
  cases h with
  | c l => exact vx_clst S l j Q E
  | r h => exact vx_ref S h j Q E
theorem LstAt.seq (h : LstAt S d l) (i : Nat) : seqStep d i S = stepL l i := by
  cases h with
  | c l => rfl
  | r h => exact seq_ref h i
end
end Pi
namespace Pi
open PySem
theorem seq_rule {C : Ctx} {a b : List Pi.S} {env : Env} {S : Sto} {Q : Fl → Sto → Prop} {E : XP} (I : Env → Sto → Prop) (h1 : Wp (evSs C a env) S (fun f S' => ∃ e, f = .nx e ∧ I e S') E) (h2 : ∀ e S', I e S' → Wp (evSs C b e) S' Q E) : Wp (evSs C (a ++ b) env) S Q E := by
  induction a generalizing env S with
  | nil =>
    rw [wss_nil] at h1
    obtain ⟨e, h, hi⟩ := h1
    cases h
    exact h2 _ _ hi
  | cons s ss ih =>
    rw [List.cons_append, wss_cons]
    rw [wss_cons] at h1
    refine h1.mono fun f S' hf => ?_
    cases f with
    | nx e => exact ih hf
    | ret d => obtain ⟨e, h, _⟩ := hf; cases h
    | brk d => obtain ⟨e, h, _⟩ := hf; cases h
    | cont d => obtain ⟨e, h, _⟩ := hf; cases h
/-- an if, its test known to end, both ways leading to the same -/
theorem if_join {C : Ctx} {c : E} {a b : List Pi.S} {env : Env} {S : Sto} {Q : Fl → Sto → Prop} {E : XP} (h : Wp (evT C c env) S (fun t S1 => (t = true → Wp (evSs C a env) S1 Q E) ∧ (t = false → Wp (evSs C b env) S1 Q E)) E) : Wp (evS C (.ifs c a b) env) S Q E := by
  rw [ws_ifs]
  refine h.mono fun t S1 ht => ?_
  cases t with
  | true => exact ht.1 rfl
  | false => exact ht.2 rfl
theorem vb_addL {S : Sto} {x y : D} {k l : List D} (h1 : Its S x k) (h2 : Its S y l) (t1 : isTupD x = false) (t2 : isTupD y = false) (Q : D → Sto → Prop) (E : XP) : Wp (binop .add x y) S Q E = (k.length + l.length ≤ sizeLine ∧ Q (.ref S.length) (S ++ [.lst (k ++ l)])) := by
  have e : binop .add x y S = (do
    let k ← items x
    let l ← items y
    chk (decide (k.length + l.length ≤ sizeLine))
    newO (.lst (k ++ l)) : M D) S := by
    cases x <;> cases y <;> first | rfl | (cases t1; done) | (cases t2; done) | (unfold Its items at h1; cases h1; done) | (unfold Its items at h2; cases h2; done)
  rw [wp_ap, e, ← wp_ap, wp_bind, h1.wp, wp_bind, h2.wp, wp_bind, wp_chk, decide_eq_true_eq]
  rfl
end Pi

/-! Data in a store. -/
namespace Pi
open PySem

theorem mapM_some {α β : Type} {f : α → Option β} {g : α → β} : ∀ {l : List α}, (∀ x ∈ l, f x = some (g x)) → l.mapM f = some (l.map g)
  | [], _ => by simp
  | x :: l, h => by
    rw [List.mapM_cons, h x List.mem_cons_self, mapM_some fun y hy => h y (List.mem_cons_of_mem _ hy)]
    rfl
theorem mapM_ext {α β : Type} {f f' : α → Option β} : ∀ {l : List α} {ys : List β}, (∀ x ∈ l, ∀ y, f x = some y → f' x = some y) → l.mapM f = some ys → l.mapM f' = some ys
  | [], ys, _, h => by simpa using h
  | x :: l, ys, hf, h => by
    rw [List.mapM_cons] at h ⊢
    cases e : f x with
    | none => rw [e] at h; cases h
    | some y =>
      rw [e] at h
      rw [hf x List.mem_cons_self y e]
      cases e2 : l.mapM f with
      | none => simp [e2] at h
      | some zs =>
        rw [mapM_ext (fun z hz => hf z (List.mem_cons_of_mem _ hz)) e2]
        simp [e2] at h ⊢
        exact h
theorem mapM_get {α β : Type} {f : α → Option β} : ∀ {l : List α} {ys : List β}, l.mapM f = some ys → l.length = ys.length ∧ ∀ (i : Nat) (x : α), l[i]? = some x → ∃ y, ys[i]? = some y ∧ f x = some y
  | [], ys, h => by
    simp at h
    subst h
    simp
  | x :: l, ys, h => by
    rw [List.mapM_cons] at h
    cases e : f x with
    | none => rw [e] at h; cases h
    | some y =>
      cases e2 : l.mapM f with
      | none => simp [e, e2] at h
      | some zs =>
        simp [e, e2] at h
        subst h
        obtain ⟨h1, h2⟩ := mapM_get e2
        refine ⟨by simp [h1], fun i z hz => ?_⟩
        cases i with
        | zero =>
          simp at hz
          subst hz
          exact ⟨y, rfl, e⟩
        | succ i =>
          simp at hz
          obtain ⟨w, hw, q⟩ := h2 i z hz
          exact ⟨w, by simpa using hw, q⟩
theorem py_ext {S S' : Sto} (e : Ext S S') : ∀ (n : Nat) (d : D) (p : PyData), py n S d = some p → py n S' d = some p
  | 0, _, _, h => by simp [py] at h
  | n + 1, .non, _, h => by simpa [py] using h
  | n + 1, .bl _, _, h => by simpa [py] using h
  | n + 1, .int _, _, h => by simpa [py] using h
  | n + 1, .str _, _, h => by simpa [py] using h
  | n + 1, .tup l, p, h => by
    simp only [py, Option.map_eq_some_iff] at h ⊢
    obtain ⟨ys, h, rfl⟩ := h
    exact ⟨ys, mapM_ext (fun x _ y q => py_ext e n x y q) h, rfl⟩
  | n + 1, .clst l, p, h => by
    simp only [py, Option.map_eq_some_iff] at h ⊢
    obtain ⟨ys, h, rfl⟩ := h
    exact ⟨ys, mapM_ext (fun x _ y q => py_ext e n x y q) h, rfl⟩
  | n + 1, .ref a, p, h => by
    simp only [py] at h ⊢
    cases q : S[a]? with
    | none => rw [q] at h; cases h
    | some o =>
      rw [q] at h
      rw [e _ _ q]
      cases o with
      | lst l =>
        simp only [Option.map_eq_some_iff] at h ⊢
        obtain ⟨ys, h, rfl⟩ := h
        exact ⟨ys, mapM_ext (fun x _ y q => py_ext e n x y q) h, rfl⟩
      | _ => cases h
theorem py_mono {S : Sto} : ∀ (n : Nat) (d : D) (p : PyData), py n S d = some p → py (n + 1) S d = some p
  | 0, _, _, h => by simp [py] at h
  | n + 1, .non, _, h => by simpa [py] using h
  | n + 1, .bl _, _, h => by simpa [py] using h
  | n + 1, .int _, _, h => by simpa [py] using h
  | n + 1, .str _, _, h => by simpa [py] using h
  | n + 1, .tup l, p, h => by
    rw [py] at h ⊢
    simp only [Option.map_eq_some_iff] at h ⊢
    obtain ⟨ys, h, rfl⟩ := h
    exact ⟨ys, mapM_ext (fun x _ y q => py_mono n x y q) h, rfl⟩
  | n + 1, .clst l, p, h => by
    rw [py] at h ⊢
    simp only [Option.map_eq_some_iff] at h ⊢
    obtain ⟨ys, h, rfl⟩ := h
    exact ⟨ys, mapM_ext (fun x _ y q => py_mono n x y q) h, rfl⟩
  | n + 1, .ref a, p, h => by
    rw [py] at h ⊢
    cases q : S[a]? with
    | none => rw [q] at h; cases h
    | some o =>
      rw [q] at h
      cases o with
      | lst l =>
        simp only [Option.map_eq_some_iff] at h ⊢
        obtain ⟨ys, h, rfl⟩ := h
        exact ⟨ys, mapM_ext (fun x _ y q => py_mono n x y q) h, rfl⟩
      | _ => cases h
theorem py_le {S : Sto} {n m : Nat} {d : D} {p : PyData} (h : py n S d = some p) (hm : n ≤ m) : py m S d = some p := by
  induction hm with
  | refl => exact h
  | step _ ih => exact py_mono _ d p ih
theorem py_int (n : Nat) (S : Sto) (i : Int) : py (n + 1) S (.int i) = some (.int i) := rfl
theorem py_bl (n : Nat) (S : Sto) (i : Bool) : py (n + 1) S (.bl i) = some (.bool i) := rfl
theorem py_non (n : Nat) (S : Sto) : py (n + 1) S .non = some .none := rfl
theorem py_tup {n : Nat} {S : Sto} {l : List D} {ps : List PyData} (h : l.mapM (py n S) = some ps) : py (n + 1) S (.tup l) = some (.tuple ps) := by
  simp only [py, h]
  rfl
theorem py_lst {n : Nat} {S : Sto} {d : D} {l : List D} {ps : List PyData} (hd : LstAt S d l) (h : l.mapM (py n S) = some ps) : py (n + 1) S d = some (.list ps) := by
  cases hd with
  | c l => simp only [py, h]; rfl
  | r q => simp only [py, q, h]; rfl
theorem ints_py (n : Nat) (S : Sto) (l : List Int) : (l.map D.int).mapM (py (n + 1) S) = some (l.map PyData.int) := by
  rw [mapM_some (g := fun d => match d with | .int i => .int i | _ => .none)]
  · rw [List.map_map]
    rfl
  · intro x hx
    obtain ⟨i, _, rfl⟩ := List.mem_map.mp hx
    rfl
/-- a tuple of whole numbers -/
abbrev tI (l : List Int) : D := .tup (l.map .int)
theorem py_tI (n : Nat) (S : Sto) (l : List Int) : py (n + 2) S (tI l) = some (.tuple (l.map .int)) := py_tup (ints_py n S l)

theorem sortM_of {S : Sto} {l : List D} {ps : List PyData} (hl : l.mapM (py depthP S) = some ps) (h : l.length ≤ 1 ∨ (alikeB ps && sortableB ps) = true) : sortM l S = newO (.lst (sortD l ps)) S := by
  unfold sortM
  by_cases q : l.length ≤ 1
  · rw [if_pos q]
    have hlen := (mapM_get hl).1
    match l, ps, q, hlen with
    | [], _, _, _ =>
      unfold sortD
      simp
    | [a], [p], _, _ =>
      unfold sortD
      simp
    | _ :: _ :: _, _, q, _ => simp at q
  · rw [if_neg q, hl]
    dsimp only
    rw [if_pos (h.resolve_left q)]
/-! ### equality -/
mutual
def plain : PyData → Bool
  | .bool _ => false
  | .dict _ => false
  | .list l => plainL l
  | .tuple l => plainL l
  | _ => true
def plainL : List PyData → Bool
  | [] => true
  | x :: l => plain x && plainL l
end
mutual
def noDic : PyData → Bool
  | .dict _ => false
  | .list l => noDicL l
  | .tuple l => noDicL l
  | _ => true
def noDicL : List PyData → Bool
  | [] => true
  | x :: l => noDic x && noDicL l
end
mutual
theorem eqv_self : ∀ p : PyData, noDic p = true → PyData.eqv p p = true
  | .none, _ => by simp [PyData.eqv]
  | .bool b, _ => by simp [PyData.eqv]
  | .int i, _ => by simp [PyData.eqv]
  | .str s, _ => by simp [PyData.eqv]
  | .list l, h => by rw [PyData.eqv]; exact eqvAll_self l (by simpa [noDic] using h)
  | .tuple l, h => by rw [PyData.eqv]; exact eqvAll_self l (by simpa [noDic] using h)
  | .dict _, h => by simp [noDic] at h
theorem eqvAll_self : ∀ p : List PyData, noDicL p = true → PyData.eqvAll p p = true
  | [], _ => by simp [PyData.eqvAll]
  | x :: l, h => by
    rw [noDicL, Bool.and_eq_true] at h
    rw [PyData.eqvAll, eqv_self x h.1, eqvAll_self l h.2]
    rfl
end
mutual
theorem eqv_eq : ∀ p q : PyData, plain p = true → plain q = true → PyData.eqv p q = true → p = q
  | .none, q, _, _, h => by cases q <;> simp [PyData.eqv] at h; rfl
  | .bool _, _, h, _, _ => by simp [plain] at h
  | .int i, q, _, hq, h => by
    cases q <;> simp [PyData.eqv, plain] at h hq
    rw [h]
  | .str i, q, _, hq, h => by
    cases q <;> simp [PyData.eqv] at h
    rw [h]
  | .list l, q, hp, hq, h => by
    cases q <;> simp only [PyData.eqv] at h
    all_goals first | (cases h; done) | skip
    rw [eqvAll_eq l _ (by simpa [plain] using hp) (by simpa [plain] using hq) h]
  | .tuple l, q, hp, hq, h => by
    cases q <;> simp only [PyData.eqv] at h
    all_goals first | (cases h; done) | skip
    rw [eqvAll_eq l _ (by simpa [plain] using hp) (by simpa [plain] using hq) h]
  | .dict _, _, h, _, _ => by simp [plain] at h
theorem eqvAll_eq : ∀ p q : List PyData, plainL p = true → plainL q = true → PyData.eqvAll p q = true → p = q
  | [], [], _, _, _ => rfl
  | [], _ :: _, _, _, h => by simp [PyData.eqvAll] at h
  | _ :: _, [], _, _, h => by simp [PyData.eqvAll] at h
  | x :: l, y :: k, h1, h2, h => by
    rw [plainL, Bool.and_eq_true] at h1 h2
    rw [PyData.eqvAll, Bool.and_eq_true] at h
    rw [eqv_eq x y h1.1 h2.1 h.1, eqvAll_eq l k h1.2 h2.2 h.2]
end
mutual
theorem noDic_plain : ∀ p : PyData, plain p = true → noDic p = true
  | .none, _ => rfl
  | .bool _, _ => rfl
  | .int _, _ => rfl
  | .str _, _ => rfl
  | .list l, h => by rw [plain] at h; rw [noDic]; exact noDicL_plain l h
  | .tuple l, h => by rw [plain] at h; rw [noDic]; exact noDicL_plain l h
  | .dict _, h => by simp [plain] at h
theorem noDicL_plain : ∀ p : List PyData, plainL p = true → noDicL p = true
  | [], _ => rfl
  | x :: l, h => by
    rw [plainL, Bool.and_eq_true] at h
    rw [noDicL, noDic_plain x h.1, noDicL_plain l h.2]
    rfl
end
theorem plainL_ints : ∀ l : List Int, plainL (l.map .int) = true
  | [] => rfl
  | x :: l => by rw [List.map_cons, plainL, plainL_ints l]; rfl
theorem map_int_inj {l k : List Int} (h : l.map PyData.int = k.map PyData.int) : l = k := by
  induction l generalizing k with
  | nil => cases k <;> simp at h; rfl
  | cons a l ih =>
    cases k with
    | nil => simp at h
    | cons b k =>
      simp at h
      rw [h.1, ih h.2]
theorem eqv_ints (l k : List Int) : PyData.eqv (.tuple (l.map .int)) (.tuple (k.map .int)) = decide (l = k) := by
  by_cases h : l = k
  · subst h
    rw [decide_eq_true rfl]
    exact eqv_self _ (noDic_plain _ (by rw [plain]; exact plainL_ints l))
  · rw [decide_eq_false h]
    cases e : PyData.eqv (.tuple (l.map .int)) (.tuple (k.map .int)) with
    | false => rfl
    | true =>
      have := eqv_eq _ _ (by rw [plain]; exact plainL_ints l) (by rw [plain]; exact plainL_ints k) e
      injection this with this
      exact absurd (map_int_inj this) h
theorem eqv_intsL (l k : List Int) : PyData.eqv (.list (l.map .int)) (.list (k.map .int)) = decide (l = k) := by
  have : PyData.eqv (.list (l.map .int)) (.list (k.map .int)) = PyData.eqv (.tuple (l.map .int)) (.tuple (k.map .int)) := by simp [PyData.eqv]
  rw [this, eqv_ints]
theorem ve_py {S : Sto} {x y : D} {p q : PyData} (h1 : py depthP S x = some p) (h2 : py depthP S y = some q) (Q : Bool → Sto → Prop) (E : XP) : Wp (eqv x y) S Q E = Q (PyData.eqv p q) S := by
  rw [wp_ap]
  unfold eqv
  rw [h1, h2]
theorem ve_tI (S : Sto) (l k : List Int) (Q : Bool → Sto → Prop) (E : XP) : Wp (eqv (.tup (l.map .int)) (.tup (k.map .int))) S Q E = Q (decide (l = k)) S := by
  rw [ve_py (py_tI 38 S l) (py_tI 38 S k), eqv_ints]
theorem ve_lI {S : Sto} {d e : D} {l k : List Int} (hd : LstAt S d (l.map .int)) (he : LstAt S e (k.map .int)) (Q : Bool → Sto → Prop) (E : XP) : Wp (eqv d e) S Q E = Q (decide (l = k)) S := by
  rw [ve_py (py_lst (n := 39) hd (ints_py 38 S l)) (py_lst (n := 39) he (ints_py 38 S k)), eqv_intsL]
/-- in -/
theorem its_nodict {S : Sto} {y : D} {l : List D} (h : Its S y l) : dictAt y S = none := by
  unfold Its at h
  obtain ⟨_, q⟩ := items_inv h
  rcases q with rfl | rfl | ⟨n, rfl, hn⟩
  · rfl
  · rfl
  · simp only [dictAt, hn]
theorem vin_py {S : Sto} {x y : D} {p : PyData} {l : List D} {ps : List PyData} (h1 : py depthP S x = some p) (hy : Its S y l) (hl : l.mapM (py depthP S) = some ps) (Q : Bool → Sto → Prop) (E : XP) : Wp (inSeq x y) S Q E = Q (ps.any fun q => PyData.eqv q p) S := by
  rw [wp_ap]
  unfold inSeq
  rw [its_nodict hy]
  dsimp only
  unfold inSeq0
  have e : items y S = .ok l S := hy
  rw [e]
  dsimp only
  rw [h1]
  unfold anyPy
  rw [hl]
  rfl
/-! ### what values stand for -/
structure EncOk {α : Type} [DecidableEq α] (e : α → D) (f : α → PyData) (k : Nat) : Prop where
  py : ∀ (S : Sto) (a : α) (n : Nat), k ≤ n → Pi.py n S (e a) = some (f a)
  eq : ∀ a b, PyData.eqv (f a) (f b) = decide (a = b)
  fine : ∀ a, Pi.fine 0 (e a) = true
theorem frz_fine {n : Nat} {S : Sto} : ∀ (k : Nat) (d : D) (p : PyData), py k S d = some p → fine n d = true → frzD k n S d = some d
  | 0, _, _, h, _ => by simp [py] at h
  | k + 1, .tup l, p, h, hf => by
    simp only [py, Option.map_eq_some_iff] at h
    obtain ⟨ps, h, _⟩ := h
    rw [fine] at hf
    simp only [frzD]
    rw [frz_all k l ps h hf]
    rfl
  | k + 1, .clst l, p, h, hf => by
    simp only [py, Option.map_eq_some_iff] at h
    obtain ⟨ps, h, _⟩ := h
    rw [fine] at hf
    simp only [frzD]
    rw [frz_all k l ps h hf]
    rfl
  | k + 1, .ref a, p, h, hf => by
    rw [fine] at hf
    simp only [frzD]
    rw [if_pos (of_decide_eq_true hf)]
  | k + 1, .non, _, _, _ => rfl
  | k + 1, .bl _, _, _, _ => rfl
  | k + 1, .int _, _, _, _ => rfl
  | k + 1, .str _, _, _, _ => rfl
  | k + 1, .rng _ _, _, _, _ => rfl
where
  frz_all (k : Nat) : ∀ (l : List D) (ps : List PyData), l.mapM (py k S) = some ps → fines n l = true → l.mapM (frzD k n S) = some l
    | [], _, _, _ => rfl
    | d :: l, ps, h, hf => by
      obtain ⟨y, r, h1, h2, h3⟩ := mapM_cons_some h
      rw [fines, Bool.and_eq_true] at hf
      rw [List.mapM_cons, frz_fine k d y h1 hf.1, frz_all k l r h2 hf.2]
      rfl
theorem fine_zero {n : Nat} : ∀ (k : Nat) {S : Sto} (d : D) (p : PyData), py k S d = some p → fine 0 d = true → fine n d = true
  | 0, _, _, _, h, _ => by simp [py] at h
  | k + 1, S, .tup l, p, h, hf => by
    simp only [py, Option.map_eq_some_iff] at h
    obtain ⟨ps, h, _⟩ := h
    rw [fine] at hf ⊢
    exact go k S l ps h hf
  | k + 1, S, .clst l, p, h, hf => by
    simp only [py, Option.map_eq_some_iff] at h
    obtain ⟨ps, h, _⟩ := h
    rw [fine] at hf ⊢
    exact go k S l ps h hf
  | k + 1, _, .ref a, p, h, hf => by
    rw [fine] at hf
    exact absurd (of_decide_eq_true hf) (Nat.not_lt_zero _)
  | k + 1, _, .non, _, _, _ => rfl
  | k + 1, _, .bl _, _, _, _ => rfl
  | k + 1, _, .int _, _, _, _ => rfl
  | k + 1, _, .str _, _, _, _ => rfl
  | k + 1, _, .rng _ _, _, _, _ => rfl
where
  go (k : Nat) (S : Sto) : ∀ (l : List D) (ps : List PyData), l.mapM (py k S) = some ps → fines 0 l = true → fines n l = true
    | [], _, _, _ => rfl
    | d :: l, ps, h, hf => by
      obtain ⟨y, r, h1, h2, h3⟩ := mapM_cons_some h
      rw [fines, Bool.and_eq_true] at hf
      rw [fines, fine_zero k d y h1 hf.1, go k S l r h2 hf.2]
      rfl
theorem kept_refl (S : Sto) : Kept S S := ⟨Nat.le_refl _, fun _ _ _ h => .inl h⟩
theorem kept_snoc (S T : Sto) : Kept S (S ++ T) := ⟨by simp, fun i o hi h => .inl (by rwa [List.getElem?_append_left hi] at h)⟩
section
variable {α β : Type} [DecidableEq α] [DecidableEq β] {e : α → D} {f : α → PyData} {k : Nat} {e2 : β → D} {f2 : β → PyData}
theorem mapM_map_some {γ δ ε : Type} {g : γ → Option δ} {u : ε → γ} {w : ε → δ} : ∀ {l : List ε}, (∀ x ∈ l, g (u x) = some (w x)) → (l.map u).mapM g = some (l.map w)
  | [], _ => rfl
  | x :: l, h => by
    rw [List.map_cons, List.mapM_cons, h x List.mem_cons_self, mapM_map_some fun y hy => h y (List.mem_cons_of_mem _ hy)]
    rfl
theorem EncOk.pys (h : EncOk e f k) (S : Sto) (l : List α) {n : Nat} (hn : k ≤ n) : (l.map e).mapM (Pi.py n S) = some (l.map f) := mapM_map_some fun x _ => h.py S x n hn
theorem EncOk.fines (h : EncOk e f k) : ∀ l : List α, Pi.fines 0 (l.map e) = true
  | [] => rfl
  | a :: l => by rw [List.map_cons, Pi.fines, h.fine a, h.fines l]; rfl
theorem EncOk.frz (h : EncOk e f k) (S : Sto) (a : α) {n m : Nat} (hn : k ≤ n) : frzD n m S (e a) = some (e a) :=
  frz_fine n _ _ (h.py S a n hn) (fine_zero n _ _ (h.py S a n hn) (h.fine a))
theorem EncOk.frzs (h : EncOk e f k) (S : Sto) (l : List α) {n m : Nat} (hn : k ≤ n) : (l.map e).mapM (frzD n m S) = some (l.map e) := mapM_map_some fun x _ => h.frz S x hn
theorem eqvAll_map (h : EncOk e f k) : ∀ l m : List α, PyData.eqvAll (l.map f) (m.map f) = decide (l = m)
  | [], [] => by simp [PyData.eqvAll]
  | [], _ :: _ => by simp [PyData.eqvAll]
  | _ :: _, [] => by simp [PyData.eqvAll]
  | a :: l, b :: m => by
    rw [List.map_cons, List.map_cons, PyData.eqvAll, h.eq, eqvAll_map h l m]
    by_cases q : a = b <;> by_cases r : l = m <;> simp [q, r]
theorem encI : EncOk (α := Int) D.int PyData.int 1 where
  py := fun S a n hn => by cases n with | zero => omega | succ n => rfl
  eq := fun a b => by simp only [PyData.eqv]; by_cases h : a = b <;> simp [h]
  fine := fun _ => rfl
theorem encB : EncOk (α := Bool) D.bl PyData.bool 1 where
  py := fun S a n hn => by cases n with | zero => omega | succ n => rfl
  eq := fun a b => by simp only [PyData.eqv]; cases a <;> cases b <;> rfl
  fine := fun _ => rfl
theorem encT (h : EncOk e f k) : EncOk (α := List α) (fun l => D.tup (l.map e)) (fun l => .tuple (l.map f)) (k + 1) where
  py := fun S a n hn => by
    cases n with
    | zero => omega
    | succ n => simp only [Pi.py, h.pys S a (show k ≤ n by omega), Option.map_some]
  eq := fun a b => by rw [PyData.eqv, eqvAll_map h]
  fine := fun a => by rw [Pi.fine, h.fines]
theorem encL (h : EncOk e f k) : EncOk (α := List α) (fun l => D.clst (l.map e)) (fun l => .list (l.map f)) (k + 1) where
  py := fun S a n hn => by
    cases n with
    | zero => omega
    | succ n => simp only [Pi.py, h.pys S a (show k ≤ n by omega), Option.map_some]
  eq := fun a b => by rw [PyData.eqv, eqvAll_map h]
  fine := fun a => by rw [Pi.fine, h.fines]
theorem encP {k2 : Nat} (h : EncOk e f k) (h2 : EncOk e2 f2 k2) : EncOk (α := α × β) (fun p => D.tup [e p.1, e2 p.2]) (fun p => .tuple [f p.1, f2 p.2]) (max k k2 + 1) where
  py := fun S a n hn => by
    cases n with
    | zero => omega
    | succ n => simp only [Pi.py, List.mapM_cons, List.mapM_nil, h.py S a.1 n (by omega), h2.py S a.2 n (by omega)]; rfl
  eq := fun a b => by
    simp only [PyData.eqv, PyData.eqvAll, h.eq, h2.eq]
    obtain ⟨a1, a2⟩ := a
    obtain ⟨b1, b2⟩ := b
    by_cases q : a1 = b1 <;> by_cases r : a2 = b2 <;> simp [q, r]
  fine := fun a => by simp only [Pi.fine, Pi.fines, h.fine, h2.fine, Bool.and_self]
theorem ve_enc (h : EncOk e f k) (hk : k ≤ 40) (S : Sto) (a b : α) (Q : Bool → Sto → Prop) (E : XP) : Wp (eqv (e a) (e b)) S Q E = Q (decide (a = b)) S := by
  rw [ve_py (h.py S a 40 hk) (h.py S b 40 hk), h.eq]
theorem any_enc (h : EncOk e f k) (a : α) : ∀ l : List α, ((l.map f).any fun q => PyData.eqv q (f a)) = decide (a ∈ l)
  | [] => by simp
  | b :: l => by
    rw [List.map_cons, List.any_cons, any_enc h a l, h.eq]
    by_cases q : b = a
    · simp [q]
    · have q2 : ¬ a = b := fun z => q z.symm
      simp [q, q2]
theorem vin_enc (h : EncOk e f k) (hk : k ≤ 40) (S : Sto) (a : α) (l : List α) {y : D} (hy : Its S y (l.map e)) (Q : Bool → Sto → Prop) (E : XP) : Wp (inSeq (e a) y) S Q E = Q (decide (a ∈ l)) S := by
  rw [vin_py (h.py S a 40 hk) hy (h.pys S l hk), any_enc h]
/-! what is made fast -/
theorem fzq_enc (h : EncOk e f k) (hk : k ≤ 40) (S : Sto) (a : α) (Q : D → Sto → Prop) : FzQ S Q (e a) S = Q (e a) S := by
  unfold FzQ
  rw [h.frz S a (show k ≤ depthP from hk), List.take_length]
  apply propext
  exact ⟨fun ⟨_, d, hd, q⟩ => by cases hd; exact q, fun q => ⟨kept_refl S, _, rfl, q⟩⟩
/-- a new list -/
theorem fzq_new {S : Sto} {l : List D} (h : l.mapM (frzD 39 S.length (S ++ [.lst l])) = some l) (Q : D → Sto → Prop) : FzQ S Q (.ref S.length) (S ++ [.lst l]) = Q (.clst l) S := by
  have e1 : frzD depthP S.length (S ++ [.lst l]) (.ref S.length) = some (.clst l) := by
    show frzD (39 + 1) _ _ _ = _
    simp only [frzD, Nat.lt_irrefl, if_false]
    rw [List.getElem?_append_right (Nat.le_refl _), Nat.sub_self]
    simp only [List.getElem?_cons_zero, h, Option.map_some]
  unfold FzQ
  rw [e1]
  apply propext
  exact ⟨fun ⟨_, d, hd, q⟩ => by cases hd; simpa using q, fun q => ⟨kept_snoc S _, _, rfl, by simpa using q⟩⟩
theorem fzq_list (h : EncOk e f k) (hk : k ≤ 39) (S : Sto) (l : List α) (Q : D → Sto → Prop) : FzQ S Q (.ref S.length) (S ++ [.lst (l.map e)]) = Q (.clst (l.map e)) S :=
  fzq_new (h.frzs _ l hk) Q
end
theorem encTI : EncOk (α := List Int) tI (fun l => .tuple (l.map .int)) 2 := encT encI
section
variable (S : Sto) (Q : D → Sto → Prop)
theorem fzq_int (i : Int) : FzQ S Q (.int i) S = Q (.int i) S := fzq_enc encI (by decide) S i Q
theorem fzq_bl (i : Bool) : FzQ S Q (.bl i) S = Q (.bl i) S := fzq_enc encB (by decide) S i Q
theorem fzq_non : FzQ S Q .non S = Q .non S := by
  unfold FzQ
  rw [show frzD depthP S.length S .non = some .non from rfl, List.take_length]
  apply propext
  exact ⟨fun ⟨_, d, hd, q⟩ => by cases hd; exact q, fun q => ⟨kept_refl S, _, rfl, q⟩⟩
theorem fzq_str (x : Str) : FzQ S Q (.str x) S = Q (.str x) S := by
  unfold FzQ
  rw [show frzD depthP S.length S (.str x) = some (.str x) from rfl, List.take_length]
  apply propext
  exact ⟨fun ⟨_, d, hd, q⟩ => by cases hd; exact q, fun q => ⟨kept_refl S, _, rfl, q⟩⟩
theorem fzq_tI (l : List Int) : FzQ S Q (tI l) S = Q (tI l) S := fzq_enc encTI (by decide) S l Q
theorem fzq_tup (l : List Int) : FzQ S Q (.tup (l.map .int)) S = Q (.tup (l.map .int)) S := fzq_enc encTI (by decide) S l Q
theorem fzq_ints (l : List Int) : FzQ S Q (.ref S.length) (S ++ [.lst (l.map .int)]) = Q (.clst (l.map .int)) S := fzq_list encI (by decide) S l Q
theorem fzq_bls (l : List Bool) : FzQ S Q (.ref S.length) (S ++ [.lst (l.map .bl)]) = Q (.clst (l.map .bl)) S := fzq_list encB (by decide) S l Q
theorem fzq_tIs (l : List (List Int)) : FzQ S Q (.ref S.length) (S ++ [.lst (l.map tI)]) = Q (.clst (l.map tI)) S := fzq_list encTI (by decide) S l Q
theorem fzq_nil : FzQ S Q (.ref S.length) (S ++ [.lst []]) = Q (.clst []) S := fzq_ints S Q []
end
theorem vin_int (S : Sto) (i : Int) (l : List Int) (Q : Bool → Sto → Prop) (E : XP) : Wp (inSeq (.int i) (.tup (l.map .int))) S Q E = Q (decide (i ∈ l)) S := vin_enc encI (by decide) S i l (its_tup S _) Q E
theorem vin_intL (S : Sto) (i : Int) (l : List Int) (Q : Bool → Sto → Prop) (E : XP) : Wp (inSeq (.int i) (.clst (l.map .int))) S Q E = Q (decide (i ∈ l)) S := vin_enc encI (by decide) S i l (its_clst S _) Q E
theorem vin_nil (S : Sto) (i : Int) (Q : Bool → Sto → Prop) (E : XP) : Wp (inSeq (.int i) (.tup [])) S Q E = Q false S := by
  have := vin_int S i [] Q E
  simpa using this
theorem ve_cI (S : Sto) (l k : List Int) (Q : Bool → Sto → Prop) (E : XP) : Wp (eqv (.clst (l.map .int)) (.clst (k.map .int))) S Q E = Q (decide (l = k)) S := ve_enc (encL encI) (by decide) S l k Q E
end Pi

/-! Dicts: what runs with them end in. -/
namespace Pi
open PySem
section
variable (S : Sto)
theorem vd_is (t : Bool) (ks : List (List L2.Key)) (vs : List D) (Q : Unit → Sto → Prop) (E : XP) : Wp (isDict (.cdic t ks vs)) S Q E = Q () S := by rw [wp_ap]; rfl
theorem vd_isR {n : Nat} {t : Bool} {ks : List (List L2.Key)} {vs : List D} (h : S[n]? = some (.dic t ks vs)) (Q : Unit → Sto → Prop) (E : XP) : Wp (isDict (.ref n)) S Q E = Q () S := by
  rw [wp_ap]
  simp only [isDict, dictAt, h]
theorem vd_get {t : Bool} {ks : List (List L2.Key)} {vs : List D} {y : D} {k : List L2.Key} (hk : keyOf t y = some k) (Q : Option D → Sto → Prop) (E : XP) : Wp (dget (.cdic t ks vs) y) S Q E = Q (valK ks vs k) S := by
  rw [wp_ap]
  simp only [dget, dictAt, hk]
theorem vd_getR {n : Nat} {t : Bool} {ks : List (List L2.Key)} {vs : List D} {y : D} {k : List L2.Key} (h : S[n]? = some (.dic t ks vs)) (hk : keyOf t y = some k) (Q : Option D → Sto → Prop) (E : XP) : Wp (dget (.ref n) y) S Q E = Q (valK ks vs k) S := by
  rw [wp_ap]
  simp only [dget, dictAt, h, hk]
theorem vd_idx {t : Bool} {ks : List (List L2.Key)} {vs : List D} {y v : D} {k : List L2.Key} (hk : keyOf t y = some k) (hv : valK ks vs k = some v) (Q : D → Sto → Prop) (E : XP) : Wp (index (.cdic t ks vs) y) S Q E = Q v S := by
  rw [wp_ap]
  simp only [index, dget, dictAt, hk, hv]
theorem vd_idxR {n : Nat} {t : Bool} {ks : List (List L2.Key)} {vs : List D} {y v : D} {k : List L2.Key} (h : S[n]? = some (.dic t ks vs)) (hk : keyOf t y = some k) (hv : valK ks vs k = some v) (Q : D → Sto → Prop) (E : XP) : Wp (index (.ref n) y) S Q E = Q v S := by
  rw [wp_ap]
  simp only [index, dget, dictAt, h, hk, hv]
theorem vd_set {n : Nat} {t : Bool} {ks : List (List L2.Key)} {vs : List D} {y : D} {k : List L2.Key} (h : S[n]? = some (.dic t ks vs)) (hk : keyOf t y = some k) (v : D) (Q : Unit → Sto → Prop) (E : XP) : Wp (setItem (.ref n) y v) S Q E = (ks.length < sizeLine ∧ Q () (S.set n (.dic t (putKs ks k) (putVs ks vs k v)))) := by
  rw [wp_ap]
  simp only [setItem, dictAt, dput, h, hk]
  by_cases q : ks.length < sizeLine
  · rw [if_pos q, eq_true q, true_and]
  · rw [if_neg q, eq_false q, false_and]
theorem vd_in {t : Bool} {ks : List (List L2.Key)} {vs : List D} {y : D} {k : List L2.Key} (hk : keyOf t y = some k) (Q : Bool → Sto → Prop) (E : XP) : Wp (inSeq y (.cdic t ks vs)) S Q E = Q (valK ks vs k).isSome S := by
  rw [wp_ap]
  simp only [inSeq, dictAt, hk]
theorem vd_inR {n : Nat} {t : Bool} {ks : List (List L2.Key)} {vs : List D} {y : D} {k : List L2.Key} (h : S[n]? = some (.dic t ks vs)) (hk : keyOf t y = some k) (Q : Bool → Sto → Prop) (E : XP) : Wp (inSeq y (.ref n)) S Q E = Q (valK ks vs k).isSome S := by
  rw [wp_ap]
  simp only [inSeq, dictAt, h, hk]
theorem vd_items (t : Bool) (ks : List (List L2.Key)) (vs : List D) (Q : Iter → Sto → Prop) (E : XP) : Wp (iterItems (.cdic t ks vs)) S Q E = Q ⟨ks.length, fun i _ => stepL (pairsD t ks vs) i⟩ S := by rw [wp_ap]; rfl
end
theorem vd_litems {S : Sto} {n : Nat} {ks : List (List L2.Key)} {vs : List D} (h : S[n]? = some (.dic true ks vs)) (Q : D → Sto → Prop) (E : XP) : Wp (litems (.ref n)) S Q E = Q (.ref S.length) (S ++ [.lst (pairsD true ks vs)]) := by
  rw [wp_ap]
  simp only [litems, h]
  rfl
/-! ### keys that are tuples of whole numbers -/
def kI (l : List Int) : List L2.Key := l.map .inl
theorem key_tI : ∀ l : List Int, keyOf true (tI l) = some (kI l) := by
  intro l
  show leafKs (l.map D.int) = some (kI l)
  induction l with
  | nil => rfl
  | cons a l ih =>
    rw [List.map_cons]
    simp only [leafKs, leafK, ih]
    rfl
theorem kI_inj {a b : List Int} (h : kI a = kI b) : a = b := by
  unfold kI at h
  induction a generalizing b with
  | nil => cases b <;> simp at h; rfl
  | cons x a ih =>
    cases b with
    | nil => simp at h
    | cons y b =>
      simp at h
      rw [h.1, ih h.2]
theorem keyD_kI (l : List Int) : keyD true (kI l) = tI l := by
  unfold keyD kI
  rw [if_pos rfl, List.map_map]
  rfl
section
variable {α : Type}
abbrev Tab (α : Type) := List (List Int × α)
def dKs (L : Tab α) : List (List L2.Key) := L.map fun p => kI p.1
def dVs (e : α → D) (L : Tab α) : List D := L.map fun p => e p.2
def dcT (e : α → D) (L : Tab α) : D := .cdic true (dKs L) (dVs e L)
def putA (L : Tab α) (r : List Int) (a : α) : Tab α := if (L.any fun p => decide (p.1 = r)) = true then L.map (fun p => if p.1 = r then (p.1, a) else p) else L ++ [(r, a)]
def getA (L : Tab α) (r : List Int) : Option α := (L.find? fun p => decide (p.1 = r)).map (·.2)
theorem getA_nil (r : List Int) : getA ([] : Tab α) r = none := rfl
theorem getA_cons (p : List Int × α) (L : Tab α) (r : List Int) : getA (p :: L) r = if p.1 = r then some p.2 else getA L r := by
  unfold getA
  rw [List.find?_cons]
  by_cases h : p.1 = r <;> simp [h]
theorem valK_tab (e : α → D) : ∀ (L : Tab α) (r : List Int), valK (dKs L) (dVs e L) (kI r) = (getA L r).map e
  | [], _ => rfl
  | p :: L, r => by
    show valK (kI p.1 :: dKs L) (e p.2 :: dVs e L) (kI r) = _
    rw [valK_cons, getA_cons, valK_tab e L r]
    by_cases h : p.1 = r
    · rw [if_pos (by rw [h]), if_pos h]
      rfl
    · rw [if_neg fun z => h (kI_inj z), if_neg h]
theorem any_tab (L : Tab α) (r : List Int) : ((dKs L).any fun x => decide (x = kI r)) = L.any fun p => decide (p.1 = r) := by
  unfold dKs
  rw [List.any_map]
  congr 1
  funext p
  show decide (kI p.1 = kI r) = decide (p.1 = r)
  by_cases h : p.1 = r
  · simp [h]
  · have : ¬ kI p.1 = kI r := fun z => h (kI_inj z)
    simp [h, this]
theorem putKs_tab (L : Tab α) (r : List Int) (a : α) : putKs (dKs L) (kI r) = dKs (putA L r a) := by
  unfold putKs putA
  rw [any_tab]
  split
  · unfold dKs
    rw [List.map_map]
    apply List.map_congr_left
    intro p _
    show kI p.1 = kI (if p.1 = r then (p.1, a) else p).1
    split <;> rfl
  · unfold dKs
    rw [List.map_append]
    rfl
theorem putVs_tab (e : α → D) (L : Tab α) (r : List Int) (a : α) : putVs (dKs L) (dVs e L) (kI r) (e a) = dVs e (putA L r a) := by
  unfold putVs putA
  rw [any_tab]
  split
  · unfold dVs dKs
    rw [List.zip_map', List.map_map, List.map_map]
    apply List.map_congr_left
    intro p _
    show (if kI p.1 = kI r then e a else e p.2) = e (if p.1 = r then (p.1, a) else p).2
    by_cases h : p.1 = r
    · rw [if_pos (by rw [h]), if_pos h]
    · rw [if_neg fun z => h (kI_inj z), if_neg h]
  · unfold dVs
    rw [List.map_append]
    rfl
theorem pairs_tab (e : α → D) (L : Tab α) : pairsD true (dKs L) (dVs e L) = L.map fun p => D.tup [tI p.1, e p.2] := by
  unfold pairsD dKs dVs
  rw [List.zip_map', List.map_map]
  apply List.map_congr_left
  intro p _
  show D.tup [keyD true (kI p.1), e p.2] = _
  rw [keyD_kI]
theorem dKs_length (L : Tab α) : (dKs L).length = L.length := List.length_map _
theorem dVs_length (e : α → D) (L : Tab α) : (dVs e L).length = L.length := List.length_map _
theorem getA_put (r : List Int) (a : α) : ∀ (L : Tab α) (s : List Int), getA (putA L r a) s = if s = r then some a else getA L s := by
  intro L s
  unfold putA
  by_cases h : (L.any fun p => decide (p.1 = r)) = true
  · rw [if_pos h]
    have key : ∀ L : Tab α, getA (L.map fun p => if p.1 = r then (p.1, a) else p) s = (getA L s).map fun x => if s = r then a else x := by
      intro L
      induction L with
      | nil => rfl
      | cons p L ih =>
        rw [List.map_cons, getA_cons, getA_cons, ih]
        by_cases q : p.1 = r
        · rw [if_pos q]
          by_cases z : p.1 = s
          · rw [if_pos z, if_pos z, Option.map_some, if_pos (z ▸ q)]
          · rw [if_neg z, if_neg z]
        · rw [if_neg q]
          by_cases z : p.1 = s
          · rw [if_pos z, if_pos z, Option.map_some, if_neg (z ▸ q)]
          · rw [if_neg z, if_neg z]
    rw [key]
    by_cases z : s = r
    · subst z
      rw [if_pos rfl]
      have : (getA L s).isSome = true := by
        clear key
        induction L with
        | nil => simp at h
        | cons p L ih =>
          rw [getA_cons]
          by_cases q : p.1 = s
          · rw [if_pos q]; rfl
          · rw [if_neg q]
            rw [List.any_cons, decide_eq_false q, Bool.false_or] at h
            exact ih h
      obtain ⟨x, hx⟩ := Option.isSome_iff_exists.mp this
      rw [hx]
      simp
    · rw [if_neg z]
      cases getA L s with
      | none => rfl
      | some x => simp [z]
  · rw [if_neg h]
    have key : ∀ L : Tab α, ¬ (L.any fun p => decide (p.1 = r)) = true → getA (L ++ [(r, a)]) s = if s = r then some a else getA L s := by
      intro L hL
      induction L with
      | nil =>
        rw [List.nil_append, getA_cons, getA_nil]
        by_cases z : s = r
        · rw [if_pos z.symm, if_pos z]
        · rw [if_neg (Ne.symm z), if_neg z]
      | cons p L ih =>
        rw [List.any_cons, Bool.or_eq_true, not_or] at hL
        have hp : ¬ p.1 = r := fun z => hL.1 (decide_eq_true z)
        rw [List.cons_append, getA_cons, getA_cons, ih hL.2]
        by_cases z : p.1 = s
        · have : ¬ s = r := fun y => hp (z.trans y)
          rw [if_pos z, if_pos z, if_neg this]
        · rw [if_neg z, if_neg z]
    exact key L h
end
/-! what is made fast -/
section
variable {α : Type} [DecidableEq α] {e : α → D} {f : α → PyData} {k : Nat}
theorem frz_tab (h : EncOk e f k) (hk : k ≤ 39) (n : Nat) (S : Sto) (L : Tab α) : (dVs e L).mapM (frzD 39 n S) = some (dVs e L) := by
  have e1 : dVs e L = (L.map (·.2)).map e := by unfold dVs; rw [List.map_map]; rfl
  rw [e1]
  exact h.frzs S _ hk
theorem fzq_tab (h : EncOk e f k) (hk : k ≤ 39) (S : Sto) (L : Tab α) (Q : D → Sto → Prop) : FzQ S Q (.ref S.length) (S ++ [.dic true (dKs L) (dVs e L)]) = Q (dcT e L) S := by
  have e1 : frzD depthP S.length (S ++ [.dic true (dKs L) (dVs e L)]) (.ref S.length) = some (dcT e L) := by
    show frzD (39 + 1) _ _ _ = _
    simp only [frzD, Nat.lt_irrefl, if_false]
    rw [List.getElem?_append_right (Nat.le_refl _), Nat.sub_self]
    simp only [List.getElem?_cons_zero, frz_tab h hk, Option.map_some]
    rfl
  unfold FzQ
  rw [e1]
  apply propext
  exact ⟨fun ⟨_, d, hd, q⟩ => by cases hd; simpa using q, fun q => ⟨kept_snoc S _, _, rfl, by simpa using q⟩⟩
theorem frz_dcT (h : EncOk e f k) (hk : k ≤ 39) (n : Nat) (S : Sto) (L : Tab α) : frzD depthP n S (dcT e L) = some (dcT e L) := by
  show frzD (39 + 1) _ _ (.cdic _ _ _) = _
  simp only [frzD, frz_tab h hk, Option.map_some]
  rfl
theorem fzq_dcT (h : EncOk e f k) (hk : k ≤ 39) (S : Sto) (L : Tab α) (Q : D → Sto → Prop) : FzQ S Q (dcT e L) S = Q (dcT e L) S := by
  unfold FzQ
  rw [frz_dcT h hk, List.take_length]
  apply propext
  exact ⟨fun ⟨_, d, hd, q⟩ => by cases hd; exact q, fun q => ⟨kept_refl S, _, rfl, q⟩⟩
end
end Pi

/-! How a def of the text is told: what it returns. -/
namespace Pi
open PySem
noncomputable abbrev callF (T : Tb) (k : Nat) (f : Str) (ds : List D) : M D := fzM (callK T k f ds)
class Fn (T : Tb) (d : DefI) : Prop where
  find : T.find d.name = some d
class Gl (T : Tb) (x : Str) (v : D) : Prop where
  get : T.gl.lookup x = some v
def Ret {α : Type} (m : M α) (x : α) : Prop := ∀ S, m S = .ok x S
section
variable {α : Type} {m : M α} {x : α} {S : Sto}
theorem Ret.wp (h : Ret m x) (Q : α → Sto → Prop) (E : XP) : Wp m S Q E = Q x S := by rw [wp_ap, h S]
theorem eq_of_wp {S' : Sto} (h : Wp m S (fun a S1 => a = x ∧ S1 = S') NoX) : m S = .ok x S' := by
  rw [wp_ap] at h
  cases e : m S with
  | ok a S1 => rw [e] at h; rw [h.1, h.2]
  | err c fs S1 => rw [e] at h; exact h.elim
  | bad => rw [e] at h; exact h.elim
theorem ret_of (h : ∀ S, Wp m S (fun a S1 => a = x ∧ S1 = S) NoX) : Ret m x := fun S => eq_of_wp (h S)
theorem fz_call {T : Tb} (d : DefI) [F : Fn T d] {k : Nat} {f : Str} {ds : List D} (hf : f = d.name) (hl : ds.length = d.ps.length) {Q : D → Sto → Prop} {E : XP} (h : Wp (evSs (T.ctx k) d.body (startE d.N ds)) S (outC (FzQ S Q)) (FzE S E)) : Wp (fzM (callK T (k + 1) f ds)) S Q E := by
  rw [wp_fzM]
  subst hf
  exact wp_def F.find hl h
theorem ret_call {T : Tb} (d : DefI) [F : Fn T d] {k : Nat} {f : Str} {ds : List D} {x : D} (hf : f = d.name) (hl : ds.length = d.ps.length) (h : ∀ S, Wp (evSs (T.ctx k) d.body (startE d.N ds)) S (outC (FzQ S fun a S1 => a = x ∧ S1 = S)) NoX) : Ret (fzM (callK T (k + 1) f ds)) x :=
  ret_of fun S => fz_call d hf hl ((h S).monoE (fun _ _ q => q) fun _ _ _ q => q.elim)
end
theorem lit_pos {a : Int} (h : 0 ≤ a) : ((a.toNat : Nat) : Int) = a := Int.toNat_of_nonneg h
/-! ### numbers in a row -/
def upI (lo hi : Int) : List Int := (List.range (hi - lo).toNat).map fun i => lo + (i : Nat)
theorem rangeL_upI (lo hi : Int) : rangeL lo hi = (upI lo hi).map .int := by
  unfold rangeL upI
  rw [List.map_map]
  rfl
theorem upI_length (lo hi : Int) : (upI lo hi).length = (hi - lo).toNat := by unfold upI; rw [List.length_map, List.length_range]
theorem mem_upI {lo hi x : Int} : x ∈ upI lo hi ↔ lo ≤ x ∧ x < hi := by
  unfold upI
  rw [List.mem_map]
  constructor
  · rintro ⟨i, hi, rfl⟩
    rw [List.mem_range] at hi
    omega
  · rintro ⟨h1, h2⟩
    exact ⟨(x - lo).toNat, List.mem_range.mpr (by omega), by omega⟩
theorem upI_lt (lo hi : Int) : (upI lo hi).Pairwise (· < ·) := by
  unfold upI
  rw [List.pairwise_map]
  exact List.pairwise_lt_range.imp fun h => by omega
theorem upI_get {lo hi : Int} {i : Nat} (h : i < (hi - lo).toNat) : (upI lo hi)[i]? = some (lo + i) := by
  unfold upI
  rw [List.getElem?_map, List.getElem?_range h]
  rfl
theorem upI_nodup (lo hi : Int) : (upI lo hi).Nodup := (upI_lt lo hi).imp fun h => by omega
theorem rgOk_of {a b : Int} (h1 : -1000000 ≤ a) (h2 : a ≤ 1000000) (h3 : -1000000 ≤ b) (h4 : b ≤ 1000000) : rgOk a b = true := by
  unfold rgOk
  exact decide_eq_true (by omega)
/-! ### rows, words, lots -/
def IsRow (l : List Int) (n : Int) : Prop := l.Perm (upI 0 n)
def IsWord (w : List Int) (n : Int) : Prop := ∀ d ∈ w, 0 ≤ d ∧ d ≤ n - 2
def IsLot (lot : List Int) (size : Int) : Prop := lot.Sublist (upI 0 size)
theorem IsLot.lt {lot : List Int} {size : Int} (h : IsLot lot size) : lot.Pairwise (· < ·) := (upI_lt 0 size).sublist h
theorem IsLot.mem {lot : List Int} {size p : Int} (h : IsLot lot size) (hp : p ∈ lot) : 0 ≤ p ∧ p < size := mem_upI.mp (h.subset hp)
theorem IsLot.len {lot : List Int} {size : Int} (h : IsLot lot size) : lot.length ≤ size.toNat := by
  have := h.length_le
  rw [upI_length] at this
  omega
theorem lot_nil (n : Int) : IsLot [] n := List.nil_sublist _
theorem IsRow.len {row : List Int} {n : Int} (h : IsRow row n) : row.length = n.toNat := by
  have := h.length_eq
  rw [upI_length] at this
  omega
theorem IsRow.leni {row : List Int} {n : Int} (h : IsRow row n) (h0 : 0 ≤ n) : (row.length : Int) = n := by rw [h.len]; omega
theorem IsRow.mem {row : List Int} {n x : Int} (h : IsRow row n) (hx : x ∈ row) : 0 ≤ x ∧ x < n := mem_upI.mp (h.mem_iff.mp hx)
theorem upI_row (n : Int) : IsRow (upI 0 n) n := List.Perm.refl _
theorem IsWord.sub {w v : List Int} {n : Int} (h : IsWord w n) (s : v.Sublist w) : IsWord v n := fun d hd => h d (s.subset hd)
theorem IsWord.app {w v : List Int} {n : Int} (h : IsWord w n) (h' : IsWord v n) : IsWord (w ++ v) n := fun d hd => (List.mem_append.mp hd).elim (h d) (h' d)
theorem word_nil (n : Int) : IsWord [] n := fun d hd => by cases hd
def swapF (row : List Int) (d : Int) : List Int := row.take d.toNat ++ [row.getD (d + 1).toNat 0, row.getD d.toNat 0] ++ row.drop (d + 2).toNat
def stepF (row : List Int) (d : Int) : List Int := if row.getD (d + 1).toNat 0 < row.getD d.toNat 0 then swapF row d else row
def behindF (row word : List Int) : List Int := word.foldl stepF row
theorem swapF_length {row : List Int} {d : Int} (h0 : 0 ≤ d) (h1 : d + 1 < row.length) : (swapF row d).length = row.length := by
  unfold swapF
  simp only [List.length_append, List.length_take, List.length_drop, List.length_cons, List.length_nil]
  omega
theorem stepF_length {row : List Int} {d : Int} (h0 : 0 ≤ d) (h1 : d + 1 < row.length) : (stepF row d).length = row.length := by
  unfold stepF
  split
  · exact swapF_length h0 h1
  · rfl
theorem behindF_length : ∀ {word row : List Int}, IsWord word row.length → (behindF row word).length = row.length
  | [], _, _ => rfl
  | d :: word, row, h => by
    have hd := h d List.mem_cons_self
    have hl := stepF_length (row := row) (d := d) hd.1 (by omega)
    show (behindF (stepF row d) word).length = row.length
    rw [behindF_length (by rw [hl]; exact fun x hx => h x (List.mem_cons_of_mem _ hx)), hl]
def turnedF (n : Int) : List Int := (List.range n.toNat).map fun i => n - 1 - (i : Nat)
theorem turnedF_length (n : Int) : (turnedF n).length = n.toNat := by unfold turnedF; rw [List.length_map, List.length_range]
theorem sortI_of {l : List Int} {lo hi : Int} (h : l.Perm (upI lo hi)) : sortI l = upI lo hi := by
  refine List.Perm.eq_of_pairwise (le := fun a b : Int => a ≤ b) (fun a b _ _ h1 h2 => by omega) ?_ ((upI_lt lo hi).imp fun h => by omega) ((List.mergeSort_perm l _).trans h)
  exact (List.pairwise_mergeSort (le := fun a b : Int => decide (a ≤ b)) (fun a b c h1 h2 => by simp at h1 h2 ⊢; omega) (fun a b => by simp; omega) l).imp fun h => by simpa using h
def leftA : Nat → List Int → List Int → List Int
  | _, [], _ => []
  | i, d :: w, lot => if (i : Int) ∈ lot then leftA (i + 1) w lot else d :: leftA (i + 1) w lot
def leftF (w lot : List Int) : List Int := leftA 0 w lot
theorem leftA_sub : ∀ (w : List Int) (k : Nat) (lot : List Int), (leftA k w lot).Sublist w
  | [], _, _ => .slnil
  | d :: w, k, lot => by
    rw [leftA]
    split
    · exact (leftA_sub w (k + 1) lot).cons d
    · exact (leftA_sub w (k + 1) lot).cons_cons d
theorem leftF_sub (w lot : List Int) : (leftF w lot).Sublist w := leftA_sub w 0 lot
theorem leftA_nil : ∀ (w : List Int) (k : Nat), leftA k w [] = w
  | [], _ => rfl
  | d :: w, k => by rw [leftA, leftA_nil w (k + 1)]; simp
theorem leftF_nil (w : List Int) : leftF w [] = w := leftA_nil w 0
theorem drop_step {α : Type} {l : List α} {i : Nat} {x : α} (h : l[i]? = some x) : l.drop i = x :: l.drop (i + 1) := by
  have hi : i < l.length := by
    rcases Nat.lt_or_ge i l.length with q | q
    · exact q
    · rw [List.getElem?_eq_none q] at h; cases h
  rw [List.drop_eq_getElem_cons hi]
  rw [List.getElem?_eq_getElem hi] at h
  cases h
  rfl
theorem left_filter (lot : List Int) : ∀ (w : List Int) (k : Nat), (w.zipIdx k).filterMap (fun p => if (p.2 : Int) ∈ lot then none else some p.1) = leftA k w lot
  | [], k => rfl
  | d :: w, k => by
    rw [List.zipIdx_cons, List.filterMap_cons, leftA, left_filter lot w (k + 1)]
    by_cases h : (k : Int) ∈ lot
    · simp only [h, if_true]
    · simp only [h, if_false]
/-! ### what is walked, by what it stands for -/
theorem enumL_map {α : Type} (e : α → D) (l : List α) : enumL (l.map e) = l.zipIdx.map fun p => D.tup [.int (p.2 : Nat), e p.1] := by
  unfold enumL
  apply List.ext_getElem?
  intro i
  rw [List.getElem?_mapIdx, List.getElem?_map, List.getElem?_map, List.getElem?_zipIdx]
  cases l[i]? with
  | none => rfl
  | some x => simp
theorem zipL_map {α β : Type} (e : α → D) (e2 : β → D) (l : List α) (k : List β) : zipL (l.map e) (k.map e2) = (l.zip k).map fun p => D.tup [e p.1, e2 p.2] := by
  unfold zipL
  rw [List.zip_map, List.map_map]
  rfl
theorem zip_tail_lt : ∀ {l : List Int}, (∀ p ∈ l.zip (l.drop 1), p.1 < p.2) ↔ l.Pairwise (· < ·)
  | [] => by simp
  | [a] => by simp
  | a :: b :: l => by
    have ih := zip_tail_lt (l := b :: l)
    simp only [List.drop_succ_cons, List.drop_zero, List.zip_cons_cons] at ih ⊢
    constructor
    · intro h
      have h1 : a < b := h (a, b) List.mem_cons_self
      have h2 := ih.mp fun p hp => h p (List.mem_cons_of_mem _ hp)
      rw [List.pairwise_cons]
      refine ⟨fun x hx => ?_, h2⟩
      rcases List.mem_cons.mp hx with rfl | hx
      · exact h1
      · have := (List.pairwise_cons.mp h2).1 x hx
        omega
    · intro h p hp
      rcases List.mem_cons.mp hp with rfl | hp
      · exact (List.pairwise_cons.mp h).1 b List.mem_cons_self
      · exact ih.mpr (List.pairwise_cons.mp h).2 p hp
theorem all_true {α : Type} (l : List α) (p : α → Bool) : (l.map p).all id = l.all p := by
  rw [List.all_map]
  rfl
theorem cut_int_pre (l : List Int) {d : Int} (h0 : 0 ≤ d) : cut (l.map D.int) none (some d) = (l.take d.toNat).map .int := by rw [cut_pre _ h0, List.map_take]
theorem cut_int_suf (l : List Int) {d : Int} (h0 : 0 ≤ d) : cut (l.map D.int) (some d) none = (l.drop d.toNat).map .int := by rw [cut_suf _ h0, List.map_drop]
theorem cut_map_pre {α : Type} (e : α → D) (l : List α) {d : Int} (h0 : 0 ≤ d) : cut (l.map e) none (some d) = (l.take d.toNat).map e := by rw [cut_pre _ h0, List.map_take]
theorem cut_map_suf {α : Type} (e : α → D) (l : List α) {d : Int} (h0 : 0 ≤ d) : cut (l.map e) (some d) none = (l.drop d.toNat).map e := by rw [cut_suf _ h0, List.map_drop]
theorem at_enc {α : Type} (e : α → D) {l : List α} {j : Int} {x : α} (h0 : 0 ≤ j) (h : l[j.toNat]? = some x) : L2.atI (l.map e) j = some (e x) := by
  have hl : j.toNat < l.length := by
    rcases Nat.lt_or_ge j.toNat l.length with q | q
    · exact q
    · rw [List.getElem?_eq_none q] at h; cases h
  rw [at_get h0 (by rw [List.length_map]; omega), List.getElem_map]
  rw [List.getElem?_eq_getElem hl] at h
  cases h
  rfl
end Pi

/-! The program's checks and deeds. -/
namespace Pi
open PySem
local macro_rules | `(tactic| walk_at "pi") => `(tactic| simp only [wp_pure, wp_bind, wp_bad, wp_ite, wp_chk, wp_new, wp_var, wp_lit, wp_glob, wp_bin, wp_neg, wp_not, wp_and, wp_or, wp_cmp, wp_cmp2, wp_iteE, wp_tup, wp_lst, wp_call, wp_fz, wp_tupS, wp_lstS, wp_dnew, wp_disp, wp_dget1, wp_dget2, wp_litems, wp_sset, wi_rev, vr_index, vr_count, vm_count, wi_items, vd_is, vd_items, wp_ds_nil, wp_ds_star, wp_ds_cons, notStar, wp_bi, wp_isi, wp_idx, wp_slice, wp_meth, wp_lrange, wp_trange, wp_tdown, wp_comp, wp_compB, wp_comp2, wp_comp2B, wp_rngv, wp_es_nil, wp_es_cons, wp_o_none, wp_o_some, wp_ts_nil, wp_ts_one, wt_not, wt_and, wt_or, wt_cmp, wt_ite, wt_var, wt_call, wt_bi, wt_isi, wt_cmp2, wt_idx, wt_lit, wi_of, wi_enum, wi_zip, wi_range, ws_asg, ws_par, ws_sub, ws_aug, ws_expr, ws_ret, ws_retN, ws_pass, ws_brk, ws_cont, ws_ifs, ws_for, ws_whil, wss_nil, wss_cons, then_nx, then_ret, then_brk, then_cont, out_ret, out_nx, turn_nx, turn_cont, turn_brk, turn_ret, wp_putM, ctx_cf, fzq_int, fzq_bl, fzq_non, fzq_str, fzq_tI, fzq_tup, fzq_ints, fzq_bls, fzq_tIs, fzq_nil, ctx_gl, vb_add, vb_sub, vb_mul, vb_fdiv, vb_mod, vb_pow, vb_addT, vc_lt, vc_le, vc_gt, vc_ge, vc_eqv, vc_nev, vc_inv, vc_ninv, ve_int, ve_bl, vt_bl, vt_int, vt_tup, vt_non, vi_int, vi_bl, vi_str, vi_non, vi_tup, vi_clst, vs_tup, vs_clst, vI_tup, vI_clst, vI_rng, vI_ref, vx_tup, vx_clst, vp_none, vp_int, vl_tup, vl_clst, vf_len_tup, vf_len_clst, vf_int, vf_tup, vf_list_tup, vf_sorted_tup, vf_sorted_clst, vf_all, vf_any, vf_sum, vf_tup_clst, vf_list_clst, vf_min2, vf_max2, vf_abs, va_add, va_sub, put_name, put_tup, put_clst, puts_nil, puts_cons, wipe, List.getElem?_cons_zero, List.getElem?_cons_succ, List.getElem?_nil, List.set_cons_zero, List.set_cons_succ, List.length_cons, List.length_nil, List.any_cons, List.any_nil, isTy, String.reduceBEq, String.reduceEq, Bool.false_and, Bool.and_false, Bool.true_and, Bool.and_true, Bool.or_false, Bool.false_or, Bool.or_true, Bool.true_or, Bool.not_true, Bool.not_false, if_true, if_false, Bool.false_eq_true, reduceIte, reduceCtorEq, Nat.reduceAdd, Nat.reduceLT, Nat.lt_add_one, and_self, true_and, and_true, rangeOf, BEq.rfl, bne_self_eq_false, Nat.reduceLeDiff, Nat.zero_lt_succ, Nat.zero_lt_one])
def is_integer_b : List Pi.S := [(.ret (.and (.isi (.var 0) ["int"]) (.not (.isi (.var 0) ["bool"]))))]
def is_integer_d : DefI := { name := "is_integer", ps := [("value" : Str)], N := [("value" : Str)], body := is_integer_b, mu := [] }
def is_from_to_b : List Pi.S := [(.ret (.and (.call "is_integer" [(.var 0)]) (.cmp2 .le .le (.var 1) (.var 0) (.var 2))))]
def is_from_to_d : DefI := { name := "is_from_to", ps := [("value" : Str), ("low" : Str), ("high" : Str)], N := [("value" : Str), ("low" : Str), ("high" : Str)], body := is_from_to_b, mu := [] }
def is_row_b : List Pi.S := [(.ifs (.or (.not (.isi (.var 0) ["tuple"])) (.not (.bi .all [(.fz (.comp [2] (.name 2) (.of (.var 0)) [] (.call "is_integer" [(.var 2)])))]))) [(.ret (.lit (.bl false)))] []), (.ret (.cmp .eq (.fz (.bi .sorted [(.var 0)])) (.fz (.lrange [(.var 1)]))))]
def is_row_d : DefI := { name := "is_row", ps := [("value" : Str), ("n" : Str)], N := [("value" : Str), ("n" : Str), ("card" : Str)], body := is_row_b, mu := [] }
def is_word_b : List Pi.S := [(.ifs (.or (.not (.isi (.var 0) ["tuple"])) (.cmp .gt (.bi .len [(.var 0)]) (.glob "MOST_DEEDS"))) [(.ret (.lit (.bl false)))] []), (.ret (.bi .all [(.fz (.comp [2] (.name 2) (.of (.var 0)) [] (.call "is_from_to" [(.var 2), (.lit (.int 0)), (.bin .sub (.var 1) (.lit (.int 2)))])))]))]
def is_word_d : DefI := { name := "is_word", ps := [("value" : Str), ("n" : Str)], N := [("value" : Str), ("n" : Str), ("deed" : Str)], body := is_word_b, mu := [] }
def is_lot_b : List Pi.S := [(.ifs (.or (.not (.isi (.var 0) ["tuple"])) (.not (.bi .all [(.fz (.comp [2] (.name 2) (.of (.var 0)) [] (.call "is_from_to" [(.var 2), (.lit (.int 0)), (.bin .sub (.bi .len [(.var 1)]) (.lit (.int 1)))])))]))) [(.ret (.lit (.bl false)))] []), (.ret (.bi .all [(.fz (.comp [2, 3] (.tup [(.name 2), (.name 3)]) (.zip (.var 0) (.slice (.var 0) (some (.lit (.int 1))) none)) [] (.cmp .lt (.var 2) (.var 3))))]))]
def is_lot_d : DefI := { name := "is_lot", ps := [("value" : Str), ("word" : Str)], N := [("value" : Str), ("word" : Str), ("place" : Str), ("later" : Str)], body := is_lot_b, mu := [] }
def check_cards_b : List Pi.S := [(.ifs (.not (.call "is_from_to" [(.var 0), (.lit (.int 1)), (.glob "MOST_CARDS")])) [.never] [])]
def check_cards_d : DefI := { name := "check_cards", ps := [("n" : Str)], N := [("n" : Str)], body := check_cards_b, mu := [] }
def check_row_b : List Pi.S := [(.ifs (.or (.not (.isi (.var 0) ["tuple"])) (.or (.not (.cmp2 .le .le (.lit (.int 1)) (.bi .len [(.var 0)]) (.glob "MOST_CARDS"))) (.not (.call "is_row" [(.var 0), (.bi .len [(.var 0)])])))) [.never] [])]
def check_row_d : DefI := { name := "check_row", ps := [("row" : Str)], N := [("row" : Str)], body := check_row_b, mu := [] }
def check_word_b : List Pi.S := [(.ifs (.not (.call "is_word" [(.var 1), (.var 0)])) [.never] [])]
def check_word_d : DefI := { name := "check_word", ps := [("n" : Str), ("word" : Str)], N := [("n" : Str), ("word" : Str)], body := check_word_b, mu := [] }
def check_lot_b : List Pi.S := [(.ifs (.not (.call "is_lot" [(.var 1), (.var 0)])) [.never] [])]
def check_lot_d : DefI := { name := "check_lot", ps := [("word" : Str), ("lot" : Str)], N := [("word" : Str), ("lot" : Str)], body := check_lot_b, mu := [] }
def check_cards_and_word_b : List Pi.S := [(.expr (.call "check_cards" [(.var 0)])), (.expr (.call "check_word" [(.var 0), (.var 1)]))]
def check_cards_and_word_d : DefI := { name := "check_cards_and_word", ps := [("n" : Str), ("word" : Str)], N := [("n" : Str), ("word" : Str)], body := check_cards_and_word_b, mu := [] }
def turned_row_b : List Pi.S := [(.ret (.tdown [(.bin .sub (.var 0) (.lit (.int 1))), (.neg (.lit (.int 1)))]))]
def turned_row_d : DefI := { name := "turned_row", ps := [("n" : Str)], N := [("n" : Str)], body := turned_row_b, mu := [] }
def sorted_row_b : List Pi.S := [(.ret (.trange [(.var 0)]))]
def sorted_row_d : DefI := { name := "sorted_row", ps := [("n" : Str)], N := [("n" : Str)], body := sorted_row_b, mu := [] }
def swapped_b : List Pi.S := [(.ret (.bin .add (.bin .add (.slice (.var 0) none (some (.var 1))) (.tup [(.idx (.var 0) (.bin .add (.var 1) (.lit (.int 1)))), (.idx (.var 0) (.var 1))])) (.slice (.var 0) (some (.bin .add (.var 1) (.lit (.int 2)))) none)))]
def swapped_d : DefI := { name := "swapped", ps := [("row" : Str), ("deed" : Str)], N := [("row" : Str), ("deed" : Str)], body := swapped_b, mu := [] }
def is_out_of_order_b : List Pi.S := [(.ret (.cmp .gt (.idx (.var 0) (.var 1)) (.idx (.var 0) (.bin .add (.var 1) (.lit (.int 1))))))]
def is_out_of_order_d : DefI := { name := "is_out_of_order", ps := [("row" : Str), ("deed" : Str)], N := [("row" : Str), ("deed" : Str)], body := is_out_of_order_b, mu := [] }
def behind_b : List Pi.S := [(.for (.name 2) (.of (.var 1)) [(.ifs (.call "is_out_of_order" [(.var 0), (.var 2)]) [(.asg (.name 0) (.call "swapped" [(.var 0), (.var 2)]))] [])]), (.ret (.var 0))]
def behind_d : DefI := { name := "behind", ps := [("row" : Str), ("word" : Str)], N := [("row" : Str), ("word" : Str), ("deed" : Str)], body := behind_b, mu := [] }
def left_of_b : List Pi.S := [(.ret (.bi .tuple [(.fz (.comp [2, 3] (.tup [(.name 2), (.name 3)]) (.enum (.var 0)) [(.cmp .nin (.var 2) (.var 1))] (.var 3)))]))]
def left_of_d : DefI := { name := "left_of", ps := [("word" : Str), ("lot" : Str)], N := [("word" : Str), ("lot" : Str), ("place" : Str), ("deed" : Str)], body := left_of_b, mu := [] }
def end_of_b : List Pi.S := [(.ret (.call "behind" [(.call "turned_row" [(.var 0)]), (.var 1)]))]
def end_of_d : DefI := { name := "end_of", ps := [("n" : Str), ("word" : Str)], N := [("n" : Str), ("word" : Str)], body := end_of_b, mu := [] }
def turned_b : List Pi.S := [(.expr (.call "check_cards" [(.var 0)])), (.ret (.call "turned_row" [(.var 0)]))]
def turned_d : DefI := { name := "turned", ps := [("n" : Str)], N := [("n" : Str)], body := turned_b, mu := [] }
def run_b : List Pi.S := [(.expr (.call "check_row" [(.var 0)])), (.expr (.call "check_word" [(.bi .len [(.var 0)]), (.var 1)])), (.expr (.call "check_lot" [(.var 1), (.var 2)])), (.ret (.call "behind" [(.var 0), (.call "left_of" [(.var 1), (.var 2)])]))]
def run_d : DefI := { name := "run", ps := [("row" : Str), ("word" : Str), ("lot" : Str)], N := [("row" : Str), ("word" : Str), ("lot" : Str)], body := run_b, mu := [] }
def end_b : List Pi.S := [(.expr (.call "check_cards_and_word" [(.var 0), (.var 1)])), (.ret (.call "end_of" [(.var 0), (.var 1)]))]
def end_d : DefI := { name := "end", ps := [("n" : Str), ("word" : Str)], N := [("n" : Str), ("word" : Str)], body := end_b, mu := [] }
def sorts_all_b : List Pi.S := [(.ret (.cmp .eq (.call "end" [(.var 0), (.var 1)]) (.call "sorted_row" [(.var 0)])))]
def sorts_all_d : DefI := { name := "sorts_all", ps := [("n" : Str), ("word" : Str)], N := [("n" : Str), ("word" : Str)], body := sorts_all_b, mu := [] }
theorem downL_turned (n : Int) (h : 0 ≤ n) : downL (n - 1) (-1) = (turnedF n).map .int := by
  unfold downL turnedF
  rw [List.map_map, show n - 1 - -1 = n by omega]
  rfl
theorem swap_cut {row : List Int} {d : Int} (h0 : 0 ≤ d) : cut (row.map D.int) none (some d) ++ [D.int (row.getD (d + 1).toNat 0), D.int (row.getD d.toNat 0)] ++ cut (row.map D.int) (some (d + 2)) none = (swapF row d).map .int := by
  rw [cut_pre _ h0, cut_suf _ (by omega)]
  unfold swapF
  simp only [List.map_append, List.map_take, List.map_drop, List.map_cons, List.map_nil]
section
variable {T : Tb} {k : Nat}
theorem isint_w [Fn T is_integer_d] (i : Int) : Ret (callF T (k + 1) "is_integer" [.int i]) (.bl true) := by
  refine ret_call is_integer_d rfl rfl fun S => ?_
  show Wp (evSs (T.ctx k) is_integer_b [some (.int i)]) S _ _
  unfold is_integer_b
  walk_at "pi"
theorem fromto_w [Fn T is_integer_d] [Fn T is_from_to_d] (v lo hi : Int) : Ret (callF T (k + 2) "is_from_to" [.int v, .int lo, .int hi]) (.bl (decide (lo ≤ v ∧ v ≤ hi))) := by
  refine ret_call is_from_to_d rfl rfl fun S => ?_
  show Wp (evSs (T.ctx (k + 1)) is_from_to_b [some (.int v), some (.int lo), some (.int hi)]) S _ _
  unfold is_from_to_b
  walk_at "pi"
  rw [(isint_w v).wp]
  walk_at "pi"
  by_cases h1 : lo ≤ v <;> simp [h1]
theorem isrow_w [Fn T is_integer_d] [Fn T is_row_d] {l : List Int} {n : Int} (h0 : 0 ≤ n) (h1 : n < 1000000) (hl : l.length < 1000000) : Ret (callF T (k + 2) "is_row" [tI l, .int n]) (.bl (decide (sortI l = upI 0 n))) := by
  refine ret_call is_row_d rfl rfl fun S => ?_
  show Wp (evSs (T.ctx (k + 1)) is_row_b [some (tI l), some (.int n), none]) S _ _
  unfold is_row_b
  walk_at "pi"
  refine comp_map l .int .bl (fun _ => true) (List.length_map _) (by rw [sizeLine_eq]; omega) (fun i => rfl) (fun a ha => ?_) ?_
  · walk_at "pi"
    rw [(isint_w a).wp]
    exact ⟨rfl, rfl⟩
  · walk_at "pi"
    rw [all_true, List.all_eq_true.mpr fun _ _ => rfl]
    walk_at "pi"
    rw [rangeL_upI]
    walk_at "pi"
    rw [ve_cI]
    refine ⟨rgOk_of (by omega) (by omega) (by omega) (by omega), ?_⟩
    walk_at "pi"
theorem isword_w [Fn T is_integer_d] [Fn T is_from_to_d] [Fn T is_word_d] [G : Gl T "MOST_DEEDS" (.int 200)] {w : List Int} {n : Int} (hl : w.length ≤ 200) :
    Ret (callF T (k + 3) "is_word" [tI w, .int n]) (.bl (w.all fun d => decide (0 ≤ d ∧ d ≤ n - 2))) := by
  refine ret_call is_word_d rfl rfl fun S => ?_
  show Wp (evSs (T.ctx (k + 2)) is_word_b [some (tI w), some (.int n), none]) S _ _
  unfold is_word_b
  walk_at "pi"
  rw [G.get]
  walk_at "pi"
  have hn : ¬ (200 : Int) < ((w.map D.int).length : Nat) := by rw [List.length_map]; omega
  simp only [hn, decide_false, Bool.false_eq_true, if_false]
  refine comp_map w .int .bl (fun d => decide (0 ≤ d ∧ d ≤ n - 2)) (List.length_map _) (by rw [sizeLine_eq]; omega) (fun i => rfl) (fun a ha => ?_) ?_
  · walk_at "pi"
    rw [(fromto_w _ _ _).wp]
    exact ⟨rfl, rfl⟩
  · walk_at "pi"
    rw [all_true]
theorem word_all {w : List Int} {n : Int} : (w.all fun d => decide (0 ≤ d ∧ d ≤ n - 2)) = true ↔ IsWord w n := by
  simp only [List.all_eq_true, decide_eq_true_eq]
  exact Iff.rfl
theorem islot_w [Fn T is_integer_d] [Fn T is_from_to_d] [Fn T is_lot_d] {w lot : List Int} (hl : lot.length ≤ 1000000) (hw : IsLot lot w.length) :
    Ret (callF T (k + 3) "is_lot" [tI lot, tI w]) (.bl true) := by
  refine ret_call is_lot_d rfl rfl fun S => ?_
  show Wp (evSs (T.ctx (k + 2)) is_lot_b [some (tI lot), some (tI w), none, none]) S _ _
  unfold is_lot_b
  walk_at "pi"
  refine comp_map lot .int .bl (fun _ => true) (List.length_map _) (by rw [sizeLine_eq]; omega) (fun i => rfl) (fun a ha => ?_) ?_
  · walk_at "pi"
    have hi2 := hw.mem ha
    rw [(fromto_w _ _ _).wp, decide_eq_true (by rw [List.length_map]; omega)]
    exact ⟨rfl, rfl⟩
  · walk_at "pi"
    rw [all_true, List.all_eq_true.mpr fun _ _ => rfl]
    walk_at "pi"
    rw [cut_int_suf _ (by omega)]
    refine ⟨rfl, ?_⟩
    refine comp_map (lot.zip (lot.drop 1)) (fun p => D.tup [.int p.1, .int p.2]) .bl (fun _ => true) (by simp [List.length_zip]) (by rw [sizeLine_eq, List.length_zip]; omega) (fun i => by rw [← zipL_map]; exact zip_step rfl rfl) (fun p hp => ?_) ?_
    · walk_at "pi"
      have := zip_tail_lt.mpr hw.lt p hp
      simp [this]
    · walk_at "pi"
      rw [all_true, List.all_eq_true.mpr fun _ _ => rfl]
theorem checkcards_w [Fn T is_integer_d] [Fn T is_from_to_d] [Fn T check_cards_d] [G : Gl T "MOST_CARDS" (.int 7)] {n : Int} (h0 : 1 ≤ n) (h7 : n ≤ 7) : Ret (callF T (k + 3) "check_cards" [.int n]) .non := by
  refine ret_call check_cards_d rfl rfl fun S => ?_
  show Wp (evSs (T.ctx (k + 2)) check_cards_b [some (.int n)]) S _ _
  unfold check_cards_b
  walk_at "pi"
  rw [G.get]
  walk_at "pi"
  rw [(fromto_w _ _ _).wp, decide_eq_true ⟨h0, h7⟩]
  walk_at "pi"
theorem checkrow_w [Fn T is_integer_d] [Fn T is_row_d] [Fn T check_row_d] [G : Gl T "MOST_CARDS" (.int 7)] {l : List Int} {n : Int} (hr : IsRow l n) (h0 : 1 ≤ n) (h7 : n ≤ 7) : Ret (callF T (k + 3) "check_row" [tI l]) .non := by
  refine ret_call check_row_d rfl rfl fun S => ?_
  show Wp (evSs (T.ctx (k + 2)) check_row_b [some (tI l)]) S _ _
  have hlen := hr.len
  have e : ((l.map D.int).length : Int) = n := by rw [List.length_map]; omega
  unfold check_row_b
  walk_at "pi"
  rw [G.get]
  walk_at "pi"
  rw [e]
  have a1 : (1 : Int) ≤ n := h0
  have a2 : n ≤ 7 := h7
  simp only [a1, a2, decide_true, if_true, Bool.not_true, Bool.false_eq_true, if_false]
  rw [(isrow_w (by omega) (by omega) (by omega)).wp, sortI_of hr, decide_eq_true rfl]
  walk_at "pi"
theorem checkword_w [Fn T is_integer_d] [Fn T is_from_to_d] [Fn T is_word_d] [Fn T check_word_d] [Gl T "MOST_DEEDS" (.int 200)] {w : List Int} {n : Int} (hw : IsWord w n) (hl : w.length ≤ 200) : Ret (callF T (k + 4) "check_word" [.int n, tI w]) .non := by
  refine ret_call check_word_d rfl rfl fun S => ?_
  show Wp (evSs (T.ctx (k + 3)) check_word_b [some (.int n), some (tI w)]) S _ _
  unfold check_word_b
  walk_at "pi"
  rw [(isword_w hl).wp, word_all.mpr hw]
  walk_at "pi"
theorem checklot_w [Fn T is_integer_d] [Fn T is_from_to_d] [Fn T is_lot_d] [Fn T check_lot_d] {w lot : List Int} (hw : IsLot lot w.length) (hl : lot.length ≤ 1000000) : Ret (callF T (k + 4) "check_lot" [tI w, tI lot]) .non := by
  refine ret_call check_lot_d rfl rfl fun S => ?_
  show Wp (evSs (T.ctx (k + 3)) check_lot_b [some (tI w), some (tI lot)]) S _ _
  unfold check_lot_b
  walk_at "pi"
  rw [(islot_w hl hw).wp]
  walk_at "pi"
theorem ccw_w [Fn T is_integer_d] [Fn T is_from_to_d] [Fn T is_word_d] [Fn T check_word_d] [Fn T check_cards_d] [Fn T check_cards_and_word_d] [Gl T "MOST_CARDS" (.int 7)] [Gl T "MOST_DEEDS" (.int 200)] {w : List Int} {n : Int} (h0 : 1 ≤ n) (h7 : n ≤ 7) (hw : IsWord w n) (hl : w.length ≤ 200) : Ret (callF T (k + 5) "check_cards_and_word" [.int n, tI w]) .non := by
  refine ret_call check_cards_and_word_d rfl rfl fun S => ?_
  show Wp (evSs (T.ctx (k + 4)) check_cards_and_word_b [some (.int n), some (tI w)]) S _ _
  unfold check_cards_and_word_b
  walk_at "pi"
  rw [(checkcards_w h0 h7).wp]
  rw [(checkword_w hw hl).wp]
  walk_at "pi"
/-! ### what is done -/
theorem turnedrow_w [Fn T turned_row_d] {n : Int} (h0 : 0 ≤ n) (h1 : n < 1000000) : Ret (callF T (k + 1) "turned_row" [.int n]) (tI (turnedF n)) := by
  refine ret_call turned_row_d rfl rfl fun S => ?_
  show Wp (evSs (T.ctx k) turned_row_b [some (.int n)]) S _ _
  unfold turned_row_b
  walk_at "pi"
  rw [show (-1 : Int) = -1 from rfl, downL_turned n h0]
  unfold dnOk
  refine ⟨decide_eq_true (by omega), ?_⟩
  walk_at "pi"
theorem sortedrow_w [Fn T sorted_row_d] {n : Int} (h0 : 0 ≤ n) (h1 : n < 1000000) : Ret (callF T (k + 1) "sorted_row" [.int n]) (tI (upI 0 n)) := by
  refine ret_call sorted_row_d rfl rfl fun S => ?_
  show Wp (evSs (T.ctx k) sorted_row_b [some (.int n)]) S _ _
  unfold sorted_row_b
  walk_at "pi"
  rw [rangeL_upI]
  refine ⟨rgOk_of (by omega) (by omega) (by omega) (by omega), ?_⟩
  walk_at "pi"
theorem swapped_w [Fn T swapped_d] {row : List Int} {d : Int} (h0 : 0 ≤ d) (h1 : d + 1 < row.length) (h2 : row.length ≤ 1000000) : Ret (callF T (k + 1) "swapped" [tI row, .int d]) (tI (swapF row d)) := by
  refine ret_call swapped_d rfl rfl fun S => ?_
  show Wp (evSs (T.ctx k) swapped_b [some (tI row), some (.int d)]) S _ _
  unfold swapped_b
  walk_at "pi"
  rw [at_int (by omega) (by omega)]
  dsimp only
  rw [at_int (by omega) (by omega)]
  walk_at "pi"
  have e1 : (cut (row.map D.int) none (some d)).length ≤ row.length := by
    rw [cut_pre _ h0, List.length_take, List.length_map]
    omega
  have e2 : (cut (row.map D.int) (some (d + 2)) none).length ≤ row.length := by
    rw [cut_suf _ (by omega), List.length_drop, List.length_map]
    omega
  rw [swap_cut h0]
  refine ⟨by decide, ?_, ?_, ?_⟩
  · rw [sizeLine_eq]; omega
  · rw [List.length_append, sizeLine_eq]
    simp only [List.length_cons, List.length_nil]
    omega
  · walk_at "pi"
theorem isout_w [Fn T is_out_of_order_d] {row : List Int} {d : Int} (h0 : 0 ≤ d) (h1 : d + 1 < row.length) : Ret (callF T (k + 1) "is_out_of_order" [tI row, .int d]) (.bl (decide (row.getD (d + 1).toNat 0 < row.getD d.toNat 0))) := by
  refine ret_call is_out_of_order_d rfl rfl fun S => ?_
  show Wp (evSs (T.ctx k) is_out_of_order_b [some (tI row), some (.int d)]) S _ _
  unfold is_out_of_order_b
  walk_at "pi"
  rw [at_int (by omega) (by omega)]
  dsimp only
  rw [at_int (by omega) (by omega)]
  walk_at "pi"
theorem behind_w [Fn T is_out_of_order_d] [Fn T swapped_d] [Fn T behind_d] {row w : List Int} (hw : IsWord w row.length) (hl : row.length ≤ 1000000) : Ret (callF T (k + 2) "behind" [tI row, tI w]) (tI (behindF row w)) := by
  refine ret_call behind_d rfl rfl fun S => ?_
  show Wp (evSs (T.ctx (k + 1)) behind_b [some (tI row), some (tI w), none]) S _ _
  unfold behind_b
  walk_at "pi"
  refine for_list (w.map .int) (fun i env S' => S' = S ∧ ∃ (c : List Int) (x : Option D), env = [some (tI c), some (tI w), x] ∧ c.length = row.length ∧ behindF c (w.drop i) = behindF row w) rfl ⟨rfl, row, none, rfl, rfl, rfl⟩ (fun i env S' _ => rfl) (fun i x env S' hx ⟨hS, c, x0, he, hcl, hb⟩ => ?_) (fun env S' ⟨hS, c, x0, he, hcl, hb⟩ => ?_)
  · subst he hS
    rw [List.getElem?_map, Option.map_eq_some_iff] at hx
    obtain ⟨d, hd, rfl⟩ := hx
    have hdw := hw d (List.mem_of_getElem? hd)
    walk_at "pi"
    rw [(isout_w hdw.1 (by omega)).wp]
    walk_at "pi"
    have hb2 : behindF (stepF c d) (w.drop (i + 1)) = behindF row w := by
      rw [← hb, drop_step hd]
      rfl
    by_cases q : c.getD (d + 1).toNat 0 < c.getD d.toNat 0
    · simp only [q, decide_true, if_true]
      rw [(swapped_w hdw.1 (by omega) (by omega)).wp]
      unfold stepF at hb2
      rw [if_pos q] at hb2
      exact ⟨rfl, _, _, rfl, by rw [swapF_length hdw.1 (by omega)]; exact hcl, hb2⟩
    · simp only [q, decide_false, Bool.false_eq_true, if_false]
      unfold stepF at hb2
      rw [if_neg q] at hb2
      exact ⟨_, _, rfl, hcl, hb2⟩
  · subst he hS
    rw [List.length_map, List.drop_length] at hb
    walk_at "pi"
    rw [← hb]
    rfl
theorem leftof_w [Fn T left_of_d] {w lot : List Int} (hl : w.length ≤ 1000000) : Ret (callF T (k + 1) "left_of" [tI w, tI lot]) (tI (leftF w lot)) := by
  refine ret_call left_of_d rfl rfl fun S => ?_
  show Wp (evSs (T.ctx k) left_of_b [some (tI w), some (tI lot), none, none]) S _ _
  unfold left_of_b
  walk_at "pi"
  refine comp_enc w.zipIdx (fun p => D.tup [.int (p.2 : Nat), .int p.1]) .int (fun p => if (p.2 : Int) ∈ lot then none else some p.1) (by simp) (by rw [sizeLine_eq, List.length_zipIdx]; omega) (fun i => by rw [← enumL_map]; exact enum_step rfl) (fun p hp => ?_) ?_
  · walk_at "pi"
    rw [vin_int]
    by_cases q : (p.2 : Int) ∈ lot
    · simp only [q, decide_true, Bool.not_true, Bool.false_eq_true, if_false, if_true]
      exact ⟨rfl, trivial⟩
    · simp only [q, decide_false, Bool.not_false, if_true, if_false]
      exact ⟨rfl, trivial⟩
  · rw [left_filter]
    walk_at "pi"
    rfl
def endF (n : Int) (w : List Int) : List Int := behindF (turnedF n) w
theorem endof_w [Fn T turned_row_d] [Fn T is_out_of_order_d] [Fn T swapped_d] [Fn T behind_d] [Fn T end_of_d] {n : Int} (h0 : 0 ≤ n) (h7 : n ≤ 100000) {w : List Int} (hw : IsWord w n) : Ret (callF T (k + 3) "end_of" [.int n, tI w]) (tI (endF n w)) := by
  refine ret_call end_of_d rfl rfl fun S => ?_
  show Wp (evSs (T.ctx (k + 2)) end_of_b [some (.int n), some (tI w)]) S _ _
  unfold end_of_b
  have e : ((turnedF n).length : Int) = n := by rw [turnedF_length]; omega
  walk_at "pi"
  rw [(turnedrow_w (by omega) (by omega)).wp]
  rw [(behind_w (by rw [e]; exact hw) (by omega)).wp, fzq_tI]
  exact ⟨rfl, rfl⟩
section
variable [Fn T is_integer_d] [Fn T is_from_to_d] [Fn T is_word_d] [Fn T check_word_d] [Fn T check_cards_d] [Fn T check_cards_and_word_d] [Gl T "MOST_CARDS" (.int 7)] [Gl T "MOST_DEEDS" (.int 200)] [Fn T turned_row_d] [Fn T is_out_of_order_d] [Fn T swapped_d] [Fn T behind_d]
theorem turned_w [Fn T turned_d] {n : Int} (h0 : 1 ≤ n) (h7 : n ≤ 7) : Ret (callF T (k + 4) "turned" [.int n]) (tI (turnedF n)) := by
  refine ret_call turned_d rfl rfl fun S => ?_
  show Wp (evSs (T.ctx (k + 3)) turned_b [some (.int n)]) S _ _
  unfold turned_b
  walk_at "pi"
  rw [(checkcards_w h0 h7).wp]
  rw [(turnedrow_w (by omega) (by omega)).wp, fzq_tI]
  exact ⟨rfl, rfl⟩
theorem end_w [Fn T end_of_d] [Fn T end_d] {n : Int} (h0 : 1 ≤ n) (h7 : n ≤ 7) {w : List Int} (hw : IsWord w n) (hl : w.length ≤ 200) : Ret (callF T (k + 6) "end" [.int n, tI w]) (tI (endF n w)) := by
  refine ret_call end_d rfl rfl fun S => ?_
  show Wp (evSs (T.ctx (k + 5)) end_b [some (.int n), some (tI w)]) S _ _
  unfold end_b
  walk_at "pi"
  rw [(ccw_w h0 h7 hw hl).wp]
  rw [(endof_w (by omega) (by omega) hw).wp, fzq_tI]
  exact ⟨rfl, rfl⟩
theorem sortsall_w [Fn T sorted_row_d] [Fn T end_of_d] [Fn T end_d] [Fn T sorts_all_d] {n : Int} (h0 : 1 ≤ n) (h7 : n ≤ 7) {w : List Int} (hw : IsWord w n) (hl : w.length ≤ 200) : Ret (callF T (k + 7) "sorts_all" [.int n, tI w]) (.bl (decide (endF n w = upI 0 n))) := by
  refine ret_call sorts_all_d rfl rfl fun S => ?_
  show Wp (evSs (T.ctx (k + 6)) sorts_all_b [some (.int n), some (tI w)]) S _ _
  unfold sorts_all_b
  walk_at "pi"
  rw [(end_w h0 h7 hw hl).wp]
  rw [(sortedrow_w (by omega) (by omega)).wp, ve_tI, fzq_bl]
  exact ⟨rfl, rfl⟩
theorem run_w [Fn T is_row_d] [Fn T is_lot_d] [Fn T check_row_d] [Fn T check_lot_d] [Fn T left_of_d] [Fn T run_d] {row w lot : List Int} {n : Int} (hr : IsRow row n) (h0 : 1 ≤ n) (h7 : n ≤ 7) (hw : IsWord w n) (hwl : w.length ≤ 200) (hlot : IsLot lot w.length) (hll : lot.length ≤ 1000000) :
    Ret (callF T (k + 5) "run" [tI row, tI w, tI lot]) (tI (behindF row (leftF w lot))) := by
  have e : (row.length : Int) = n := hr.leni (by omega)
  refine ret_call run_d rfl rfl fun S => ?_
  show Wp (evSs (T.ctx (k + 4)) run_b [some (tI row), some (tI w), some (tI lot)]) S _ _
  unfold run_b
  walk_at "pi"
  rw [(checkrow_w hr h0 h7).wp]
  rw [List.length_map, e, (checkword_w hw hwl).wp]
  rw [(checklot_w hlot hll).wp]
  rw [(leftof_w (by omega)).wp, (behind_w (by rw [e]; exact hw.sub (leftF_sub w lot)) (by omega)).wp, fzq_tI]
  exact ⟨rfl, rfl⟩
end
end
end Pi

/-! What rows and words come to. -/
namespace Pi
open PySem
theorem swapF_perm {row : List Int} {d : Int} (h0 : 0 ≤ d) (h1 : d + 1 < row.length) : (swapF row d).Perm row := by
  have e1 : row.drop d.toNat = row.getD d.toNat 0 :: row.drop (d + 1).toNat := by
    rw [List.drop_eq_getElem_cons (by omega), List.getD_eq_getElem?_getD, List.getElem?_eq_getElem (by omega), show d.toNat + 1 = (d + 1).toNat by omega]
    rfl
  have e2 : row.drop (d + 1).toNat = row.getD (d + 1).toNat 0 :: row.drop (d + 2).toNat := by
    rw [List.drop_eq_getElem_cons (by omega), List.getD_eq_getElem?_getD, List.getElem?_eq_getElem (by omega), show (d + 1).toNat + 1 = (d + 2).toNat by omega]
    rfl
  have e3 : row.take d.toNat ++ (row.getD d.toNat 0 :: row.getD (d + 1).toNat 0 :: row.drop (d + 2).toNat) = row := by rw [← e2, ← e1, List.take_append_drop]
  unfold swapF
  refine List.Perm.trans ?_ (List.Perm.of_eq e3)
  rw [List.append_assoc]
  exact List.Perm.append_left _ (List.Perm.swap _ _ _)
theorem stepF_row {row : List Int} {n d : Int} (h : IsRow row n) (h0 : 0 ≤ d) (h1 : d + 1 < n) : IsRow (stepF row d) n := by
  have hl := h.length_eq
  rw [upI_length] at hl
  unfold stepF
  split
  · exact (swapF_perm h0 (by omega)).trans h
  · exact h
theorem behindF_row {n : Int} : ∀ {w row : List Int}, IsRow row n → IsWord w n → IsRow (behindF row w) n
  | [], _, h, _ => h
  | d :: w, row, h, hw => by
    have hd := hw d List.mem_cons_self
    exact behindF_row (w := w) (stepF_row h hd.1 (by omega)) fun x hx => hw x (List.mem_cons_of_mem _ hx)
theorem stepF_up {n d : Int} (h0 : 0 ≤ d) (h1 : d + 1 < n) : stepF (upI 0 n) d = upI 0 n := by
  unfold stepF
  have e : ∀ i : Nat, i < n.toNat → (upI 0 n).getD i 0 = i := fun i hi => by
    rw [List.getD_eq_getElem?_getD, upI_get (by omega)]
    simp
  rw [e _ (by omega), e _ (by omega), if_neg (by omega)]
theorem behindF_up {n : Int} : ∀ {w : List Int}, IsWord w n → behindF (upI 0 n) w = upI 0 n
  | [], _ => rfl
  | d :: w, hw => by
    have hd := hw d List.mem_cons_self
    show behindF (stepF (upI 0 n) d) w = _
    rw [stepF_up hd.1 (by omega)]
    exact behindF_up fun x hx => hw x (List.mem_cons_of_mem _ hx)
theorem behindF_app (row v w : List Int) : behindF row (v ++ w) = behindF (behindF row v) w := by
  unfold behindF
  rw [List.foldl_append]
theorem nodup_perm : ∀ {l m : List Int}, l.Nodup → (∀ x ∈ l, x ∈ m) → m.length ≤ l.length → l.Perm m
  | [], m, _, _, h => by
    have : m = [] := List.length_eq_zero_iff.mp (by simpa using h)
    rw [this]
  | a :: l, m, hn, hs, h => by
    have ha := hs a List.mem_cons_self
    have e := List.perm_cons_erase ha
    rw [List.nodup_cons] at hn
    refine List.Perm.trans ?_ e.symm
    refine (nodup_perm hn.2 (fun x hx => ?_) ?_).cons a
    · have hxa : x ≠ a := fun q => hn.1 (q ▸ hx)
      exact (List.mem_erase_of_ne hxa).mpr (hs x (List.mem_cons_of_mem _ hx))
    · have := e.length_eq
      rw [List.length_cons] at this h
      omega
theorem turnedF_get {n : Int} {i : Nat} (h : i < n.toNat) : (turnedF n)[i]? = some (n - 1 - i) := by
  unfold turnedF
  rw [List.getElem?_map, List.getElem?_range h]
  rfl
theorem turnedF_row (n : Int) : IsRow (turnedF n) n := by
  refine nodup_perm ?_ (fun x hx => ?_) (by rw [upI_length, turnedF_length]; omega)
  · unfold turnedF
    refine (List.pairwise_map.mpr ?_)
    exact List.nodup_range.imp fun h => by omega
  · unfold turnedF at hx
    obtain ⟨i, hi, rfl⟩ := List.mem_map.mp hx
    rw [List.mem_range] at hi
    exact mem_upI.mpr (by omega)

/-! ### counts -/
/-- how many of the first p cards are at least v -/
def cnt (row : List Int) (v : Int) (p : Nat) : Int := ((row.take p).countP fun x => decide (v ≤ x) : Nat)
theorem cnt_zero (row : List Int) (v : Int) : cnt row v 0 = 0 := rfl
theorem cnt_succ {row : List Int} {p : Nat} {x : Int} (h : row[p]? = some x) (v : Int) : cnt row v (p + 1) = cnt row v p + (if v ≤ x then 1 else 0) := by
  unfold cnt
  rw [List.take_add_one, h, List.countP_append]
  by_cases q : v ≤ x <;> simp [q]
theorem cnt_past {row : List Int} {p : Nat} (h : row.length ≤ p) (v : Int) : cnt row v (p + 1) = cnt row v p := by
  unfold cnt
  rw [List.take_of_length_le h, List.take_of_length_le (by omega)]
theorem cnt_step (row : List Int) (v : Int) (p : Nat) : cnt row v p ≤ cnt row v (p + 1) ∧ cnt row v (p + 1) ≤ cnt row v p + 1 := by
  rcases Nat.lt_or_ge p row.length with h | h
  · rw [cnt_succ (List.getElem?_eq_getElem h)]
    split <;> omega
  · rw [cnt_past h]
    omega
theorem cnt_mono (row : List Int) (v : Int) {p q : Nat} (h : p ≤ q) : cnt row v p ≤ cnt row v q ∧ cnt row v q ≤ cnt row v p + ((q : Int) - p) := by
  induction h with
  | refl => omega
  | step _ ih =>
    rename_i m _
    have := cnt_step row v m
    show cnt row v p ≤ cnt row v (m + 1) ∧ cnt row v (m + 1) ≤ cnt row v p + (((m + 1 : Nat) : Int) - p)
    omega
/-- what a deed does to counts -/
def opF (f : Nat → Int) (d : Int) : Nat → Int := fun p => if p = d.toNat + 1 then max (f d.toNat) (f (d.toNat + 2) - 1) else f p
theorem getD_of {row : List Int} {i : Nat} (h : i < row.length) : row[i]? = some (row.getD i 0) := by
  rw [List.getD_eq_getElem?_getD, List.getElem?_eq_getElem h]
  rfl
theorem stepF_get {row : List Int} {d : Int} (h0 : 0 ≤ d) (h1 : d + 1 < row.length) (p : Nat) : (stepF row d)[p]? = if p = d.toNat then some (min (row.getD d.toNat 0) (row.getD (d + 1).toNat 0)) else if p = d.toNat + 1 then some (max (row.getD d.toNat 0) (row.getD (d + 1).toNat 0)) else row[p]? := by
  have e : (d + 1).toNat = d.toNat + 1 := by omega
  have e2 : (d + 2).toNat = d.toNat + 2 := by omega
  have hs : ∀ q, (swapF row d)[q]? = if q = d.toNat then some (row.getD (d + 1).toNat 0) else if q = d.toNat + 1 then some (row.getD d.toNat 0) else row[q]? := by
    intro q
    unfold swapF
    rw [e2]
    have hlen : (row.take d.toNat).length = d.toNat := by rw [List.length_take]; omega
    rcases Nat.lt_trichotomy q d.toNat with h | h | h
    · rw [if_neg (by omega), if_neg (by omega), List.append_assoc, List.getElem?_append_left (by omega), List.getElem?_take_of_lt h]
    · rw [if_pos h, List.append_assoc, List.getElem?_append_right (by omega), hlen, h, Nat.sub_self]
      rfl
    · rw [if_neg (by omega)]
      by_cases h2 : q = d.toNat + 1
      · rw [if_pos h2, List.append_assoc, List.getElem?_append_right (by omega), hlen, h2, Nat.add_sub_cancel_left]
        rfl
      · rw [if_neg h2, List.getElem?_append_right (by rw [List.length_append, hlen, List.length_cons, List.length_cons, List.length_nil]; omega), List.length_append, hlen, List.length_cons, List.length_cons, List.length_nil, List.getElem?_drop]
        congr 1
        omega
  unfold stepF
  by_cases q : row.getD (d + 1).toNat 0 < row.getD d.toNat 0
  · rw [if_pos q, hs p]
    split
    · rw [Int.min_eq_right (by omega)]
    · split
      · rw [Int.max_eq_left (by omega)]
      · rfl
  · rw [if_neg q]
    split
    · rename_i h
      subst h
      rw [getD_of (by omega), Int.min_eq_left (by omega)]
    · split
      · rename_i h
        subst h
        rw [getD_of (by omega), e, Int.max_eq_right (by rw [← e]; omega)]
      · rfl
theorem cnt_stepF {row : List Int} {d : Int} (h0 : 0 ≤ d) (h1 : d + 1 < row.length) (v : Int) (p : Nat) : cnt (stepF row d) v p = opF (cnt row v) d p := by
  have e : (d + 1).toNat = d.toNat + 1 := by omega
  have g := stepF_get h0 h1
  have hl := stepF_length h0 h1
  have low : ∀ p, p ≤ d.toNat → cnt (stepF row d) v p = cnt row v p := by
    intro p
    induction p with
    | zero => intro _; rfl
    | succ p ih =>
      intro hp
      have hp' : p < row.length := by omega
      rw [cnt_succ (x := row.getD p 0) (by rw [g p, if_neg (by omega), if_neg (by omega)]; exact getD_of hp'), cnt_succ (getD_of hp'), ih (by omega)]
  have a1 := getD_of (row := row) (i := d.toNat) (by omega)
  have a2 := getD_of (row := row) (i := d.toNat + 1) (by omega)
  have c1 := cnt_succ (row := stepF row d) (p := d.toNat) (by rw [g, if_pos rfl]) v
  have c2 := cnt_succ (row := stepF row d) (p := d.toNat + 1) (by rw [g, if_neg (by omega), if_pos rfl]) v
  have c3 := cnt_succ a1 v
  have c4 := cnt_succ a2 v
  rw [low _ (Nat.le_refl _)] at c1
  rw [c1] at c2
  rw [c3] at c4
  rw [e] at c1 c2
  have mid : cnt (stepF row d) v (d.toNat + 1) = max (cnt row v d.toNat) (cnt row v (d.toNat + 2) - 1) := by
    rw [c1, c4]
    split <;> split <;> split <;> omega
  have top : cnt (stepF row d) v (d.toNat + 2) = cnt row v (d.toNat + 2) := by
    rw [c2, c4]
    split <;> split <;> split <;> split <;> omega
  have high : ∀ j, cnt (stepF row d) v (d.toNat + 2 + j) = cnt row v (d.toNat + 2 + j) := by
    intro j
    induction j with
    | zero => exact top
    | succ j ih =>
      rcases Nat.lt_or_ge (d.toNat + 2 + j) row.length with h | h
      · rw [← Nat.add_assoc, cnt_succ (x := row.getD (d.toNat + 2 + j) 0) (by rw [g, if_neg (by omega), if_neg (by omega)]; exact getD_of h), cnt_succ (getD_of h), ih]
      · rw [← Nat.add_assoc, cnt_past (by omega), cnt_past h, ih]
  unfold opF
  rcases Nat.lt_trichotomy p (d.toNat + 1) with h | h | h
  · rw [if_neg (by omega), low p (by omega)]
  · rw [if_pos h, h, mid]
  · rw [if_neg (by omega)]
    obtain ⟨j, rfl⟩ : ∃ j, p = d.toNat + 2 + j := ⟨p - (d.toNat + 2), by omega⟩
    exact high j
theorem cnt_behind (v : Int) : ∀ {w row : List Int}, IsWord w row.length → ∀ p, cnt (behindF row w) v p = w.foldl opF (cnt row v) p
  | [], row, _, p => rfl
  | d :: w, row, hw, p => by
    have hd := hw d List.mem_cons_self
    have hl := stepF_length (row := row) hd.1 (by omega)
    show cnt (behindF (stepF row d) w) v p = (w.foldl opF (opF (cnt row v) d)) p
    rw [cnt_behind v (by rw [hl]; exact fun x hx => hw x (List.mem_cons_of_mem _ hx)) p]
    rw [show cnt (stepF row d) v = opF (cnt row v) d from funext fun q => cnt_stepF hd.1 (by omega) v q]

/-! ### deeds keep order, shifts and greatest values -/
theorem op_le {f g : Nat → Int} (h : ∀ p, f p ≤ g p) : ∀ (w : List Int) (p : Nat), w.foldl opF f p ≤ w.foldl opF g p
  | [], p => h p
  | d :: w, p => by
    refine op_le (f := opF f d) (g := opF g d) (fun q => ?_) w p
    unfold opF
    split
    · have := h d.toNat
      have := h (d.toNat + 2)
      omega
    · exact h q
theorem op_shift (c : Int) : ∀ (w : List Int) (f : Nat → Int) (p : Nat), w.foldl opF (fun q => f q + c) p = w.foldl opF f p + c
  | [], f, p => rfl
  | d :: w, f, p => by
    show w.foldl opF (opF (fun q => f q + c) d) p = w.foldl opF (opF f d) p + c
    rw [← op_shift c w (opF f d) p]
    have e : opF (fun q => f q + c) d = fun q => opF f d q + c := funext fun q => by
      unfold opF
      dsimp only
      split <;> omega
    rw [e]
theorem op_sup {N : Nat} {g : Nat → Nat → Int} : ∀ (w : List Int) (f : Nat → Int) (g : Nat → Nat → Int), (∀ p c, c ≤ f p ↔ ∃ j, j ≤ N ∧ c ≤ g j p) → ∀ p c, c ≤ w.foldl opF f p ↔ ∃ j, j ≤ N ∧ c ≤ w.foldl opF (g j) p
  | [], f, g, h, p, c => h p c
  | d :: w, f, g, h, p, c => by
    refine op_sup (g := g) w (opF f d) (fun j => opF (g j) d) (fun q c => ?_) p c
    unfold opF
    split
    · have h1 := h d.toNat c
      have h2 := h (d.toNat + 2) (c + 1)
      constructor
      · intro hc
        rcases Int.le_total c (f d.toNat) with q1 | q1
        · obtain ⟨j, hj, hq⟩ := h1.mp q1
          exact ⟨j, hj, by omega⟩
        · by_cases q3 : c ≤ f d.toNat
          · obtain ⟨j, hj, hq⟩ := h1.mp q3
            exact ⟨j, hj, by omega⟩
          · obtain ⟨j, hj, hq⟩ := h2.mp (by omega)
            exact ⟨j, hj, by omega⟩
      · rintro ⟨j, hj, hq⟩
        by_cases q3 : c ≤ g j d.toNat
        · have := h1.mpr ⟨j, hj, q3⟩
          omega
        · have := h2.mpr ⟨j, hj, by omega⟩
          omega
    · exact h q c
/-- the turned row's counts -/
theorem cnt_turned {n : Int} (h0 : 0 ≤ n) {m : Nat} (hm : (m : Int) ≤ n) (p : Nat) : cnt (turnedF n) (n - m) p = min (p : Int) m := by
  induction p with
  | zero => rw [cnt_zero]; omega
  | succ p ih =>
    rcases Nat.lt_or_ge p (turnedF n).length with h | h
    · rw [turnedF_length] at h
      rw [cnt_succ (turnedF_get h), ih]
      split <;> omega
    · rw [cnt_past h, ih]
      rw [turnedF_length] at h
      omega
theorem cnt_span {row : List Int} {n : Nat} (hl : row.length = n) (v : Int) (p : Nat) (c : Int) : c ≤ cnt row v p ↔ ∃ j, j ≤ n ∧ c ≤ min (p : Int) j + (cnt row v j - j) := by
  constructor
  · intro h
    rcases Nat.le_total p n with q | q
    · exact ⟨p, q, by omega⟩
    · refine ⟨n, Nat.le_refl _, ?_⟩
      have := (cnt_mono row v q).1
      have e : cnt row v p = cnt row v n := by
        unfold cnt
        rw [List.take_of_length_le (by omega), List.take_of_length_le (by omega)]
      omega
  · rintro ⟨j, hj, h⟩
    rcases Nat.le_total p j with q | q
    · have := cnt_mono row v q
      omega
    · have := cnt_mono row v q
      omega
/-- rows that have the same counts are the same -/
theorem eq_of_cnt {a b : List Int} (hl : a.length = b.length) (h : ∀ v, (v ∈ a ∨ v ∈ b) → ∀ p, cnt a v p = cnt b v p) : a = b := by
  refine List.ext_getElem? fun i => ?_
  rcases Nat.lt_or_ge i a.length with q | q
  · have e1 := getD_of q
    have e2 := getD_of (row := b) (i := i) (by omega)
    have m1 : a.getD i 0 ∈ a := List.mem_of_getElem? e1
    have m2 : b.getD i 0 ∈ b := List.mem_of_getElem? e2
    have t1 := h _ (.inl m1) (i + 1)
    have t2 := h _ (.inl m1) i
    have t3 := h _ (.inr m2) (i + 1)
    have t4 := h _ (.inr m2) i
    rw [cnt_succ e1, cnt_succ e2] at t1 t3
    rw [e1, e2]
    congr 1
    split at t1 <;> split at t1 <;> split at t3 <;> split at t3 <;> omega
  · rw [List.getElem?_eq_none q, List.getElem?_eq_none (by omega)]
/-- ONE ROW TELLS ALL -/
theorem one_row {n : Int} {w u row : List Int} (h0 : 0 ≤ n) (hw : IsWord w n) (hu : IsWord u n) (hr : IsRow row n) (h : behindF (turnedF n) w = behindF (turnedF n) u) : behindF row w = behindF row u := by
  have hl : (row.length : Int) = n := by rw [hr.len]; omega
  have hlt : ((turnedF n).length : Int) = n := by rw [turnedF_length]; omega
  have bl : ∀ v, IsWord v n → (behindF row v).length = row.length := fun v hv => behindF_length (by rw [hl]; exact hv)
  have key : ∀ j : Nat, j ≤ n.toNat → ∀ p, w.foldl opF (fun q => min (q : Int) j) p = u.foldl opF (fun q => min (q : Int) j) p := by
    intro j hj p
    have e : (fun q : Nat => min (q : Int) j) = cnt (turnedF n) (n - j) := funext fun q => (cnt_turned h0 (by omega) q).symm
    rw [e, ← cnt_behind (n - j) (by rw [hlt]; exact hw) p, ← cnt_behind (n - j) (by rw [hlt]; exact hu) p, h]
  refine eq_of_cnt (by rw [bl w hw, bl u hu]) fun v _ p => ?_
  rw [cnt_behind v (by rw [hl]; exact hw) p, cnt_behind v (by rw [hl]; exact hu) p]
  have sp := cnt_span (n := n.toNat) hr.len v
  have s1 := op_sup (N := n.toNat) (g := fun _ _ => 0) w (cnt row v) (fun j q => min (q : Int) j + (cnt row v j - j)) sp p
  have s2 := op_sup (N := n.toNat) (g := fun _ _ => 0) u (cnt row v) (fun j q => min (q : Int) j + (cnt row v j - j)) sp p
  have both : ∀ c, c ≤ w.foldl opF (cnt row v) p ↔ c ≤ u.foldl opF (cnt row v) p := by
    intro c
    rw [s1 c, s2 c]
    constructor
    · rintro ⟨j, hj, q⟩
      refine ⟨j, hj, ?_⟩
      rw [op_shift, ← key j hj p, ← op_shift]
      exact q
    · rintro ⟨j, hj, q⟩
      refine ⟨j, hj, ?_⟩
      rw [op_shift, key j hj p, ← op_shift]
      exact q
  have b1 := (both _).mp (Int.le_refl _)
  have b2 := (both _).mpr (Int.le_refl _)
  omega
/-- a word that sorts the turned row sorts every row -/
theorem sorts_rows {n : Int} {w row : List Int} (h0 : 0 ≤ n) (hw : IsWord w n) (hr : IsRow row n) (h : behindF (turnedF n) w = upI 0 n) : behindF row w = upI 0 n := by
  have hl : (row.length : Int) = n := by rw [hr.len]; omega
  have hlt : ((turnedF n).length : Int) = n := by rw [turnedF_length]; omega
  have hy := behindF_row hr hw
  have total : ∀ {a : List Int}, IsRow a n → ∀ v, 0 ≤ v → v ≤ n → cnt a v n.toNat = n - v := by
    intro a ha v h1 h2
    have e1 : cnt a v n.toNat = cnt (turnedF n) v n.toNat := by
      unfold cnt
      rw [List.take_of_length_le (by rw [ha.len]; omega), List.take_of_length_le (by rw [turnedF_length]; omega), (ha.trans (turnedF_row n).symm).countP_eq]
    rw [e1]
    have := cnt_turned h0 (m := (n - v).toNat) (by omega) n.toNat
    rw [show n - ((n - v).toNat : Int) = v by omega] at this
    rw [this]
    omega
  refine eq_of_cnt (by rw [hy.len, upI_length]; omega) fun v hv p => ?_
  have hv2 : 0 ≤ v ∧ v < n := by
    rcases hv with q | q
    · exact hy.mem q
    · exact mem_upI.mp q
  have big : ∀ {a : List Int}, IsRow a n → cnt a v p = cnt a v (min p n.toNat) := by
    intro a ha
    unfold cnt
    rcases Nat.le_total p n.toNat with q | q
    · rw [Nat.min_eq_left q]
    · rw [Nat.min_eq_right q, List.take_of_length_le (by rw [ha.len]; omega), List.take_of_length_le (by rw [ha.len]; omega)]
  have up : cnt (behindF row w) v p ≤ cnt (upI 0 n) v p := by
    rw [← h, cnt_behind v (by rw [hl]; exact hw) p, cnt_behind v (by rw [hlt]; exact hw) p]
    refine op_le (fun q => ?_) w p
    have t1 := cnt_turned h0 (m := (n - v).toNat) (by omega) q
    rw [show n - ((n - v).toNat : Int) = v by omega] at t1
    rw [t1]
    have t2 := (cnt_mono row v (Nat.zero_le q)).2
    rw [cnt_zero] at t2
    have t3 : cnt row v q ≤ n - v := by
      rw [← total hr v hv2.1 (by omega)]
      rcases Nat.le_total q n.toNat with z | z
      · exact (cnt_mono row v z).1
      · unfold cnt
        rw [List.take_of_length_le (by rw [hr.len]; omega), List.take_of_length_le (by rw [hr.len]; omega)]
        exact Int.le_refl _
    omega
  have low : cnt (upI 0 n) v p ≤ cnt (behindF row w) v p := by
    rw [big hy, big (upI_row n)]
    have e1 : ∀ q : Nat, q ≤ n.toNat → cnt (upI 0 n) v q = max 0 ((q : Int) - v) := by
      intro q
      induction q with
      | zero => intro _; rw [cnt_zero]; omega
      | succ q ih =>
        intro hq
        rw [cnt_succ (upI_get (by omega)), ih (by omega)]
        split <;> omega
    rw [e1 _ (Nat.min_le_right _ _)]
    have t1 := total hy v hv2.1 (by omega)
    have t2 := (cnt_mono (behindF row w) v (Nat.min_le_right p n.toNat)).2
    have t3 := (cnt_mono (behindF row w) v (Nat.zero_le (min p n.toNat))).1
    rw [cnt_zero] at t3
    omega
  omega
/-! ### lamps -/
def lampF (b c : Int) : Int := if b ≤ c then 1 else 0
def lampsF (row : List Int) (b : Int) : List Int := row.map (lampF b)
theorem lampsF_length (row : List Int) (b : Int) : (lampsF row b).length = row.length := List.length_map _
theorem lampsF_get (row : List Int) (b : Int) (p : Nat) : (lampsF row b)[p]? = (row[p]?).map (lampF b) := by unfold lampsF; rw [List.getElem?_map]
theorem lampsF_getD {row : List Int} {p : Nat} (b : Int) (h : p < row.length) : (lampsF row b).getD p 0 = lampF b (row.getD p 0) := by
  have h1 := lampsF_get row b p
  rw [getD_of h, getD_of (by rw [lampsF_length]; exact h)] at h1
  simpa using h1
theorem lamp_min (b x y : Int) : min (lampF b x) (lampF b y) = lampF b (min x y) := by
  unfold lampF
  split <;> split <;> split <;> omega
theorem lamp_max (b x y : Int) : max (lampF b x) (lampF b y) = lampF b (max x y) := by
  unfold lampF
  split <;> split <;> split <;> omega
theorem step_lamps {row : List Int} {d : Int} (h0 : 0 ≤ d) (h1 : d + 1 < row.length) (b : Int) : stepF (lampsF row b) d = lampsF (stepF row d) b := by
  apply List.ext_getElem?
  intro p
  rw [lampsF_get (stepF row d), stepF_get h0 (by rw [lampsF_length]; exact h1), stepF_get h0 h1, lampsF_getD b (by omega), lampsF_getD b (by omega), lamp_min, lamp_max, lampsF_get]
  split
  · rfl
  · split <;> rfl
theorem behind_lamps : ∀ {w row : List Int} (b : Int), IsWord w row.length → behindF (lampsF row b) w = lampsF (behindF row w) b
  | [], _, _, _ => rfl
  | d :: w, row, b, h => by
    have hd := h d List.mem_cons_self
    have hl := stepF_length (row := row) (d := d) hd.1 (by omega)
    show behindF (stepF (lampsF row b) d) w = lampsF (behindF (stepF row d) w) b
    rw [step_lamps hd.1 (by omega), behind_lamps b (by rw [hl]; exact fun x hx => h x (List.mem_cons_of_mem _ hx))]
theorem cnt_lamps (row : List Int) (b : Int) (p : Nat) : cnt (lampsF row b) 1 p = cnt row b p := by
  unfold cnt lampsF
  rw [← List.map_take, List.countP_map]
  congr 1
  congr 1
  funext x
  show decide (1 ≤ lampF b x) = decide (b ≤ x)
  unfold lampF
  by_cases h : b ≤ x <;> simp [h]
theorem lamps_cnt {a c : List Int} {b : Int} (h : lampsF a b = lampsF c b) (p : Nat) : cnt a b p = cnt c b p := by rw [← cnt_lamps a, ← cnt_lamps c, h]
theorem lamps_of_cnt {a c : List Int} {b : Int} (hl : a.length = c.length) (h : ∀ p, cnt a b p = cnt c b p) : lampsF a b = lampsF c b := by
  apply List.ext_getElem?
  intro p
  rw [lampsF_get, lampsF_get]
  rcases Nat.lt_or_ge p a.length with q | q
  · have h1 := h (p + 1)
    rw [cnt_succ (getD_of q), cnt_succ (getD_of (show p < c.length by omega)), h p] at h1
    rw [getD_of q, getD_of (show p < c.length by omega)]
    show some (lampF b _) = some (lampF b _)
    congr 1
    unfold lampF
    omega
  · rw [List.getElem?_eq_none q, List.getElem?_eq_none (by omega)]
/-- what the turned row tells at one bound -/
theorem sorts_at {n v : Int} {w row : List Int} (h0 : 0 ≤ n) (hw : IsWord w n) (hr : IsRow row n) (hv : 0 ≤ v) (hvn : v ≤ n) (h : lampsF (behindF (turnedF n) w) v = lampsF (upI 0 n) v) : lampsF (behindF row w) v = lampsF (upI 0 n) v := by
  have hl : (row.length : Int) = n := by rw [hr.len]; omega
  have hlt : ((turnedF n).length : Int) = n := by rw [turnedF_length]; omega
  have hy := behindF_row hr hw
  have total : ∀ {a : List Int}, IsRow a n → cnt a v n.toNat = n - v := by
    intro a ha
    have e1 : cnt a v n.toNat = cnt (turnedF n) v n.toNat := by
      unfold cnt
      rw [List.take_of_length_le (by rw [ha.len]; omega), List.take_of_length_le (by rw [turnedF_length]; omega), (ha.trans (turnedF_row n).symm).countP_eq]
    rw [e1]
    have := cnt_turned h0 (m := (n - v).toNat) (by omega) n.toNat
    rw [show n - ((n - v).toNat : Int) = v by omega] at this
    rw [this]
    omega
  refine lamps_of_cnt (by rw [hy.len, upI_length]; omega) fun p => ?_
  have big : ∀ {a : List Int}, IsRow a n → cnt a v p = cnt a v (min p n.toNat) := by
    intro a ha
    unfold cnt
    rcases Nat.le_total p n.toNat with q | q
    · rw [Nat.min_eq_left q]
    · rw [Nat.min_eq_right q, List.take_of_length_le (by rw [ha.len]; omega), List.take_of_length_le (by rw [ha.len]; omega)]
  have up : cnt (behindF row w) v p ≤ cnt (upI 0 n) v p := by
    rw [← lamps_cnt h, cnt_behind v (by rw [hl]; exact hw) p, cnt_behind v (by rw [hlt]; exact hw) p]
    refine op_le (fun q => ?_) w p
    have t1 := cnt_turned h0 (m := (n - v).toNat) (by omega) q
    rw [show n - ((n - v).toNat : Int) = v by omega] at t1
    rw [t1]
    have t2 := (cnt_mono row v (Nat.zero_le q)).2
    rw [cnt_zero] at t2
    have t3 : cnt row v q ≤ n - v := by
      rw [← total hr]
      rcases Nat.le_total q n.toNat with z | z
      · exact (cnt_mono row v z).1
      · unfold cnt
        rw [List.take_of_length_le (by rw [hr.len]; omega), List.take_of_length_le (by rw [hr.len]; omega)]
        exact Int.le_refl _
    omega
  have low : cnt (upI 0 n) v p ≤ cnt (behindF row w) v p := by
    rw [big hy, big (upI_row n)]
    have e1 : ∀ q : Nat, q ≤ n.toNat → cnt (upI 0 n) v q = max 0 ((q : Int) - v) := by
      intro q
      induction q with
      | zero => intro _; rw [cnt_zero]; omega
      | succ q ih =>
        intro hq
        rw [cnt_succ (upI_get (by omega)), ih (by omega)]
        split <;> omega
    rw [e1 _ (Nat.min_le_right _ _)]
    have t1 := total hy
    have t2 := (cnt_mono (behindF row w) v (Nat.min_le_right p n.toNat)).2
    have t3 := (cnt_mono (behindF row w) v (Nat.zero_le (min p n.toNat))).1
    rw [cnt_zero] at t3
    omega
  omega
theorem pw_sortI {l : List Int} : (sortI l).Pairwise (· ≤ ·) :=
  (List.pairwise_mergeSort (le := fun a b : Int => decide (a ≤ b)) (fun a b c h1 h2 => by simp at h1 h2 ⊢; omega) (fun a b => by simp; omega) l).imp fun h => by simpa using h
theorem perm_sortI (l : List Int) : (sortI l).Perm l := List.mergeSort_perm l _
theorem sortI_eq {l m : List Int} (h : l.Perm m) (hm : m.Pairwise (· ≤ ·)) : sortI l = m :=
  List.Perm.eq_of_pairwise (le := fun a b : Int => a ≤ b) (fun a b _ _ h1 h2 => by omega) pw_sortI hm ((perm_sortI l).trans h)
theorem sortI_lamps {row : List Int} {n b : Int} (h : IsRow row n) : sortI (lampsF row b) = lampsF (upI 0 n) b := by
  refine sortI_eq (h.map _) ?_
  unfold lampsF
  rw [List.pairwise_map]
  refine (upI_lt 0 n).imp fun {x y} hxy => ?_
  unfold lampF
  split <;> split <;> omega
/-- all bounds tell the row -/
theorem row_of_lamps {row : List Int} {n : Int} (h0 : 0 ≤ n) (h : IsRow row n) (hb : ∀ b, 1 ≤ b → b < n → lampsF row b = lampsF (upI 0 n) b) : row = upI 0 n := by
  apply List.ext_getElem?
  intro p
  have hl := h.len
  rcases Nat.lt_or_ge p row.length with q | q
  · have hx := h.mem (List.mem_of_getElem? (getD_of q))
    rw [getD_of q, upI_get (by omega)]
    generalize hxe : row.getD p 0 = x at hx
    have key : ∀ b, 1 ≤ b → b < n → lampF b x = lampF b (0 + (p : Int)) := fun b b1 b2 => by
      have h1 : (lampsF row b)[p]? = (lampsF (upI 0 n) b)[p]? := by rw [hb b b1 b2]
      rw [lampsF_get, lampsF_get, getD_of q, upI_get (by omega), hxe] at h1
      simpa using h1
    unfold lampF at key
    congr 1
    rcases Int.lt_trichotomy x (0 + (p : Int)) with c | c | c
    · have := key (0 + p) (by omega) (by omega)
      split at this <;> split at this <;> omega
    · exact c
    · have := key x (by omega) (by omega)
      split at this <;> split at this <;> omega
  · rw [List.getElem?_eq_none q, List.getElem?_eq_none (by rw [upI_length]; omega)]
end Pi

/-! What the laws share: draws, likeness, what is drawn, what they run themselves. -/
namespace Pi
open PySem
local macro_rules | `(tactic| walk_at "pi") => `(tactic| simp only [wp_pure, wp_bind, wp_bad, wp_ite, wp_chk, wp_new, wp_var, wp_lit, wp_glob, wp_bin, wp_neg, wp_not, wp_and, wp_or, wp_cmp, wp_cmp2, wp_iteE, wp_tup, wp_lst, wp_call, wp_fz, wp_tupS, wp_lstS, wp_dnew, wp_disp, wp_dget1, wp_dget2, wp_litems, wp_sset, wi_rev, vr_index, vr_count, vm_count, wi_items, vd_is, vd_items, wp_ds_nil, wp_ds_star, wp_ds_cons, notStar, wp_bi, wp_isi, wp_idx, wp_slice, wp_meth, wp_lrange, wp_trange, wp_tdown, wp_comp, wp_compB, wp_comp2, wp_comp2B, wp_rngv, wp_es_nil, wp_es_cons, wp_o_none, wp_o_some, wp_ts_nil, wp_ts_one, wt_not, wt_and, wt_or, wt_cmp, wt_ite, wt_var, wt_call, wt_bi, wt_isi, wt_cmp2, wt_idx, wt_lit, wi_of, wi_enum, wi_zip, wi_range, ws_asg, ws_par, ws_sub, ws_aug, ws_expr, ws_ret, ws_retN, ws_pass, ws_brk, ws_cont, ws_ifs, ws_for, ws_whil, wss_nil, wss_cons, then_nx, then_ret, then_brk, then_cont, out_ret, out_nx, turn_nx, turn_cont, turn_brk, turn_ret, wp_putM, ctx_cf, fzq_int, fzq_bl, fzq_non, fzq_str, fzq_tI, fzq_tup, fzq_ints, fzq_bls, fzq_tIs, fzq_nil, ctx_gl, vb_add, vb_sub, vb_mul, vb_fdiv, vb_mod, vb_pow, vb_addT, vc_lt, vc_le, vc_gt, vc_ge, vc_eqv, vc_nev, vc_inv, vc_ninv, ve_int, ve_bl, vt_bl, vt_int, vt_tup, vt_non, vi_int, vi_bl, vi_str, vi_non, vi_tup, vi_clst, vs_tup, vs_clst, vI_tup, vI_clst, vI_rng, vI_ref, vx_tup, vx_clst, vp_none, vp_int, vl_tup, vl_clst, vf_len_tup, vf_len_clst, vf_int, vf_tup, vf_list_tup, vf_sorted_tup, vf_sorted_clst, vf_all, vf_any, vf_sum, vf_tup_clst, vf_list_clst, vf_min2, vf_max2, vf_abs, va_add, va_sub, put_name, put_tup, put_clst, puts_nil, puts_cons, wipe, List.getElem?_cons_zero, List.getElem?_cons_succ, List.getElem?_nil, List.set_cons_zero, List.set_cons_succ, List.length_cons, List.length_nil, List.any_cons, List.any_nil, isTy, String.reduceBEq, String.reduceEq, Bool.false_and, Bool.and_false, Bool.true_and, Bool.and_true, Bool.or_false, Bool.false_or, Bool.or_true, Bool.true_or, Bool.not_true, Bool.not_false, if_true, if_false, Bool.false_eq_true, reduceIte, reduceCtorEq, Nat.reduceAdd, Nat.reduceLT, Nat.lt_add_one, and_self, true_and, and_true, rangeOf, BEq.rfl, bne_self_eq_false, Nat.reduceLeDiff, Nat.zero_lt_succ, Nat.zero_lt_one])
def law_taken_b : List Pi.S := [(.ifs (.cmp .gt (.idx (.var 0) (.lit (.int 3))) (.lit (.int 0))) [(.asg (.name 2) (.bin .mod (.bi .int [(.idx (.var 0) (.lit (.int 3)))]) (.var 1))), (.sub (.var 0) (.lit (.int 3)) (.bin .fdiv (.idx (.var 0) (.lit (.int 3))) (.var 1))), (.ret (.var 2))] []), (.sub (.var 0) (.lit (.int 1)) (.bin .add (.idx (.var 0) (.lit (.int 1))) (.lit (.int 1)))), (.ifs (.cmp .gt (.idx (.var 0) (.lit (.int 1))) (.bi .len [(.idx (.var 0) (.lit (.int 0)))])) [(.sub (.var 0) (.lit (.int 2)) (.bin .mod (.bi .int [(.bin .add (.bin .mul (.idx (.var 0) (.lit (.int 2))) (.lit (.int 48271))) (.lit (.int 11)))]) (.lit (.int 2147483647)))), (.ret (.bin .mod (.bi .int [(.bin .fdiv (.idx (.var 0) (.lit (.int 2))) (.lit (.int 7)))]) (.var 1)))] []), (.asg (.name 3) (.idx (.idx (.var 0) (.lit (.int 0))) (.bin .sub (.idx (.var 0) (.lit (.int 1))) (.lit (.int 1))))), (.sub (.var 0) (.lit (.int 2)) (.bin .mod (.bi .int [(.bin .add (.bin .add (.bin .mul (.idx (.var 0) (.lit (.int 2))) (.lit (.int 48271))) (.var 3)) (.lit (.int 11)))]) (.lit (.int 2147483647)))), (.ifs (.cmp .ge (.var 3) (.bin .pow (.lit (.int 10)) (.lit (.int 18)))) [(.sub (.var 0) (.lit (.int 3)) (.bin .fdiv (.var 3) (.var 1)))] []), (.ret (.bin .mod (.bi .int [(.var 3)]) (.var 1)))]
def law_taken_d : DefI := { name := "_law_taken", ps := [("row" : Str), ("many" : Str)], N := [("row" : Str), ("many" : Str), ("found" : Str), ("cell" : Str)], body := law_taken_b, mu := [] }
def law_pick_b : List Pi.S := [(.ret (.idx (.var 1) (.call "_law_taken" [(.var 0), (.bi .len [(.var 1)])])))]
def law_pick_d : DefI := { name := "_law_pick", ps := [("row" : Str), ("things" : Str)], N := [("row" : Str), ("things" : Str)], body := law_pick_b, mu := [] }
def law_alike_b : List Pi.S := [(.ifs (.isi (.var 1) ["tuple", "list"]) [(.ifs (.or (.not (.isi (.var 0) ["tuple", "list"])) (.cmp .ne (.isi (.var 0) ["list"]) (.isi (.var 1) ["list"]))) [(.ret (.lit (.bl false)))] []), (.ifs (.cmp .ne (.bi .len [(.var 0)]) (.bi .len [(.var 1)])) [(.ret (.lit (.bl false)))] []), (.ret (.cmp .eq (.fz (.comp [2] (.name 2) (.range [(.bi .len [(.var 1)])]) [(.not (.call "_law_alike" [(.idx (.var 0) (.var 2)), (.idx (.var 1) (.var 2))]))] (.var 2))) (.fz (.lst []))))] []), (.ifs (.isi (.var 1) ["dict"]) [(.ifs (.or (.not (.isi (.var 0) ["dict"])) (.cmp .ne (.fz (.bi .sorted [(.var 0)])) (.fz (.bi .sorted [(.var 1)])))) [(.ret (.lit (.bl false)))] []), (.ret (.cmp .eq (.fz (.comp [3] (.name 3) (.of (.var 1)) [(.not (.call "_law_alike" [(.idx (.var 0) (.var 3)), (.idx (.var 1) (.var 3))]))] (.var 3))) (.fz (.lst []))))] []), (.ifs (.or (.cmp .is_ (.var 1) (.lit .non)) (.isi (.var 1) ["str"])) [(.ret (.and (.cmp .eq (.var 0) (.var 1)) (.cmp .eq (.isi (.var 0) ["str"]) (.isi (.var 1) ["str"]))))] []), (.ret (.and (.isi (.var 0) ["int"]) (.and (.cmp .eq (.isi (.var 0) ["bool"]) (.isi (.var 1) ["bool"])) (.cmp .eq (.var 0) (.var 1)))))]
def law_alike_d : DefI := { name := "_law_alike", ps := [("found" : Str), ("due" : Str)], N := [("found" : Str), ("due" : Str), ("k" : Str), ("key" : Str)], body := law_alike_b, mu := [] }
def law_word_b : List Pi.S := [(.ifs (.cmp .lt (.var 1) (.lit (.int 2))) [(.ret (.tup []))] []), (.ret (.bi .tuple [(.fz (.comp [3] (.name 3) (.range [(.call "_law_taken" [(.var 0), (.bin .add (.var 2) (.lit (.int 1)))])]) [] (.call "_law_taken" [(.var 0), (.bin .sub (.var 1) (.lit (.int 1)))])))]))]
def law_word_d : DefI := { name := "_law_word", ps := [("row" : Str), ("n" : Str), ("most" : Str)], N := [("row" : Str), ("n" : Str), ("most" : Str), ("turn" : Str)], body := law_word_b, mu := [] }
def law_lot_b : List Pi.S := [(.asg (.name 2) (.call "_law_taken" [(.var 0), (.lit (.int 4))])), (.ret (.bi .tuple [(.fz (.comp [3] (.name 3) (.range [(.var 1)]) [(.cmp .eq (.call "_law_taken" [(.var 0), (.bin .add (.lit (.int 2)) (.var 2))]) (.lit (.int 0)))] (.var 3)))]))]
def law_lot_d : DefI := { name := "_law_lot", ps := [("row" : Str), ("size" : Str)], N := [("row" : Str), ("size" : Str), ("way" : Str), ("place" : Str)], body := law_lot_b, mu := [] }
def law_turned_b : List Pi.S := [(.ret (.bi .tuple [(.fz (.comp [1] (.name 1) (.range [(.var 0)]) [] (.bin .sub (.bin .sub (.var 0) (.lit (.int 1))) (.var 1))))]))]
def law_turned_d : DefI := { name := "_law_turned", ps := [("n" : Str)], N := [("n" : Str), ("card" : Str)], body := law_turned_b, mu := [] }
def law_swap_b : List Pi.S := [(.ret (.bin .add (.bin .add (.slice (.var 0) none (some (.var 1))) (.tup [(.idx (.var 0) (.bin .add (.var 1) (.lit (.int 1)))), (.idx (.var 0) (.var 1))])) (.slice (.var 0) (some (.bin .add (.var 1) (.lit (.int 2)))) none)))]
def law_swap_d : DefI := { name := "_law_swap", ps := [("cards" : Str), ("deed" : Str)], N := [("cards" : Str), ("deed" : Str)], body := law_swap_b, mu := [] }
def law_run_b : List Pi.S := [(.for (.tup [(.name 3), (.name 4)]) (.enum (.var 1)) [(.ifs (.and (.cmp .nin (.var 3) (.var 2)) (.cmp .gt (.idx (.var 0) (.var 4)) (.idx (.var 0) (.bin .add (.var 4) (.lit (.int 1)))))) [(.asg (.name 0) (.call "_law_swap" [(.var 0), (.var 4)]))] [])]), (.ret (.var 0))]
def law_run_d : DefI := { name := "_law_run", ps := [("cards" : Str), ("word" : Str), ("lot" : Str)], N := [("cards" : Str), ("word" : Str), ("lot" : Str), ("place" : Str), ("deed" : Str)], body := law_run_b, mu := [] }
def law_end_b : List Pi.S := [(.ret (.call "_law_run" [(.call "_law_turned" [(.var 2)]), (.var 0), (.var 1)]))]
def law_end_d : DefI := { name := "_law_end", ps := [("word" : Str), ("lot" : Str), ("n" : Str)], N := [("word" : Str), ("lot" : Str), ("n" : Str)], body := law_end_b, mu := [] }
def law_rows_b : List Pi.S := [(.asg (.name 1) (.fz (.lst [(.tup [])]))), (.for (.name 2) (.range [(.var 0)]) [(.asg (.name 3) (.fz (.lst []))), (.for (.name 4) (.of (.var 1)) [(.asg (.name 3) (.fz (.bin .add (.var 3) (.fz (.comp [5] (.name 5) (.range [(.var 0)]) [(.cmp .nin (.var 5) (.var 4))] (.fz (.bin .add (.var 4) (.tup [(.var 5)]))))))))]), (.asg (.name 1) (.var 3))]), (.ret (.var 1))]
def law_rows_d : DefI := { name := "_law_rows", ps := [("n" : Str)], N := [("n" : Str), ("found" : Str), ("turn" : Str), ("longer" : Str), ("cards" : Str), ("card" : Str)], body := law_rows_b, mu := [] }
def law_sorter_b : List Pi.S := [(.asg (.name 1) (.tup [])), (.for (.name 2) (.range [(.bin .sub (.var 0) (.lit (.int 1)))]) [(.asg (.name 1) (.bin .add (.var 1) (.trange [(.bin .sub (.bin .sub (.var 0) (.lit (.int 1))) (.var 2))])))]), (.ret (.var 1))]
def law_sorter_d : DefI := { name := "_law_sorter", ps := [("n" : Str)], N := [("n" : Str), ("found" : Str), ("turn" : Str)], body := law_sorter_b, mu := [] }
/-! ### draws -/
def Dr (sc : List Int) (o : Ob) : Prop := ∃ a b c : Int, o = .lst [.clst (sc.map .int), .int a, .int b, .int c] ∧ 0 ≤ a ∧ 0 ≤ b ∧ b < 2147483647
/-- the list that the draws are taken from -/
def Draw (S : Sto) (r : Nat) (sc : List Int) : Prop := ∃ o, S[r]? = some o ∧ Dr sc o
/-- after some draws -/
def Dn (S : Sto) (r : Nat) (sc : List Int) (S' : Sto) : Prop := ∃ o, S' = S.set r o ∧ Dr sc o
theorem fines_ints (n : Nat) : ∀ l : List Int, fines n (l.map D.int) = true
  | [] => rfl
  | a :: l => by rw [List.map_cons, fines, fines_ints n l]; rfl
theorem Dr.fineO {sc : List Int} {o : Ob} (h : Dr sc o) (n : Nat) : fineO n o = true := by
  obtain ⟨a, b, c, rfl, _⟩ := h
  simp only [Pi.fineO, fines, fine, fines_ints, Bool.and_self]
section
variable {S S1 S2 : Sto} {r : Nat} {sc : List Int}
theorem Draw.lt (h : Draw S r sc) : r < S.length := lt_of_get h.choose_spec.1
theorem Draw.after (h : Draw S r sc) (d : Dn S r sc S1) : Draw S1 r sc := by
  obtain ⟨o, rfl, hd⟩ := d
  obtain ⟨p, hp, _⟩ := h
  exact ⟨o, get_set hp, hd⟩
theorem Dn.refl (h : Draw S r sc) : Dn S r sc S := by
  obtain ⟨o, h, hd⟩ := h
  refine ⟨o, ?_, hd⟩
  apply List.ext_getElem?
  intro i
  by_cases e : i = r
  · subst e
    rw [get_set h, h]
  · rw [List.getElem?_set_ne (Ne.symm e)]
theorem Dn.trans (a : Dn S r sc S1) (b : Dn S1 r sc S2) : Dn S r sc S2 := by
  obtain ⟨o, rfl, _⟩ := a
  obtain ⟨p, rfl, hd⟩ := b
  exact ⟨p, by rw [List.set_set], hd⟩
theorem Dn.len (a : Dn S r sc S1) : S1.length = S.length := by
  obtain ⟨o, rfl, _⟩ := a
  simp
theorem Dn.get (a : Dn S r sc S1) {i : Nat} (h : i ≠ r) : S1[i]? = S[i]? := by
  obtain ⟨o, rfl, _⟩ := a
  rw [List.getElem?_set_ne (Ne.symm h)]
theorem Dn.kept (a : Dn S r sc S1) (T : Sto) : Kept S (S1 ++ T) := by
  refine ⟨by rw [List.length_append, a.len]; omega, fun i p hi hg => ?_⟩
  rw [List.getElem?_append_left (by rw [a.len]; exact hi)] at hg
  by_cases e : i = r
  · right
    subst e
    obtain ⟨o, rfl, hd⟩ := a
    rw [List.getElem?_set_self hi] at hg
    cases hg
    exact hd.fineO _
  · left
    rw [a.get e] at hg
    exact hg
/-- what is fast already -/
def Fx (x : D) : Prop := ∀ (n : Nat) (S : Sto), frzD depthP n S x = some x
theorem EncOk.fx {α : Type} [DecidableEq α] {e : α → D} {f : α → PyData} {k : Nat} (h : EncOk e f k) (hk : k ≤ 40) (a : α) : Fx (e a) := fun _ S => h.frz S a hk
theorem fx_int (i : Int) : Fx (.int i) := encI.fx (by decide) i
theorem fx_tI (l : List Int) : Fx (tI l) := encTI.fx (by decide) l
theorem fzq_dn (a : Dn S r sc S1) {x : D} (hx : Fx x) (Q : D → Sto → Prop) : FzQ S Q x S1 = Q x S1 := by
  unfold FzQ
  rw [hx, ← a.len, List.take_length]
  have hk := a.kept []
  rw [List.append_nil] at hk
  apply propext
  exact ⟨fun ⟨_, d, hd, q⟩ => by cases hd; exact q, fun q => ⟨hk, _, rfl, q⟩⟩
theorem fzq_dn_new (a : Dn S r sc S1) {l : List D} (h : l.mapM (frzD 39 S.length (S1 ++ [.lst l])) = some l) (Q : D → Sto → Prop) : FzQ S Q (.ref S1.length) (S1 ++ [.lst l]) = Q (.clst l) S1 := by
  have e1 : frzD depthP S.length (S1 ++ [.lst l]) (.ref S1.length) = some (.clst l) := by
    show frzD (39 + 1) _ _ _ = _
    simp only [frzD]
    rw [if_neg (by rw [a.len]; omega), List.getElem?_append_right (Nat.le_refl _), Nat.sub_self]
    simp only [List.getElem?_cons_zero, h, Option.map_some]
  unfold FzQ
  rw [e1, ← a.len]
  have hk := a.kept [.lst l]
  apply propext
  exact ⟨fun ⟨_, d, hd, q⟩ => by cases hd; simpa using q, fun q => ⟨hk, _, rfl, by simpa using q⟩⟩
theorem fzq_dn_list {α : Type} [DecidableEq α] {e : α → D} {f : α → PyData} {k : Nat} (h : EncOk e f k) (hk : k ≤ 39) (a : Dn S r sc S1) (l : List α) (Q : D → Sto → Prop) : FzQ S Q (.ref S1.length) (S1 ++ [.lst (l.map e)]) = Q (.clst (l.map e)) S1 :=
  fzq_dn_new a (h.frzs _ l hk) Q
end
section
variable {S : Sto} {r : Nat} {x y z w : D}
theorem four0 (h : S[r]? = some (.lst [x, y, z, w])) (Q : D → Sto → Prop) (E : XP) : Wp (index (.ref r) (.int 0)) S Q E = Q x S := by rw [vx_ref S h]; rfl
theorem four1 (h : S[r]? = some (.lst [x, y, z, w])) (Q : D → Sto → Prop) (E : XP) : Wp (index (.ref r) (.int 1)) S Q E = Q y S := by rw [vx_ref S h]; rfl
theorem four2 (h : S[r]? = some (.lst [x, y, z, w])) (Q : D → Sto → Prop) (E : XP) : Wp (index (.ref r) (.int 2)) S Q E = Q z S := by rw [vx_ref S h]; rfl
theorem four3 (h : S[r]? = some (.lst [x, y, z, w])) (Q : D → Sto → Prop) (E : XP) : Wp (index (.ref r) (.int 3)) S Q E = Q w S := by rw [vx_ref S h]; rfl
theorem fourS1 (h : S[r]? = some (.lst [x, y, z, w])) (v : D) (Q : Unit → Sto → Prop) (E : XP) : Wp (setItem (.ref r) (.int 1) v) S Q E = Q () (S.set r (.lst [x, v, z, w])) := by rw [vset S h]; rfl
theorem fourS2 (h : S[r]? = some (.lst [x, y, z, w])) (v : D) (Q : Unit → Sto → Prop) (E : XP) : Wp (setItem (.ref r) (.int 2) v) S Q E = Q () (S.set r (.lst [x, y, v, w])) := by rw [vset S h]; rfl
theorem fourS3 (h : S[r]? = some (.lst [x, y, z, w])) (v : D) (Q : Unit → Sto → Prop) (E : XP) : Wp (setItem (.ref r) (.int 3) v) S Q E = Q () (S.set r (.lst [x, y, z, v])) := by rw [vset S h]; rfl
end
theorem mod_lt {a m : Int} (h : 0 < m) : 0 ≤ a % m ∧ a % m < m := ⟨Int.emod_nonneg a (by omega), Int.emod_lt_of_pos a h⟩
section
variable {T : Tb} {k r : Nat} {S : Sto} {sc : List Int}
theorem taken_w [Fn T law_taken_d] {many : Int} {Q : D → Sto → Prop} {E : XP} (hd : Draw S r sc) (h0 : 0 < many) (h1 : many < 1073741824)
    (hQ : ∀ i S', 0 ≤ i → i < many → Dn S r sc S' → Q (.int i) S') : Wp (callF T (k + 1) "_law_taken" [.ref r, .int many]) S Q E := by
  refine fz_call law_taken_d rfl rfl ?_
  show Wp (evSs (T.ctx k) law_taken_b [some (.ref r), some (.int many), none, none]) S _ _
  have fin : ∀ i S', 0 ≤ i ∧ i < many → Dn S r sc S' → FzQ S Q (.int i) S' := fun i S' q1 q3 => by
    rw [fzq_dn q3 (fx_int i)]
    exact hQ i S' q1.1 q1.2 q3
  obtain ⟨o, hS, a, b, c, rfl, ha, hb, hb2⟩ := hd
  unfold law_taken_b
  walk_at "pi"
  rw [four3 hS, vc_gt]
  by_cases hc : 0 < c
  · simp only [hc, decide_true, if_true]
    rw [four3 hS]
    walk_at "pi"
    refine ⟨h0, ?_⟩
    rw [four3 hS]
    walk_at "pi"
    refine ⟨⟨h0, h1⟩, ?_⟩
    rw [fourS3 hS]
    exact fin _ _ (mod_lt h0) ⟨_, rfl, a, b, _, rfl, ha, hb, hb2⟩
  · simp only [hc, decide_false, Bool.false_eq_true, if_false]
    rw [four1 hS]
    walk_at "pi"
    rw [fourS1 hS]
    have hS1 : (S.set r (.lst [.clst (sc.map .int), .int (a + 1), .int b, .int c]))[r]? = some _ := get_set hS
    rw [four1 hS1, four0 hS1]
    walk_at "pi"
    by_cases hl : (((sc.map D.int).length : Nat) : Int) < a + 1
    · simp only [hl, decide_true, if_true]
      rw [four2 hS1]
      walk_at "pi"
      refine ⟨.inr (by omega), by omega, ?_⟩
      rw [fourS2 hS1]
      have hS2 := get_set (p := .lst [.clst (sc.map .int), .int (a + 1), .int ((b * 48271 + 11) % 2147483647), .int c]) hS1
      rw [four2 hS2]
      walk_at "pi"
      refine ⟨⟨by omega, by omega⟩, h0, fin _ _ (mod_lt h0) ⟨_, by rw [List.set_set], a + 1, _, c, rfl, by omega, mod_lt (by omega)⟩⟩
    · simp only [hl, decide_false, Bool.false_eq_true, if_false]
      rw [four0 hS1, four1 hS1]
      walk_at "pi"
      rw [List.length_map] at hl
      rw [at_int (by omega) (by omega)]
      dsimp only
      rw [four2 hS1]
      walk_at "pi"
      refine ⟨.inr (by omega), by omega, ?_⟩
      rw [fourS2 hS1]
      generalize sc.getD (a + 1 - 1).toNat 0 = cell
      have hS2 := get_set (p := .lst [.clst (sc.map .int), .int (a + 1), .int ((b * 48271 + cell + 11) % 2147483647), .int c]) hS1
      refine ⟨by omega, ?_⟩
      by_cases hg : (10 : Int) ^ (18 : Int).toNat ≤ cell
      · simp only [hg, decide_true, if_true]
        refine ⟨⟨h0, h1⟩, ?_⟩
        rw [fourS3 hS2]
        exact ⟨h0, fin _ _ (mod_lt h0) ⟨_, by rw [List.set_set, List.set_set], a + 1, _, _, rfl, by omega, mod_lt (by omega)⟩⟩
      · simp only [hg, decide_false, Bool.false_eq_true, if_false]
        exact ⟨h0, fin _ _ (mod_lt h0) ⟨_, by rw [List.set_set], a + 1, _, _, rfl, by omega, mod_lt (by omega)⟩⟩
theorem pick_w [Fn T law_taken_d] [Fn T law_pick_d] {l : List D} {Q : D → Sto → Prop} {E : XP} (hd : Draw S r sc) (h0 : l ≠ []) (h1 : l.length < 1073741824) (hx : ∀ x ∈ l, Fx x)
    (hQ : ∀ x ∈ l, ∀ S', Dn S r sc S' → Q x S') : Wp (callF T (k + 2) "_law_pick" [.ref r, .clst l]) S Q E := by
  refine fz_call law_pick_d rfl rfl ?_
  show Wp (evSs (T.ctx (k + 1)) law_pick_b [some (.ref r), some (.clst l)]) S _ _
  unfold law_pick_b
  have hl : 0 < l.length := List.length_pos_iff.mpr h0
  walk_at "pi"
  refine taken_w hd (by omega) (by omega) fun i S' i0 i1 hD => ?_
  walk_at "pi"
  rw [at_get i0 i1]
  dsimp only
  have hm : l[i.toNat] ∈ l := List.getElem_mem _
  rw [fzq_dn hD (hx _ hm)]
  exact hQ _ hm S' hD
theorem all_ints {acc : List D} {P : Int → Prop} : (∀ y ∈ acc, ∃ i, y = .int i ∧ P i) → ∃ k : List Int, acc = k.map .int ∧ ∀ i ∈ k, P i := by
  induction acc with
  | nil => exact fun _ => ⟨[], rfl, by simp⟩
  | cons a l ih =>
    intro h
    obtain ⟨i, rfl, hi⟩ := h a List.mem_cons_self
    obtain ⟨k, rfl, hk⟩ := ih fun y hy => h y (List.mem_cons_of_mem _ hy)
    exact ⟨i :: k, rfl, fun j hj => by
      rcases List.mem_cons.mp hj with rfl | q
      · exact hi
      · exact hk j q⟩
theorem sub_ints {acc : List D} : ∀ {l : List Int}, acc.Sublist (l.map .int) → ∃ k : List Int, acc = k.map .int ∧ k.Sublist l := by
  intro l h
  obtain ⟨k, hk, rfl⟩ := List.sublist_map_iff.mp h
  exact ⟨k, rfl, hk⟩
theorem mem_rangeL {lo hi : Int} {x : D} (h : x ∈ rangeL lo hi) : ∃ i : Int, x = .int i ∧ lo ≤ i ∧ i < hi := by
  unfold rangeL at h
  obtain ⟨i, hi, rfl⟩ := List.mem_map.mp h
  rw [List.mem_range] at hi
  exact ⟨_, rfl, by omega, by omega⟩
theorem lawword_w [Fn T law_taken_d] [Fn T law_word_d] {n most : Int} {Q : D → Sto → Prop} {E : XP} (hd : Draw S r sc) (hn : n < 1000000) (hm : 0 ≤ most) (hm2 : most < 1000000)
    (hQ : ∀ (w : List Int) S', IsWord w n → (w.length : Int) ≤ most → Dn S r sc S' → Q (tI w) S') : Wp (callF T (k + 2) "_law_word" [.ref r, .int n, .int most]) S Q E := by
  refine fz_call law_word_d rfl rfl ?_
  show Wp (evSs (T.ctx (k + 1)) law_word_b [some (.ref r), some (.int n), some (.int most), none]) S _ _
  unfold law_word_b
  walk_at "pi"
  by_cases h : n < 2
  · simp only [h, decide_true, if_true]
    refine ⟨Nat.zero_le _, ?_⟩
    show FzQ S Q (tI []) S
    rw [fzq_dn (Dn.refl hd) (fx_tI [])]
    exact hQ [] S (by simp [IsWord]) (by simpa using hm) (Dn.refl hd)
  · simp only [h, decide_false, Bool.false_eq_true, if_false]
    refine taken_w hd (by omega) (by omega) fun i S1 h0 h1 hD1 => ?_
    dsimp only
    refine ⟨rgOk_of (by omega) (by omega) (by omega) (by omega), ?_⟩
    refine comp_all (rangeL 0 i) (fun y => ∃ d, y = .int d ∧ (0 ≤ d ∧ d ≤ n - 2)) (fun S' => Dn S r sc S') (by rw [rangeL_length]) hD1 (by rw [rangeL_length, sizeLine_eq]; omega) (fun i S' _ => rfl) (fun x hx S' hD' => ?_) (fun acc S' hl hP hD' => ?_)
    · walk_at "pi"
      refine taken_w (hd.after hD') (by omega) (by omega) fun j S2 h2 h3 hD2 => ?_
      exact ⟨⟨_, rfl, j, rfl, h2, by omega⟩, hD'.trans hD2⟩
    · obtain ⟨w, rfl, hw⟩ := all_ints hP
      rw [fzq_dn_list encI (by decide) hD']
      walk_at "pi"
      rw [fzq_dn hD' (fx_tI w)]
      rw [List.length_map, rangeL_length] at hl
      exact hQ w S' hw (by omega) hD'
theorem lawlot_w [Fn T law_taken_d] [Fn T law_lot_d] {size : Int} {Q : D → Sto → Prop} {E : XP} (hd : Draw S r sc) (hm : 0 ≤ size) (hm2 : size < 1000000)
    (hQ : ∀ (w : List Int) S', IsLot w size → Dn S r sc S' → Q (tI w) S') : Wp (callF T (k + 2) "_law_lot" [.ref r, .int size]) S Q E := by
  refine fz_call law_lot_d rfl rfl ?_
  show Wp (evSs (T.ctx (k + 1)) law_lot_b [some (.ref r), some (.int size), none, none]) S _ _
  unfold law_lot_b
  walk_at "pi"
  refine taken_w hd (by omega) (by omega) fun i S1 h0 h1 hD1 => ?_
  refine ⟨rgOk_of (by omega) (by omega) (by omega) (by omega), ?_⟩
  refine comp_sub (rangeL 0 size) (fun S' => Dn S1 r sc S') (by rw [rangeL_length]) (Dn.refl (hd.after hD1)) (by rw [rangeL_length, sizeLine_eq]; omega) (fun i S' _ => rfl) (fun x hx S' hD' => ?_) (fun acc S' hl hD' => ?_)
  · walk_at "pi"
    refine taken_w ((hd.after hD1).after hD') (by omega) (by omega) fun j S2 h2 h3 hD2 => ?_
    walk_at "pi"
    split
    · exact ⟨by simp, hD'.trans hD2⟩
    · exact ⟨by simp, hD'.trans hD2⟩
  · rw [rangeL_upI] at hl
    obtain ⟨w, rfl, hw⟩ := sub_ints hl
    rw [fzq_dn_list encI (by decide) hD']
    walk_at "pi"
    rw [fzq_dn (hD1.trans hD') (fx_tI w)]
    exact hQ w S' hw (hD1.trans hD')
theorem lawturned_w [Fn T law_turned_d] {n : Int} (h0 : 0 ≤ n) (h1 : n < 1000000) : Ret (callF T (k + 1) "_law_turned" [.int n]) (tI (turnedF n)) := by
  refine ret_call law_turned_d rfl rfl fun S => ?_
  show Wp (evSs (T.ctx k) law_turned_b [some (.int n), none]) S _ _
  unfold law_turned_b
  walk_at "pi"
  refine ⟨rgOk_of (by omega) (by omega) (by omega) (by omega), ?_⟩
  refine comp_map (upI 0 n) .int .int (fun i => n - 1 - i) (by rw [upI_length]) (by rw [upI_length, sizeLine_eq]; omega) (fun i => by rw [rangeL_upI]) (fun a ha => ?_) ?_
  · walk_at "pi"
  · walk_at "pi"
    have e : (upI 0 n).map (fun i => n - 1 - i) = turnedF n := by
      unfold upI turnedF
      rw [List.map_map, Int.sub_zero]
      apply List.map_congr_left
      intro i _
      show n - 1 - (0 + (i : Int)) = _
      omega
    rw [e]
theorem lawswap_w [Fn T law_swap_d] {row : List Int} {d : Int} (h0 : 0 ≤ d) (h1 : d + 1 < row.length) (h2 : row.length ≤ 1000000) : Ret (callF T (k + 1) "_law_swap" [tI row, .int d]) (tI (swapF row d)) := by
  refine ret_call law_swap_d rfl rfl fun S => ?_
  show Wp (evSs (T.ctx k) law_swap_b [some (tI row), some (.int d)]) S _ _
  unfold law_swap_b
  walk_at "pi"
  rw [at_int (by omega) (by omega)]
  dsimp only
  rw [at_int (by omega) (by omega)]
  walk_at "pi"
  have e1 : (cut (row.map D.int) none (some d)).length ≤ row.length := by
    rw [cut_pre _ h0, List.length_take, List.length_map]
    omega
  have e2 : (cut (row.map D.int) (some (d + 2)) none).length ≤ row.length := by
    rw [cut_suf _ (by omega), List.length_drop, List.length_map]
    omega
  rw [swap_cut h0]
  refine ⟨by decide, ?_, ?_, ?_⟩
  · rw [sizeLine_eq]; omega
  · rw [List.length_append, sizeLine_eq]
    simp only [List.length_cons, List.length_nil]
    omega
  · walk_at "pi"
theorem lawrun_w [Fn T law_swap_d] [Fn T law_run_d] {row w lot : List Int} (hw : IsWord w row.length) (hl : row.length ≤ 1000000) : Ret (callF T (k + 2) "_law_run" [tI row, tI w, tI lot]) (tI (behindF row (leftF w lot))) := by
  refine ret_call law_run_d rfl rfl fun S => ?_
  show Wp (evSs (T.ctx (k + 1)) law_run_b [some (tI row), some (tI w), some (tI lot), none, none]) S _ _
  unfold law_run_b
  walk_at "pi"
  refine for_list (w.zipIdx.map fun p => D.tup [.int (p.2 : Nat), .int p.1]) (fun i env S' => S' = S ∧ ∃ (c : List Int) (x y : Option D), env = [some (tI c), some (tI w), some (tI lot), x, y] ∧ c.length = row.length ∧ behindF c (leftA i (w.drop i) lot) = behindF row (leftF w lot)) (by simp) ⟨rfl, row, none, none, rfl, rfl, rfl⟩ (fun i env S' _ => by rw [← enumL_map]; exact enum_step rfl) (fun i x env S' hx ⟨hS, c, x0, y0, he, hcl, hb⟩ => ?_) (fun env S' ⟨hS, c, x0, y0, he, hcl, hb⟩ => ?_)
  · subst he hS
    rw [List.getElem?_map, List.getElem?_zipIdx, Option.map_eq_some_iff] at hx
    obtain ⟨p, hp, rfl⟩ := hx
    rw [Option.map_eq_some_iff] at hp
    obtain ⟨d, hd, rfl⟩ := hp
    have hdw := hw d (List.mem_of_getElem? hd)
    rw [drop_step hd, leftA] at hb
    simp only [Nat.zero_add] at hb ⊢
    walk_at "pi"
    rw [vin_int]
    by_cases q : (i : Int) ∈ lot
    · rw [if_pos q] at hb
      simp only [q, decide_true, Bool.not_true, Bool.false_eq_true, if_false]
      exact ⟨trivial, _, _, _, rfl, hcl, hb⟩
    · rw [if_neg q] at hb
      simp only [q, decide_false, Bool.not_false, if_true]
      rw [at_int (by omega) (by omega)]
      dsimp only
      rw [at_int (by omega) (by omega)]
      walk_at "pi"
      have hb2 : behindF (stepF c d) (leftA (i + 1) (w.drop (i + 1)) lot) = behindF row (leftF w lot) := hb
      by_cases q2 : c.getD (d + 1).toNat 0 < c.getD d.toNat 0
      · simp only [q2, decide_true, if_true]
        rw [(lawswap_w hdw.1 (by omega) (by omega)).wp]
        unfold stepF at hb2
        rw [if_pos q2] at hb2
        exact ⟨rfl, _, _, _, rfl, by rw [swapF_length hdw.1 (by omega)]; exact hcl, hb2⟩
      · simp only [q2, decide_false, Bool.false_eq_true, if_false]
        unfold stepF at hb2
        rw [if_neg q2] at hb2
        exact ⟨_, _, _, rfl, hcl, hb2⟩
  · subst he hS
    rw [List.length_map, List.length_zipIdx, List.drop_length] at hb
    walk_at "pi"
    rw [← hb]
    rfl
theorem lawend_w [Fn T law_turned_d] [Fn T law_swap_d] [Fn T law_run_d] [Fn T law_end_d] {w lot : List Int} {n : Int} (h0 : 0 ≤ n) (h1 : n < 1000000) (hw : IsWord w n) : Ret (callF T (k + 3) "_law_end" [tI w, tI lot, .int n]) (tI (endF n (leftF w lot))) := by
  refine ret_call law_end_d rfl rfl fun S => ?_
  show Wp (evSs (T.ctx (k + 2)) law_end_b [some (tI w), some (tI lot), some (.int n)]) S _ _
  have e : ((turnedF n).length : Int) = n := by rw [turnedF_length]; omega
  unfold law_end_b
  walk_at "pi"
  rw [(lawturned_w h0 h1).wp]
  rw [(lawrun_w (by rw [e]; exact hw) (by omega)).wp, fzq_tI]
  exact ⟨rfl, rfl⟩
/-! ### all rows -/
def extR (n : Int) (l : List Int) : List (List Int) := (upI 0 n).filterMap fun x => if x ∈ l then none else some (l ++ [x])
def RowsAt (n : Int) (t : Nat) (L : List (List Int)) : Prop := (∀ l, l ∈ L ↔ l.length = t ∧ l.Nodup ∧ ∀ x ∈ l, 0 ≤ x ∧ x < n) ∧ L.length ≤ 7 ^ t
def rowsA (n : Int) : Nat → List (List Int)
  | 0 => [[]]
  | t + 1 => (rowsA n t).flatMap (extR n)
def rowsF (n : Int) : List (List Int) := rowsA n n.toNat
theorem mem_extR {n : Int} {l m : List Int} : m ∈ extR n l ↔ ∃ x, (0 ≤ x ∧ x < n) ∧ x ∉ l ∧ m = l ++ [x] := by
  unfold extR
  rw [List.mem_filterMap]
  constructor
  · rintro ⟨x, hx, h⟩
    split at h
    · cases h
    · rename_i q
      cases h
      exact ⟨x, mem_upI.mp hx, q, rfl⟩
  · rintro ⟨x, hx, q, rfl⟩
    exact ⟨x, mem_upI.mpr hx, by rw [if_neg q]⟩
theorem extR_length {n : Int} (h : n ≤ 7) (l : List Int) : (extR n l).length ≤ 7 := by
  have := List.length_filterMap_le (fun x => if x ∈ l then none else some (l ++ [x])) (upI 0 n)
  rw [upI_length] at this
  unfold extR
  omega
theorem flat_length {α β : Type} {f : α → List β} {c : Nat} (h : ∀ x, (f x).length ≤ c) : ∀ l : List α, (l.flatMap f).length ≤ c * l.length
  | [] => by simp
  | x :: l => by
    rw [List.flatMap_cons, List.length_append, List.length_cons]
    have := flat_length h l
    have := h x
    rw [Nat.mul_add]
    omega
theorem rows_at {n : Int} (h7 : n ≤ 7) : ∀ t : Nat, RowsAt n t (rowsA n t)
  | 0 => ⟨fun l => by
      rw [rowsA, List.mem_singleton]
      constructor
      · rintro rfl
        exact ⟨rfl, List.nodup_nil, by simp⟩
      · exact fun h => List.length_eq_zero_iff.mp h.1, Nat.le_refl 1⟩
  | t + 1 => by
    obtain ⟨h1, h3⟩ := rows_at h7 t
    refine ⟨fun m => ?_, ?_⟩
    · rw [rowsA, List.mem_flatMap]
      constructor
      · rintro ⟨l, hl, q⟩
        obtain ⟨x, hx, hxl, rfl⟩ := mem_extR.mp q
        obtain ⟨a, b, c⟩ := (h1 l).mp hl
        refine ⟨by simp [a], ?_, fun y hy => ?_⟩
        · rw [List.nodup_append]
          refine ⟨b, by simp, fun y hy z hz => ?_⟩
          rw [List.mem_singleton] at hz
          subst hz
          exact fun e => hxl (e ▸ hy)
        · rcases List.mem_append.mp hy with z | z
          · exact c y z
          · rw [List.mem_singleton.mp z]
            exact hx
      · rintro ⟨a, b, c⟩
        have hne : m ≠ [] := fun e => by rw [e] at a; simp at a
        have e := List.dropLast_concat_getLast hne
        rw [← e, List.nodup_append] at b
        refine ⟨m.dropLast, (h1 _).mpr ⟨by rw [List.length_dropLast, a]; rfl, b.1, fun x hx => c x ((List.dropLast_sublist m).subset hx)⟩, mem_extR.mpr ⟨m.getLast hne, c _ (List.getLast_mem hne), fun hx => ?_, e.symm⟩⟩
        exact b.2.2 _ hx _ (List.mem_singleton.mpr rfl) rfl
    · rw [rowsA]
      have := flat_length (extR_length h7) (rowsA n t)
      rw [Nat.pow_succ]
      omega
theorem mem_rowsF {n : Int} (h0 : 0 ≤ n) (h7 : n ≤ 7) {l : List Int} : l ∈ rowsF n ↔ IsRow l n := by
  unfold rowsF
  rw [(rows_at h7 _).1]
  constructor
  · rintro ⟨a, b, c⟩
    exact nodup_perm b (fun x hx => mem_upI.mpr (c x hx)) (by rw [upI_length, a]; omega)
  · intro h
    exact ⟨h.len, h.nodup_iff.mpr (upI_nodup 0 n), fun x hx => h.mem hx⟩
theorem rowsA_length {n : Int} (h0 : 0 ≤ n) (h7 : n ≤ 7) {t : Nat} (ht : t ≤ 7) : (rowsA n t).length ≤ 1000000 := by
  have h1 := (rows_at h7 t).2
  have h2 : 7 ^ t ≤ 7 ^ 7 := Nat.pow_le_pow_right (by decide) ht
  have h3 : (7 : Nat) ^ 7 = 823543 := by decide
  omega
theorem flat_take_length {α β : Type} (f : α → List β) (l : List α) (i : Nat) : ((l.take i).flatMap f).length ≤ (l.flatMap f).length := by
  have e : l.flatMap f = (l.take i).flatMap f ++ (l.drop i).flatMap f := by rw [← List.flatMap_append, List.take_append_drop]
  rw [e, List.length_append]
  omega
theorem lt_len {α : Type} {l : List α} {i : Nat} {x : α} (h : l[i]? = some x) : i < l.length := by
  rcases Nat.lt_or_ge i l.length with q | q
  · exact q
  · rw [List.getElem?_eq_none q] at h; cases h
theorem lawrows_w [Fn T law_rows_d] {n : Int} (h0 : 0 ≤ n) (h7 : n ≤ 7) : Ret (callF T (k + 1) "_law_rows" [.int n]) (.clst ((rowsF n).map tI)) := by
  refine ret_call law_rows_d rfl rfl fun S => ?_
  show Wp (evSs (T.ctx k) law_rows_b [some (.int n), none, none, none, none, none]) S _ _
  unfold law_rows_b
  walk_at "pi"
  refine ⟨Nat.zero_le _, by decide, ?_⟩
  have e0 : ([D.tup []] : List D) = (rowsA n 0).map tI := rfl
  rw [e0]
  walk_at "pi"
  refine ⟨rgOk_of (by omega) (by omega) (by omega) (by omega), ?_⟩
  refine for_list (rangeL 0 n) (fun i env S' => S' = S ∧ ∃ (x y z : Option D), env = [some (.int n), some (.clst ((rowsA n i).map tI)), x, y, z, none]) (by rw [rangeL_length]) ⟨rfl, none, none, none, rfl⟩ (fun i env S' _ => rfl) (fun i x env S' hx ⟨hS, x0, y0, z0, he⟩ => ?_) (fun env S' ⟨hS, x0, y0, z0, he⟩ => ?_)
  · subst he hS
    have hi := lt_len hx
    rw [rangeL_length] at hi
    have hb := rowsA_length h0 h7 (t := i + 1) (by omega)
    walk_at "pi"
    refine ⟨Nat.zero_le _, ?_⟩
    refine for_list ((rowsA n i).map tI) (fun j env S2 => S2 = S' ∧ ∃ (z : Option D), env = [some (.int n), some (.clst ((rowsA n i).map tI)), some x, some (.clst ((((rowsA n i).take j).flatMap (extR n)).map tI)), z, none]) rfl ⟨rfl, z0, rfl⟩ (fun j env S2 _ => rfl) (fun j c env S2 hc ⟨hS2, z1, he⟩ => ?_) (fun env S2 ⟨hS2, z1, he⟩ => ?_)
    · subst he hS2
      rw [List.getElem?_map, Option.map_eq_some_iff] at hc
      obtain ⟨l, hl, rfl⟩ := hc
      have hll := ((rows_at h7 i).1 l).mp (List.mem_of_getElem? hl) |>.1
      walk_at "pi"
      refine ⟨rgOk_of (by omega) (by omega) (by omega) (by omega), ?_⟩
      refine comp_enc (upI 0 n) .int tI (fun x => if x ∈ l then none else some (l ++ [x])) (by rw [upI_length]) (by rw [upI_length, sizeLine_eq]; omega) (fun i => by rw [rangeL_upI]) (fun a ha => ?_) ?_
      · walk_at "pi"
        rw [vin_int]
        by_cases q : a ∈ l
        · simp only [q, decide_true, Bool.not_true, Bool.false_eq_true, if_false, if_true]
          exact ⟨rfl, trivial⟩
        · simp only [q, decide_false, Bool.not_false, if_true, if_false]
          rw [show List.map D.int l ++ [D.int a] = (l ++ [a]).map D.int by rw [List.map_append]; rfl, fzq_tup]
          refine ⟨by rw [sizeLine_eq]; omega, by rw [List.length_map, hll, sizeLine_eq]; omega, rfl, rfl⟩
      · walk_at "pi"
        have e1 : ((rowsA n i).take (j + 1)).flatMap (extR n) = ((rowsA n i).take j).flatMap (extR n) ++ extR n l := by
          rw [List.take_add_one, hl, List.flatMap_append]
          simp
        have e2 := flat_take_length (extR n) (rowsA n i) (j + 1)
        rw [e1, List.length_append] at e2
        have e3 : (rowsA n (i + 1)).length = ((rowsA n i).flatMap (extR n)).length := rfl
        rw [vb_addL (its_clst _ _) (its_clst _ _) rfl rfl, ← List.map_append]
        refine ⟨by rw [List.length_map, List.length_map, sizeLine_eq]; unfold extR at e2 e3; unfold extR; omega, ?_⟩
        walk_at "pi"
        rw [e1]
        exact ⟨_, rfl⟩
    · subst he hS2
      walk_at "pi"
      rw [List.length_map, List.take_length]
      exact ⟨_, _, _, rfl⟩
  · subst he hS
    rw [rangeL_length]
    walk_at "pi"
    rw [fzq_enc (encL encTI) (by decide), Int.sub_zero]
    exact ⟨rfl, rfl⟩
theorem lawsorter_w [Fn T law_sorter_d] {n : Int} {Q : D → Sto → Prop} {E : XP} (h0 : 1 ≤ n) (h7 : n ≤ 7) (hQ : ∀ w, IsWord w n → w.length ≤ 49 → Q (tI w) S) : Wp (callF T (k + 1) "_law_sorter" [.int n]) S Q E := by
  refine fz_call law_sorter_d rfl rfl ?_
  show Wp (evSs (T.ctx k) law_sorter_b [some (.int n), none, none]) S _ _
  unfold law_sorter_b
  walk_at "pi"
  refine ⟨Nat.zero_le _, rgOk_of (by omega) (by omega) (by omega) (by omega), ?_⟩
  refine for_list (rangeL 0 (n - 1)) (fun i env S' => ∃ (w : List Int) (x : Option D), env = [some (.int n), some (tI w), x] ∧ IsWord w n ∧ w.length ≤ 7 * i ∧ S' = S) (by rw [rangeL_length]) ⟨[], none, rfl, by simp [IsWord], by simp, rfl⟩ (fun i env S' _ => rfl) (fun i x env S' hx ⟨w, x0, he, hw, hl, hS⟩ => ?_) (fun env S' ⟨w, x0, he, hw, hl, hS⟩ => ?_)
  · subst he hS
    obtain ⟨j, rfl, j0, j1⟩ := mem_rangeL (List.mem_of_getElem? hx)
    have hi := lt_len hx
    rw [rangeL_length] at hi
    walk_at "pi"
    rw [rangeL_upI, ← List.map_append]
    refine ⟨rgOk_of (by omega) (by omega) (by omega) (by omega), ?_, _, _, rfl, fun d hd => ?_, ?_⟩
    · rw [List.length_map, List.length_map, upI_length, sizeLine_eq]
      omega
    · rcases List.mem_append.mp hd with q | q
      · exact hw d q
      · have := mem_upI.mp q
        omega
    · rw [List.length_append, upI_length]
      omega
  · subst he hS
    rw [rangeL_length] at hl
    walk_at "pi"
    exact hQ w hw (by omega)
end
end Pi

/-! Likeness. -/
namespace Pi
open PySem
local macro_rules | `(tactic| walk_at "pi") => `(tactic| simp only [wp_pure, wp_bind, wp_bad, wp_ite, wp_chk, wp_new, wp_var, wp_lit, wp_glob, wp_bin, wp_neg, wp_not, wp_and, wp_or, wp_cmp, wp_cmp2, wp_iteE, wp_tup, wp_lst, wp_call, wp_fz, wp_tupS, wp_lstS, wp_dnew, wp_disp, wp_dget1, wp_dget2, wp_litems, wp_sset, wi_rev, vr_index, vr_count, vm_count, wi_items, vd_is, vd_items, wp_ds_nil, wp_ds_star, wp_ds_cons, notStar, wp_bi, wp_isi, wp_idx, wp_slice, wp_meth, wp_lrange, wp_trange, wp_tdown, wp_comp, wp_compB, wp_comp2, wp_comp2B, wp_rngv, wp_es_nil, wp_es_cons, wp_o_none, wp_o_some, wp_ts_nil, wp_ts_one, wt_not, wt_and, wt_or, wt_cmp, wt_ite, wt_var, wt_call, wt_bi, wt_isi, wt_cmp2, wt_idx, wt_lit, wi_of, wi_enum, wi_zip, wi_range, ws_asg, ws_par, ws_sub, ws_aug, ws_expr, ws_ret, ws_retN, ws_pass, ws_brk, ws_cont, ws_ifs, ws_for, ws_whil, wss_nil, wss_cons, then_nx, then_ret, then_brk, then_cont, out_ret, out_nx, turn_nx, turn_cont, turn_brk, turn_ret, wp_putM, ctx_cf, fzq_int, fzq_bl, fzq_non, fzq_str, fzq_tI, fzq_tup, fzq_ints, fzq_bls, fzq_tIs, fzq_nil, ctx_gl, vb_add, vb_sub, vb_mul, vb_fdiv, vb_mod, vb_pow, vb_addT, vc_lt, vc_le, vc_gt, vc_ge, vc_eqv, vc_nev, vc_inv, vc_ninv, ve_int, ve_bl, vt_bl, vt_int, vt_tup, vt_non, vi_int, vi_bl, vi_str, vi_non, vi_tup, vi_clst, vs_tup, vs_clst, vI_tup, vI_clst, vI_rng, vI_ref, vx_tup, vx_clst, vp_none, vp_int, vl_tup, vl_clst, vf_len_tup, vf_len_clst, vf_int, vf_tup, vf_list_tup, vf_sorted_tup, vf_sorted_clst, vf_all, vf_any, vf_sum, vf_tup_clst, vf_list_clst, vf_min2, vf_max2, vf_abs, va_add, va_sub, put_name, put_tup, put_clst, puts_nil, puts_cons, wipe, List.getElem?_cons_zero, List.getElem?_cons_succ, List.getElem?_nil, List.set_cons_zero, List.set_cons_succ, List.length_cons, List.length_nil, List.any_cons, List.any_nil, isTy, String.reduceBEq, String.reduceEq, Bool.false_and, Bool.and_false, Bool.true_and, Bool.and_true, Bool.or_false, Bool.false_or, Bool.or_true, Bool.true_or, Bool.not_true, Bool.not_false, if_true, if_false, Bool.false_eq_true, reduceIte, reduceCtorEq, Nat.reduceAdd, Nat.reduceLT, Nat.lt_add_one, and_self, true_and, and_true, rangeOf, BEq.rfl, bne_self_eq_false, Nat.reduceLeDiff, Nat.zero_lt_succ, Nat.zero_lt_one])
theorem py_inv {n : Nat} {S : Sto} {a : D} {p : PyData} (h : py (n + 1) S a = some p) : (a = .non ∧ p = .none) ∨ (∃ b, a = .bl b ∧ p = .bool b) ∨ (∃ i, a = .int i ∧ p = .int i) ∨ (∃ s, a = .str s ∧ p = .str s) ∨ (∃ l ps, a = .tup l ∧ p = .tuple ps ∧ l.mapM (py n S) = some ps) ∨ (∃ l ps, LstAt S a l ∧ p = .list ps ∧ l.mapM (py n S) = some ps) := by
  cases a with
  | non => exact .inl ⟨rfl, by simpa [py] using h.symm⟩
  | bl b => exact .inr (.inl ⟨b, rfl, by simpa [py] using h.symm⟩)
  | int i => exact .inr (.inr (.inl ⟨i, rfl, by simpa [py] using h.symm⟩))
  | str s =>
    simp only [py] at h
    split at h
    · cases h
      exact .inr (.inr (.inr (.inl ⟨s, rfl, rfl⟩)))
    · cases h
  | tup l =>
    simp only [py, Option.map_eq_some_iff] at h
    obtain ⟨ps, h, rfl⟩ := h
    exact .inr (.inr (.inr (.inr (.inl ⟨l, ps, rfl, rfl, h⟩))))
  | clst l =>
    simp only [py, Option.map_eq_some_iff] at h
    obtain ⟨ps, h, rfl⟩ := h
    exact .inr (.inr (.inr (.inr (.inr ⟨l, ps, .c l, rfl, h⟩))))
  | rng lo hi => simp [py] at h
  | cdic t ks vs => simp [py] at h
  | ref m =>
    simp only [py] at h
    cases q : S[m]? with
    | none => rw [q] at h; cases h
    | some o =>
      rw [q] at h
      cases o with
      | lst l =>
        simp only [Option.map_eq_some_iff] at h
        obtain ⟨ps, h, rfl⟩ := h
        exact .inr (.inr (.inr (.inr (.inr ⟨l, ps, .r q, rfl, h⟩))))
      | _ => cases h
theorem py_noDic {S : Sto} : ∀ (n : Nat) (a : D) (p : PyData), py n S a = some p → noDic p = true
  | 0, _, _, h => by simp [py] at h
  | n + 1, a, p, h => by
    have many : ∀ (l : List D) (ps : List PyData), l.mapM (py n S) = some ps → noDicL ps = true := by
      intro l
      induction l with
      | nil =>
        intro ps h
        simp at h
        subst h
        rfl
      | cons x l ih =>
        intro ps h
        rw [List.mapM_cons] at h
        cases e : py n S x with
        | none => rw [e] at h; cases h
        | some y =>
          cases e2 : l.mapM (py n S) with
          | none => simp [e, e2] at h
          | some zs =>
            simp [e, e2] at h
            subst h
            rw [noDicL, py_noDic n x y e, ih zs e2]
            rfl
    rcases py_inv h with ⟨_, rfl⟩ | ⟨_, _, rfl⟩ | ⟨_, _, rfl⟩ | ⟨_, _, rfl⟩ | ⟨l, ps, _, rfl, q⟩ | ⟨l, ps, _, rfl, q⟩
    · rfl
    · rfl
    · rfl
    · rfl
    · rw [noDic]; exact many l ps q
    · rw [noDic]; exact many l ps q
theorem at_nat {α : Type} {l : List α} {i : Nat} {x : α} (h : l[i]? = some x) : L2.atI l (i : Int) = some x := by
  have hi : i < l.length := by
    rcases Nat.lt_or_ge i l.length with q | q
    · exact q
    · rw [List.getElem?_eq_none q] at h; cases h
  rw [at_pos (by omega) (by omega), Int.toNat_natCast, h]
mutual
def small : PyData → Bool
  | .list l => decide (l.length ≤ 16777216) && smallL l
  | .tuple l => decide (l.length ≤ 16777216) && smallL l
  | _ => true
def smallL : List PyData → Bool
  | [] => true
  | x :: l => small x && smallL l
end
theorem smallL_get : ∀ {l : List PyData} {i : Nat} {x : PyData}, smallL l = true → l[i]? = some x → small x = true
  | [], _, _, _, h => by simp at h
  | y :: l, 0, x, hs, h => by
    simp at h
    subst h
    rw [smallL, Bool.and_eq_true] at hs
    exact hs.1
  | y :: l, i + 1, x, hs, h => by
    rw [smallL, Bool.and_eq_true] at hs
    exact smallL_get hs.2 (by simpa using h)
theorem smallL_ints : ∀ l : List Int, smallL (l.map .int) = true
  | [] => rfl
  | x :: l => by rw [List.map_cons, smallL, smallL_ints l]; rfl

section
variable {T : Tb}
theorem vk_is_non (S : Sto) (d : D) (Q : Bool → Sto → Prop) (E : XP) : Wp (cmpop .is_ d .non) S Q E = Q (match d with | .non => true | _ => false) S := by
  rw [wp_ap]
  cases d <;> rfl
theorem vk_isN_non (S : Sto) (d : D) (Q : Bool → Sto → Prop) (E : XP) : Wp (cmpop .isN d .non) S Q E = Q (match d with | .non => false | _ => true) S := by
  rw [wp_ap]
  cases d <;> rfl
theorem alike_w [Fn T law_alike_d] : ∀ (n : Nat) (p : PyData) (a b : D) (S : Sto), py n S a = some p → py n S b = some p → small p = true → n ≤ 40 → ∀ k, n ≤ k → callF T k "_law_alike" [a, b] S = .ok (.bl true) S
  | 0, _, _, _, _, h, _, _, _, _, _ => by simp [py] at h
  | n + 1, p, a, b, S, ha, hb, hsm, hn, k, hk => by
    obtain ⟨k, rfl⟩ : ∃ k', k = k' + 1 := ⟨k - 1, by omega⟩
    refine eq_of_wp (fz_call law_alike_d rfl rfl ?_)
    show Wp (evSs (T.ctx k) law_alike_b [some a, some b, none, none]) S _ _
    have ha40 : py depthP S a = some p := py_le ha hn
    have hb40 : py depthP S b = some p := py_le hb hn
    -- what the two loops over the items come to
    have turns : ∀ (l l' : List D) (ps : List PyData) (Q : List D → Sto → Prop) (E : XP), l.mapM (py n S) = some ps → l'.mapM (py n S) = some ps → smallL ps = true → l.length ≤ 16777216 →
        (∀ (j : Int) (Q : D → Sto → Prop) (E : XP), Wp (index a (.int j)) S Q E = (match L2.atI l j with | some v => Q v S | none => False)) →
        (∀ (j : Int) (Q : D → Sto → Prop) (E : XP), Wp (index b (.int j)) S Q E = (match L2.atI l' j with | some v => Q v S | none => False)) →
        Q [] S →
        Wp (compLoop (fun i _ => stepL (rangeL 0 (l'.length : Int)) i) (compB (T.ctx k) [2] (.name 2) [.not (.call "_law_alike" [.idx (.var 0) (.var 2), .idx (.var 1) (.var 2)])] (.var 2) [some a, some b, none, none]) (((l'.length : Int) - 0).toNat + 1) 0 []) S Q E := by
      intro l l' ps Q E hl hl' hsm hz ia ib hQ
      have e1 := (mapM_get hl).1
      have e2 := (mapM_get hl').1
      refine comp_flat (rangeL 0 (l'.length : Int)) (fun _ => none) (by rw [rangeL_length]) ?_ (fun i => rfl) (fun x hx => ?_) ?_
      · rw [List.filterMap_eq_nil_iff.mpr fun _ _ => rfl]
        exact Nat.zero_le _
      · obtain ⟨i, rfl, h0, h1⟩ := mem_rangeL hx
        obtain ⟨u, rfl⟩ : ∃ u : Nat, i = (u : Int) := ⟨i.toNat, by omega⟩
        have hu : u < l'.length := by omega
        have hu2 : u < l.length := by omega
        walk_at "pi"
        rw [ia, at_nat (List.getElem?_eq_getElem hu2)]
        dsimp only
        rw [ib, at_nat (List.getElem?_eq_getElem hu)]
        dsimp only
        obtain ⟨q, hq, pq⟩ := (mapM_get hl).2 u _ (List.getElem?_eq_getElem hu2)
        obtain ⟨q', hq', pq'⟩ := (mapM_get hl').2 u _ (List.getElem?_eq_getElem hu)
        rw [hq] at hq'
        cases hq'
        rw [wp_ap, show fzM (callK T k "_law_alike" [l[u], l'[u]]) S = .ok (.bl true) S from alike_w n q _ _ S pq pq' (smallL_get hsm hq) (by omega) k (by omega)]
        dsimp only
        walk_at "pi"
      · rw [List.filterMap_eq_nil_iff.mpr fun _ _ => rfl]
        exact hQ
    have ee := eqv_self p (py_noDic _ _ _ ha)
    have fin : ∀ (l l' : List D) (ps : List PyData), l.mapM (py n S) = some ps → l'.mapM (py n S) = some ps → smallL ps = true → ps.length ≤ 16777216 → l.length = ps.length ∧ l'.length = ps.length ∧ rgOk 0 (l'.length : Int) = true := fun l l' ps h1 h2 _ h4 => by
      have e1 := (mapM_get h1).1
      have e2 := (mapM_get h2).1
      refine ⟨e1, e2, ?_⟩
      unfold rgOk
      exact decide_eq_true (by omega)
    unfold law_alike_b
    rcases py_inv ha with ⟨rfl, rfl⟩ | ⟨x, rfl, rfl⟩ | ⟨x, rfl, rfl⟩ | ⟨x, rfl, rfl⟩ | ⟨l, ps, rfl, rfl, hl⟩ | ⟨l, ps, hla, rfl, hl⟩
    · rcases py_inv hb with ⟨rfl, _⟩ | ⟨_, _, q⟩ | ⟨_, _, q⟩ | ⟨_, _, q⟩ | ⟨_, _, _, q, _⟩ | ⟨_, _, _, q, _⟩
      all_goals first | (cases q; done) | skip
      walk_at "pi"
      rw [vk_is_non]
      walk_at "pi"
      rw [ve_py ha40 hb40, ee]
      walk_at "pi"
    · rcases py_inv hb with ⟨_, q⟩ | ⟨y, rfl, q⟩ | ⟨_, _, q⟩ | ⟨_, _, q⟩ | ⟨_, _, _, q, _⟩ | ⟨_, _, _, q, _⟩
      all_goals first | (cases q; done) | skip
      cases q
      walk_at "pi"
      rw [vk_is_non]
      walk_at "pi"
    · rcases py_inv hb with ⟨_, q⟩ | ⟨_, _, q⟩ | ⟨y, rfl, q⟩ | ⟨_, _, q⟩ | ⟨_, _, _, q, _⟩ | ⟨_, _, _, q, _⟩
      all_goals first | (cases q; done) | skip
      cases q
      walk_at "pi"
      rw [vk_is_non]
      walk_at "pi"
    · rcases py_inv hb with ⟨_, q⟩ | ⟨_, _, q⟩ | ⟨_, _, q⟩ | ⟨y, rfl, q⟩ | ⟨_, _, _, q, _⟩ | ⟨_, _, _, q, _⟩
      all_goals first | (cases q; done) | skip
      cases q
      walk_at "pi"
      rw [vk_is_non]
      walk_at "pi"
      rw [ve_py ha40 hb40, ee]
      walk_at "pi"
    · rcases py_inv hb with ⟨_, q⟩ | ⟨_, _, q⟩ | ⟨_, _, q⟩ | ⟨_, _, q⟩ | ⟨l', ps', rfl, q, hl'⟩ | ⟨_, _, _, q, _⟩
      all_goals first | (cases q; done) | skip
      cases q
      rw [small, Bool.and_eq_true, decide_eq_true_eq] at hsm
      obtain ⟨e1, e2, hrg⟩ := fin l l' ps hl hl' hsm.2 hsm.1
      walk_at "pi"
      rw [show ((l.length : Int) == (l'.length : Int)) = true by rw [e1, e2]; exact beq_self_eq_true _]
      walk_at "pi"
      refine ⟨hrg, turns l l' ps _ _ hl hl' hsm.2 (by omega) (fun j Q E => vx_tup S l j Q E) (fun j Q E => vx_tup S l' j Q E) ?_⟩
      rw [fzq_nil]
      refine ⟨Nat.zero_le _, ?_⟩
      rw [show (D.clst [] : D) = .clst (([] : List Int).map .int) from rfl, ve_cI, fzq_bl]
      exact ⟨rfl, rfl⟩
    · rcases py_inv hb with ⟨_, q⟩ | ⟨_, _, q⟩ | ⟨_, _, q⟩ | ⟨_, _, q⟩ | ⟨_, _, _, q, _⟩ | ⟨l', ps', hlb, q, hl'⟩
      all_goals first | (cases q; done) | skip
      cases q
      rw [small, Bool.and_eq_true, decide_eq_true_eq] at hsm
      obtain ⟨e1, e2, hrg⟩ := fin l l' ps hl hl' hsm.2 hsm.1
      walk_at "pi"
      simp only [hlb.isi, hla.isi]
      walk_at "pi"
      simp only [hlb.len, hla.len]
      walk_at "pi"
      rw [show ((l.length : Int) == (l'.length : Int)) = true by rw [e1, e2]; exact beq_self_eq_true _]
      walk_at "pi"
      rw [hlb.len]
      walk_at "pi"
      refine ⟨hrg, turns l l' ps _ _ hl hl' hsm.2 (by omega) (fun j Q E => hla.idx j Q E) (fun j Q E => hlb.idx j Q E) ?_⟩
      rw [fzq_nil]
      refine ⟨Nat.zero_le _, ?_⟩
      rw [show (D.clst [] : D) = .clst (([] : List Int).map .int) from rfl, ve_cI, fzq_bl]
      exact ⟨rfl, rfl⟩
/-- by what the values stand for -/
theorem alike_enc [Fn T law_alike_d] {α : Type} [DecidableEq α] {e : α → D} {f : α → PyData} {n : Nat} (h : EncOk e f n) (hn : n ≤ 40) (a : α) (hs : small (f a) = true) {k : Nat} (hk : n ≤ k) : Ret (callF T k "_law_alike" [e a, e a]) (.bl true) :=
  fun S => alike_w n (f a) _ _ S (h.py S a n (Nat.le_refl _)) (h.py S a n (Nat.le_refl _)) hs hn k hk
theorem alike_tI [Fn T law_alike_d] (l : List Int) (hl : l.length ≤ 16777216) {k : Nat} (hk : 2 ≤ k) : Ret (callF T k "_law_alike" [tI l, tI l]) (.bl true) :=
  alike_enc encTI (by decide) l (by rw [small, smallL_ints, List.length_map, decide_eq_true hl]; rfl) hk
end
end Pi

/-! How sorted a row is, and what leads from the turned row to a goal. -/
namespace Pi
open PySem
local macro_rules | `(tactic| walk_at "pi") => `(tactic| simp only [wp_pure, wp_bind, wp_bad, wp_ite, wp_chk, wp_new, wp_var, wp_lit, wp_glob, wp_bin, wp_neg, wp_not, wp_and, wp_or, wp_cmp, wp_cmp2, wp_iteE, wp_tup, wp_lst, wp_call, wp_fz, wp_tupS, wp_lstS, wp_dnew, wp_disp, wp_dget1, wp_dget2, wp_litems, wp_sset, wi_rev, vr_index, vr_count, vm_count, wi_items, vd_is, vd_items, wp_ds_nil, wp_ds_star, wp_ds_cons, notStar, wp_bi, wp_isi, wp_idx, wp_slice, wp_meth, wp_lrange, wp_trange, wp_tdown, wp_comp, wp_compB, wp_comp2, wp_comp2B, wp_rngv, wp_es_nil, wp_es_cons, wp_o_none, wp_o_some, wp_ts_nil, wp_ts_one, wt_not, wt_and, wt_or, wt_cmp, wt_ite, wt_var, wt_call, wt_bi, wt_isi, wt_cmp2, wt_idx, wt_lit, wi_of, wi_enum, wi_zip, wi_range, ws_asg, ws_par, ws_sub, ws_aug, ws_expr, ws_ret, ws_retN, ws_pass, ws_brk, ws_cont, ws_ifs, ws_for, ws_whil, wss_nil, wss_cons, then_nx, then_ret, then_brk, then_cont, out_ret, out_nx, turn_nx, turn_cont, turn_brk, turn_ret, wp_putM, ctx_cf, fzq_int, fzq_bl, fzq_non, fzq_str, fzq_tI, fzq_tup, fzq_ints, fzq_bls, fzq_tIs, fzq_nil, ctx_gl, vb_add, vb_sub, vb_mul, vb_fdiv, vb_mod, vb_pow, vb_addT, vc_lt, vc_le, vc_gt, vc_ge, vc_eqv, vc_nev, vc_inv, vc_ninv, ve_int, ve_bl, vt_bl, vt_int, vt_tup, vt_non, vi_int, vi_bl, vi_str, vi_non, vi_tup, vi_clst, vs_tup, vs_clst, vI_tup, vI_clst, vI_rng, vI_ref, vx_tup, vx_clst, vp_none, vp_int, vl_tup, vl_clst, vf_len_tup, vf_len_clst, vf_int, vf_tup, vf_list_tup, vf_sorted_tup, vf_sorted_clst, vf_all, vf_any, vf_sum, vf_tup_clst, vf_list_clst, vf_min2, vf_max2, vf_abs, va_add, va_sub, put_name, put_tup, put_clst, puts_nil, puts_cons, wipe, List.getElem?_cons_zero, List.getElem?_cons_succ, List.getElem?_nil, List.set_cons_zero, List.set_cons_succ, List.length_cons, List.length_nil, List.any_cons, List.any_nil, isTy, String.reduceBEq, String.reduceEq, Bool.false_and, Bool.and_false, Bool.true_and, Bool.and_true, Bool.or_false, Bool.false_or, Bool.or_true, Bool.true_or, Bool.not_true, Bool.not_false, if_true, if_false, Bool.false_eq_true, reduceIte, reduceCtorEq, Nat.reduceAdd, Nat.reduceLT, Nat.lt_add_one, and_self, true_and, and_true, rangeOf, BEq.rfl, bne_self_eq_false, Nat.reduceLeDiff, Nat.zero_lt_succ, Nat.zero_lt_one])
def places_of_b : List Pi.S := [(.asg (.name 1) (.bin .mul (.lst [(.lit (.int 0))]) (.bi .len [(.var 0)]))), (.for (.tup [(.name 2), (.name 3)]) (.enum (.var 0)) [(.sub (.var 1) (.var 3) (.var 2))]), (.ret (.var 1))]
def places_of_d : DefI := { name := "places_of", ps := [("row" : Str)], N := [("row" : Str), ("places" : Str), ("place" : Str), ("card" : Str)], body := places_of_b, mu := [("places" : Str)] }
def steps_to_b : List Pi.S := [(.asg (.name 2) (.call "places_of" [(.var 1)])), (.ret (.fz (.comp [3] (.name 3) (.range [(.bin .sub (.bi .len [(.var 0)]) (.lit (.int 1)))]) [(.cmp .gt (.idx (.var 2) (.idx (.var 0) (.var 3))) (.idx (.var 2) (.idx (.var 0) (.bin .add (.var 3) (.lit (.int 1))))))] (.var 3))))]
def steps_to_d : DefI := { name := "steps_to", ps := [("row" : Str), ("goal" : Str)], N := [("row" : Str), ("goal" : Str), ("places" : Str), ("deed" : Str)], body := steps_to_b, mu := [] }
def count_less_b : List Pi.S := [(.ret (.bi .sum [(.fz (.comp [3] (.name 3) (.of (.slice (.var 0) none (some (.var 1)))) [(.cmp .lt (.var 3) (.var 2))] (.lit (.int 1))))]))]
def count_less_d : DefI := { name := "count_less", ps := [("row" : Str), ("i" : Str), ("v" : Str)], N := [("row" : Str), ("i" : Str), ("v" : Str), ("card" : Str)], body := count_less_b, mu := [] }
def counts_ahead_b : List Pi.S := [(.asg (.name 1) (.rngv [(.lit (.int 1)), (.bi .len [(.var 0)])])), (.ret (.fz (.comp2 [2, 3] (.name 2) (.of (.var 1)) [3] (.name 3) (.of (.var 1)) [] (.call "count_less" [(.var 0), (.var 2), (.var 3)]))))]
def counts_ahead_d : DefI := { name := "counts_ahead", ps := [("row" : Str)], N := [("row" : Str), ("within" : Str), ("i" : Str), ("v" : Str)], body := counts_ahead_b, mu := [] }
def is_as_sorted_b : List Pi.S := [(.ret (.call "are_as_great" [(.call "counts_ahead" [(.var 0)]), (.call "counts_ahead" [(.var 1)])]))]
def is_as_sorted_d : DefI := { name := "is_as_sorted", ps := [("row" : Str), ("other" : Str)], N := [("row" : Str), ("other" : Str)], body := is_as_sorted_b, mu := [] }
def are_as_great_b : List Pi.S := [(.ret (.bi .all [(.fz (.comp [2, 3] (.tup [(.name 2), (.name 3)]) (.zip (.var 0) (.var 1)) [] (.cmp .ge (.var 2) (.var 3))))]))]
def are_as_great_d : DefI := { name := "are_as_great", ps := [("counts" : Str), ("others" : Str)], N := [("counts" : Str), ("others" : Str), ("here" : Str), ("there" : Str)], body := are_as_great_b, mu := [] }
def least_places_b : List Pi.S := [(.asg (.name 3) (.call "turned_row" [(.bi .len [(.var 1)])])), (.asg (.name 4) (.lst [])), (.for (.tup [(.name 5), (.name 6)]) (.enum (.var 0)) [(.ifs (.and (.cmp .nin (.var 5) (.var 2)) (.cmp .in_ (.var 6) (.call "steps_to" [(.var 3), (.var 1)]))) [(.expr (.meth .append (.var 4) [(.var 5)])), (.asg (.name 3) (.call "swapped" [(.var 3), (.var 6)]))] [])]), (.ret (.ite (.cmp .eq (.var 3) (.var 1)) (.bi .tuple [(.var 4)]) (.lit .non)))]
def least_places_d : DefI := { name := "least_places", ps := [("word" : Str), ("goal" : Str), ("lot" : Str)], N := [("word" : Str), ("goal" : Str), ("lot" : Str), ("row" : Str), ("places" : Str), ("place" : Str), ("deed" : Str)], body := least_places_b, mu := [("places" : Str)] }
def check_rows_b : List Pi.S := [(.expr (.call "check_row" [(.var 0)])), (.ifs (.not (.call "is_row" [(.var 1), (.bi .len [(.var 0)])])) [.never] [])]
def check_rows_d : DefI := { name := "check_rows", ps := [("row" : Str), ("other" : Str)], N := [("row" : Str), ("other" : Str)], body := check_rows_b, mu := [] }
def check_goal_b : List Pi.S := [(.ifs (.not (.call "is_row" [(.var 1), (.var 0)])) [.never] [])]
def check_goal_d : DefI := { name := "check_goal", ps := [("n" : Str), ("goal" : Str)], N := [("n" : Str), ("goal" : Str)], body := check_goal_b, mu := [] }
def no_less_sorted_b : List Pi.S := [(.expr (.call "check_rows" [(.var 0), (.var 1)])), (.ret (.call "is_as_sorted" [(.var 0), (.var 1)]))]
def no_less_sorted_d : DefI := { name := "no_less_sorted", ps := [("row" : Str), ("other" : Str)], N := [("row" : Str), ("other" : Str)], body := no_less_sorted_b, mu := [] }
def scattered_b : List Pi.S := [(.expr (.call "check_cards_and_word" [(.var 0), (.var 1)])), (.expr (.call "check_goal" [(.var 0), (.var 2)])), (.ret (.call "least_places" [(.var 1), (.var 2), (.tup [])]))]
def scattered_d : DefI := { name := "scattered", ps := [("n" : Str), ("word" : Str), ("goal" : Str)], N := [("n" : Str), ("word" : Str), ("goal" : Str)], body := scattered_b, mu := [] }
/-! ### places of cards -/
def posF (row : List Int) (c : Int) : Int := ((row.idxOf c : Nat) : Int)
def invF (row : List Int) (n : Int) : List Int := (upI 0 n).map (posF row)
def stepsF (row goal : List Int) : List Int := (upI 0 ((row.length : Int) - 1)).filter fun d => decide (posF goal (row.getD (d + 1).toNat 0) < posF goal (row.getD d.toNat 0))
def lessF (row : List Int) (i v : Int) : Int := (((row.take i.toNat).filter fun c => decide (c < v)).length : Nat)
def aheadF (row : List Int) : List Int := (upI 1 row.length).flatMap fun i => (upI 1 row.length).map fun v => lessF row i v
def goF (goal lot : List Int) : Nat → List Int → List Int → List Int × List Int
  | _, row, [] => ([], row)
  | i, row, d :: w => if (i : Int) ∉ lot ∧ posF goal (row.getD (d + 1).toNat 0) < posF goal (row.getD d.toNat 0) then ((i : Int) :: (goF goal lot (i + 1) (swapF row d) w).1, (goF goal lot (i + 1) (swapF row d) w).2) else goF goal lot (i + 1) row w
def leastF (n : Int) (word goal lot : List Int) : Option (List Int) := if (goF goal lot 0 (turnedF n) word).2 = goal then some (goF goal lot 0 (turnedF n) word).1 else none
def optT : Option (List Int) → D
  | some l => tI l
  | none => .non
theorem idx_get {row : List Int} {c : Int} (h : c ∈ row) : row[row.idxOf c]? = some c := by
  have hl := List.idxOf_lt_length_iff.mpr h
  rw [List.getElem?_eq_getElem hl, List.getElem_idxOf hl]
theorem idx_of {row : List Int} (hn : row.Nodup) {j : Nat} {c : Int} (h : row[j]? = some c) : row.idxOf c = j := by
  have hj := lt_len h
  rw [List.getElem?_eq_getElem hj] at h
  rw [← Option.some.inj h]
  exact hn.idxOf_getElem j hj
theorem IsRow.nodup {row : List Int} {n : Int} (h : IsRow row n) : row.Nodup := h.nodup_iff.mpr (upI_nodup 0 n)
theorem invF_get {row : List Int} {n c : Int} (h0 : 0 ≤ c) (h1 : c < n) : (invF row n)[c.toNat]? = some (posF row c) := by
  unfold invF
  rw [List.getElem?_map, upI_get (by omega)]
  show some (posF row (0 + (c.toNat : Int))) = _
  rw [show (0 : Int) + (c.toNat : Int) = c by omega]
theorem invF_length (row : List Int) (n : Int) : (invF row n).length = n.toNat := by unfold invF; rw [List.length_map, upI_length]; omega
theorem ixN_pos {n : Nat} {i : Int} (h0 : 0 ≤ i) (h1 : i < n) : L2.ixN n i = some i.toNat := by
  unfold L2.ixN
  rw [if_pos h0, if_pos h1]
theorem vb_mulR {S : Sto} {a : Nat} {k : List D} (h : S[a]? = some (.lst k)) (j : Int) (Q : D → Sto → Prop) (E : XP) : Wp (binop .mul (.ref a) (.int j)) S Q E = ((-(2 ^ 63) ≤ j ∧ j < 2 ^ 63 ∧ k.length * j.toNat ≤ sizeLine) ∧ Q (.ref S.length) (S ++ [.lst (List.replicate j.toNat k).flatten])) := by
  rw [wp_ap]
  unfold binop
  dsimp only
  rw [h]
  dsimp only
  by_cases q : -(2 ^ 63) ≤ j ∧ j < 2 ^ 63 ∧ k.length * j.toNat ≤ sizeLine
  · rw [if_pos q, eq_true q, true_and]
    rfl
  · rw [if_neg q, eq_false q, false_and]
theorem flat_rep {α : Type} (x : α) : ∀ n : Nat, (List.replicate n [x]).flatten = List.replicate n x
  | 0 => rfl
  | n + 1 => by rw [List.replicate_succ, List.flatten_cons, flat_rep x n, List.replicate_succ]; rfl
theorem fzq_ext {α : Type} [DecidableEq α] {e : α → D} {f : α → PyData} {k : Nat} (h : EncOk e f k) (hk : k ≤ 39) {S T : Sto} {a : Nat} {l : List α} (ha : S.length ≤ a) (hg : (S ++ T)[a]? = some (.lst (l.map e))) (Q : D → Sto → Prop) : FzQ S Q (.ref a) (S ++ T) = Q (.clst (l.map e)) S := by
  have e1 : frzD depthP S.length (S ++ T) (.ref a) = some (.clst (l.map e)) := by
    show frzD (39 + 1) _ _ _ = _
    simp only [frzD]
    rw [if_neg (by omega), hg]
    simp only [h.frzs (S ++ T) l hk, Option.map_some]
  unfold FzQ
  rw [e1]
  apply propext
  exact ⟨fun ⟨_, d, hd, q⟩ => by cases hd; simpa using q, fun q => ⟨kept_snoc S T, _, rfl, by simpa using q⟩⟩
section
variable {T : Tb} {k : Nat}
theorem placesof_w [Fn T places_of_d] {row : List Int} {n : Int} (hr : IsRow row n) (h0 : 0 ≤ n) (h1 : n ≤ 1000000) : Ret (callF T (k + 1) "places_of" [tI row]) (.clst ((invF row n).map .int)) := by
  refine ret_call places_of_d rfl rfl fun S => ?_
  show Wp (evSs (T.ctx k) places_of_b [some (tI row), none, none, none]) S _ _
  have hl := hr.leni h0
  unfold places_of_b
  walk_at "pi"
  refine ⟨by decide, ?_⟩
  rw [vb_mulR (get_last _ _), List.length_map, flat_rep]
  refine ⟨⟨by omega, by omega, by simp only [List.length_cons, List.length_nil]; rw [sizeLine_eq]; omega⟩, ?_⟩
  rw [Int.toNat_natCast, List.length_append]
  have e0 : List.replicate row.length (D.int 0) = (List.replicate row.length (0 : Int)).map .int := by rw [List.map_replicate]
  rw [e0, List.append_assoc]
  refine for_list (row.zipIdx.map fun p => D.tup [.int (p.2 : Nat), .int p.1]) (fun i env S' => ∃ (L : List Int) (x y : Option D), env = [some (tI row), some (.ref (S.length + 1)), x, y] ∧ S' = S ++ [Ob.lst [D.int 0], Ob.lst (L.map .int)] ∧ L.length = row.length ∧ ∀ j c, j < i → row[j]? = some c → L[c.toNat]? = some (j : Int)) (by simp) ⟨_, none, none, rfl, rfl, List.length_replicate, fun j c hj => by omega⟩ (fun i env S' _ => by rw [← enumL_map]; exact enum_step rfl) (fun i x env S' hx ⟨L, x0, y0, he, hS, hL, hj⟩ => ?_) (fun env S' ⟨L, x0, y0, he, hS, hL, hj⟩ => ?_)
  · subst he hS
    rw [List.getElem?_map, List.getElem?_zipIdx, Option.map_eq_some_iff] at hx
    obtain ⟨p, hp, rfl⟩ := hx
    rw [Option.map_eq_some_iff] at hp
    obtain ⟨c, hc, rfl⟩ := hp
    have hcm := hr.mem (List.mem_of_getElem? hc)
    have hg : (S ++ [Ob.lst [D.int 0], Ob.lst (L.map .int)])[S.length + 1]? = some (.lst (L.map .int)) := by
      rw [List.getElem?_append_right (by omega)]
      simp
    simp only [Nat.zero_add]
    walk_at "pi"
    rw [vset _ hg, ixN_pos hcm.1 (by rw [List.length_map, hL]; omega)]
    refine ⟨L.set c.toNat i, _, _, rfl, ?_, by rw [List.length_set, hL], fun j c2 h1 h2 => ?_⟩
    · rw [List.set_append_right _ _ (by omega), List.map_set]
      simp
    · rcases Nat.lt_or_ge j i with q | q
      · have hne : c2.toNat ≠ c.toNat := fun e => by
          have hm2 := hr.mem (List.mem_of_getElem? h2)
          have : c2 = c := by omega
          subst this
          have := idx_of hr.nodup h2
          have := idx_of hr.nodup hc
          omega
        rw [List.getElem?_set_ne (Ne.symm hne)]
        exact hj j c2 q h2
      · have : j = i := by omega
        subst this
        rw [hc] at h2
        cases h2
        rw [List.getElem?_set_self (by rw [hL]; omega)]
  · subst he hS
    rw [List.length_map, List.length_zipIdx] at hj
    walk_at "pi"
    rw [fzq_ext encI (by decide) (by omega) (l := L) (by rw [List.getElem?_append_right (by omega)]; simp)]
    have e : L = invF row n := by
      apply List.ext_getElem?
      intro j
      rcases Nat.lt_or_ge j row.length with q | q
      · have hm : ((j : Int)) ∈ row := (hr.mem_iff).mpr (mem_upI.mpr ⟨by omega, by omega⟩)
        have h2 := idx_get hm
        have h3 := hj _ _ (lt_len h2) h2
        have h4 := invF_get (row := row) (n := n) (c := (j : Int)) (by omega) (by omega)
        rw [Int.toNat_natCast] at h3 h4
        rw [h3, h4]
        rfl
      · rw [List.getElem?_eq_none (by omega), List.getElem?_eq_none (by rw [invF_length]; omega)]
    rw [e]
    exact ⟨rfl, rfl⟩
theorem invF_getD {row : List Int} {n c : Int} (h0 : 0 ≤ c) (h1 : c < n) : (invF row n).getD c.toNat 0 = posF row c := by
  have := invF_get (row := row) h0 h1
  rw [getD_of (by rw [invF_length]; omega)] at this
  exact Option.some.inj this
theorem stepsto_w [Fn T places_of_d] [Fn T steps_to_d] {row goal : List Int} {n : Int} (hr : IsRow row n) (hg : IsRow goal n) (h0 : 0 ≤ n) (h1 : n ≤ 100000) : Ret (callF T (k + 2) "steps_to" [tI row, tI goal]) (.clst ((stepsF row goal).map .int)) := by
  refine ret_call steps_to_d rfl rfl fun S => ?_
  show Wp (evSs (T.ctx (k + 1)) steps_to_b [some (tI row), some (tI goal), none, none]) S _ _
  have hl := hr.leni h0
  unfold steps_to_b
  walk_at "pi"
  rw [(placesof_w hg h0 (by omega)).wp]
  rw [List.length_map]
  refine ⟨rgOk_of (by omega) (by omega) (by omega) (by omega), ?_⟩
  refine comp_filter (upI 0 ((row.length : Int) - 1)) .int (fun d => decide (posF goal (row.getD (d + 1).toNat 0) < posF goal (row.getD d.toNat 0))) (by rw [upI_length]) (by rw [upI_length, sizeLine_eq]; omega) (fun i => by rw [rangeL_upI]) (fun d hd => ?_) ?_
  · have hd2 := mem_upI.mp hd
    have m1 := hr.mem (List.mem_of_getElem? (getD_of (row := row) (i := d.toNat) (by omega)))
    have m2 := hr.mem (List.mem_of_getElem? (getD_of (row := row) (i := (d + 1).toNat) (by omega)))
    walk_at "pi"
    rw [at_int (by omega) (by omega)]
    dsimp only
    rw [vx_clst, at_int (by omega) (by rw [invF_length]; omega), invF_getD m1.1 m1.2]
    dsimp only
    rw [at_int (by omega) (by omega)]
    dsimp only
    rw [vx_clst, at_int (by omega) (by rw [invF_length]; omega), invF_getD m2.1 m2.2]
    dsimp only
    rw [vc_gt]
    by_cases q : posF goal (row.getD (d + 1).toNat 0) < posF goal (row.getD d.toNat 0)
    · simp only [q, decide_true, if_true]
      exact ⟨trivial, trivial⟩
    · simp only [q, decide_false, Bool.false_eq_true, if_false]
      exact ⟨trivial, trivial⟩
  · walk_at "pi"
    rw [fzq_enc (encL encI) (by decide)]
    exact ⟨rfl, rfl⟩
theorem sum_ones : ∀ l : List Int, (l.map fun _ => (1 : Int)).sum = (l.length : Nat)
  | [] => rfl
  | a :: l => by rw [List.map_cons, List.sum_cons, sum_ones l, List.length_cons]; omega
theorem countless_w [Fn T count_less_d] {row : List Int} {i v : Int} (h0 : 0 ≤ i) (h1 : row.length ≤ 1000000) : Ret (callF T (k + 1) "count_less" [tI row, .int i, .int v]) (.int (lessF row i v)) := by
  refine ret_call count_less_d rfl rfl fun S => ?_
  show Wp (evSs (T.ctx k) count_less_b [some (tI row), some (.int i), some (.int v), none]) S _ _
  unfold count_less_b
  walk_at "pi"
  rw [cut_int_pre _ h0]
  refine comp_enc (row.take i.toNat) .int .int (fun c => if decide (c < v) then some 1 else none) (List.length_map _) (by rw [List.length_take, sizeLine_eq]; omega) (fun i => rfl) (fun c hc => ?_) ?_
  · walk_at "pi"
    by_cases q : c < v
    · simp only [q, decide_true, if_true]
      rfl
    · simp only [q, decide_false, Bool.false_eq_true, if_false]
      rfl
  · have e : (row.take i.toNat).filterMap (fun c => if decide (c < v) then some (1 : Int) else none) = ((row.take i.toNat).filter fun c => decide (c < v)).map fun _ => (1 : Int) := by
      induction row.take i.toNat with
      | nil => rfl
      | cons a l ih =>
        rw [List.filterMap_cons, List.filter_cons, ih]
        by_cases q : a < v <;> simp [q]
    rw [e]
    walk_at "pi"
    rw [sum_ones]
    rfl
theorem flatMap_length_const {α β : Type} {f : α → List β} {c : Nat} (h : ∀ x, (f x).length = c) : ∀ l : List α, (l.flatMap f).length = l.length * c
  | [] => by simp
  | x :: l => by
    rw [List.flatMap_cons, List.length_append, h, flatMap_length_const h l, List.length_cons, Nat.add_mul]
    omega
theorem aheadF_length (row : List Int) : (aheadF row).length = (row.length - 1) * (row.length - 1) := by
  unfold aheadF
  rw [flatMap_length_const (c := row.length - 1) fun i => by rw [List.length_map, upI_length]; omega, upI_length]
  congr 1
  omega
theorem countsahead_w [Fn T count_less_d] [Fn T counts_ahead_d] {row : List Int} (h1 : row.length ≤ 1000) : Ret (callF T (k + 2) "counts_ahead" [tI row]) (.clst ((aheadF row).map .int)) := by
  refine ret_call counts_ahead_d rfl rfl fun S => ?_
  show Wp (evSs (T.ctx (k + 1)) counts_ahead_b [some (tI row), none, none, none]) S _ _
  unfold counts_ahead_b
  walk_at "pi"
  rw [List.length_map]
  have rg : rgOk 1 (row.length : Int) = true := rgOk_of (by omega) (by omega) (by omega) (by omega)
  refine ⟨rg, rg, ?_⟩
  have hsz : (aheadF row).length ≤ 1000000 := by
    rw [aheadF_length]
    have : (row.length - 1) * (row.length - 1) ≤ 999 * 999 := Nat.mul_le_mul (by omega) (by omega)
    omega
  refine comp2_enc (upI 1 row.length) .int .int (fun i => (upI 1 row.length).map fun v => lessF row i v) (by rw [rangeL_length, upI_length]) (by rw [sizeLine_eq]; unfold aheadF at hsz; omega) (fun i => by rw [← rangeL_upI]; rfl) (fun i hi acc hacc => ?_) ?_
  · have hi2 := mem_upI.mp hi
    walk_at "pi"
    refine ⟨rg, ?_⟩
    refine comp_encA (upI 1 row.length) .int .int (fun v => some (lessF row i v)) (by rw [rangeL_length, upI_length]) acc (by rw [List.filterMap_eq_map']; exact hacc) (fun i => by rw [← rangeL_upI]; rfl) (fun v hv => ?_) ?_
    · walk_at "pi"
      rw [(countless_w (by omega) (by omega)).wp]
      exact ⟨rfl, rfl⟩
    · rw [List.filterMap_eq_map']
      exact ⟨rfl, rfl⟩
  · rw [show (upI 1 row.length).flatMap (fun i => (upI 1 row.length).map fun v => lessF row i v) = aheadF row from rfl]
    walk_at "pi"
    rw [fzq_enc (encL encI) (by decide)]
    exact ⟨rfl, rfl⟩
theorem asgreat_w [Fn T are_as_great_d] {a b : List Int} (h1 : a.length ≤ 1000000) : Ret (callF T (k + 1) "are_as_great" [.clst (a.map .int), .clst (b.map .int)]) (.bl ((a.zip b).all fun p => decide (p.2 ≤ p.1))) := by
  refine ret_call are_as_great_d rfl rfl fun S => ?_
  show Wp (evSs (T.ctx k) are_as_great_b [some (.clst (a.map .int)), some (.clst (b.map .int)), none, none]) S _ _
  unfold are_as_great_b
  walk_at "pi"
  refine ⟨rfl, ?_⟩
  refine comp_map (a.zip b) (fun p => D.tup [.int p.1, .int p.2]) .bl (fun p => decide (p.2 ≤ p.1)) (by simp [List.length_zip]) (by rw [sizeLine_eq, List.length_zip]; omega) (fun i => by rw [← zipL_map]; exact zip_step rfl rfl) (fun p hp => ?_) ?_
  · walk_at "pi"
  · walk_at "pi"
    rw [all_true]
/-- the counts of one are all as great -/
def MoreF (row other : List Int) : Prop := ∀ i v : Int, 1 ≤ i → i < row.length → 1 ≤ v → v < row.length → lessF other i v ≤ lessF row i v
theorem zip_flat {α β : Type} {f g : α → List β} (h : ∀ x, (f x).length = (g x).length) : ∀ l : List α, (l.flatMap f).zip (l.flatMap g) = l.flatMap fun x => (f x).zip (g x)
  | [] => rfl
  | x :: l => by
    rw [List.flatMap_cons, List.flatMap_cons, List.flatMap_cons, List.zip_append (h x), zip_flat h l]
theorem ahead_all {a b : List Int} (hl : a.length = b.length) : (((aheadF a).zip (aheadF b)).all fun p => decide (p.2 ≤ p.1)) = true ↔ MoreF a b := by
  unfold aheadF
  rw [← hl, zip_flat fun i => by rw [List.length_map, List.length_map], List.all_eq_true]
  constructor
  · intro h i v i0 i1 v0 v1
    have := h (lessF a i v, lessF b i v) (List.mem_flatMap.mpr ⟨i, mem_upI.mpr ⟨i0, i1⟩, by
      rw [List.zip_map', List.mem_map]
      exact ⟨v, mem_upI.mpr ⟨v0, v1⟩, rfl⟩⟩)
    exact of_decide_eq_true this
  · intro h p hp
    obtain ⟨i, hi, hp⟩ := List.mem_flatMap.mp hp
    rw [List.zip_map', List.mem_map] at hp
    obtain ⟨v, hv, rfl⟩ := hp
    have h1 := mem_upI.mp hi
    have h2 := mem_upI.mp hv
    exact decide_eq_true (h i v h1.1 h1.2 h2.1 h2.2)
open Classical in
theorem assorted_w [Fn T count_less_d] [Fn T counts_ahead_d] [Fn T are_as_great_d] [Fn T is_as_sorted_d] {a b : List Int} (hl : a.length = b.length) (h1 : a.length ≤ 1000) : Ret (callF T (k + 3) "is_as_sorted" [tI a, tI b]) (.bl (decide (MoreF a b))) := by
  refine ret_call is_as_sorted_d rfl rfl fun S => ?_
  show Wp (evSs (T.ctx (k + 2)) is_as_sorted_b [some (tI a), some (tI b)]) S _ _
  unfold is_as_sorted_b
  walk_at "pi"
  rw [(countsahead_w h1).wp]
  rw [(countsahead_w (by omega)).wp]
  rw [(asgreat_w (by
    rw [aheadF_length]
    have : (a.length - 1) * (a.length - 1) ≤ 999 * 999 := Nat.mul_le_mul (by omega) (by omega)
    omega)).wp, fzq_bl]
  refine ⟨?_, rfl⟩
  congr 1
  rw [Bool.eq_iff_iff, ahead_all hl, decide_eq_true_iff]
theorem checkrows_w [Fn T is_integer_d] [Fn T is_row_d] [Fn T check_row_d] [Fn T check_rows_d] [G : Gl T "MOST_CARDS" (.int 7)] {l m : List Int} {n : Int} (hr : IsRow l n) (hm : IsRow m n) (h0 : 1 ≤ n) (h7 : n ≤ 7) : Ret (callF T (k + 4) "check_rows" [tI l, tI m]) .non := by
  refine ret_call check_rows_d rfl rfl fun S => ?_
  show Wp (evSs (T.ctx (k + 3)) check_rows_b [some (tI l), some (tI m)]) S _ _
  have e1 := hr.leni (by omega)
  have e2 := hm.leni (by omega)
  unfold check_rows_b
  walk_at "pi"
  rw [(checkrow_w hr h0 h7).wp]
  rw [List.length_map, e1, (isrow_w (by omega) (by omega) (by omega)).wp, sortI_of hm, decide_eq_true rfl]
  walk_at "pi"
theorem checkgoal_w [Fn T is_integer_d] [Fn T is_row_d] [Fn T check_goal_d] {m : List Int} {n : Int} (hm : IsRow m n) (h0 : 1 ≤ n) (h7 : n ≤ 7) : Ret (callF T (k + 3) "check_goal" [.int n, tI m]) .non := by
  refine ret_call check_goal_d rfl rfl fun S => ?_
  show Wp (evSs (T.ctx (k + 2)) check_goal_b [some (.int n), some (tI m)]) S _ _
  have e2 := hm.leni (by omega)
  unfold check_goal_b
  walk_at "pi"
  rw [(isrow_w (by omega) (by omega) (by omega)).wp, sortI_of hm, decide_eq_true rfl]
  walk_at "pi"
open Classical in
theorem noless_w [Fn T is_integer_d] [Fn T is_row_d] [Fn T check_row_d] [Fn T check_rows_d] [G : Gl T "MOST_CARDS" (.int 7)] [Fn T count_less_d] [Fn T counts_ahead_d] [Fn T are_as_great_d] [Fn T is_as_sorted_d] [Fn T no_less_sorted_d] {l m : List Int} {n : Int} (hr : IsRow l n) (hm : IsRow m n) (h0 : 1 ≤ n) (h7 : n ≤ 7) : Ret (callF T (k + 5) "no_less_sorted" [tI l, tI m]) (.bl (decide (MoreF l m))) := by
  refine ret_call no_less_sorted_d rfl rfl fun S => ?_
  show Wp (evSs (T.ctx (k + 4)) no_less_sorted_b [some (tI l), some (tI m)]) S _ _
  have e1 := hr.leni (by omega)
  have e2 := hm.leni (by omega)
  unfold no_less_sorted_b
  walk_at "pi"
  rw [(checkrows_w hr hm h0 h7).wp]
  rw [(assorted_w (by omega) (by omega)).wp, fzq_bl]
  exact ⟨rfl, rfl⟩
end
end Pi

/-! The least places, and what laws of the chapter on words draw and run. -/
namespace Pi
open PySem
local macro_rules | `(tactic| walk_at "pi") => `(tactic| simp only [wp_pure, wp_bind, wp_bad, wp_ite, wp_chk, wp_new, wp_var, wp_lit, wp_glob, wp_bin, wp_neg, wp_not, wp_and, wp_or, wp_cmp, wp_cmp2, wp_iteE, wp_tup, wp_lst, wp_call, wp_fz, wp_tupS, wp_lstS, wp_dnew, wp_disp, wp_dget1, wp_dget2, wp_litems, wp_sset, wi_rev, vr_index, vr_count, vm_count, wi_items, vd_is, vd_items, wp_ds_nil, wp_ds_star, wp_ds_cons, notStar, wp_bi, wp_isi, wp_idx, wp_slice, wp_meth, wp_lrange, wp_trange, wp_tdown, wp_comp, wp_compB, wp_comp2, wp_comp2B, wp_rngv, wp_es_nil, wp_es_cons, wp_o_none, wp_o_some, wp_ts_nil, wp_ts_one, wt_not, wt_and, wt_or, wt_cmp, wt_ite, wt_var, wt_call, wt_bi, wt_isi, wt_cmp2, wt_idx, wt_lit, wi_of, wi_enum, wi_zip, wi_range, ws_asg, ws_par, ws_sub, ws_aug, ws_expr, ws_ret, ws_retN, ws_pass, ws_brk, ws_cont, ws_ifs, ws_for, ws_whil, wss_nil, wss_cons, then_nx, then_ret, then_brk, then_cont, out_ret, out_nx, turn_nx, turn_cont, turn_brk, turn_ret, wp_putM, ctx_cf, fzq_int, fzq_bl, fzq_non, fzq_str, fzq_tI, fzq_tup, fzq_ints, fzq_bls, fzq_tIs, fzq_nil, ctx_gl, vb_add, vb_sub, vb_mul, vb_fdiv, vb_mod, vb_pow, vb_addT, vc_lt, vc_le, vc_gt, vc_ge, vc_eqv, vc_nev, vc_inv, vc_ninv, ve_int, ve_bl, vt_bl, vt_int, vt_tup, vt_non, vi_int, vi_bl, vi_str, vi_non, vi_tup, vi_clst, vs_tup, vs_clst, vI_tup, vI_clst, vI_rng, vI_ref, vx_tup, vx_clst, vp_none, vp_int, vl_tup, vl_clst, vf_len_tup, vf_len_clst, vf_int, vf_tup, vf_list_tup, vf_sorted_tup, vf_sorted_clst, vf_all, vf_any, vf_sum, vf_tup_clst, vf_list_clst, vf_min2, vf_max2, vf_abs, va_add, va_sub, put_name, put_tup, put_clst, puts_nil, puts_cons, wipe, List.getElem?_cons_zero, List.getElem?_cons_succ, List.getElem?_nil, List.set_cons_zero, List.set_cons_succ, List.length_cons, List.length_nil, List.any_cons, List.any_nil, isTy, String.reduceBEq, String.reduceEq, Bool.false_and, Bool.and_false, Bool.true_and, Bool.and_true, Bool.or_false, Bool.false_or, Bool.or_true, Bool.true_or, Bool.not_true, Bool.not_false, if_true, if_false, Bool.false_eq_true, reduceIte, reduceCtorEq, Nat.reduceAdd, Nat.reduceLT, Nat.lt_add_one, and_self, true_and, and_true, rangeOf, BEq.rfl, bne_self_eq_false, Nat.reduceLeDiff, Nat.zero_lt_succ, Nat.zero_lt_one])
def law_row_b : List Pi.S := [(.par 2 3 (.lrange [(.var 1)]) (.lst [])), (.for (.name 4) (.range [(.var 1)]) [(.expr (.meth .append (.var 3) [(.meth .pop (.var 2) [(.call "_law_taken" [(.var 0), (.bi .len [(.var 2)])])])]))]), (.ret (.bi .tuple [(.var 3)]))]
def law_row_d : DefI := { name := "_law_row", ps := [("row" : Str), ("n" : Str)], N := [("row" : Str), ("n" : Str), ("left" : Str), ("found" : Str), ("turn" : Str)], body := law_row_b, mu := [("found" : Str), ("left" : Str)] }
def law_far_b : List Pi.S := [(.for (.name 2) (.range [(.bin .add (.bi .len [(.var 0)]) (.lit (.int 1)))]) [(.for (.name 3) (.range [(.bin .add (.bi .len [(.var 0)]) (.lit (.int 1)))]) [(.ifs (.cmp .lt (.bi .len [(.fz (.comp [4] (.name 4) (.of (.slice (.var 0) none (some (.var 2)))) [(.cmp .lt (.var 4) (.var 3))] (.var 4)))]) (.bi .len [(.fz (.comp [4] (.name 4) (.of (.slice (.var 1) none (some (.var 2)))) [(.cmp .lt (.var 4) (.var 3))] (.var 4)))])) [(.ret (.lit (.bl false)))] [])])]), (.ret (.lit (.bl true)))]
def law_far_d : DefI := { name := "_law_far", ps := [("one" : Str), ("other" : Str)], N := [("one" : Str), ("other" : Str), ("first" : Str), ("bound" : Str), ("card" : Str)], body := law_far_b, mu := [] }
def law_subsets_b : List Pi.S := [(.asg (.name 1) (.fz (.lst [(.tup [])]))), (.for (.name 2) (.range [(.var 0)]) [(.asg (.name 1) (.fz (.bin .add (.var 1) (.fz (.comp [3] (.name 3) (.of (.var 1)) [] (.fz (.bin .add (.var 3) (.tup [(.var 2)]))))))))]), (.ret (.var 1))]
def law_subsets_d : DefI := { name := "_law_subsets", ps := [("size" : Str)], N := [("size" : Str), ("found" : Str), ("place" : Str), ("lot" : Str)], body := law_subsets_b, mu := [] }
def law_goal_b : List Pi.S := [(.asg (.name 3) (.call "_law_taken" [(.var 0), (.lit (.int 6))])), (.ifs (.cmp .eq (.var 3) (.lit (.int 0))) [(.ret (.call "_law_row" [(.var 0), (.var 1)]))] []), (.ifs (.cmp .eq (.var 3) (.lit (.int 1))) [(.ret (.trange [(.var 1)]))] []), (.ifs (.cmp .lt (.var 3) (.lit (.int 4))) [(.ret (.call "_law_end" [(.var 2), (.tup []), (.var 1)]))] []), (.ret (.call "_law_end" [(.var 2), (.call "_law_lot" [(.var 0), (.bi .len [(.var 2)])]), (.var 1)]))]
def law_goal_d : DefI := { name := "_law_goal", ps := [("row" : Str), ("n" : Str), ("word" : Str)], N := [("row" : Str), ("n" : Str), ("word" : Str), ("way" : Str)], body := law_goal_b, mu := [] }
def law_case_b : List Pi.S := [(.asg (.name 3) (.call "_law_pick" [(.var 0), (.fz (.comp [4] (.name 4) (.of (.fz (.lst [(.lit (.int 1)), (.lit (.int 2)), (.lit (.int 3)), (.lit (.int 3)), (.lit (.int 4)), (.lit (.int 4)), (.lit (.int 5)), (.lit (.int 5))]))) [(.cmp .le (.var 4) (.var 1))] (.var 4)))])), (.asg (.name 5) (.call "_law_word" [(.var 0), (.var 3), (.var 2)])), (.ifs (.and (.cmp .gt (.var 3) (.lit (.int 1))) (.cmp .eq (.call "_law_taken" [(.var 0), (.lit (.int 3))]) (.lit (.int 0)))) [(.asg (.name 5) (.bin .add (.call "_law_sorter" [(.var 3)]) (.call "_law_word" [(.var 0), (.var 3), (.lit (.int 3))]))), (.asg (.name 5) (.slice (.var 5) none (some (.var 2))))] []), (.ret (.tup [(.var 3), (.var 5), (.call "_law_goal" [(.var 0), (.var 3), (.var 5)])]))]
def law_case_d : DefI := { name := "_law_case", ps := [("row" : Str), ("most_cards" : Str), ("most" : Str)], N := [("row" : Str), ("most_cards" : Str), ("most" : Str), ("n" : Str), ("size" : Str), ("word" : Str)], body := law_case_b, mu := [] }
def law_leads_b : List Pi.S := [(.asg (.name 4) (.call "_law_turned" [(.var 0)])), (.for (.name 5) (.of (.var 2)) [(.ifs (.cmp .lt (.idx (.var 4) (.idx (.var 1) (.var 5))) (.idx (.var 4) (.bin .add (.idx (.var 1) (.var 5)) (.lit (.int 1))))) [(.ret (.lit (.bl false)))] []), (.asg (.name 4) (.call "_law_swap" [(.var 4), (.idx (.var 1) (.var 5))]))]), (.ret (.cmp .eq (.var 4) (.var 3)))]
def law_leads_d : DefI := { name := "_law_leads", ps := [("n" : Str), ("word" : Str), ("places" : Str), ("goal" : Str)], N := [("n" : Str), ("word" : Str), ("places" : Str), ("goal" : Str), ("cards" : Str), ("place" : Str)], body := law_leads_b, mu := [] }
theorem fzq_grow {x : D} (hx : Fx x) (S T : Sto) (Q : D → Sto → Prop) : FzQ S Q x (S ++ T) = Q x S := by
  unfold FzQ
  rw [hx]
  apply propext
  exact ⟨fun ⟨_, d, hd, q⟩ => by cases hd; simpa using q, fun q => ⟨kept_snoc S T, _, rfl, by simpa using q⟩⟩
theorem fx_non : Fx .non := fun _ _ => rfl
theorem swapF_row {row : List Int} {n d : Int} (h : IsRow row n) (h0 : 0 ≤ d) (h1 : d + 1 < row.length) : IsRow (swapF row d) n := (swapF_perm h0 h1).trans h
theorem mem_steps {row goal : List Int} {d : Int} (h0 : 0 ≤ d) (h1 : d + 1 < row.length) : d ∈ stepsF row goal ↔ posF goal (row.getD (d + 1).toNat 0) < posF goal (row.getD d.toNat 0) := by
  unfold stepsF
  rw [List.mem_filter, mem_upI, decide_eq_true_iff]
  exact ⟨fun h => h.2, fun h => ⟨⟨h0, by omega⟩, h⟩⟩
section
variable {T : Tb} {k : Nat}
theorem least_w [Fn T places_of_d] [Fn T steps_to_d] [Fn T turned_row_d] [Fn T swapped_d] [Fn T least_places_d] {w goal lot : List Int} {n : Int} (hg : IsRow goal n) (h0 : 0 ≤ n) (h1 : n ≤ 1000) (hw : IsWord w n) (hwl : w.length ≤ 1000000) : Ret (callF T (k + 3) "least_places" [tI w, tI goal, tI lot]) (optT (leastF n w goal lot)) := by
  refine ret_call least_places_d rfl rfl fun S => ?_
  show Wp (evSs (T.ctx (k + 2)) least_places_b [some (tI w), some (tI goal), some (tI lot), none, none, none, none]) S _ _
  have hgl := hg.leni h0
  unfold least_places_b
  walk_at "pi"
  rw [List.length_map, hgl, (turnedrow_w h0 (by omega)).wp]
  refine ⟨Nat.zero_le _, ?_⟩
  refine for_list (w.zipIdx.map fun p => D.tup [.int (p.2 : Nat), .int p.1]) (fun i env S' => ∃ (row acc : List Int) (x y : Option D), env = [some (tI w), some (tI goal), some (tI lot), some (tI row), some (.ref S.length), x, y] ∧ S' = S ++ [Ob.lst (acc.map .int)] ∧ IsRow row n ∧ acc.length ≤ i ∧ goF goal lot 0 (turnedF n) w = (acc ++ (goF goal lot i row (w.drop i)).1, (goF goal lot i row (w.drop i)).2)) (by simp) ⟨_, [], none, none, rfl, rfl, turnedF_row n, Nat.le_refl _, rfl⟩ (fun i env S' _ => by rw [← enumL_map]; exact enum_step rfl) (fun i x env S' hx ⟨row, acc, x0, y0, he, hS, hr, hal, hgo⟩ => ?_) (fun env S' ⟨row, acc, x0, y0, he, hS, hr, hal, hgo⟩ => ?_)
  · subst he hS
    rw [List.getElem?_map, List.getElem?_zipIdx, Option.map_eq_some_iff] at hx
    obtain ⟨p, hp, rfl⟩ := hx
    rw [Option.map_eq_some_iff] at hp
    obtain ⟨d, hd, rfl⟩ := hp
    have hdw := hw d (List.mem_of_getElem? hd)
    have hrl := hr.leni h0
    have hiw := lt_len hd
    rw [drop_step hd, goF] at hgo
    simp only [Nat.zero_add] at hgo ⊢
    walk_at "pi"
    rw [vin_int]
    by_cases q : (i : Int) ∈ lot
    · rw [if_neg fun z => z.1 q] at hgo
      simp only [q, decide_true, Bool.not_true, Bool.false_eq_true, if_false]
      exact ⟨_, _, _, _, rfl, rfl, hr, by omega, hgo⟩
    · simp only [q, decide_false, Bool.not_false, if_true]
      rw [(stepsto_w hr hg h0 (by omega)).wp, vin_intL]
      by_cases q2 : posF goal (row.getD (d + 1).toNat 0) < posF goal (row.getD d.toNat 0)
      · rw [if_pos ⟨q, q2⟩] at hgo
        rw [decide_eq_true ((mem_steps hdw.1 (by omega)).mpr q2)]
        simp only [if_true]
        rw [vr_ref _ (get_last _ _), vm_append _ (get_last _ _)]
        refine ⟨by rw [List.length_map, sizeLine_eq]; omega, ?_⟩
        rw [(swapped_w hdw.1 (by omega) (by omega)).wp]
        refine ⟨_, acc ++ [(i : Int)], _, _, rfl, ?_, swapF_row hr hdw.1 (by omega), by rw [List.length_append]; simp; omega, ?_⟩
        · rw [List.set_append_right _ _ (Nat.le_refl _), Nat.sub_self, List.map_append]
          rfl
        · rw [hgo, List.append_assoc]
          rfl
      · rw [if_neg fun z => q2 z.2] at hgo
        rw [decide_eq_false fun z => q2 ((mem_steps hdw.1 (by omega)).mp z)]
        simp only [Bool.false_eq_true, if_false]
        exact ⟨_, _, _, _, rfl, rfl, hr, by omega, hgo⟩
  · subst he hS
    rw [List.length_map, List.length_zipIdx, List.drop_length] at hgo
    walk_at "pi"
    rw [ve_tI]
    unfold leastF
    rw [hgo]
    simp only [goF, List.append_nil]
    by_cases q : row = goal
    · simp only [q, decide_true, if_true]
      rw [vf_tup_ref _ (get_last _ _)]
      show FzQ S _ (tI acc) _
      rw [fzq_grow (fx_tI acc)]
      exact ⟨rfl, rfl⟩
    · simp only [q, decide_false, Bool.false_eq_true, if_false]
      rw [fzq_grow fx_non]
      exact ⟨rfl, rfl⟩
theorem scattered_w [Fn T is_integer_d] [Fn T is_from_to_d] [Fn T is_word_d] [Fn T check_word_d] [Fn T check_cards_d] [Fn T check_cards_and_word_d] [Fn T is_row_d] [Fn T check_goal_d] [Gl T "MOST_CARDS" (.int 7)] [Gl T "MOST_DEEDS" (.int 200)] [Fn T places_of_d] [Fn T steps_to_d] [Fn T turned_row_d] [Fn T swapped_d] [Fn T least_places_d] [Fn T scattered_d] {w goal : List Int} {n : Int} (hg : IsRow goal n) (h0 : 1 ≤ n) (h7 : n ≤ 7) (hw : IsWord w n) (hwl : w.length ≤ 200) : Ret (callF T (k + 6) "scattered" [.int n, tI w, tI goal]) (optT (leastF n w goal [])) := by
  refine ret_call scattered_d rfl rfl fun S => ?_
  show Wp (evSs (T.ctx (k + 5)) scattered_b [some (.int n), some (tI w), some (tI goal)]) S _ _
  unfold scattered_b
  walk_at "pi"
  rw [(ccw_w h0 h7 hw hwl).wp]
  rw [(checkgoal_w hg h0 h7).wp]
  rw [show (D.tup [] : D) = tI [] from rfl, (least_w hg (by omega) (by omega) hw (by omega)).wp]
  cases leastF n w goal [] with
  | none => rw [show optT none = .non from rfl, fzq_non]; exact ⟨Nat.zero_le _, rfl, rfl⟩
  | some l => rw [show optT (some l) = tI l from rfl, fzq_tI]; exact ⟨Nat.zero_le _, rfl, rfl⟩
end
/-! ### the laws' own -/
def MoreA (one other : List Int) : Prop := ∀ i v : Int, 0 ≤ i → i < one.length + 1 → 0 ≤ v → v < one.length + 1 → lessF other i v ≤ lessF one i v
def subsA : Nat → List (List Int)
  | 0 => [[]]
  | t + 1 => subsA t ++ (subsA t).map fun l => l ++ [(t : Int)]
theorem subsA_length : ∀ t, (subsA t).length = 2 ^ t
  | 0 => rfl
  | t + 1 => by rw [subsA, List.length_append, List.length_map, subsA_length t, Nat.pow_succ]; omega
theorem subsA_lot : ∀ (t : Nat) (l : List Int), l ∈ subsA t ↔ IsLot l t
  | 0, l => by
    rw [subsA, List.mem_singleton]
    constructor
    · rintro rfl
      exact lot_nil _
    · intro h
      have := h.len
      exact List.length_eq_zero_iff.mp (by omega)
  | t + 1, l => by
    have eu : upI 0 ((t + 1 : Nat) : Int) = upI 0 (t : Int) ++ [(t : Int)] := by
      unfold upI
      rw [show (((t + 1 : Nat) : Int) - 0).toNat = t + 1 by omega, show ((t : Int) - 0).toNat = t by omega, List.range_succ, List.map_append]
      simp
    rw [subsA, List.mem_append, List.mem_map]
    unfold IsLot
    rw [eu, List.sublist_append_iff]
    constructor
    · rintro (h | ⟨m, h, rfl⟩)
      · exact ⟨l, [], by simp, (subsA_lot t l).mp h, List.nil_sublist _⟩
      · exact ⟨m, [(t : Int)], rfl, (subsA_lot t m).mp h, List.Sublist.refl _⟩
    · rintro ⟨a, b, rfl, ha, hb⟩
      have ha2 := (subsA_lot t a).mpr ha
      rcases List.sublist_cons_iff.mp hb with q | ⟨r, rfl, q⟩
      · rw [List.sublist_nil.mp q, List.append_nil]
        exact .inl ha2
      · rw [List.sublist_nil.mp q]
        exact .inr ⟨a, ha2, rfl⟩
def leadsF (word goal : List Int) : List Int → List Int → Bool
  | row, [] => decide (row = goal)
  | row, p :: ps => if row.getD (word.getD p.toNat 0).toNat 0 < row.getD (word.getD p.toNat 0 + 1).toNat 0 then false else leadsF word goal (swapF row (word.getD p.toNat 0)) ps
theorem fzq_dn_grow {S S1 : Sto} {r : Nat} {sc : List Int} (a : Dn S r sc S1) {x : D} (hx : Fx x) (T : Sto) (Q : D → Sto → Prop) : FzQ S Q x (S1 ++ T) = Q x S1 := by
  unfold FzQ
  rw [hx, ← a.len]
  have hk := a.kept T
  apply propext
  exact ⟨fun ⟨_, d, hd, q⟩ => by cases hd; simpa using q, fun q => ⟨hk, _, rfl, by simpa using q⟩⟩
theorem map_eraseIdx {α β : Type} (f : α → β) : ∀ (l : List α) (i : Nat), (l.map f).eraseIdx i = (l.eraseIdx i).map f
  | [], i => by simp
  | a :: l, 0 => by simp
  | a :: l, i + 1 => by simp [map_eraseIdx f l i]
theorem erase_perm {α : Type} : ∀ (l : List α) (i : Nat) (h : i < l.length), (l[i] :: l.eraseIdx i).Perm l
  | [], i, h => by simp at h
  | a :: l, 0, h => by simp
  | a :: l, i + 1, h => by
    have := erase_perm l i (by simpa using h)
    simp only [List.getElem_cons_succ, List.eraseIdx_cons_succ]
    exact (List.Perm.swap _ _ _).trans (this.cons a)
section
variable {T : Tb} {k r : Nat} {S : Sto} {sc : List Int}
theorem lawrow_w [Fn T law_taken_d] [Fn T law_row_d] {n : Int} {Q : D → Sto → Prop} {E : XP} (hd : Draw S r sc) (hm : 0 ≤ n) (hm2 : n < 1000000)
    (hQ : ∀ (w : List Int) S', IsRow w n → Dn S r sc S' → Q (tI w) S') : Wp (callF T (k + 2) "_law_row" [.ref r, .int n]) S Q E := by
  refine fz_call law_row_d rfl rfl ?_
  show Wp (evSs (T.ctx (k + 1)) law_row_b [some (.ref r), some (.int n), none, none, none]) S _ _
  unfold law_row_b
  walk_at "pi"
  refine ⟨rgOk_of (by omega) (by omega) (by omega) (by omega), Nat.zero_le _, rgOk_of (by omega) (by omega) (by omega) (by omega), ?_⟩
  have hr := hd.lt
  rw [rangeL_upI, List.append_assoc, List.length_append]
  refine for_list (rangeL 0 n) (fun i env S' => ∃ (L F : List Int) (S1 : Sto) (x : Option D), env = [some (.ref r), some (.int n), some (.ref S.length), some (.ref (S.length + 1)), x] ∧ S' = S1 ++ [Ob.lst (L.map .int), Ob.lst (F.map .int)] ∧ (L ++ F).Perm (upI 0 n) ∧ F.length = i ∧ Dn S r sc S1) (by rw [rangeL_length]) ⟨upI 0 n, [], S, none, rfl, rfl, by rw [List.append_nil], rfl, Dn.refl hd⟩ (fun i env S' _ => by rw [rangeL_upI]) (fun i x env S' hx ⟨L, F, S1, x0, he, hS, hp, hl, hD⟩ => ?_) (fun env S' ⟨L, F, S1, x0, he, hS, hp, hl, hD⟩ => ?_)
  · subst he hS
    have hlen := hp.length_eq
    rw [List.length_append, upI_length] at hlen
    have hi := lt_len hx
    rw [rangeL_length] at hi
    have hL0 : 0 < L.length := by omega
    have gL : ∀ S1 : Sto, S1.length = S.length → ∀ (a b : Ob), (S1 ++ [a, b])[S.length]? = some a := fun S1 h a b => by
      rw [List.getElem?_append_right (by omega), h, Nat.sub_self]
      rfl
    have gF : ∀ S1 : Sto, S1.length = S.length → ∀ (a b : Ob), (S1 ++ [a, b])[S.length + 1]? = some b := fun S1 h a b => by
      rw [List.getElem?_append_right (by omega), h, Nat.add_sub_cancel_left]
      rfl
    walk_at "pi"
    rw [vr_ref _ (gF _ hD.len _ _), vr_ref _ (gL _ hD.len _ _), vf_len_ref _ (gL _ hD.len _ _), List.length_map]
    have hd1 : Draw (S1 ++ [Ob.lst (L.map .int), Ob.lst (F.map .int)]) r sc := by
      obtain ⟨o, h1, h2⟩ := hd.after hD
      exact ⟨o, by rw [List.getElem?_append_left (lt_of_get h1)]; exact h1, h2⟩
    refine taken_w hd1 (by omega) (by omega) fun j S2 h2 h3 hD2 => ?_
    obtain ⟨o, rfl, ho⟩ := hD2
    have hr1 : r < S1.length := by rw [hD.len]; exact hr
    rw [List.set_append_left _ _ hr1]
    have hl2 : (S1.set r o).length = S.length := by rw [List.length_set]; exact hD.len
    rw [vm_popI _ (gL _ hl2 _ _) h2 (by rw [List.length_map]; omega) (by rw [List.length_map]; omega)]
    rw [show ((S1.set r o) ++ [Ob.lst (L.map .int), Ob.lst (F.map .int)]).set S.length (.lst ((L.map D.int).eraseIdx j.toNat)) = (S1.set r o) ++ [Ob.lst ((L.map D.int).eraseIdx j.toNat), Ob.lst (F.map .int)] by
      rw [List.set_append_right _ _ (by omega), hl2, Nat.sub_self]; rfl]
    rw [vm_append _ (gF _ hl2 _ _)]
    have hj : j.toNat < L.length := by omega
    refine ⟨by rw [List.length_map, sizeLine_eq]; omega, L.eraseIdx j.toNat, F ++ [L[j.toNat]], S1.set r o, _, rfl, ?_, ?_, by simp [hl], hD.trans ⟨o, rfl, ho⟩⟩
    · rw [List.set_append_right _ _ (by omega), hl2, Nat.add_sub_cancel_left, map_eraseIdx]
      simp
    · refine List.Perm.trans ?_ hp
      have e3 : (L[j.toNat] :: L.eraseIdx j.toNat).Perm L := erase_perm L _ hj
      refine List.Perm.trans ?_ (List.Perm.append_right F e3)
      rw [← List.append_assoc]
      exact List.perm_append_comm
  · subst he hS
    rw [rangeL_length] at hl
    have hlen := hp.length_eq
    rw [List.length_append, upI_length] at hlen
    have hL0 : L = [] := List.length_eq_zero_iff.mp (by omega)
    subst hL0
    walk_at "pi"
    rw [vf_tup_ref _ (l := F.map .int) (by rw [List.getElem?_append_right (by rw [hD.len]; omega), hD.len, Nat.add_sub_cancel_left]; rfl)]
    show FzQ S Q (tI F) _
    rw [fzq_dn_grow hD (fx_tI F)]
    exact hQ F S1 hp hD
theorem lawgoal_w [Fn T law_taken_d] [Fn T law_row_d] [Fn T law_lot_d] [Fn T law_turned_d] [Fn T law_swap_d] [Fn T law_run_d] [Fn T law_end_d] [Fn T law_goal_d] {n : Int} {w : List Int} {Q : D → Sto → Prop} {E : XP} (hd : Draw S r sc) (hm : 0 ≤ n) (hm2 : n < 1000000) (hw : IsWord w n) (hwl : w.length < 1000000)
    (hQ : ∀ (g : List Int) S', IsRow g n → Dn S r sc S' → Q (tI g) S') : Wp (callF T (k + 4) "_law_goal" [.ref r, .int n, tI w]) S Q E := by
  refine fz_call law_goal_d rfl rfl ?_
  show Wp (evSs (T.ctx (k + 3)) law_goal_b [some (.ref r), some (.int n), some (tI w), none]) S _ _
  have fin : ∀ (g : List Int) S', IsRow g n → Dn S r sc S' → FzQ S Q (tI g) S' := fun g S' h1 h2 => by
    rw [fzq_dn h2 (fx_tI g)]
    exact hQ g S' h1 h2
  have er : ∀ lot, IsRow (endF n (leftF w lot)) n := fun lot => behindF_row (turnedF_row n) (hw.sub (leftF_sub w lot))
  unfold law_goal_b
  walk_at "pi"
  refine taken_w hd (by omega) (by omega) fun i S1 i0 i1 hD1 => ?_
  walk_at "pi"
  have hd1 := hd.after hD1
  split
  · refine lawrow_w hd1 hm hm2 fun g S2 hg hD2 => ?_
    exact fin g S2 hg (hD1.trans hD2)
  · split
    · refine ⟨rgOk_of (by omega) (by omega) (by omega) (by omega), ?_⟩
      rw [rangeL_upI]
      exact fin _ _ (upI_row n) hD1
    · split
      · refine ⟨Nat.zero_le _, ?_⟩
        rw [show (D.tup [] : D) = tI [] from rfl, (lawend_w hm hm2 hw).wp]
        exact fin _ _ (er []) hD1
      · rw [List.length_map]
        refine lawlot_w (T := T) (size := (w.length : Int)) hd1 (by omega) (by omega) fun lot S2 hlot hD2 => ?_
        rw [(lawend_w hm hm2 hw).wp]
        exact fin _ _ (er lot) (hD1.trans hD2)
end
end Pi

/-! More of what laws of the chapter on words run. -/
namespace Pi
open PySem
local macro_rules | `(tactic| walk_at "pi") => `(tactic| simp only [wp_pure, wp_bind, wp_bad, wp_ite, wp_chk, wp_new, wp_var, wp_lit, wp_glob, wp_bin, wp_neg, wp_not, wp_and, wp_or, wp_cmp, wp_cmp2, wp_iteE, wp_tup, wp_lst, wp_call, wp_fz, wp_tupS, wp_lstS, wp_dnew, wp_disp, wp_dget1, wp_dget2, wp_litems, wp_sset, wi_rev, vr_index, vr_count, vm_count, wi_items, vd_is, vd_items, wp_ds_nil, wp_ds_star, wp_ds_cons, notStar, wp_bi, wp_isi, wp_idx, wp_slice, wp_meth, wp_lrange, wp_trange, wp_tdown, wp_comp, wp_compB, wp_comp2, wp_comp2B, wp_rngv, wp_es_nil, wp_es_cons, wp_o_none, wp_o_some, wp_ts_nil, wp_ts_one, wt_not, wt_and, wt_or, wt_cmp, wt_ite, wt_var, wt_call, wt_bi, wt_isi, wt_cmp2, wt_idx, wt_lit, wi_of, wi_enum, wi_zip, wi_range, ws_asg, ws_par, ws_sub, ws_aug, ws_expr, ws_ret, ws_retN, ws_pass, ws_brk, ws_cont, ws_ifs, ws_for, ws_whil, wss_nil, wss_cons, then_nx, then_ret, then_brk, then_cont, out_ret, out_nx, turn_nx, turn_cont, turn_brk, turn_ret, wp_putM, ctx_cf, fzq_int, fzq_bl, fzq_non, fzq_str, fzq_tI, fzq_tup, fzq_ints, fzq_bls, fzq_tIs, fzq_nil, ctx_gl, vb_add, vb_sub, vb_mul, vb_fdiv, vb_mod, vb_pow, vb_addT, vc_lt, vc_le, vc_gt, vc_ge, vc_eqv, vc_nev, vc_inv, vc_ninv, ve_int, ve_bl, vt_bl, vt_int, vt_tup, vt_non, vi_int, vi_bl, vi_str, vi_non, vi_tup, vi_clst, vs_tup, vs_clst, vI_tup, vI_clst, vI_rng, vI_ref, vx_tup, vx_clst, vp_none, vp_int, vl_tup, vl_clst, vf_len_tup, vf_len_clst, vf_int, vf_tup, vf_list_tup, vf_sorted_tup, vf_sorted_clst, vf_all, vf_any, vf_sum, vf_tup_clst, vf_list_clst, vf_min2, vf_max2, vf_abs, va_add, va_sub, put_name, put_tup, put_clst, puts_nil, puts_cons, wipe, List.getElem?_cons_zero, List.getElem?_cons_succ, List.getElem?_nil, List.set_cons_zero, List.set_cons_succ, List.length_cons, List.length_nil, List.any_cons, List.any_nil, isTy, String.reduceBEq, String.reduceEq, Bool.false_and, Bool.and_false, Bool.true_and, Bool.and_true, Bool.or_false, Bool.false_or, Bool.or_true, Bool.true_or, Bool.not_true, Bool.not_false, if_true, if_false, Bool.false_eq_true, reduceIte, reduceCtorEq, Nat.reduceAdd, Nat.reduceLT, Nat.lt_add_one, and_self, true_and, and_true, rangeOf, BEq.rfl, bne_self_eq_false, Nat.reduceLeDiff, Nat.zero_lt_succ, Nat.zero_lt_one])
section
variable {T : Tb} {k r : Nat} {S : Sto} {sc : List Int}
theorem fx_tup {l : List D} (h : ∀ x ∈ l, ∀ (n : Nat) (S : Sto), frzD 39 n S x = some x) : Fx (.tup l) := fun n S => by
  show frzD (39 + 1) n S (.tup l) = _
  simp only [frzD]
  have e : l.mapM (frzD 39 n S) = some l := by
    have := mapM_map_some (g := frzD 39 n S) (u := fun x : D => x) (w := fun x : D => x) (l := l) fun x hx => h x hx n S
    simpa using this
  rw [e]
  rfl
theorem lawcase_w [Fn T law_taken_d] [Fn T law_pick_d] [Fn T law_word_d] [Fn T law_sorter_d] [Fn T law_row_d] [Fn T law_lot_d] [Fn T law_turned_d] [Fn T law_swap_d] [Fn T law_run_d] [Fn T law_end_d] [Fn T law_goal_d] [Fn T law_case_d] {mc most : Int} {Q : D → Sto → Prop} {E : XP} (hd : Draw S r sc) (hc : 1 ≤ mc) (hm : 0 ≤ most) (hm2 : most < 1000)
    (hQ : ∀ (n : Int) (w g : List Int) S', 1 ≤ n → n ≤ mc → n ≤ 5 → IsWord w n → (w.length : Int) ≤ most → IsRow g n → Dn S r sc S' → Q (.tup [.int n, tI w, tI g]) S') : Wp (callF T (k + 5) "_law_case" [.ref r, .int mc, .int most]) S Q E := by
  refine fz_call law_case_d rfl rfl ?_
  show Wp (evSs (T.ctx (k + 4)) law_case_b [some (.ref r), some (.int mc), some (.int most), none, none, none]) S _ _
  have fin : ∀ (n : Int) (w g : List Int) S', 1 ≤ n → n ≤ mc → n ≤ 5 → IsWord w n → (w.length : Int) ≤ most → IsRow g n → Dn S r sc S' → 3 ≤ sizeLine ∧ FzQ S Q (.tup [.int n, tI w, tI g]) S' := fun n w g S' a b c d e f h => by
    refine ⟨by decide, ?_⟩
    rw [fzq_dn h (fx_tup fun x hx n2 S2 => ?_)]
    · exact hQ n w g S' a b c d e f h
    · rcases List.mem_cons.mp hx with rfl | hx
      · exact encI.frz S2 n (by decide)
      · rcases List.mem_cons.mp hx with rfl | hx
        · exact encTI.frz S2 w (by decide)
        · rw [List.mem_singleton.mp hx]
          exact encTI.frz S2 g (by decide)
  unfold law_case_b
  walk_at "pi"
  refine ⟨by decide, ?_⟩
  rw [show [D.int 1, D.int 2, D.int 3, D.int 3, D.int 4, D.int 4, D.int 5, D.int 5] = ([1, 2, 3, 3, 4, 4, 5, 5] : List Int).map .int from rfl]
  walk_at "pi"
  refine comp_filter ([1, 2, 3, 3, 4, 4, 5, 5] : List Int) .int (fun c => decide (c ≤ mc)) (List.length_map _) (by decide) (fun i => rfl) (fun c hc => ?_) ?_
  · walk_at "pi"
    by_cases q : c ≤ mc
    · simp only [q, decide_true, if_true]
    · simp only [q, decide_false, Bool.false_eq_true, if_false]
  walk_at "pi"
  refine pick_w hd ?_ ?_ (fun x hx => ?_) fun x hx S1 hD1 => ?_
  · intro e
    have h1 : (1 : Int) ∈ ([1, 2, 3, 3, 4, 4, 5, 5] : List Int).filter fun c => decide (c ≤ mc) := by
      rw [List.mem_filter]
      exact ⟨by decide, decide_eq_true hc⟩
    rw [List.map_eq_nil_iff] at e
    rw [e] at h1
    cases h1
  · rw [List.length_map]
    have := (List.filter_sublist (l := ([1, 2, 3, 3, 4, 4, 5, 5] : List Int)) (p := fun c => decide (c ≤ mc))).length_le
    simp only [List.length_cons, List.length_nil] at this
    omega
  · obtain ⟨i, _, rfl⟩ := List.mem_map.mp hx
    exact fx_int i
  · obtain ⟨n, hn, rfl⟩ := List.mem_map.mp hx
    rw [List.mem_filter, decide_eq_true_iff] at hn
    have hn2 : 1 ≤ n ∧ n ≤ 5 := by
      have := hn.1
      simp only [List.mem_cons, List.not_mem_nil, or_false] at this
      omega
    have hd1 := hd.after hD1
    walk_at "pi"
    refine lawword_w hd1 (by omega) hm (by omega) fun w S2 hw hwl hD2 => ?_
    have hD2' := hD1.trans hD2
    have hd2 := hd.after hD2'
    have goal : ∀ (w : List Int) (S3 : Sto), IsWord w n → (w.length : Int) ≤ most → Dn S r sc S3 → Wp (fzM (callK T (k + 4) "_law_goal" [D.ref r, D.int n, tI w])) S3 (fun x S1 => 3 ≤ sizeLine ∧ FzQ S Q (D.tup [D.int n, tI w, x]) S1) (FzE S E) := fun w S3 hw hwl hD3 => by
      refine lawgoal_w (hd.after hD3) (by omega) (by omega) hw (by omega) fun g S4 hg hD4 => ?_
      exact fin n w g S4 hn2.1 hn.2 hn2.2 hw hwl hg (hD3.trans hD4)
    split
    · refine taken_w hd2 (by decide) (by decide) fun j S3 j0 j1 hD3 => ?_
      have hD3' := hD2'.trans hD3
      have hd3 := hd.after hD3'
      walk_at "pi"
      split
      · refine lawsorter_w (by omega) (by omega) fun u hu hul => ?_
        refine lawword_w hd3 (by omega) (by decide) (by decide) fun v S4 hv hvl hD4 => ?_
        walk_at "pi"
        rw [← List.map_append, cut_int_pre _ hm]
        refine ⟨by rw [List.length_map, List.length_map, sizeLine_eq]; omega, ?_⟩
        exact goal _ S4 ((hu.app hv).sub (List.take_sublist _ _)) (by rw [List.length_take]; omega) (hD3'.trans hD4)
      · exact goal w S3 hw hwl hD3'
    · exact goal w S2 hw hwl hD2'
theorem lawfar_w [Fn T law_far_d] {a b : List Int} (hl : a.length = b.length) (h1 : a.length ≤ 1000) [Decidable (MoreA a b)] : Ret (callF T (k + 1) "_law_far" [tI a, tI b]) (.bl (decide (MoreA a b))) := by
  refine ret_call law_far_d rfl rfl fun S => ?_
  show Wp (evSs (T.ctx k) law_far_b [some (tI a), some (tI b), none, none, none]) S _ _
  unfold law_far_b
  walk_at "pi"
  rw [List.length_map]
  have rg : rgOk 0 ((a.length : Int) + 1) = true := rgOk_of (by omega) (by omega) (by omega) (by omega)
  refine ⟨rg, ?_⟩
  refine for_list ((upI 0 ((a.length : Int) + 1)).map .int) (fun i env S' => S' = S ∧ ∃ (x y : Option D), env = [some (tI a), some (tI b), x, y, none] ∧ ∀ p v : Int, 0 ≤ p → p < i → 0 ≤ v → v < a.length + 1 → lessF b p v ≤ lessF a p v) (by rw [List.length_map, upI_length]) ⟨rfl, none, none, rfl, fun p v h0 h1 => by omega⟩ (fun i env S' _ => by rw [rangeL_upI]) (fun i x env S' hx ⟨hS, x0, y0, he, hI⟩ => ?_) (fun env S' ⟨hS, x0, y0, he, hI⟩ => ?_)
  · subst he hS
    rw [List.getElem?_map, Option.map_eq_some_iff] at hx
    obtain ⟨p, hp, rfl⟩ := hx
    have hi := lt_len hp
    rw [upI_length] at hi
    rw [upI_get hi] at hp
    have hp2 : p = i := by have := Option.some.inj hp; omega
    subst hp2
    walk_at "pi"
    rw [List.length_map]
    refine ⟨rg, ?_⟩
    refine for_list ((upI 0 ((a.length : Int) + 1)).map .int) (fun j env S2 => S2 = S' ∧ ∃ (y : Option D), env = [some (tI a), some (tI b), some (.int i), y, none] ∧ ∀ v : Int, 0 ≤ v → v < j → lessF b i v ≤ lessF a i v) (by rw [List.length_map, upI_length]) ⟨rfl, y0, rfl, fun v h0 h1 => by omega⟩ (fun i env S' _ => by rw [rangeL_upI]) (fun j x env S2 hx ⟨hS, y1, he, hJ⟩ => ?_) (fun env S2 ⟨hS, y1, he, hJ⟩ => ?_)
    · subst he hS
      rw [List.getElem?_map, Option.map_eq_some_iff] at hx
      obtain ⟨v, hv, rfl⟩ := hx
      have hj := lt_len hv
      rw [upI_length] at hj
      rw [upI_get hj] at hv
      have hv2 : v = j := by have := Option.some.inj hv; omega
      subst hv2
      walk_at "pi"
      rw [cut_int_pre _ (by omega)]
      refine comp_filter (a.take (i : Int).toNat) .int (fun c => decide (c < (j : Int))) (List.length_map _) (by rw [List.length_take, sizeLine_eq]; omega) (fun i => rfl) (fun c hc => ?_) ?_
      · walk_at "pi"
        by_cases q : c < (j : Int)
        · simp only [q, decide_true, if_true]
        · simp only [q, decide_false, Bool.false_eq_true, if_false]
      walk_at "pi"
      rw [cut_int_pre _ (by omega)]
      refine comp_filter (b.take (i : Int).toNat) .int (fun c => decide (c < (j : Int))) (List.length_map _) (by rw [List.length_take, sizeLine_eq]; omega) (fun i => rfl) (fun c hc => ?_) ?_
      · walk_at "pi"
        by_cases q : c < (j : Int)
        · simp only [q, decide_true, if_true]
        · simp only [q, decide_false, Bool.false_eq_true, if_false]
      walk_at "pi"
      rw [List.length_map, List.length_map]
      by_cases q : lessF a i j < lessF b i j
      · have q' := q
        unfold lessF at q'
        simp only [q', decide_true, if_true]
        have : ¬ MoreA a b := fun z => by
          have := z i j (by omega) (by omega) (by omega) (by omega)
          omega
        rw [decide_eq_false this]
      · have q' := q
        unfold lessF at q'
        simp only [q', decide_false, Bool.false_eq_true, if_false]
        refine ⟨_, rfl, fun v v0 v1 => ?_⟩
        by_cases z : v < j
        · exact hJ v v0 z
        · rw [show v = (j : Int) by omega]
          omega
    · subst he hS
      rw [List.length_map, upI_length] at hJ
      walk_at "pi"
      refine ⟨_, _, rfl, fun p v p0 p1 v0 v1 => ?_⟩
      by_cases z : p < i
      · exact hI p v p0 z v0 v1
      · rw [show p = (i : Int) by omega]
        exact hJ v v0 (by omega)
  · subst he hS
    rw [List.length_map, upI_length] at hI
    walk_at "pi"
    have : MoreA a b := fun p v p0 p1 v0 v1 => hI p v p0 (by omega) v0 v1
    rw [decide_eq_true this]
theorem lawsubsets_w [Fn T law_subsets_d] {n : Nat} (h1 : n ≤ 16) : Ret (callF T (k + 1) "_law_subsets" [.int n]) (.clst ((subsA n).map tI)) := by
  refine ret_call law_subsets_d rfl rfl fun S => ?_
  show Wp (evSs (T.ctx k) law_subsets_b [some (.int n), none, none, none]) S _ _
  unfold law_subsets_b
  walk_at "pi"
  refine ⟨Nat.zero_le _, by decide, ?_⟩
  have e0 : ([D.tup []] : List D) = (subsA 0).map tI := rfl
  rw [e0]
  walk_at "pi"
  refine ⟨rgOk_of (by omega) (by omega) (by omega) (by omega), ?_⟩
  refine for_list ((upI 0 n).map .int) (fun i env S' => S' = S ∧ ∃ (x : Option D), env = [some (.int n), some (.clst ((subsA i).map tI)), x, none]) (by rw [List.length_map, upI_length]) ⟨rfl, none, rfl⟩ (fun i env S' _ => by rw [rangeL_upI]) (fun i x env S' hx ⟨hS, x0, he⟩ => ?_) (fun env S' ⟨hS, x0, he⟩ => ?_)
  · subst he hS
    rw [List.getElem?_map, Option.map_eq_some_iff] at hx
    obtain ⟨p, hp, rfl⟩ := hx
    have hi := lt_len hp
    rw [upI_length] at hi
    rw [upI_get hi] at hp
    have hp2 : p = i := by have := Option.some.inj hp; omega
    subst hp2
    have hz : (subsA i).length ≤ 65536 := by
      rw [subsA_length]
      have : 2 ^ i ≤ 2 ^ 16 := Nat.pow_le_pow_right (by decide) (by omega)
      omega
    walk_at "pi"
    refine comp_map (subsA i) tI tI (fun l => l ++ [(i : Int)]) (List.length_map _) (by rw [sizeLine_eq]; omega) (fun i => rfl) (fun l hl => ?_) ?_
    · have hll := ((subsA_lot i l).mp hl).len
      walk_at "pi"
      rw [show List.map D.int l ++ [D.int i] = (l ++ [(i : Int)]).map D.int by rw [List.map_append]; rfl, fzq_tup]
      refine ⟨by decide, by rw [List.length_map, sizeLine_eq]; omega, rfl, rfl⟩
    · walk_at "pi"
      rw [vb_addL (its_clst _ _) (its_clst _ _) rfl rfl, ← List.map_append]
      refine ⟨by rw [List.length_map, List.length_map, List.length_map, sizeLine_eq]; omega, ?_⟩
      walk_at "pi"
      exact ⟨_, rfl⟩
  · subst he hS
    rw [List.length_map, upI_length]
    walk_at "pi"
    rw [fzq_enc (encL encTI) (by decide), show ((n : Int) - 0).toNat = n by omega]
    exact ⟨rfl, rfl⟩
theorem lawleads_w [Fn T law_turned_d] [Fn T law_swap_d] [Fn T law_leads_d] {n : Int} {w places goal : List Int} (h0 : 0 ≤ n) (h1 : n ≤ 1000) (hw : IsWord w n) (hp : IsLot places w.length) : Ret (callF T (k + 2) "_law_leads" [.int n, tI w, tI places, tI goal]) (.bl (leadsF w goal (turnedF n) places)) := by
  refine ret_call law_leads_d rfl rfl fun S => ?_
  show Wp (evSs (T.ctx (k + 1)) law_leads_b [some (.int n), some (tI w), some (tI places), some (tI goal), none, none]) S _ _
  unfold law_leads_b
  walk_at "pi"
  rw [(lawturned_w h0 (by omega)).wp]
  refine for_list (places.map .int) (fun i env S' => S' = S ∧ ∃ (row : List Int) (x : Option D), env = [some (.int n), some (tI w), some (tI places), some (tI goal), some (tI row), x] ∧ row.length = n.toNat ∧ leadsF w goal row (places.drop i) = leadsF w goal (turnedF n) places) rfl ⟨rfl, turnedF n, none, rfl, turnedF_length n, rfl⟩ (fun i env S' _ => rfl) (fun i x env S' hx ⟨hS, row, x0, he, hrl, hb⟩ => ?_) (fun env S' ⟨hS, row, x0, he, hrl, hb⟩ => ?_)
  · subst he hS
    rw [List.getElem?_map, Option.map_eq_some_iff] at hx
    obtain ⟨p, hpl, rfl⟩ := hx
    have hpm := hp.mem (List.mem_of_getElem? hpl)
    have hdm := hw _ (List.mem_of_getElem? (getD_of (row := w) (i := p.toNat) (by omega)))
    rw [drop_step hpl, leadsF] at hb
    walk_at "pi"
    rw [at_int (by omega) (by omega)]
    dsimp only
    rw [vx_tup, at_int (by omega) (by omega)]
    dsimp only
    rw [vb_add, vx_tup, at_int (by omega) (by omega)]
    dsimp only
    rw [vc_lt]
    by_cases q : row.getD (w.getD p.toNat 0).toNat 0 < row.getD (w.getD p.toNat 0 + 1).toNat 0
    · rw [if_pos q] at hb
      simp only [q, decide_true, if_true]
      rw [← hb, fzq_bl]
      exact ⟨rfl, rfl⟩
    · rw [if_neg q] at hb
      simp only [q, decide_false, Bool.false_eq_true, if_false]
      rw [(lawswap_w hdm.1 (by omega) (by omega)).wp]
      exact ⟨rfl, _, _, rfl, by rw [swapF_length hdm.1 (by omega)]; exact hrl, hb⟩
  · subst he hS
    rw [List.length_map, List.drop_length] at hb
    walk_at "pi"
    rw [ve_tI]
    walk_at "pi"
    rw [← hb]
    rfl
end
end Pi

/-! How sorted rows are, and the words that lead from one to another. -/
namespace Pi
open PySem
/-! ### the order -/
def CntLe (a b : List Int) : Prop := ∀ (v : Int) (p : Nat), cnt a v p ≤ cnt b v p
theorem less_cnt (row : List Int) (i v : Int) : lessF row i v = ((row.take i.toNat).length : Nat) - cnt row v i.toNat := by
  unfold lessF cnt
  have h := List.length_eq_countP_add_countP (fun x => decide (v ≤ x)) (l := row.take i.toNat)
  have e : (row.take i.toNat).countP (fun a => decide ¬(decide (v ≤ a) = true)) = ((row.take i.toNat).filter fun c => decide (c < v)).length := by
    rw [List.countP_eq_length_filter]
    congr 1
    apply List.filter_congr
    intro x _
    by_cases q : v ≤ x
    · simp [q]
    · simp [q]; omega
  rw [e] at h
  omega
theorem cnt_clip {a : List Int} {n : Int} (ha : IsRow a n) (v : Int) (p : Nat) : cnt a v p = cnt a v (min p n.toNat) := by
  unfold cnt
  rcases Nat.le_total p n.toNat with q | q
  · rw [Nat.min_eq_left q]
  · rw [Nat.min_eq_right q, List.take_of_length_le (by rw [ha.len]; omega), List.take_of_length_le (by rw [ha.len]; omega)]
theorem cnt_all {a b : List Int} {n : Int} (ha : IsRow a n) (hb : IsRow b n) (v : Int) : cnt a v n.toNat = cnt b v n.toNat := by
  unfold cnt
  rw [List.take_of_length_le (by rw [ha.len]; omega), List.take_of_length_le (by rw [hb.len]; omega), (ha.trans hb.symm).countP_eq]
theorem cnt_low {a : List Int} {n : Int} (ha : IsRow a n) {v : Int} (hv : v ≤ 0) : ∀ p : Nat, cnt a v p = (min p n.toNat : Nat) := by
  intro p
  unfold cnt
  have e : (a.take p).countP (fun x => decide (v ≤ x)) = (a.take p).length := by
    rw [List.countP_eq_length]
    intro x hx
    have := ha.mem (List.mem_of_mem_take hx)
    exact decide_eq_true (by omega)
  rw [e, List.length_take, ha.len]
theorem cnt_high {a : List Int} {n : Int} (ha : IsRow a n) {v : Int} (hv : n ≤ v) : ∀ p : Nat, cnt a v p = 0 := by
  intro p
  unfold cnt
  have e : (a.take p).countP (fun x => decide (v ≤ x)) = 0 := by
    rw [List.countP_eq_zero]
    intro x hx
    have := ha.mem (List.mem_of_mem_take hx)
    simp
    omega
  rw [e]
  rfl
theorem more_cnt {a b : List Int} {n : Int} (ha : IsRow a n) (hb : IsRow b n) (h0 : 0 ≤ n) : MoreF a b ↔ CntLe a b := by
  have la := ha.leni h0
  have lb := hb.leni h0
  constructor
  · intro h v p
    rcases Int.lt_or_le 0 v with v0 | v0
    · rcases Int.lt_or_le v n with vn | vn
      · rw [cnt_clip ha, cnt_clip hb]
        rcases Nat.eq_zero_or_pos (min p n.toNat) with z | z
        · rw [z, cnt_zero, cnt_zero]; exact Int.le_refl _
        · rcases Nat.lt_or_ge (min p n.toNat) n.toNat with y | y
          · have := h (min p n.toNat : Nat) v (by omega) (by omega) (by omega) (by omega)
            rw [less_cnt, less_cnt, Int.toNat_natCast, List.length_take, List.length_take] at this
            omega
          · rw [show min p n.toNat = n.toNat by omega, cnt_all ha hb]
            exact Int.le_refl _
      · rw [cnt_high ha vn, cnt_high hb vn]; exact Int.le_refl _
    · rw [cnt_low ha v0, cnt_low hb v0]; exact Int.le_refl _
  · intro h i v i0 i1 v0 v1
    have := h v i.toNat
    rw [less_cnt, less_cnt, List.length_take, List.length_take]
    omega
theorem moreA_cnt {a b : List Int} {n : Int} (ha : IsRow a n) (hb : IsRow b n) (h0 : 0 ≤ n) : MoreA a b ↔ CntLe a b := by
  have la := ha.leni h0
  have lb := hb.leni h0
  constructor
  · intro h
    exact (more_cnt ha hb h0).mp fun i v i0 i1 v0 v1 => h i v (by omega) (by omega) (by omega) (by omega)
  · intro h i v i0 i1 v0 v1
    have := h v i.toNat
    rw [less_cnt, less_cnt, List.length_take, List.length_take]
    omega
theorem cnt_anti {a b : List Int} {n : Int} (ha : IsRow a n) (hb : IsRow b n) (h1 : CntLe a b) (h2 : CntLe b a) : a = b :=
  eq_of_cnt (by rw [ha.len, hb.len]) fun v _ p => Int.le_antisymm (h1 v p) (h2 v p)
theorem cnt_up_min {a : List Int} {n : Int} (h0 : 0 ≤ n) (ha : IsRow a n) : CntLe (upI 0 n) a := by
  intro v p
  rw [cnt_clip ha, cnt_clip (upI_row n)]
  rcases Int.lt_or_le 0 v with v0 | v0
  · have e1 : ∀ q : Nat, q ≤ n.toNat → cnt (upI 0 n) v q = max 0 ((q : Int) - v) := by
      intro q
      induction q with
      | zero => intro _; rw [cnt_zero]; omega
      | succ q ih =>
        intro hq
        rw [cnt_succ (upI_get (by omega)), ih (by omega)]
        split <;> omega
    have t0 := cnt_all ha (upI_row n) v
    rw [e1 _ (Nat.le_refl _)] at t0
    rw [e1 _ (Nat.min_le_right _ _)]
    have t2 := (cnt_mono a v (Nat.min_le_right p n.toNat)).2
    have t3 := (cnt_mono a v (Nat.zero_le (min p n.toNat))).1
    rw [cnt_zero] at t3
    omega
  · rw [cnt_low (upI_row n) v0, cnt_low ha v0]
    exact Int.le_refl _
theorem cnt_turned_max {a : List Int} {n : Int} (h0 : 0 ≤ n) (ha : IsRow a n) : CntLe a (turnedF n) := by
  intro v p
  rcases Int.lt_or_le 0 v with v0 | v0
  · rcases Int.lt_or_le v n with vn | vn
    · have t1 := cnt_turned h0 (m := (n - v).toNat) (by omega) p
      rw [show n - ((n - v).toNat : Int) = v by omega] at t1
      rw [t1]
      have t2 := (cnt_mono a v (Nat.zero_le p)).2
      rw [cnt_zero] at t2
      have t3 : cnt a v p ≤ cnt a v n.toNat := by
        rw [cnt_clip ha]
        exact (cnt_mono a v (Nat.min_le_right _ _)).1
      rw [cnt_all ha (turnedF_row n)] at t3
      have t4 := cnt_turned h0 (m := (n - v).toNat) (by omega) n.toNat
      rw [show n - ((n - v).toNat : Int) = v by omega] at t4
      omega
    · rw [cnt_high ha vn, cnt_high (turnedF_row n) vn]; exact Int.le_refl _
  · rw [cnt_low (turnedF_row n) v0, cnt_low ha v0]; exact Int.le_refl _
/-! ### more deeds, more sorted -/
def Slope (f : Nat → Int) : Prop := ∀ p, f p ≤ f (p + 1) ∧ f (p + 1) ≤ f p + 1
theorem slope_cnt (row : List Int) (v : Int) : Slope (cnt row v) := fun p => cnt_step row v p
theorem slope_op {f : Nat → Int} (h : Slope f) (d : Int) : Slope (opF f d) := by
  intro p
  unfold opF
  have h1 := h d.toNat
  have h2 := h (d.toNat + 1)
  have h3 := h p
  by_cases q : p = d.toNat + 1
  · subst q
    rw [if_pos rfl, if_neg (by omega)]
    show max (f d.toNat) (f (d.toNat + 1 + 1) - 1) ≤ f (d.toNat + 1 + 1) ∧ _ ≤ max (f d.toNat) (f (d.toNat + 1 + 1) - 1) + 1
    omega
  · by_cases q2 : p + 1 = d.toNat + 1
    · have : p = d.toNat := by omega
      subst this
      rw [if_neg q, if_pos rfl]
      show f d.toNat ≤ max (f d.toNat) (f (d.toNat + 1 + 1) - 1) ∧ max (f d.toNat) (f (d.toNat + 1 + 1) - 1) ≤ f d.toNat + 1
      omega
    · rw [if_neg q, if_neg q2]
      exact h3
theorem op_down {f : Nat → Int} (h : Slope f) (d : Int) (p : Nat) : opF f d p ≤ f p := by
  unfold opF
  split
  · rename_i q
    subst q
    have h1 := h d.toNat
    have h2 := h (d.toNat + 1)
    show max (f d.toNat) (f (d.toNat + 1 + 1) - 1) ≤ f (d.toNat + 1)
    omega
  · exact Int.le_refl _
theorem op1_le {f g : Nat → Int} (h : ∀ p, f p ≤ g p) (d : Int) (p : Nat) : opF f d p ≤ opF g d p := by
  have := op_le h [d] p
  exact this
theorem op_sub {u w : List Int} (hs : u.Sublist w) : ∀ {f g : Nat → Int}, Slope f → (∀ p, f p ≤ g p) → ∀ p, w.foldl opF f p ≤ u.foldl opF g p := by
  induction hs with
  | slnil => exact fun _ h => h
  | cons d _ ih => exact fun hf h => ih (slope_op hf d) fun p => Int.le_trans (op_down hf d p) (h p)
  | cons_cons d _ ih => exact fun hf h => ih (slope_op hf d) (op1_le h d)
theorem behind_sub {u w row : List Int} (hs : u.Sublist w) (hw : IsWord w row.length) : CntLe (behindF row w) (behindF row u) := by
  intro v p
  rw [cnt_behind v hw p, cnt_behind v (hw.sub hs) p]
  exact op_sub hs (slope_cnt row v) (fun _ => Int.le_refl _) p
/-- what a part of a word sorts, the word sorts -/
theorem sub_sorts {u w row : List Int} {n : Int} (h0 : 0 ≤ n) (hr : IsRow row n) (hs : u.Sublist w) (hw : IsWord w n) (h : behindF row u = upI 0 n) : behindF row w = upI 0 n := by
  have := behind_sub hs (row := row) (by rw [hr.leni h0]; exact hw)
  rw [h] at this
  exact cnt_anti (behindF_row hr hw) (upI_row n) this (cnt_up_min h0 (behindF_row hr hw))
end Pi

/-! The words that lead from the turned row to a goal. -/
namespace Pi
open PySem
theorem upI_cons {lo hi : Int} (h : lo < hi) : upI lo hi = lo :: upI (lo + 1) hi := by
  apply List.ext_getElem?
  intro i
  cases i with
  | zero => rw [upI_get (by omega)]; simp
  | succ i =>
    rw [List.getElem?_cons_succ]
    rcases Nat.lt_or_ge (i + 1) (hi - lo).toNat with q | q
    · rw [upI_get q, upI_get (by omega)]
      congr 1
      omega
    · rw [List.getElem?_eq_none (by rw [upI_length]; omega), List.getElem?_eq_none (by rw [upI_length]; omega)]
theorem upI_nil {lo hi : Int} (h : hi ≤ lo) : upI lo hi = [] := List.length_eq_zero_iff.mp (by rw [upI_length]; omega)
theorem swapF_get {row : List Int} {d : Int} (h0 : 0 ≤ d) (h1 : d + 1 < row.length) (p : Nat) : (swapF row d)[p]? = if p = d.toNat then row[d.toNat + 1]? else if p = d.toNat + 1 then row[d.toNat]? else row[p]? := by
  unfold swapF
  have e1 : (d + 1).toNat = d.toNat + 1 := by omega
  have e2 : (d + 2).toNat = d.toNat + 2 := by omega
  rw [e1, e2, List.append_assoc]
  rcases Nat.lt_or_ge p d.toNat with q | q
  · rw [List.getElem?_append_left (by rw [List.length_take]; omega), List.getElem?_take_of_lt q, if_neg (by omega), if_neg (by omega)]
  · rw [List.getElem?_append_right (by rw [List.length_take]; omega), List.length_take, Nat.min_eq_left (by omega)]
    rcases Nat.lt_or_ge p (d.toNat + 2) with z | z
    · by_cases y : p = d.toNat
      · subst y
        rw [Nat.sub_self, if_pos rfl, getD_of (show d.toNat + 1 < row.length by omega)]
        rfl
      · have : p = d.toNat + 1 := by omega
        subst this
        rw [if_neg (by omega), if_pos rfl, show d.toNat + 1 - d.toNat = 1 by omega, getD_of (show d.toNat < row.length by omega)]
        rfl
    · rw [if_neg (by omega), if_neg (by omega), List.getElem?_append_right (by simp; omega), List.getElem?_drop]
      simp only [List.length_cons, List.length_nil]
      congr 1
      omega
theorem swapF_at {row : List Int} {d : Int} (h0 : 0 ≤ d) (h1 : d + 1 < row.length) : (swapF row d).getD d.toNat 0 = row.getD (d + 1).toNat 0 ∧ (swapF row d).getD (d + 1).toNat 0 = row.getD d.toNat 0 := by
  have e1 : (d + 1).toNat = d.toNat + 1 := by omega
  have hl := swapF_length (row := row) h0 h1
  have a := swapF_get h0 h1 d.toNat
  have b := swapF_get h0 h1 (d.toNat + 1)
  rw [if_pos rfl, getD_of (by omega), getD_of (by omega)] at a
  rw [if_neg (by omega), if_pos rfl, getD_of (by omega), getD_of (by omega)] at b
  rw [e1]
  exact ⟨Option.some.inj a, Option.some.inj b⟩
theorem swapF_swapF {row : List Int} {d : Int} (h0 : 0 ≤ d) (h1 : d + 1 < row.length) : swapF (swapF row d) d = row := by
  apply List.ext_getElem?
  intro p
  have hl := swapF_length (row := row) h0 h1
  rw [swapF_get h0 (by omega), swapF_get h0 h1, swapF_get h0 h1, swapF_get h0 h1]
  by_cases y : p = d.toNat
  · subst y
    rw [if_pos rfl, if_neg (by omega), if_pos rfl]
  · rw [if_neg y]
    by_cases z : p = d.toNat + 1
    · subst z
      rw [if_pos rfl, if_pos rfl]
    · rw [if_neg z, if_neg y, if_neg z]
theorem map_getD {row : List Int} (f : Int → Int) {p : Nat} (h : p < row.length) : (row.map f).getD p 0 = f (row.getD p 0) := by
  have h1 : (row.map f)[p]? = (row[p]?).map f := List.getElem?_map
  rw [getD_of h, getD_of (by rw [List.length_map]; exact h)] at h1
  exact Option.some.inj h1
theorem swapF_map {row : List Int} (f : Int → Int) {d : Int} (h0 : 0 ≤ d) (h1 : d + 1 < row.length) : swapF (row.map f) d = (swapF row d).map f := by
  unfold swapF
  rw [map_getD f (by omega), map_getD f (by omega)]
  simp only [List.map_append, List.map_take, List.map_drop, List.map_cons, List.map_nil]
theorem row_ne {row : List Int} {n d : Int} (hr : IsRow row n) (h0 : 0 ≤ d) (h1 : d + 1 < row.length) : row.getD d.toNat 0 ≠ row.getD (d + 1).toNat 0 := by
  intro e
  have a := idx_of hr.nodup (getD_of (row := row) (i := d.toNat) (by omega))
  have b := idx_of hr.nodup (getD_of (row := row) (i := (d + 1).toNat) (by omega))
  rw [e] at a
  omega
/-! ### rows by the places in the goal -/
def pR (goal row : List Int) : List Int := row.map (posF goal)
theorem pR_self {goal : List Int} {n : Int} (hg : IsRow goal n) : pR goal goal = upI 0 n := by
  apply List.ext_getElem?
  intro p
  unfold pR
  rw [List.getElem?_map]
  have hl := hg.len
  rcases Nat.lt_or_ge p goal.length with q | q
  · rw [upI_get (by omega), getD_of q]
    show some (posF goal (goal.getD p 0)) = _
    unfold posF
    rw [idx_of hg.nodup (getD_of q)]
    congr 1
    omega
  · rw [List.getElem?_eq_none q, List.getElem?_eq_none (by rw [upI_length]; omega)]
    rfl
theorem pR_row {goal row : List Int} {n : Int} (hg : IsRow goal n) (hr : IsRow row n) : IsRow (pR goal row) n := by
  have h : (pR goal row).Perm (pR goal goal) := (hr.trans hg.symm).map _
  rw [pR_self hg] at h
  exact h
theorem pR_inj {goal row : List Int} {n : Int} (hg : IsRow goal n) (hr : IsRow row n) (h : pR goal row = upI 0 n) : row = goal := by
  apply List.ext_getElem?
  intro p
  have hl := hg.len
  have hl2 := hr.len
  rcases Nat.lt_or_ge p row.length with q | q
  · have h1 : (pR goal row)[p]? = (upI 0 n)[p]? := by rw [h]
    unfold pR at h1
    rw [List.getElem?_map, getD_of q, upI_get (by omega)] at h1
    have h2 : posF goal (row.getD p 0) = 0 + (p : Int) := by simpa using h1
    unfold posF at h2
    have hm : row.getD p 0 ∈ goal := (hg.mem_iff).mpr ((hr.mem_iff).mp (List.mem_of_getElem? (getD_of q)))
    have h3 := idx_get hm
    rw [show goal.idxOf (row.getD p 0) = p by omega] at h3
    rw [getD_of q, h3]
  · rw [List.getElem?_eq_none q, List.getElem?_eq_none (by omega)]
theorem pR_step {goal row : List Int} {d : Int} (h0 : 0 ≤ d) (h1 : d + 1 < row.length) : stepF (pR goal row) d = if posF goal (row.getD (d + 1).toNat 0) < posF goal (row.getD d.toNat 0) then pR goal (swapF row d) else pR goal row := by
  unfold stepF pR
  rw [map_getD _ (by omega), map_getD _ (by omega), swapF_map _ h0 h1]
theorem goF_sorts {goal : List Int} {n : Int} (h0 : 0 ≤ n) : ∀ (w : List Int) (i : Nat) (row : List Int), IsRow row n → IsWord w n → IsRow (goF goal [] i row w).2 n ∧ pR goal (goF goal [] i row w).2 = behindF (pR goal row) w
  | [], _, _, hr, _ => ⟨hr, rfl⟩
  | d :: w, i, row, hr, hw => by
    have hd := hw d List.mem_cons_self
    have hl := hr.leni h0
    have hw' : IsWord w n := fun x hx => hw x (List.mem_cons_of_mem _ hx)
    show IsRow (goF goal [] i row (d :: w)).2 n ∧ pR goal (goF goal [] i row (d :: w)).2 = behindF (stepF (pR goal row) d) w
    rw [pR_step hd.1 (by omega), goF]
    by_cases q : posF goal (row.getD (d + 1).toNat 0) < posF goal (row.getD d.toNat 0)
    · rw [if_pos ⟨by simp, q⟩, if_pos q]
      exact goF_sorts h0 w (i + 1) _ (swapF_row hr hd.1 (by omega)) hw'
    · rw [if_neg fun z => q z.2, if_neg q]
      exact goF_sorts h0 w (i + 1) row hr hw'
theorem goF_done {goal row : List Int} {n : Int} (h0 : 0 ≤ n) (hg : IsRow goal n) (hr : IsRow row n) {w : List Int} (hw : IsWord w n) (i : Nat) : (goF goal [] i row w).2 = goal ↔ behindF (pR goal row) w = upI 0 n := by
  obtain ⟨h1, h2⟩ := goF_sorts (goal := goal) h0 w i row hr hw
  constructor
  · intro h
    rw [← h2, h, pR_self hg]
  · intro h
    exact pR_inj hg h1 (by rw [h2, h])
/-! ### ways to the goal -/
def PathF (goal : List Int) : List Int → List Int → Prop
  | row, [] => row = goal
  | row, d :: u => row.getD (d + 1).toNat 0 < row.getD d.toNat 0 ∧ PathF goal (swapF row d) u
def AscF (goal row : List Int) : Prop := ∀ (i j : Nat) (x y : Int), i < j → row[i]? = some x → row[j]? = some y → x < y → posF goal x < posF goal y
theorem asc_turned (goal : List Int) (n : Int) : AscF goal (turnedF n) := by
  intro i j x y hij hx hy hxy
  have hi := lt_len hx
  have hj := lt_len hy
  rw [turnedF_length] at hi hj
  rw [turnedF_get hi] at hx
  rw [turnedF_get hj] at hy
  have := Option.some.inj hx
  have := Option.some.inj hy
  omega
theorem asc_self {goal : List Int} {n : Int} (hg : IsRow goal n) : AscF goal goal := by
  intro i j x y hij hx hy _
  unfold posF
  rw [idx_of hg.nodup hx, idx_of hg.nodup hy]
  omega
/-- pairs other than the one that is swapped keep their order -/
theorem asc_swap {goal row : List Int} {d : Int} (h0 : 0 ≤ d) (h1 : d + 1 < row.length) (hd : row.getD (d + 1).toNat 0 < row.getD d.toNat 0) : (AscF goal row ∧ posF goal (row.getD (d + 1).toNat 0) < posF goal (row.getD d.toNat 0)) ↔ AscF goal (swapF row d) := by
  have e1 : (d + 1).toNat = d.toNat + 1 := by omega
  have hl := swapF_length (row := row) h0 h1
  rw [e1] at hd ⊢
  constructor
  · rintro ⟨ha, hp⟩ i j x y hij hx hy hxy
    rw [swapF_get h0 h1] at hx hy
    have key : ∀ i' j' : Nat, i' < j' → row[i']? = some x → row[j']? = some y → posF goal x < posF goal y := fun i' j' h a b => ha i' j' x y h a b hxy
    by_cases a1 : i = d.toNat
    · rw [if_pos a1] at hx
      by_cases b1 : j = d.toNat + 1
      · rw [if_neg (by omega), if_pos b1] at hy
        rw [getD_of (by omega)] at hx hy
        rw [← Option.some.inj hx, ← Option.some.inj hy]
        exact hp
      · rw [if_neg (by omega), if_neg b1] at hy
        exact key _ _ (by omega) hx hy
    · rw [if_neg a1] at hx
      by_cases a2 : i = d.toNat + 1
      · rw [if_pos a2] at hx
        rw [if_neg (by omega), if_neg (by omega)] at hy
        exact key _ _ (by omega) hx hy
      · rw [if_neg a2] at hx
        by_cases b1 : j = d.toNat
        · rw [if_pos b1] at hy
          exact key _ _ (by omega) hx hy
        · rw [if_neg b1] at hy
          by_cases b2 : j = d.toNat + 1
          · rw [if_pos b2] at hy
            exact key _ _ (by omega) hx hy
          · rw [if_neg b2] at hy
            exact key _ _ hij hx hy
  · intro ha
    refine ⟨?_, ?_⟩
    · intro i j x y hij hx hy hxy
      have key : ∀ i' j' : Nat, i' < j' → (swapF row d)[i']? = some x → (swapF row d)[j']? = some y → posF goal x < posF goal y := fun i' j' h a b => ha i' j' x y h a b hxy
      by_cases a1 : i = d.toNat
      · have sx : (swapF row d)[d.toNat + 1]? = some x := by rw [swapF_get h0 h1, if_neg (by omega), if_pos rfl, ← a1]; exact hx
        by_cases b1 : j = d.toNat + 1
        · rw [a1, getD_of (by omega)] at hx
          rw [b1, getD_of (by omega)] at hy
          have := Option.some.inj hx
          have := Option.some.inj hy
          omega
        · have sy : (swapF row d)[j]? = some y := by rw [swapF_get h0 h1, if_neg (by omega), if_neg b1]; exact hy
          exact key _ _ (by omega) sx sy
      · by_cases a2 : i = d.toNat + 1
        · have sx : (swapF row d)[d.toNat]? = some x := by rw [swapF_get h0 h1, if_pos rfl, ← a2]; exact hx
          have sy : (swapF row d)[j]? = some y := by rw [swapF_get h0 h1, if_neg (by omega), if_neg (by omega)]; exact hy
          exact key _ _ (by omega) sx sy
        · have sx : (swapF row d)[i]? = some x := by rw [swapF_get h0 h1, if_neg a1, if_neg a2]; exact hx
          by_cases b1 : j = d.toNat
          · have sy : (swapF row d)[d.toNat + 1]? = some y := by rw [swapF_get h0 h1, if_neg (by omega), if_pos rfl, ← b1]; exact hy
            exact key _ _ (by omega) sx sy
          · by_cases b2 : j = d.toNat + 1
            · have sy : (swapF row d)[d.toNat]? = some y := by rw [swapF_get h0 h1, if_pos rfl, ← b2]; exact hy
              exact key _ _ (by omega) sx sy
            · have sy : (swapF row d)[j]? = some y := by rw [swapF_get h0 h1, if_neg b1, if_neg b2]; exact hy
              exact key _ _ hij sx sy
    · have sx : (swapF row d)[d.toNat]? = some (row.getD (d.toNat + 1) 0) := by rw [swapF_get h0 h1, if_pos rfl, getD_of (by omega)]
      have sy : (swapF row d)[d.toNat + 1]? = some (row.getD d.toNat 0) := by rw [swapF_get h0 h1, if_neg (by omega), if_pos rfl, getD_of (by omega)]
      exact ha _ _ _ _ (by omega) sx sy hd
theorem path_asc {goal : List Int} {n : Int} (h0 : 0 ≤ n) (hg : IsRow goal n) : ∀ (u row : List Int), IsRow row n → IsWord u n → PathF goal row u → AscF goal row
  | [], row, _, _, h => by
    rw [PathF] at h
    subst h
    exact asc_self hg
  | d :: u, row, hr, hw, h => by
    have hd := hw d List.mem_cons_self
    have hl := hr.leni h0
    rw [PathF] at h
    exact ((asc_swap hd.1 (by omega) h.1).mpr (path_asc h0 hg u _ (swapF_row hr hd.1 (by omega)) (fun x hx => hw x (List.mem_cons_of_mem _ hx)) h.2)).1
theorem path_fall {goal : List Int} {n d : Int} {u row : List Int} (h0 : 0 ≤ n) (hg : IsRow goal n) (hr : IsRow row n) (hw : IsWord (d :: u) n) (h : PathF goal row (d :: u)) : posF goal (row.getD (d + 1).toNat 0) < posF goal (row.getD d.toNat 0) := by
  have hd := hw d List.mem_cons_self
  have hl := hr.leni h0
  rw [PathF] at h
  exact ((asc_swap hd.1 (by omega) h.1).mpr (path_asc h0 hg u _ (swapF_row hr hd.1 (by omega)) (fun x hx => hw x (List.mem_cons_of_mem _ hx)) h.2)).2
theorem path_sorts {goal : List Int} {n : Int} (h0 : 0 ≤ n) (hg : IsRow goal n) : ∀ (u row : List Int), IsRow row n → IsWord u n → PathF goal row u → behindF (pR goal row) u = upI 0 n
  | [], row, _, _, h => by
    rw [PathF] at h
    subst h
    exact pR_self hg
  | d :: u, row, hr, hw, h => by
    have hd := hw d List.mem_cons_self
    have hl := hr.leni h0
    have hf := path_fall h0 hg hr hw h
    rw [PathF] at h
    show behindF (stepF (pR goal row) d) u = _
    rw [pR_step hd.1 (by omega), if_pos hf]
    exact path_sorts h0 hg u _ (swapF_row hr hd.1 (by omega)) (fun x hx => hw x (List.mem_cons_of_mem _ hx)) h.2
theorem path_behind {goal : List Int} {n : Int} (h0 : 0 ≤ n) : ∀ (u row : List Int), IsRow row n → IsWord u n → PathF goal row u → behindF row u = goal
  | [], row, _, _, h => h
  | d :: u, row, hr, hw, h => by
    have hd := hw d List.mem_cons_self
    have hl := hr.leni h0
    rw [PathF] at h
    show behindF (stepF row d) u = _
    unfold stepF
    rw [if_pos h.1]
    exact path_behind h0 u _ (swapF_row hr hd.1 (by omega)) (fun x hx => hw x (List.mem_cons_of_mem _ hx)) h.2
theorem path_snoc {goal : List Int} {d : Int} : ∀ (u row m : List Int), PathF m row u → m.getD (d + 1).toNat 0 < m.getD d.toNat 0 → swapF m d = goal → PathF goal row (u ++ [d])
  | [], row, m, h, h1, h2 => by
    rw [PathF] at h
    subst h
    exact ⟨h1, h2⟩
  | e :: u, row, m, h, h1, h2 => by
    rw [PathF] at h
    exact ⟨h.1, path_snoc u _ m h.2 h1 h2⟩
end Pi

/-! What a word reaches; the least places. -/
namespace Pi
open PySem
theorem end_row {n : Int} {w : List Int} (h0 : 0 ≤ n) (hw : IsWord w n) : IsRow (endF n w) n := behindF_row (turnedF_row n) hw
theorem desc_cnt {m : List Int} {d : Int} (h0 : 0 ≤ d) (h1 : d + 1 < m.length) (h : m.getD (d + 1).toNat 0 ≤ m.getD d.toNat 0) (v X : Int) (a : X ≤ cnt m v d.toNat + 1) (b : X ≤ cnt m v (d.toNat + 2)) : X ≤ cnt m v (d.toNat + 1) := by
  have e1 : (d + 1).toNat = d.toNat + 1 := by omega
  rw [e1] at h
  have c1 := cnt_succ (getD_of (row := m) (i := d.toNat) (by omega)) v
  have c2 := cnt_succ (getD_of (row := m) (i := d.toNat + 1) (by omega)) v
  rw [show d.toNat + 1 + 1 = d.toNat + 2 by omega] at c2
  split at c1
  · omega
  · split at c2
    · omega
    · omega
theorem opF_ne {f : Nat → Int} {d : Int} {p : Nat} (h : p ≠ d.toNat + 1) : opF f d p = f p := by
  unfold opF
  rw [if_neg h]
/-- one deed less, one step less sorted -/
theorem unstep {x g m : List Int} {n d : Int} (h0 : 0 ≤ d) (h1 : d + 1 < n) (hx : IsRow x n) (hm : IsRow m n) (hs : stepF m d = g) (hd : m.getD (d + 1).toNat 0 ≤ m.getD d.toNat 0) (h : CntLe (stepF x d) g) : CntLe x m := by
  have lx := hx.leni (by omega)
  have lm := hm.leni (by omega)
  have key : ∀ v p, p ≠ d.toNat + 1 → cnt x v p ≤ cnt m v p := fun v p hp => by
    have := h v p
    rw [← hs, cnt_stepF h0 (by omega), cnt_stepF h0 (by omega), opF_ne hp, opF_ne hp] at this
    exact this
  intro v p
  by_cases hp : p = d.toNat + 1
  · subst hp
    have a := key v d.toNat (by omega)
    have b := key v (d.toNat + 2) (by omega)
    have c := cnt_step x v d.toNat
    have e := cnt_step x v (d.toNat + 1)
    rw [show d.toNat + 1 + 1 = d.toNat + 2 by omega] at e
    exact desc_cnt h0 (by omega) hd v _ (by omega) (by omega)
  · exact key v p hp
theorem unsort {n : Int} (h0 : 0 ≤ n) : ∀ (v goal : List Int), IsWord v n → IsRow goal n → CntLe (behindF (turnedF n) v.reverse) goal → ∃ u : List Int, u.Sublist v.reverse ∧ PathF goal (turnedF n) u
  | [], goal, _, hg, h => ⟨[], List.nil_sublist _, cnt_anti (turnedF_row n) hg h (cnt_turned_max h0 hg)⟩
  | d :: v, goal, hv, hg, h => by
    have hd := hv d List.mem_cons_self
    have hv' : IsWord v n := fun x hx => hv x (List.mem_cons_of_mem _ hx)
    have hlg := hg.leni h0
    rw [List.reverse_cons, behindF_app] at h
    have hx : IsRow (behindF (turnedF n) v.reverse) n := behindF_row (turnedF_row n) fun x hx => hv' x (List.mem_reverse.mp hx)
    change CntLe (stepF (behindF (turnedF n) v.reverse) d) goal at h
    rw [List.reverse_cons]
    by_cases q : goal.getD d.toNat 0 < goal.getD (d + 1).toNat 0
    · have hm : IsRow (swapF goal d) n := swapF_row hg hd.1 (by omega)
      obtain ⟨s1, s2⟩ := swapF_at (row := goal) hd.1 (by omega)
      have hst : stepF (swapF goal d) d = goal := by
        unfold stepF
        rw [s1, s2, if_pos q, swapF_swapF hd.1 (by omega)]
      obtain ⟨u, hu, hp⟩ := unsort h0 v (swapF goal d) hv' hm (unstep hd.1 (by omega) hx hm hst (by rw [s1, s2]; omega) h)
      exact ⟨u ++ [d], List.Sublist.append hu (List.Sublist.refl _), path_snoc u _ _ hp (by rw [s1, s2]; exact q) (swapF_swapF hd.1 (by omega))⟩
    · have hst : stepF goal d = goal ∨ goal.getD (d + 1).toNat 0 < goal.getD d.toNat 0 := by
        have := row_ne hg hd.1 (by omega)
        right
        omega
      have hlt : goal.getD (d + 1).toNat 0 < goal.getD d.toNat 0 := by
        have := row_ne hg hd.1 (by omega)
        omega
      have key : CntLe (behindF (turnedF n) v.reverse) goal := by
        have hx2 := hx
        intro w p
        have lx := hx.leni h0
        have kk : ∀ p, p ≠ d.toNat + 1 → cnt (behindF (turnedF n) v.reverse) w p ≤ cnt goal w p := fun p hp => by
          have := h w p
          rw [cnt_stepF hd.1 (by omega), opF_ne hp] at this
          exact this
        by_cases hp : p = d.toNat + 1
        · subst hp
          have a := kk d.toNat (by omega)
          have b := kk (d.toNat + 2) (by omega)
          have c := cnt_step (behindF (turnedF n) v.reverse) w d.toNat
          have e := cnt_step (behindF (turnedF n) v.reverse) w (d.toNat + 1)
          rw [show d.toNat + 1 + 1 = d.toNat + 2 by omega] at e
          exact desc_cnt hd.1 (by omega) (by omega) w _ (by omega) (by omega)
        · exact kk p hp
      obtain ⟨u, hu, hp⟩ := unsort h0 v goal hv' hg key
      exact ⟨u, hu.trans (List.sublist_append_left _ _), hp⟩
/-! ### the greedy choice -/
theorem goF_lot (goal lot : List Int) : ∀ (w : List Int) (i : Nat) (row : List Int), (goF goal lot i row w).1.Sublist (upI i ((i : Int) + w.length))
  | [], i, row => by rw [goF]; exact List.nil_sublist _
  | d :: w, i, row => by
    rw [goF, upI_cons (by rw [List.length_cons]; omega)]
    have e : ∀ r, (goF goal lot (i + 1) r w).1.Sublist (upI ((i : Int) + 1) ((i : Int) + (d :: w).length)) := fun r => by
      have := goF_lot goal lot w (i + 1) r
      rw [show ((i + 1 : Nat) : Int) = (i : Int) + 1 by omega, show (i : Int) + 1 + w.length = (i : Int) + (d :: w).length by rw [List.length_cons]; omega] at this
      exact this
    split
    · exact (e _).cons_cons _
    · exact (e _).cons _
def deeds (word ps : List Int) : List Int := ps.map fun p => word.getD p.toNat 0
theorem deeds_up (word : List Int) (i : Nat) : deeds word (upI i word.length) = word.drop i := by
  apply List.ext_getElem?
  intro j
  unfold deeds
  rw [List.getElem?_map, List.getElem?_drop]
  rcases Nat.lt_or_ge (i + j) word.length with q | q
  · rw [upI_get (by omega), getD_of q]
    show some (word.getD ((i : Int) + (j : Int)).toNat 0) = _
    rw [show ((i : Int) + (j : Int)).toNat = i + j by omega]
  · rw [List.getElem?_eq_none (by rw [upI_length]; omega), List.getElem?_eq_none q]
    rfl
theorem deeds_sub {word ps : List Int} {i : Nat} (h : ps.Sublist (upI i word.length)) : (deeds word ps).Sublist (word.drop i) := by
  rw [← deeds_up]
  exact h.map _
theorem leads_path {word goal : List Int} {n : Int} (h0 : 0 ≤ n) (hw : IsWord word n) : ∀ (ps row : List Int), IsRow row n → (∀ p ∈ ps, 0 ≤ p ∧ p < word.length) → (leadsF word goal row ps = true ↔ PathF goal row (deeds word ps))
  | [], row, _, _ => by
    rw [leadsF, decide_eq_true_iff]
    exact Iff.rfl
  | p :: ps, row, hr, hp => by
    have hpp := hp p List.mem_cons_self
    have hd := hw _ (List.mem_of_getElem? (getD_of (row := word) (i := p.toNat) (by omega)))
    have hl := hr.leni h0
    have hne := row_ne hr hd.1 (by omega)
    rw [leadsF]
    show _ ↔ row.getD (word.getD p.toNat 0 + 1).toNat 0 < row.getD (word.getD p.toNat 0).toNat 0 ∧ PathF goal (swapF row (word.getD p.toNat 0)) (deeds word ps)
    have ih := leads_path (goal := goal) h0 hw ps _ (swapF_row hr hd.1 (by omega)) fun q hq => hp q (List.mem_cons_of_mem _ hq)
    by_cases q : row.getD (word.getD p.toNat 0).toNat 0 < row.getD (word.getD p.toNat 0 + 1).toNat 0
    · rw [if_pos q]
      constructor
      · intro h; cases h
      · intro h; omega
    · rw [if_neg q, ih]
      constructor
      · intro h; exact ⟨by omega, h⟩
      · intro h; exact h.2
theorem greedy_path {goal word : List Int} {n : Int} (h0 : 0 ≤ n) (hw : IsWord word n) : ∀ (suf : List Int) (i : Nat) (row : List Int), word.drop i = suf → IsRow row n → AscF goal row → (goF goal [] i row suf).2 = goal → PathF goal row (deeds word (goF goal [] i row suf).1)
  | [], i, row, _, _, _, h => h
  | d :: suf, i, row, hs, hr, ha, h => by
    have hi : i < word.length := by
      rcases Nat.lt_or_ge i word.length with q | q
      · exact q
      · rw [List.drop_of_length_le q] at hs; cases hs
    have hgd := getD_of (row := word) hi
    rw [drop_step hgd] at hs
    obtain ⟨e1, e2⟩ := List.cons.inj hs
    have hd := hw _ (List.mem_of_getElem? hgd)
    rw [e1] at hd
    have hl := hr.leni h0
    rw [goF] at h ⊢
    by_cases q : posF goal (row.getD (d + 1).toNat 0) < posF goal (row.getD d.toNat 0)
    · rw [if_pos ⟨by simp, q⟩] at h ⊢
      have hlt : row.getD (d + 1).toNat 0 < row.getD d.toNat 0 := by
        have hne := row_ne hr hd.1 (by omega)
        rcases Int.lt_or_le (row.getD (d + 1).toNat 0) (row.getD d.toNat 0) with z | z
        · exact z
        · have := ha d.toNat (d + 1).toNat _ _ (by omega) (getD_of (by omega)) (getD_of (by omega)) (by omega)
          omega
      show PathF goal row (word.getD (i : Int).toNat 0 :: deeds word (goF goal [] (i + 1) (swapF row d) suf).1)
      rw [Int.toNat_natCast, e1]
      exact ⟨hlt, greedy_path h0 hw suf (i + 1) _ e2 (swapF_row hr hd.1 (by omega)) ((asc_swap hd.1 (by omega) hlt).mp ⟨ha, q⟩) h⟩
    · rw [if_neg fun z => q z.2] at h ⊢
      exact greedy_path h0 hw suf (i + 1) row e2 hr ha h
theorem path_goF {goal row u w : List Int} {n : Int} (h0 : 0 ≤ n) (hg : IsRow goal n) (hr : IsRow row n) (hw : IsWord w n) (hs : u.Sublist w) (h : PathF goal row u) (i : Nat) : (goF goal [] i row w).2 = goal :=
  (goF_done h0 hg hr hw i).mpr (sub_sorts h0 (pR_row hg hr) hs hw (path_sorts h0 hg u row hr (hw.sub hs) h))
/-- the word reaches the goal exactly if its end is no less sorted -/
theorem reach_iff {goal w : List Int} {n : Int} (h0 : 0 ≤ n) (hg : IsRow goal n) (hw : IsWord w n) : CntLe (endF n w) goal ↔ (goF goal [] 0 (turnedF n) w).2 = goal := by
  constructor
  · intro h
    obtain ⟨u, hu, hp⟩ := unsort h0 w.reverse goal (fun x hx => hw x (List.mem_reverse.mp hx)) hg (by rw [List.reverse_reverse]; exact h)
    rw [List.reverse_reverse] at hu
    exact path_goF h0 hg (turnedF_row n) hw hu hp 0
  · intro h
    have hp := greedy_path h0 hw w 0 (turnedF n) rfl (turnedF_row n) (asc_turned goal n) h
    have hs := deeds_sub (word := w) (i := 0) (ps := (goF goal [] 0 (turnedF n) w).1) (by
      have := goF_lot goal [] w 0 (turnedF n)
      simpa using this)
    rw [List.drop_zero] at hs
    have hb := behind_sub (row := turnedF n) hs (by rw [turnedF_length, show ((n.toNat : Nat) : Int) = n by omega]; exact hw)
    rw [path_behind h0 _ _ (turnedF_row n) (hw.sub hs) hp] at hb
    exact hb
def lexB : List Int → List Int → Bool
  | [], [] => false
  | [], _ :: _ => true
  | _ :: _, [] => false
  | x :: a, y :: b => if x = y then lexB a b else decide (x < y)
theorem lexB_self : ∀ a, lexB a a = false
  | [] => rfl
  | x :: a => by rw [lexB, if_pos rfl, lexB_self a]
theorem lexB_asym : ∀ {a b : List Int}, lexB a b = true → lexB b a = false
  | [], [], h => by cases h
  | [], _ :: _, _ => rfl
  | _ :: _, [], h => by cases h
  | x :: a, y :: b, h => by
    rw [lexB] at h ⊢
    by_cases q : x = y
    · subst q
      rw [if_pos rfl] at h ⊢
      exact lexB_asym h
    · rw [if_neg q, decide_eq_true_iff] at h
      rw [if_neg (Ne.symm q)]
      exact decide_eq_false (by omega)
theorem greedy_min {goal word : List Int} {n : Int} (h0 : 0 ≤ n) (hg : IsRow goal n) (hw : IsWord word n) : ∀ (suf : List Int) (i : Nat) (row ps : List Int), word.drop i = suf → ps.Sublist (upI i word.length) → IsRow row n → PathF goal row (deeds word ps) →
    (goF goal [] i row suf).1 = ps ∨ lexB (goF goal [] i row suf).1 ps = true
  | [], i, row, ps, hs, hps, hr, hp => by
    have hi : word.length ≤ i := by
      rcases Nat.lt_or_ge i word.length with q | q
      · rw [drop_step (getD_of q)] at hs; cases hs
      · exact q
    rw [upI_nil (by omega)] at hps
    rw [List.sublist_nil.mp hps]
    exact .inl rfl
  | d :: suf, i, row, ps, hs, hps, hr, hp => by
    have hi : i < word.length := by
      rcases Nat.lt_or_ge i word.length with q | q
      · exact q
      · rw [List.drop_of_length_le q] at hs; cases hs
    have hs0 := hs
    have hps0 := hps
    have hgd := getD_of (row := word) hi
    rw [drop_step hgd] at hs
    obtain ⟨e1, e2⟩ := List.cons.inj hs
    have hd := hw _ (List.mem_of_getElem? hgd)
    rw [e1] at hd
    have hl := hr.leni h0
    rw [upI_cons (by omega)] at hps
    rw [goF]
    rcases List.sublist_cons_iff.mp hps with z | ⟨r, rfl, z⟩
    · rw [show (i : Int) + 1 = ((i + 1 : Nat) : Int) by omega] at z
      by_cases q : posF goal (row.getD (d + 1).toNat 0) < posF goal (row.getD d.toNat 0)
      · rw [if_pos ⟨by simp, q⟩]
        cases ps with
        | nil =>
          have : row = goal := hp
          subst this
          unfold posF at q
          rw [idx_of hr.nodup (getD_of (row := row) (i := (d + 1).toNat) (by omega)), idx_of hr.nodup (getD_of (row := row) (i := d.toNat) (by omega))] at q
          omega
        | cons p ps =>
          right
          have hpm := mem_upI.mp (z.subset List.mem_cons_self)
          show lexB ((i : Int) :: _) (p :: ps) = true
          rw [lexB, if_neg (by omega)]
          exact decide_eq_true (by omega)
      · rw [if_neg fun z => q z.2]
        exact greedy_min h0 hg hw suf (i + 1) row ps e2 z hr hp
    · rw [show (i : Int) + 1 = ((i + 1 : Nat) : Int) by omega] at z
      have hdd : deeds word ((i : Int) :: r) = d :: deeds word r := by
        show word.getD (i : Int).toNat 0 :: _ = _
        rw [Int.toNat_natCast, e1]
        rfl
      rw [hdd] at hp
      have hwd : IsWord (d :: deeds word r) n := by
        rw [← hdd]
        exact (hw.sub (List.drop_sublist i word)).sub (deeds_sub hps0)
      have q := path_fall h0 hg hr hwd hp
      rw [if_pos ⟨by simp, q⟩]
      rw [PathF] at hp
      rcases greedy_min h0 hg hw suf (i + 1) (swapF row d) r e2 z (swapF_row hr hd.1 (by omega)) hp.2 with y | y
      · left
        show (i : Int) :: (goF goal [] (i + 1) (swapF row d) suf).1 = _
        rw [y]
      · right
        show lexB ((i : Int) :: (goF goal [] (i + 1) (swapF row d) suf).1) ((i : Int) :: r) = true
        rw [lexB, if_pos rfl, y]
end Pi

/-! The cheapest way to a goal. -/
namespace Pi
open PySem
/-! ### ways by falls of the places -/
def FallF (goal row : List Int) (d : Int) : Prop := posF goal (row.getD (d + 1).toNat 0) < posF goal (row.getD d.toNat 0)
instance (goal row : List Int) (d : Int) : Decidable (FallF goal row d) := by unfold FallF; infer_instance
def PathP (goal r : List Int) : List Int → List Int → Prop
  | row, [] => row = r
  | row, d :: u => FallF goal row d ∧ PathP goal r (swapF row d) u
theorem pathP_snoc {goal r : List Int} {d : Int} : ∀ (u row : List Int), PathP goal r row (u ++ [d]) ↔ ∃ m, PathP goal m row u ∧ FallF goal m d ∧ swapF m d = r
  | [], row => by
    constructor
    · rintro ⟨h1, h2⟩
      exact ⟨row, rfl, h1, h2⟩
    · rintro ⟨m, h1, h2, h3⟩
      have : row = m := h1
      subst this
      exact ⟨h2, h3⟩
  | e :: u, row => by
    show (FallF goal row e ∧ PathP goal r (swapF row e) (u ++ [d])) ↔ ∃ m, (FallF goal row e ∧ PathP goal m (swapF row e) u) ∧ _
    rw [pathP_snoc u]
    constructor
    · rintro ⟨h1, m, h2, h3⟩
      exact ⟨m, ⟨h1, h2⟩, h3⟩
    · rintro ⟨m, ⟨h1, h2⟩, h3⟩
      exact ⟨h1, m, h2, h3⟩
theorem pathP_row {goal r : List Int} {n : Int} (h0 : 0 ≤ n) : ∀ (u row : List Int), IsRow row n → IsWord u n → PathP goal r row u → IsRow r n
  | [], row, hr, _, h => by
    have : row = r := h
    exact this ▸ hr
  | d :: u, row, hr, hw, h => by
    have hd := hw d List.mem_cons_self
    have hl := hr.leni h0
    exact pathP_row h0 u _ (swapF_row hr hd.1 (by omega)) (fun x hx => hw x (List.mem_cons_of_mem _ hx)) h.2
/-- at the goal the two are one -/
theorem pathP_iff {goal : List Int} {n : Int} (h0 : 0 ≤ n) (hg : IsRow goal n) : ∀ (u row : List Int), IsRow row n → IsWord u n → AscF goal row → (PathP goal goal row u ↔ PathF goal row u)
  | [], _, _, _, _ => Iff.rfl
  | d :: u, row, hr, hw, ha => by
    have hd := hw d List.mem_cons_self
    have hl := hr.leni h0
    have hw' : IsWord u n := fun x hx => hw x (List.mem_cons_of_mem _ hx)
    have hr' := swapF_row hr hd.1 (show d + 1 < (row.length : Int) by omega)
    constructor
    · rintro ⟨h1, h2⟩
      have hlt : row.getD (d + 1).toNat 0 < row.getD d.toNat 0 := by
        have hne := row_ne hr hd.1 (by omega)
        rcases Int.lt_or_le (row.getD (d + 1).toNat 0) (row.getD d.toNat 0) with z | z
        · exact z
        · have := ha d.toNat (d + 1).toNat _ _ (by omega) (getD_of (by omega)) (getD_of (by omega)) (by omega)
          unfold FallF at h1
          omega
      exact ⟨hlt, (pathP_iff h0 hg u _ hr' hw' ((asc_swap hd.1 (by omega) hlt).mp ⟨ha, h1⟩)).mp h2⟩
    · intro h
      have hf := path_fall h0 hg hr hw h
      exact ⟨hf, (pathP_iff h0 hg u _ hr' hw' ((asc_swap hd.1 (by omega) h.1).mp ⟨ha, hf⟩)).mpr h.2⟩
/-! a measure that rises -/
def riseA (goal : List Int) : Nat → List Int → Int
  | _, [] => 0
  | i, c :: row => (i : Int) * posF goal c + riseA goal (i + 1) row
theorem riseA_append (goal : List Int) : ∀ (a b : List Int) (i : Nat), riseA goal i (a ++ b) = riseA goal i a + riseA goal (i + a.length) b
  | [], b, i => by simp [riseA]
  | c :: a, b, i => by
    rw [List.cons_append, riseA, riseA, riseA_append goal a b (i + 1), List.length_cons, show i + 1 + a.length = i + (a.length + 1) by omega]
    omega
theorem cut_row {row : List Int} {d : Int} (h0 : 0 ≤ d) (h1 : d + 1 < row.length) : row = row.take d.toNat ++ [row.getD d.toNat 0, row.getD (d + 1).toNat 0] ++ row.drop (d + 2).toNat := by
  have e1 : (d + 1).toNat = d.toNat + 1 := by omega
  have e2 : (d + 2).toNat = d.toNat + 2 := by omega
  rw [e1, e2]
  have a := drop_step (getD_of (row := row) (i := d.toNat) (by omega))
  have b := drop_step (getD_of (row := row) (i := d.toNat + 1) (by omega))
  conv => lhs; rw [← List.take_append_drop d.toNat row, a, b]
  simp
theorem rise_two (goal A B : List Int) (a b : Int) (i : Nat) (h : posF goal b < posF goal a) : riseA goal i (A ++ ([a, b] ++ B)) < riseA goal i (A ++ ([b, a] ++ B)) := by
  rw [riseA_append, riseA_append, riseA_append, riseA_append]
  simp only [riseA, List.length_cons, List.length_nil]
  generalize posF goal a = x at *
  generalize posF goal b = y at *
  have e2 : ((i + A.length + 1 : Nat) : Int) = ((i + A.length : Nat) : Int) + 1 := by omega
  rw [e2, Int.add_mul, Int.add_mul]
  generalize ((i + A.length : Nat) : Int) * x = p
  generalize ((i + A.length : Nat) : Int) * y = q
  omega
theorem rise_swap {goal row : List Int} {d : Int} (h0 : 0 ≤ d) (h1 : d + 1 < row.length) (h : FallF goal row d) : riseA goal 0 row < riseA goal 0 (swapF row d) := by
  have e := cut_row h0 h1
  rw [List.append_assoc] at e
  have e' : swapF row d = row.take d.toNat ++ ([row.getD (d + 1).toNat 0, row.getD d.toNat 0] ++ row.drop (d + 2).toNat) := by
    unfold swapF
    rw [List.append_assoc]
  have := rise_two goal (row.take d.toNat) (row.drop (d + 2).toNat) (row.getD d.toNat 0) (row.getD (d + 1).toNat 0) 0 h
  rw [← e, ← e'] at this
  exact this
theorem rise_path {goal r : List Int} {n : Int} (h0 : 0 ≤ n) : ∀ (u row : List Int), IsRow row n → IsWord u n → PathP goal r row u → riseA goal 0 row + u.length ≤ riseA goal 0 r
  | [], row, _, _, h => by
    have : row = r := h
    rw [this]
    simp
  | d :: u, row, hr, hw, h => by
    have hd := hw d List.mem_cons_self
    have hl := hr.leni h0
    have a := rise_swap hd.1 (show d + 1 < (row.length : Int) by omega) h.1
    have b := rise_path h0 u _ (swapF_row hr hd.1 (by omega)) (fun x hx => hw x (List.mem_cons_of_mem _ hx)) h.2
    rw [List.length_cons]
    omega
theorem pathP_append {goal r : List Int} : ∀ (u v row : List Int), PathP goal r row (u ++ v) ↔ ∃ m, PathP goal m row u ∧ PathP goal r m v
  | [], v, row => by
    constructor
    · intro h; exact ⟨row, rfl, h⟩
    · rintro ⟨m, h1, h2⟩
      have : row = m := h1
      exact this ▸ h2
  | d :: u, v, row => by
    show (FallF goal row d ∧ PathP goal r (swapF row d) (u ++ v)) ↔ _
    rw [pathP_append u v]
    constructor
    · rintro ⟨h1, m, h2, h3⟩; exact ⟨m, ⟨h1, h2⟩, h3⟩
    · rintro ⟨m, ⟨h1, h2⟩, h3⟩; exact ⟨h1, m, h2, h3⟩
theorem pathP_end {goal r r' : List Int} : ∀ (u row : List Int), PathP goal r row u → PathP goal r' row u → r = r'
  | [], row, h1, h2 => by
    have a : row = r := h1
    have b : row = r' := h2
    rw [← a, b]
  | d :: u, row, h1, h2 => pathP_end u _ h1.2 h2.2
/-- no way to a row begins with another -/
theorem no_prefix {goal r row : List Int} {n : Int} (h0 : 0 ≤ n) {u v : List Int} (hr : IsRow row n) (hw : IsWord (u ++ v) n) (h1 : PathP goal r row u) (h2 : PathP goal r row (u ++ v)) : v = [] := by
  obtain ⟨m, h3, h4⟩ := (pathP_append u v row).mp h2
  have := pathP_end u row h1 h3
  subst this
  have hwu : IsWord u n := fun x hx => hw x (List.mem_append_left _ hx)
  have hwv : IsWord v n := fun x hx => hw x (List.mem_append_right _ hx)
  have := rise_path h0 v _ (pathP_row h0 u row hr hwu h1) hwv h4
  exact List.length_eq_zero_iff.mp (by omega)
/-! ### ways with their costs -/
abbrev Way := Int × List Int
def wLt (a b : Way) : Bool := decide (a.1 < b.1) || (decide (a.1 = b.1) && lexB a.2 b.2)
def wLe (a b : Way) : Prop := a = b ∨ wLt a b = true
def minW (a b : Way) : Way := if wLt b a = true then b else a
theorem lexB_total : ∀ (a b : List Int), a = b ∨ lexB a b = true ∨ lexB b a = true
  | [], [] => .inl rfl
  | [], _ :: _ => .inr (.inl rfl)
  | _ :: _, [] => .inr (.inr rfl)
  | x :: a, y :: b => by
    rw [lexB, lexB]
    by_cases h : x = y
    · subst h
      rw [if_pos rfl, if_pos rfl]
      rcases lexB_total a b with q | q | q
      · exact .inl (by rw [q])
      · exact .inr (.inl q)
      · exact .inr (.inr q)
    · rw [if_neg h, if_neg (Ne.symm h), decide_eq_true_iff, decide_eq_true_iff]
      omega
theorem lexB_trans : ∀ {a b c : List Int}, lexB a b = true → lexB b c = true → lexB a c = true
  | [], [], _, h, _ => by cases h
  | [], _ :: _, [], _, h => by cases h
  | [], _ :: _, _ :: _, _, _ => rfl
  | _ :: _, [], _, h, _ => by cases h
  | _ :: _, _ :: _, [], _, h => by cases h
  | x :: a, y :: b, z :: c, h1, h2 => by
    rw [lexB] at h1 h2 ⊢
    by_cases q : x = y
    · subst q
      rw [if_pos rfl] at h1
      by_cases p : x = z
      · subst p
        rw [if_pos rfl] at h2 ⊢
        exact lexB_trans h1 h2
      · rw [if_neg p] at h2 ⊢
        exact h2
    · rw [if_neg q, decide_eq_true_iff] at h1
      by_cases p : y = z
      · subst p
        rw [if_neg q]
        exact decide_eq_true h1
      · rw [if_neg p, decide_eq_true_iff] at h2
        rw [if_neg (by omega)]
        exact decide_eq_true (by omega)
theorem wLt_iff {a b : Way} : wLt a b = true ↔ a.1 < b.1 ∨ (a.1 = b.1 ∧ lexB a.2 b.2 = true) := by
  unfold wLt
  rw [Bool.or_eq_true, Bool.and_eq_true, decide_eq_true_iff, decide_eq_true_iff]
theorem wLe_total (a b : Way) : wLe a b ∨ wLt b a = true := by
  unfold wLe
  rw [wLt_iff, wLt_iff]
  rcases Int.lt_trichotomy a.1 b.1 with h | h | h
  · exact .inl (.inr (.inl h))
  · rcases lexB_total a.2 b.2 with q | q | q
    · exact .inl (.inl (Prod.ext h q))
    · exact .inl (.inr (.inr ⟨h, q⟩))
    · exact .inr (.inr ⟨h.symm, q⟩)
  · exact .inr (.inl h)
theorem wLt_trans {a b c : Way} (h1 : wLt a b = true) (h2 : wLt b c = true) : wLt a c = true := by
  rw [wLt_iff] at h1 h2 ⊢
  rcases h1 with h1 | ⟨h1, q1⟩
  · rcases h2 with h2 | ⟨h2, q2⟩
    · left; omega
    · left; omega
  · rcases h2 with h2 | ⟨h2, q2⟩
    · left; omega
    · right; exact ⟨by omega, lexB_trans q1 q2⟩
theorem wLe_trans {a b c : Way} (h1 : wLe a b) (h2 : wLe b c) : wLe a c := by
  rcases h1 with rfl | h1
  · exact h2
  · rcases h2 with rfl | h2
    · exact .inr h1
    · exact .inr (wLt_trans h1 h2)
theorem minW_le (a b : Way) : wLe (minW a b) a ∧ wLe (minW a b) b := by
  unfold minW
  by_cases h : wLt b a = true
  · rw [if_pos h]
    exact ⟨.inr h, .inl rfl⟩
  · rw [if_neg h]
    refine ⟨.inl rfl, ?_⟩
    rcases wLe_total a b with q | q
    · exact q
    · exact absurd q h
theorem minW_mem (a b : Way) : minW a b = a ∨ minW a b = b := by
  unfold minW
  split
  · exact .inr rfl
  · exact .inl rfl
theorem lexB_snoc {k : Int} : ∀ {a b : List Int}, (∀ x ∈ b, x < k) → (∀ v, b = a ++ v → v = []) → lexB a b = true → lexB (a ++ [k]) (b ++ [k]) = true
  | [], [], _, _, h => by cases h
  | [], y :: b, _, hp, _ => by
    have := hp (y :: b) rfl
    cases this
  | _ :: _, [], _, _, h => by cases h
  | x :: a, y :: b, hk, hp, h => by
    rw [lexB] at h
    rw [List.cons_append, List.cons_append, lexB]
    by_cases q : x = y
    · subst q
      rw [if_pos rfl] at h ⊢
      exact lexB_snoc (fun z hz => hk z (List.mem_cons_of_mem _ hz)) (fun v e => hp v (by rw [e]; rfl)) h
    · rw [if_neg q] at h ⊢
      exact h
end Pi

/-! The cheapest way: row by row; pairs out of order. -/
namespace Pi
open PySem
def costF (costs lot : List Int) : Int := (lot.map fun p => costs.getD p.toNat 0).sum
def Cand (n : Int) (goal word : List Int) (i : Nat) (r lot : List Int) : Prop := lot.Sublist (upI 0 i) ∧ PathP goal r (turnedF n) (deeds word lot)
def BestOf (P : List Int → Prop) (costs : List Int) : Option Way → Prop
  | none => ∀ lot, ¬ P lot
  | some w => (∃ lot, P lot ∧ w = (costF costs lot, lot)) ∧ ∀ lot, P lot → wLe w (costF costs lot, lot)
theorem wLe_anti {a b : Way} (h1 : wLe a b) (h2 : wLe b a) : a = b := by
  rcases h1 with h1 | h1
  · exact h1
  · rcases h2 with h2 | h2
    · exact h2.symm
    · rw [wLt_iff] at h1 h2
      rcases h1 with h1 | ⟨h1, q1⟩
      · rcases h2 with h2 | ⟨h2, _⟩ <;> omega
      · rcases h2 with h2 | ⟨h2, q2⟩
        · omega
        · rw [lexB_asym q1] at q2
          cases q2
theorem best_unique {P : List Int → Prop} {costs : List Int} : ∀ {o o' : Option Way}, BestOf P costs o → BestOf P costs o' → o = o'
  | none, none, _, _ => rfl
  | none, some _, h, h' => by obtain ⟨⟨lot, hl, _⟩, _⟩ := h'; exact absurd hl (h lot)
  | some _, none, h, h' => by obtain ⟨⟨lot, hl, _⟩, _⟩ := h; exact absurd hl (h' lot)
  | some w, some w', h, h' => by
    obtain ⟨⟨lot, hl, e⟩, hm⟩ := h
    obtain ⟨⟨lot', hl', e'⟩, hm'⟩ := h'
    have a := hm lot' hl'
    have b := hm' lot hl
    rw [← e'] at a
    rw [← e] at b
    rw [wLe_anti a b]
theorem best_congr {P P' : List Int → Prop} {costs : List Int} (h : ∀ lot, P lot ↔ P' lot) : ∀ {o : Option Way}, BestOf P costs o → BestOf P' costs o
  | none, q => fun lot z => q lot ((h lot).mpr z)
  | some w, ⟨⟨lot, hl, e⟩, hm⟩ => ⟨⟨lot, (h lot).mp hl, e⟩, fun l z => hm l ((h l).mpr z)⟩
def extW (c : Int) (k : Nat) (w : Way) : Way := (w.1 + c, w.2 ++ [(k : Int)])
def dpStep (goal : List Int) (k : Nat) (d c : Int) (acc : Tab Way) (p : List Int × Way) : Tab Way := if FallF goal p.1 d then putA acc (swapF p.1 d) (minW (extW c k p.2) ((getA acc (swapF p.1 d)).getD (extW c k p.2))) else acc
def dpRow (goal : List Int) (k : Nat) (d c : Int) (T : Tab Way) : Tab Way := T.foldl (dpStep goal k d c) T
theorem dp_fold {goal r : List Int} {n : Int} {k : Nat} {d c : Int} (h0 : 0 ≤ d) (h1 : d + 1 < n) (hr : IsRow r n) : ∀ (L acc : Tab Way), (L.map (·.1)).Nodup → (∀ p ∈ L, IsRow p.1 n) →
    getA (L.foldl (dpStep goal k d c) acc) r = match (if FallF goal (swapF r d) d then getA L (swapF r d) else none) with
      | none => getA acc r
      | some b => some (minW (extW c k b) ((getA acc r).getD (extW c k b)))
  | [], acc, _, _ => by
    rw [getA_nil, ite_self]
    rfl
  | p :: L, acc, hn, hL => by
    rw [List.map_cons, List.nodup_cons] at hn
    rw [List.foldl_cons, dp_fold h0 h1 hr L _ hn.2 fun q hq => hL q (List.mem_cons_of_mem _ hq)]
    have hl := hr.leni (by omega)
    have hp := hL p List.mem_cons_self
    have hpl := hp.leni (by omega)
    rw [getA_cons]
    by_cases q : p.1 = swapF r d
    · have hnone : getA L (swapF r d) = none := by
        cases e : getA L (swapF r d) with
        | none => rfl
        | some x =>
          exfalso
          apply hn.1
          unfold getA at e
          rw [Option.map_eq_some_iff] at e
          obtain ⟨y, hy, _⟩ := e
          have h2 := List.mem_of_find?_eq_some hy
          have h3 := List.find?_some hy
          rw [q, ← of_decide_eq_true h3]
          exact List.mem_map.mpr ⟨y, h2, rfl⟩
      rw [if_pos q, hnone, ite_self]
      show getA (dpStep goal k d c acc p) r = _
      unfold dpStep
      by_cases f : FallF goal (swapF r d) d
      · rw [if_pos (by rw [q]; exact f), if_pos f]
        rw [q, swapF_swapF h0 (by omega), getA_put, if_pos rfl]
      · rw [if_neg (by rw [q]; exact f), if_neg f]
    · rw [if_neg q]
      have e : getA (dpStep goal k d c acc p) r = getA acc r := by
        unfold dpStep
        split
        · rw [getA_put, if_neg fun z => q (by rw [z, swapF_swapF h0 (by omega)])]
        · rfl
      rw [e]
theorem putA_keys {α : Type} (L : Tab α) (r : List Int) (a : α) : (putA L r a).map (·.1) = if (L.any fun p => decide (p.1 = r)) = true then L.map (·.1) else L.map (·.1) ++ [r] := by
  unfold putA
  split
  · rw [List.map_map]
    apply List.map_congr_left
    intro p _
    show (if p.1 = r then (p.1, a) else p).1 = p.1
    split <;> rfl
  · rw [List.map_append]
    rfl
theorem putA_nodup {α : Type} {L : Tab α} (r : List Int) (a : α) (h : (L.map (·.1)).Nodup) : ((putA L r a).map (·.1)).Nodup := by
  rw [putA_keys]
  split
  · exact h
  · rename_i q
    rw [List.nodup_append]
    refine ⟨h, by simp, fun x hx y hy => ?_⟩
    rw [List.mem_singleton] at hy
    subst hy
    rintro rfl
    obtain ⟨p, hp, e⟩ := List.mem_map.mp hx
    exact q (List.any_eq_true.mpr ⟨p, hp, decide_eq_true e⟩)
theorem putA_mem {α : Type} {L : Tab α} {r : List Int} {a : α} {p : List Int × α} (h : p ∈ putA L r a) : p.1 = r ∨ ∃ q ∈ L, q.1 = p.1 := by
  have : p.1 ∈ (putA L r a).map (·.1) := List.mem_map.mpr ⟨p, h, rfl⟩
  rw [putA_keys] at this
  split at this
  · obtain ⟨q, hq, e⟩ := List.mem_map.mp this
    exact .inr ⟨q, hq, e⟩
  · rcases List.mem_append.mp this with z | z
    · obtain ⟨q, hq, e⟩ := List.mem_map.mp z
      exact .inr ⟨q, hq, e⟩
    · exact .inl (List.mem_singleton.mp z)
theorem putA_length {α : Type} (L : Tab α) (r : List Int) (a : α) : (putA L r a).length ≤ L.length + 1 := by
  unfold putA
  split
  · rw [List.length_map]; omega
  · rw [List.length_append]; simp
theorem dp_keep {goal : List Int} {n : Int} {k : Nat} {d c : Int} (h0 : 0 ≤ d) (h1 : d + 1 < n) : ∀ (L acc : Tab Way), (∀ p ∈ L, IsRow p.1 n) → (acc.map (·.1)).Nodup → (∀ p ∈ acc, IsRow p.1 n) →
    ((L.foldl (dpStep goal k d c) acc).map (·.1)).Nodup ∧ (∀ p ∈ L.foldl (dpStep goal k d c) acc, IsRow p.1 n) ∧ (L.foldl (dpStep goal k d c) acc).length ≤ acc.length + L.length
  | [], acc, _, h2, h3 => ⟨h2, h3, by simp⟩
  | p :: L, acc, hL, h2, h3 => by
    have hp := hL p List.mem_cons_self
    have hpl := hp.leni (by omega)
    have st : ((dpStep goal k d c acc p).map (·.1)).Nodup ∧ (∀ q ∈ dpStep goal k d c acc p, IsRow q.1 n) ∧ (dpStep goal k d c acc p).length ≤ acc.length + 1 := by
      unfold dpStep
      split
      · refine ⟨putA_nodup _ _ h2, fun q hq => ?_, putA_length _ _ _⟩
        rcases putA_mem hq with z | ⟨y, hy, e⟩
        · rw [z]; exact swapF_row hp h0 (by omega)
        · rw [← e]; exact h3 y hy
      · exact ⟨h2, h3, by omega⟩
    obtain ⟨a, b, e⟩ := dp_keep h0 h1 L _ (fun q hq => hL q (List.mem_cons_of_mem _ hq)) st.1 st.2.1
    refine ⟨a, b, ?_⟩
    have := st.2.2
    rw [List.foldl_cons, List.length_cons]
    omega
theorem upI_succ (i : Nat) : upI 0 ((i + 1 : Nat) : Int) = upI 0 (i : Int) ++ [(i : Int)] := by
  unfold upI
  rw [show (((i + 1 : Nat) : Int) - 0).toNat = i + 1 by omega, show ((i : Int) - 0).toNat = i by omega, List.range_succ, List.map_append]
  simp
theorem cand_succ {goal word r : List Int} {n d : Int} {i : Nat} (h0 : 0 ≤ n) (hw : IsWord word n) (hi : word[i]? = some d) (hr : IsRow r n) (lot : List Int) : Cand n goal word (i + 1) r lot ↔ Cand n goal word i r lot ∨ ∃ l, lot = l ++ [(i : Int)] ∧ Cand n goal word i (swapF r d) l ∧ FallF goal (swapF r d) d := by
  have hd := hw d (List.mem_of_getElem? hi)
  have hl := hr.leni h0
  have hil := lt_len hi
  have hdeeds : ∀ l, deeds word (l ++ [(i : Int)]) = deeds word l ++ [d] := fun l => by
    unfold deeds
    rw [List.map_append]
    show _ ++ [word.getD (i : Int).toNat 0] = _
    rw [Int.toNat_natCast]
    rw [getD_of hil] at hi
    rw [Option.some.inj hi]
  have hwd : ∀ l : List Int, l.Sublist (upI 0 (i : Int)) → IsWord (deeds word l) n := fun l hl x hx => by
    obtain ⟨p, hp, rfl⟩ := List.mem_map.mp hx
    have := mem_upI.mp (hl.subset hp)
    exact hw _ (List.mem_of_getElem? (getD_of (by omega)))
  unfold Cand
  rw [upI_succ, List.sublist_append_iff]
  constructor
  · rintro ⟨⟨a, b, rfl, ha, hb⟩, hp⟩
    rcases List.sublist_cons_iff.mp hb with z | ⟨x, rfl, z⟩
    · rw [List.sublist_nil.mp z, List.append_nil] at hp ⊢
      exact .inl ⟨ha, hp⟩
    · rw [List.sublist_nil.mp z] at hp ⊢
      rw [hdeeds, pathP_snoc] at hp
      obtain ⟨m, h2, h3, h4⟩ := hp
      have hm := pathP_row h0 _ _ (turnedF_row n) (hwd a ha) h2
      have hml := hm.leni h0
      have e : m = swapF r d := by rw [← h4, swapF_swapF hd.1 (by omega)]
      subst e
      exact .inr ⟨a, rfl, ⟨ha, h2⟩, h3⟩
  · rintro (⟨ha, hp⟩ | ⟨l, rfl, ⟨ha, h2⟩, h3⟩)
    · exact ⟨⟨lot, [], by simp, ha, List.nil_sublist _⟩, hp⟩
    · refine ⟨⟨l, [(i : Int)], rfl, ha, List.Sublist.refl _⟩, ?_⟩
      rw [hdeeds, pathP_snoc]
      exact ⟨_, h2, h3, swapF_swapF hd.1 (by omega)⟩
theorem cost_snoc (costs l : List Int) (i : Nat) : costF costs (l ++ [(i : Int)]) = costF costs l + costs.getD i 0 := by
  unfold costF
  rw [List.map_append, List.sum_append]
  simp
theorem dp_best {goal word costs r : List Int} {n d : Int} {i : Nat} (h0 : 0 ≤ n) (hw : IsWord word n) (hi : word[i]? = some d) (T : Tab Way) (hn : (T.map (·.1)).Nodup) (hT : ∀ p ∈ T, IsRow p.1 n) (hB : ∀ r, IsRow r n → BestOf (Cand n goal word i r) costs (getA T r)) (hr : IsRow r n) :
    BestOf (Cand n goal word (i + 1) r) costs (getA (dpRow goal i d (costs.getD i 0) T) r) := by
  have hd := hw d (List.mem_of_getElem? hi)
  have hl := hr.leni h0
  have hil := lt_len hi
  have hr' := swapF_row hr hd.1 (show d + 1 < (r.length : Int) by omega)
  have hwd : ∀ l : List Int, l.Sublist (upI 0 (i : Int)) → IsWord (deeds word l) n := fun l hl x hx => by
    obtain ⟨p, hp, rfl⟩ := List.mem_map.mp hx
    have := mem_upI.mp (hl.subset hp)
    exact hw _ (List.mem_of_getElem? (getD_of (by omega)))
  refine best_congr (fun lot => (cand_succ h0 hw hi hr lot).symm) ?_
  unfold dpRow
  rw [dp_fold hd.1 (by omega) hr T T hn hT]
  have b1 := hB r hr
  have b2 := hB _ hr'
  have mono : ∀ l l', Cand n goal word i (swapF r d) l → Cand n goal word i (swapF r d) l' → wLe (costF costs l, l) (costF costs l', l') → wLe (extW (costs.getD i 0) i (costF costs l, l)) (extW (costs.getD i 0) i (costF costs l', l')) := by
    intro l l' c c' h
    rcases h with h | h
    · rw [h]; exact .inl rfl
    · right
      rw [wLt_iff] at h ⊢
      show costF costs l + costs.getD i 0 < costF costs l' + costs.getD i 0 ∨ (costF costs l + costs.getD i 0 = costF costs l' + costs.getD i 0 ∧ lexB (l ++ [(i : Int)]) (l' ++ [(i : Int)]) = true)
      rcases h with h | ⟨h, q⟩
      · left
        have : costF costs l < costF costs l' := h
        omega
      · right
        have h' : costF costs l = costF costs l' := h
        refine ⟨by omega, lexB_snoc (fun x hx => (mem_upI.mp (c'.1.subset hx)).2) (fun v e => ?_) q⟩
        have hw2 := hwd l' c'.1
        have hp2 := c'.2
        rw [show deeds word l' = deeds word l ++ deeds word v by rw [e]; unfold deeds; rw [List.map_append]] at hw2 hp2
        have := no_prefix h0 (turnedF_row n) hw2 c.2 hp2
        exact List.map_eq_nil_iff.mp this
  by_cases f : FallF goal (swapF r d) d
  · rw [if_pos f]
    cases e2 : getA T (swapF r d) with
    | none =>
      rw [e2] at b2
      refine best_congr (fun lot => ⟨.inl, fun z => ?_⟩) b1
      rcases z with z | ⟨l, _, c, _⟩
      · exact z
      · exact absurd c (b2 l)
    | some b =>
      rw [e2] at b2
      obtain ⟨⟨l, hl2, rfl⟩, hm⟩ := b2
      have eext : extW (costs.getD i 0) i (costF costs l, l) = (costF costs (l ++ [(i : Int)]), l ++ [(i : Int)]) := by rw [cost_snoc]; rfl
      cases e1 : getA T r with
      | none =>
        rw [e1] at b1
        have emin : minW (extW (costs.getD i 0) i (costF costs l, l)) ((none : Option Way).getD (extW (costs.getD i 0) i (costF costs l, l))) = extW (costs.getD i 0) i (costF costs l, l) := by
          rcases minW_mem (extW (costs.getD i 0) i (costF costs l, l)) (extW (costs.getD i 0) i (costF costs l, l)) with z | z <;> exact z
        show BestOf _ costs (some (minW _ _))
        rw [emin]
        refine ⟨⟨l ++ [(i : Int)], .inr ⟨l, rfl, hl2, f⟩, eext⟩, fun lot hlot => ?_⟩
        rcases hlot with z | ⟨l', rfl, c, _⟩
        · exact absurd z (b1 lot)
        · have := mono l l' hl2 c (hm l' c)
          rw [show (costF costs (l' ++ [(i : Int)]), l' ++ [(i : Int)]) = extW (costs.getD i 0) i (costF costs l', l') by rw [cost_snoc]; rfl]
          exact this
      | some w =>
        rw [e1] at b1
        obtain ⟨⟨l0, hl0, ew⟩, hm0⟩ := b1
        show BestOf _ costs (some (minW _ _))
        obtain ⟨m1, m2⟩ := minW_le (extW (costs.getD i 0) i (costF costs l, l)) w
        refine ⟨?_, fun lot hlot => ?_⟩
        · rcases minW_mem (extW (costs.getD i 0) i (costF costs l, l)) w with z | z
          · exact ⟨l ++ [(i : Int)], .inr ⟨l, rfl, hl2, f⟩, z.trans eext⟩
          · exact ⟨l0, .inl hl0, z.trans ew⟩
        · rcases hlot with z | ⟨l', rfl, c, _⟩
          · exact wLe_trans m2 (hm0 lot z)
          · have := mono l l' hl2 c (hm l' c)
            rw [show (costF costs (l' ++ [(i : Int)]), l' ++ [(i : Int)]) = extW (costs.getD i 0) i (costF costs l', l') by rw [cost_snoc]; rfl]
            exact wLe_trans m1 this
  · rw [if_neg f]
    refine best_congr (fun lot => ⟨.inl, fun z => ?_⟩) b1
    rcases z with z | ⟨_, _, _, g⟩
    · exact z
    · exact absurd g f
end Pi

/-! Pairs out of order; lots that do as many swaps. -/
namespace Pi
open PySem
def lessN (l : List Int) (a : Int) : Nat := (l.filter fun x => decide (x < a)).length
def outsF : List Int → Nat
  | [] => 0
  | a :: l => lessN l a + outsF l
def crossN (A l : List Int) : Nat := (A.map (lessN l)).sum
theorem lessN_perm {l m : List Int} (h : l.Perm m) (a : Int) : lessN l a = lessN m a := (h.filter _).length_eq
theorem lessN_append (l m : List Int) (a : Int) : lessN (l ++ m) a = lessN l a + lessN m a := by unfold lessN; rw [List.filter_append, List.length_append]
theorem crossN_perm {l m : List Int} (h : l.Perm m) (A : List Int) : crossN A l = crossN A m := by
  unfold crossN
  congr 1
  exact List.map_congr_left fun a _ => lessN_perm h a
theorem outs_append : ∀ (A l : List Int), outsF (A ++ l) = outsF A + crossN A l + outsF l
  | [], l => by simp [outsF, crossN]
  | a :: A, l => by
    rw [List.cons_append, outsF, outsF, outs_append A l, lessN_append]
    show _ = lessN A a + outsF A + ((lessN l a :: A.map (lessN l)).sum) + outsF l
    rw [List.sum_cons]
    unfold crossN
    omega
theorem outs_swap {row : List Int} {d : Int} (h0 : 0 ≤ d) (h1 : d + 1 < row.length) (h : row.getD (d + 1).toNat 0 < row.getD d.toNat 0) : outsF row = outsF (swapF row d) + 1 := by
  have e := cut_row h0 h1
  rw [List.append_assoc] at e
  have e' : swapF row d = row.take d.toNat ++ ([row.getD (d + 1).toNat 0, row.getD d.toNat 0] ++ row.drop (d + 2).toNat) := by
    unfold swapF
    rw [List.append_assoc]
  rw [e']
  conv => lhs; rw [e]
  generalize row.take d.toNat = A
  generalize row.drop (d + 2).toNat = B
  generalize row.getD d.toNat 0 = a at *
  generalize row.getD (d + 1).toNat 0 = b at *
  rw [outs_append A ([a, b] ++ B), outs_append A ([b, a] ++ B)]
  have hp : ([a, b] ++ B).Perm ([b, a] ++ B) := (List.Perm.swap b a []).append_right B
  rw [crossN_perm hp A]
  have c1 : outsF ([a, b] ++ B) = 1 + lessN B a + (lessN B b + outsF B) := by
    show lessN (b :: B) a + (lessN B b + outsF B) = _
    have : lessN (b :: B) a = 1 + lessN B a := by
      unfold lessN
      rw [List.filter_cons, decide_eq_true h, if_pos rfl, List.length_cons]
      omega
    omega
  have c2 : outsF ([b, a] ++ B) = lessN B b + (lessN B a + outsF B) := by
    show lessN (a :: B) b + (lessN B a + outsF B) = _
    have : lessN (a :: B) b = lessN B b := by
      unfold lessN
      rw [List.filter_cons, decide_eq_false (by omega)]
      rfl
    omega
  omega
theorem outs_path {goal : List Int} {n : Int} (h0 : 0 ≤ n) : ∀ (u row : List Int), IsRow row n → IsWord u n → PathF goal row u → outsF row = outsF goal + u.length
  | [], row, _, _, h => by
    have : row = goal := h
    rw [this]
    simp
  | d :: u, row, hr, hw, h => by
    have hd := hw d List.mem_cons_self
    have hl := hr.leni h0
    have a := outs_swap hd.1 (show d + 1 < (row.length : Int) by omega) h.1
    have b := outs_path h0 u _ (swapF_row hr hd.1 (by omega)) (fun x hx => hw x (List.mem_cons_of_mem _ hx)) h.2
    rw [List.length_cons]
    omega
theorem outs_le {n : Int} (h0 : 0 ≤ n) : ∀ (u row : List Int), IsRow row n → IsWord u n → outsF row ≤ outsF (behindF row u) + u.length ∧ (outsF row = outsF (behindF row u) + u.length → PathF (behindF row u) row u)
  | [], row, _, _ => ⟨by show outsF row ≤ outsF row + 0; omega, fun _ => rfl⟩
  | d :: u, row, hr, hw => by
    have hd := hw d List.mem_cons_self
    have hl := hr.leni h0
    have hw' : IsWord u n := fun x hx => hw x (List.mem_cons_of_mem _ hx)
    show outsF row ≤ outsF (behindF (stepF row d) u) + (d :: u).length ∧ (outsF row = outsF (behindF (stepF row d) u) + (d :: u).length → PathF (behindF (stepF row d) u) row (d :: u))
    rw [List.length_cons]
    unfold stepF
    by_cases q : row.getD (d + 1).toNat 0 < row.getD d.toNat 0
    · rw [if_pos q]
      have a := outs_swap hd.1 (show d + 1 < (row.length : Int) by omega) q
      obtain ⟨b, c⟩ := outs_le h0 u _ (swapF_row hr hd.1 (show d + 1 < (row.length : Int) by omega)) hw'
      exact ⟨by omega, fun e => ⟨q, c (by omega)⟩⟩
    · rw [if_neg q]
      obtain ⟨b, c⟩ := outs_le h0 u row hr hw'
      exact ⟨by omega, fun e => by omega⟩
/-- a lot of as many places as swaps are wanted, whose deeds lead to the goal, does a swap at each -/
theorem lot_good {goal word lot : List Int} {n : Int} (h0 : 0 ≤ n) (hg : IsRow goal n) (hw : IsWord word n) (hl : IsLot lot word.length) : Cand n goal word word.length goal lot ↔ ((lot.length : Int) = (outsF (turnedF n) : Int) - (outsF goal : Int) ∧ behindF (turnedF n) (deeds word lot) = goal) := by
  have hwd : IsWord (deeds word lot) n := by
    intro x hx
    obtain ⟨p, hp, rfl⟩ := List.mem_map.mp hx
    have := hl.mem hp
    exact hw _ (List.mem_of_getElem? (getD_of (by omega)))
  have hlen : (deeds word lot).length = lot.length := List.length_map _
  unfold Cand
  rw [pathP_iff h0 hg _ _ (turnedF_row n) hwd (asc_turned goal n)]
  constructor
  · rintro ⟨_, h⟩
    have a := outs_path h0 _ _ (turnedF_row n) hwd h
    exact ⟨by omega, path_behind h0 _ _ (turnedF_row n) hwd h⟩
  · rintro ⟨h1, h2⟩
    have b := (outs_le h0 _ _ (turnedF_row n) hwd).2
    rw [h2] at b
    exact ⟨hl, b (by omega)⟩
/-- the places that are not in the lot are left out -/
theorem left_rest {word lot : List Int} (hl : IsLot lot word.length) : leftF word ((upI 0 word.length).filter fun p => !decide (p ∈ lot)) = deeds word lot := by
  have key : ∀ (suf : List Int) (i : Nat) (lot rest : List Int), word.drop i = suf → lot.Sublist (upI i word.length) → (∀ p : Int, (i : Int) ≤ p → p < word.length → (p ∈ rest ↔ p ∉ lot)) → leftA i suf rest = deeds word lot := by
    intro suf
    induction suf with
    | nil =>
      intro i lot rest hs hlot _
      have hi : word.length ≤ i := by
        rcases Nat.lt_or_ge i word.length with q | q
        · rw [drop_step (getD_of q)] at hs; cases hs
        · exact q
      rw [upI_nil (by omega)] at hlot
      rw [List.sublist_nil.mp hlot]
      rfl
    | cons d suf ih =>
      intro i lot rest hs hlot hm
      have hi : i < word.length := by
        rcases Nat.lt_or_ge i word.length with q | q
        · exact q
        · rw [List.drop_of_length_le q] at hs; cases hs
      have hgd := getD_of (row := word) hi
      rw [drop_step hgd] at hs
      obtain ⟨e1, e2⟩ := List.cons.inj hs
      rw [upI_cons (by omega), show (i : Int) + 1 = ((i + 1 : Nat) : Int) by omega] at hlot
      rw [leftA]
      rcases List.sublist_cons_iff.mp hlot with z | ⟨r, rfl, z⟩
      · have hni : (i : Int) ∉ lot := fun q => by
          have := mem_upI.mp (z.subset q)
          omega
        rw [if_pos ((hm i (by omega) (by omega)).mpr hni)]
        exact ih (i + 1) lot rest e2 z fun p p0 p1 => hm p (by omega) p1
      · have hnr : ¬ (i : Int) ∈ rest := fun q => (hm i (by omega) (by omega)).mp q List.mem_cons_self
        rw [if_neg hnr]
        show _ = word.getD (i : Int).toNat 0 :: deeds word r
        rw [Int.toNat_natCast, e1, ih (i + 1) r rest e2 z fun p p0 p1 => ?_]
        rw [hm p (by omega) p1]
        constructor
        · intro h q; exact h (List.mem_cons_of_mem _ q)
        · intro h q
          rcases List.mem_cons.mp q with y | y
          · omega
          · exact h y
  unfold leftF
  refine key word 0 lot _ rfl hl fun p p0 p1 => ?_
  rw [List.mem_filter, mem_upI]
  constructor
  · rintro ⟨_, h⟩ q
    simp [q] at h
  · intro h
    exact ⟨⟨p0, p1⟩, by simp [h]⟩
/-- the least of those that are good, told one by one -/
def foldBest (good : List Int → Bool) (costs : List Int) (L : List (List Int)) : Option Way := L.foldl (fun best lot => if good lot then some (match best with
  | none => (costF costs lot, lot)
  | some b => if wLt (costF costs lot, lot) b then (costF costs lot, lot) else b) else best) none
theorem fold_best {good : List Int → Bool} {costs : List Int} (P : List Int → Prop) : ∀ (L done : List (List Int)) (best : Option Way), (∀ lot, P lot ↔ lot ∈ done ++ L ∧ good lot = true) → BestOf (fun lot => lot ∈ done ∧ good lot = true) costs best →
    BestOf P costs (L.foldl (fun best lot => if good lot then some (match best with
      | none => (costF costs lot, lot)
      | some b => if wLt (costF costs lot, lot) b then (costF costs lot, lot) else b) else best) best)
  | [], done, best, h, hb => by
    rw [List.append_nil] at h
    exact best_congr (fun lot => (h lot).symm) hb
  | x :: L, done, best, h, hb => by
    rw [List.foldl_cons]
    refine fold_best P L (done ++ [x]) _ (fun lot => by rw [h lot, List.append_assoc]; rfl) ?_
    by_cases g : good x = true
    · rw [if_pos g]
      cases best with
      | none =>
        refine ⟨⟨x, ⟨by simp, g⟩, rfl⟩, fun lot hl => ?_⟩
        rcases List.mem_append.mp hl.1 with z | z
        · exact absurd ⟨z, hl.2⟩ (hb lot)
        · rw [List.mem_singleton.mp z]
          exact .inl rfl
      | some b =>
        obtain ⟨⟨l0, hl0, e0⟩, hm⟩ := hb
        by_cases q : wLt (costF costs x, x) b = true
        · show BestOf _ costs (some (if wLt (costF costs x, x) b = true then _ else b))
          rw [if_pos q]
          refine ⟨⟨x, ⟨by simp, g⟩, rfl⟩, fun lot hl => ?_⟩
          rcases List.mem_append.mp hl.1 with z | z
          · exact wLe_trans (.inr q) (hm lot ⟨z, hl.2⟩)
          · rw [List.mem_singleton.mp z]
            exact .inl rfl
        · show BestOf _ costs (some (if wLt (costF costs x, x) b = true then _ else b))
          rw [if_neg q]
          refine ⟨⟨l0, ⟨List.mem_append_left _ hl0.1, hl0.2⟩, e0⟩, fun lot hl => ?_⟩
          rcases List.mem_append.mp hl.1 with z | z
          · exact hm lot ⟨z, hl.2⟩
          · rw [List.mem_singleton.mp z]
            rcases wLe_total b (costF costs x, x) with y | y
            · exact y
            · exact absurd y q
    · rw [if_neg g]
      refine best_congr (fun lot => ⟨fun hl => ⟨List.mem_append_left _ hl.1, hl.2⟩, fun hl => ?_⟩) hb
      rcases List.mem_append.mp hl.1 with z | z
      · exact ⟨z, hl.2⟩
      · rw [List.mem_singleton.mp z] at hl
        exact absurd hl.2 g
end Pi

/-! The laws' own list of the pairs that are out of order (for k06, k36; K50 has its own copy). -/
namespace Pi
open PySem
local macro_rules | `(tactic| walk_at "pi") => `(tactic| simp only [wp_pure, wp_bind, wp_bad, wp_ite, wp_chk, wp_new, wp_var, wp_lit, wp_glob, wp_bin, wp_neg, wp_not, wp_and, wp_or, wp_cmp, wp_cmp2, wp_iteE, wp_tup, wp_lst, wp_call, wp_fz, wp_tupS, wp_lstS, wp_dnew, wp_disp, wp_dget1, wp_dget2, wp_litems, wp_sset, wi_rev, vr_index, vr_count, vm_count, wi_items, vd_is, vd_items, wp_ds_nil, wp_ds_star, wp_ds_cons, notStar, wp_bi, wp_isi, wp_idx, wp_slice, wp_meth, wp_lrange, wp_trange, wp_tdown, wp_comp, wp_compB, wp_comp2, wp_comp2B, wp_rngv, wp_es_nil, wp_es_cons, wp_o_none, wp_o_some, wp_ts_nil, wp_ts_one, wt_not, wt_and, wt_or, wt_cmp, wt_ite, wt_var, wt_call, wt_bi, wt_isi, wt_cmp2, wt_idx, wt_lit, wi_of, wi_enum, wi_zip, wi_range, ws_asg, ws_par, ws_sub, ws_aug, ws_expr, ws_ret, ws_retN, ws_pass, ws_brk, ws_cont, ws_ifs, ws_for, ws_whil, wss_nil, wss_cons, then_nx, then_ret, then_brk, then_cont, out_ret, out_nx, turn_nx, turn_cont, turn_brk, turn_ret, wp_putM, ctx_cf, fzq_int, fzq_bl, fzq_non, fzq_str, fzq_tI, fzq_tup, fzq_ints, fzq_bls, fzq_tIs, fzq_nil, ctx_gl, vb_add, vb_sub, vb_mul, vb_fdiv, vb_mod, vb_pow, vb_addT, vc_lt, vc_le, vc_gt, vc_ge, vc_eqv, vc_nev, vc_inv, vc_ninv, ve_int, ve_bl, vt_bl, vt_int, vt_tup, vt_non, vi_int, vi_bl, vi_str, vi_non, vi_tup, vi_clst, vs_tup, vs_clst, vI_tup, vI_clst, vI_rng, vI_ref, vx_tup, vx_clst, vp_none, vp_int, vl_tup, vl_clst, vf_len_tup, vf_len_clst, vf_int, vf_tup, vf_list_tup, vf_sorted_tup, vf_sorted_clst, vf_all, vf_any, vf_sum, vf_tup_clst, vf_list_clst, vf_min2, vf_max2, vf_abs, va_add, va_sub, put_name, put_tup, put_clst, puts_nil, puts_cons, wipe, List.getElem?_cons_zero, List.getElem?_cons_succ, List.getElem?_nil, List.set_cons_zero, List.set_cons_succ, List.length_cons, List.length_nil, List.any_cons, List.any_nil, isTy, String.reduceBEq, String.reduceEq, Bool.false_and, Bool.and_false, Bool.true_and, Bool.and_true, Bool.or_false, Bool.false_or, Bool.or_true, Bool.true_or, Bool.not_true, Bool.not_false, if_true, if_false, Bool.false_eq_true, reduceIte, reduceCtorEq, Nat.reduceAdd, Nat.reduceLT, Nat.lt_add_one, and_self, true_and, and_true, rangeOf, BEq.rfl, bne_self_eq_false, Nat.reduceLeDiff, Nat.zero_lt_succ, Nat.zero_lt_one])
def law_out_b : List Pi.S := [(.asg (.name 1) (.fz (.lst []))), (.for (.name 2) (.range [(.bi .len [(.var 0)])]) [(.asg (.name 1) (.fz (.bin .add (.var 1) (.fz (.comp [3] (.name 3) (.of (.fz (.slice (.var 0) (some (.fz (.bin .add (.var 2) (.lit (.int 1))))) none))) [(.cmp .lt (.var 3) (.idx (.var 0) (.var 2)))] (.tup [(.idx (.var 0) (.var 2)), (.var 3)]))))))]), (.ret (.fz (.bi .sorted [(.var 1)])))]
def law_out_d : DefI := { name := "_law_out", ps := [("cards" : Str)], N := [("cards" : Str), ("found" : Str), ("at" : Str), ("other" : Str)], body := law_out_b, mu := [] }
def law_after_b : List Pi.S := [(.for (.name 2) (.of (.var 1)) [(.ifs (.cmp .lt (.idx (.var 0) (.var 2)) (.idx (.var 0) (.bin .add (.var 2) (.lit (.int 1))))) [(.ret (.lit .non))] []), (.asg (.name 0) (.call "_law_swap" [(.var 0), (.var 2)]))]), (.ret (.var 0))]
def law_after_d : DefI := { name := "_law_after", ps := [("cards" : Str), ("told" : Str)], N := [("cards" : Str), ("told" : Str), ("deed" : Str)], body := law_after_b, mu := [] }
def rounds_of_b : List Pi.S := [(.asg (.name 1) (.fz (.lst [(.tup [])]))), (.for (.name 2) (.of (.var 0)) [(.asg (.name 1) (.fz (.bin .add (.var 1) (.fz (.comp [3] (.name 3) (.of (.var 1)) [(.or (.not (.var 3)) (.cmp .gt (.bin .sub (.var 2) (.idx (.var 3) (.neg (.lit (.int 1))))) (.lit (.int 1))))] (.tupS [(.star (.var 3)), (.var 2)]))))))]), (.ret (.fz (.bi .sorted [(.fz (.slice (.var 1) (some (.lit (.int 1))) none))])))]
def rounds_of_d : DefI := { name := "rounds_of", ps := [("deeds" : Str)], N := [("deeds" : Str), ("found" : Str), ("deed" : Str), ("some" : Str)], body := rounds_of_b, mu := [] }
def law_rounds_b : List Pi.S := [(.asg (.name 1) (.fz (.lst [(.tup [])]))), (.for (.name 2) (.range [(.bin .sub (.var 0) (.lit (.int 1)))]) [(.asg (.name 1) (.fz (.bin .add (.var 1) (.fz (.comp [3] (.name 3) (.of (.var 1)) [(.or (.cmp .eq (.var 3) (.tup [])) (.cmp .lt (.fz (.bin .add (.idx (.var 3) (.neg (.lit (.int 1)))) (.lit (.int 1)))) (.var 2)))] (.fz (.bin .add (.var 3) (.tup [(.var 2)]))))))))]), (.ret (.fz (.bi .sorted [(.fz (.comp [3] (.name 3) (.of (.var 1)) [(.cmp .ne (.var 3) (.tup []))] (.var 3)))])))]
def law_rounds_d : DefI := { name := "_law_rounds", ps := [("n" : Str)], N := [("n" : Str), ("found" : Str), ("deed" : Str), ("told" : Str)], body := law_rounds_b, mu := [] }
section
variable {T : Tb} {k : Nat}
/-! ### how many pairs are out of order -/
def eP (p : Int × Int) : D := .tup [.int p.1, .int p.2]
def pP (p : Int × Int) : PyData := .tuple [.int p.1, .int p.2]
theorem encPP : EncOk eP pP 2 := encP encI encI
theorem alike_P (a b : Int × Int) : PySem.W.alike (pP a) (pP b) = true := PySem.W.DatumOrd.alike (α := Int × Int) a b
theorem vf_sorted_P (L : List (Int × Int)) (S : Sto) (Q : D → Sto → Prop) (E : XP) (h : ∀ M : List (Int × Int), M.Perm L → Q (.ref S.length) (S ++ [.lst (M.map eP)])) : Wp (builtin .sorted [.clst (L.map eP)]) S Q E := by
  cases L with
  | nil =>
    rw [show ([] : List (Int × Int)).map eP = ([] : List Int).map D.int from rfl, vf_sorted_clst, sortI_eq (List.Perm.refl ([] : List Int)) List.Pairwise.nil]
    exact h [] (List.Perm.refl _)
  | cons p L =>
    have e : builtin .sorted [.clst ((p :: L).map eP)] S = sortM ((p :: L).map eP) S := rfl
    have ha : alikeB ((p :: L).map pP) = true := by
      unfold alikeB
      rw [Bool.and_eq_true, List.all_eq_true, List.all_eq_true]
      refine ⟨fun x hx => ?_, fun x hx => ?_⟩
      · obtain ⟨a, _, rfl⟩ := List.mem_map.mp hx
        rw [List.all_eq_true]
        intro y hy
        obtain ⟨b, _, rfl⟩ := List.mem_map.mp hy
        exact alike_P a b
      · obtain ⟨a, _, rfl⟩ := List.mem_map.mp hx
        rfl
    have hs : sortableB ((p :: L).map pP) = true := by
      unfold sortableB
      rw [Bool.or_eq_true]
      left
      rw [List.all_eq_true]
      intro x hx
      obtain ⟨a, _, rfl⟩ := List.mem_map.mp hx
      rfl
    rw [wp_ap, e, sortM_of (encPP.pys S (p :: L) (by decide)) (.inr (by rw [ha, hs]; rfl))]
    have e2 : sortD ((p :: L).map eP) ((p :: L).map pP) = ((p :: L).mergeSort fun a b => !PySem.W.dataLt (pP b) (pP a)).map eP := by
      unfold sortD
      rw [List.zip_map', ← List.map_mergeSort (r := fun a b => !PySem.W.dataLt (pP b) (pP a)) (s := fun a b : D × PyData => !PySem.W.dataLt b.2 a.2) (f := fun a => (eP a, pP a)) (fun _ _ _ _ => rfl), List.map_map]
      rfl
    rw [e2]
    exact h _ (List.mergeSort_perm _ _)
theorem outsF_le : ∀ row : List Int, outsF row ≤ row.length * row.length
  | [] => Nat.le_refl _
  | a :: l => by
    have h1 : lessN l a ≤ l.length := List.length_filter_le _ _
    have h2 := outsF_le l
    rw [outsF, List.length_cons, Nat.add_mul, Nat.mul_add]
    omega
theorem fm_len (a : Int) : ∀ l : List Int, (l.filterMap fun o => if o < a then some (a, o) else none).length = lessN l a
  | [] => rfl
  | x :: l => by
    have h := fm_len a l
    unfold lessN at h ⊢
    rw [List.filterMap_cons, List.filter_cons]
    by_cases q : x < a
    · simp only [q, if_true, decide_true, List.length_cons, h]
    · simp only [q, if_false, decide_false, Bool.false_eq_true, h]
/-- the pairs out of order -/
def outP : List Int → List (Int × Int)
  | [] => []
  | a :: l => (l.filterMap fun o => if o < a then some (a, o) else none) ++ outP l
theorem outP_length : ∀ row : List Int, (outP row).length = outsF row
  | [] => rfl
  | a :: l => by rw [outP, List.length_append, outP_length l, fm_len, outsF]
theorem lawoutM_w [Fn T law_out_d] {row : List Int} {S : Sto} {Q : D → Sto → Prop} {E : XP} (hl : row.length ≤ 100) (hQ : ∀ M : List (Int × Int), M.Perm (outP row) → Q (.clst (M.map eP)) S) : Wp (callF T (k + 1) "_law_out" [tI row]) S Q E := by
  refine fz_call law_out_d rfl rfl ?_
  show Wp (evSs (T.ctx k) law_out_b [some (tI row), none, none, none]) S _ _
  have hout := outsF_le row
  have hout2 : row.length * row.length ≤ 100 * 100 := Nat.mul_le_mul hl hl
  unfold law_out_b
  walk_at "pi"
  rw [List.length_map]
  refine ⟨Nat.zero_le _, rgOk_of (by omega) (by omega) (by omega) (by omega), ?_⟩
  refine for_list ((upI 0 row.length).map .int) (fun i env S' => S' = S ∧ ∃ (L : List (Int × Int)) (x : Option D), env = [some (tI row), some (.clst (L.map eP)), x, none] ∧ L ++ outP (row.drop i) = outP row) (by rw [List.length_map, upI_length]) ⟨rfl, [], none, rfl, by simp⟩ (fun i env S' _ => by rw [rangeL_upI]) (fun i x env S' hx ⟨hS, L, x0, he, hL⟩ => ?_) (fun env S' ⟨hS, L, x0, he, hL⟩ => ?_)
  · subst he hS
    rw [List.getElem?_map, Option.map_eq_some_iff] at hx
    obtain ⟨p, hp, rfl⟩ := hx
    have hi := lt_len hp
    rw [upI_length] at hi
    rw [upI_get hi] at hp
    have hp2 : p = i := by have := Option.some.inj hp; omega
    subst hp2
    have hil : i < row.length := by omega
    have hLl := congrArg List.length hL
    rw [outP_length, List.length_append, outP_length] at hLl
    rw [drop_step (getD_of hil), outP] at hL
    rw [drop_step (getD_of hil), outsF] at hLl
    walk_at "pi"
    rw [cut_int_suf _ (by omega)]
    rw [show (((i : Int) + 1).toNat) = i + 1 by omega]
    walk_at "pi"
    refine comp_enc (row.drop (i + 1)) .int eP (fun o => if o < row.getD i 0 then some (row.getD i 0, o) else none) (List.length_map _) (by rw [List.length_drop, sizeLine_eq]; omega) (fun j => rfl) (fun o ho => ?_) ?_
    · walk_at "pi"
      rw [at_int (by omega) (by omega), Int.toNat_natCast]
      dsimp only
      rw [vc_lt]
      by_cases q : o < row.getD i 0
      · simp only [q, decide_true, if_true]
        exact ⟨by decide, rfl, trivial⟩
      · simp only [q, decide_false, Bool.false_eq_true, if_false]
        exact ⟨rfl, trivial⟩
    · have hfl : ((row.drop (i + 1)).filterMap fun o => if o < row.getD i 0 then some (row.getD i 0, o) else none).length = lessN (row.drop (i + 1)) (row.getD i 0) := fm_len _ _
      rw [fzq_list encPP (by decide), vb_addL (its_clst _ _) (its_clst _ _) rfl rfl, ← List.map_append, fzq_list encPP (by decide)]
      refine ⟨?_, rfl, _, _, rfl, ?_⟩
      · rw [List.length_map, List.length_map, hfl, sizeLine_eq]
        omega
      · rw [List.append_assoc]
        exact hL
  · subst he hS
    rw [List.length_map, upI_length] at hL
    rw [List.drop_of_length_le (by omega)] at hL
    walk_at "pi"
    refine vf_sorted_P L _ _ _ fun M hM => ?_
    rw [fzq_list encPP (by decide), fzq_enc (encL encPP) (by decide)]
    refine hQ _ ?_
    rw [← hL]
    simpa [outP] using hM
theorem lawout_w [Fn T law_out_d] {row : List Int} {S : Sto} {Q : D → Sto → Prop} {E : XP} (hl : row.length ≤ 100) (hQ : ∀ l : List D, l.length = outsF row → Q (.clst l) S) : Wp (callF T (k + 1) "_law_out" [tI row]) S Q E :=
  lawoutM_w hl fun M hM => hQ _ (by rw [List.length_map, hM.length_eq, outP_length])
/-! ### sorting tuples -/
theorem list_lexT : ∀ a b : List Int, PySem.W.listLt a b = lexB a b
  | [], [] => rfl
  | [], _ :: _ => rfl
  | _ :: _, [] => rfl
  | x :: a, y :: b => by
    rw [PySem.W.listLt, lexB, list_lexT a b]
    rfl
def sortT (l : List (List Int)) : List (List Int) := l.mergeSort fun a b => !lexB b a
def pT (l : List Int) : PyData := .tuple (l.map .int)
theorem lt_T (a b : List Int) : PySem.W.dataLt (pT a) (pT b) = lexB a b := by
  have h := PySem.W.DatumOrd.lt_eq (α := PySem.W.Tup Int) ⟨a⟩ ⟨b⟩
  refine (show PySem.W.dataLt (pT a) (pT b) = _ from h).trans ?_
  rw [← list_lexT]
  rfl
theorem alike_T (a b : List Int) : PySem.W.alike (pT a) (pT b) = true := PySem.W.DatumOrd.alike (α := PySem.W.Tup Int) ⟨a⟩ ⟨b⟩
theorem vf_sorted_T (L : List (List Int)) (S : Sto) (Q : D → Sto → Prop) (E : XP) (h : Q (.ref S.length) (S ++ [.lst ((sortT L).map tI)])) (hne : L.length ≤ 1 ∨ ∀ l ∈ L, l ≠ []) : Wp (builtin .sorted [.clst (L.map tI)]) S Q E := by
  cases L with
  | nil =>
    rw [show ([] : List (List Int)).map tI = ([] : List Int).map D.int from rfl, vf_sorted_clst, sortI_eq (List.Perm.refl ([] : List Int)) List.Pairwise.nil]
    have e : sortT [] = [] := by unfold sortT; simp
    rw [e] at h
    exact h
  | cons p L =>
    have e : builtin .sorted [.clst ((p :: L).map tI)] S = sortM ((p :: L).map tI) S := rfl
    have ha : alikeB ((p :: L).map pT) = true := by
      unfold alikeB
      rw [Bool.and_eq_true, List.all_eq_true, List.all_eq_true]
      refine ⟨fun x hx => ?_, fun x hx => ?_⟩
      · obtain ⟨a, _, rfl⟩ := List.mem_map.mp hx
        rw [List.all_eq_true]
        intro y hy
        obtain ⟨b, _, rfl⟩ := List.mem_map.mp hy
        exact alike_T a b
      · obtain ⟨a, _, rfl⟩ := List.mem_map.mp hx
        rfl
    have hs : (∀ l ∈ p :: L, l ≠ []) → sortableB ((p :: L).map pT) = true := by
      intro hne
      unfold sortableB
      rw [Bool.or_eq_true]
      left
      rw [List.all_eq_true]
      intro x hx
      obtain ⟨a, hm, rfl⟩ := List.mem_map.mp hx
      cases a with
      | nil => exact absurd rfl (hne _ hm)
      | cons z a => rfl
    have ha' : alikeB ((p :: L).map fun l => PyData.tuple (l.map .int)) = true := ha
    have hs' : (∀ l ∈ p :: L, l ≠ []) → sortableB ((p :: L).map fun l => PyData.tuple (l.map .int)) = true := hs
    rw [wp_ap, e, sortM_of (encTI.pys S (p :: L) (by decide)) (hne.elim (fun z => .inl (by rw [List.length_map]; exact z)) fun z => .inr (by rw [ha', hs' z]; rfl))]
    have e2 : sortD ((p :: L).map tI) ((p :: L).map fun l => PyData.tuple (l.map .int)) = (sortT (p :: L)).map tI := by
      unfold sortD sortT
      rw [List.zip_map', ← List.map_mergeSort (r := fun a b => !lexB b a) (s := fun a b : D × PyData => !PySem.W.dataLt b.2 a.2) (f := fun a => (tI a, PyData.tuple (a.map .int))) (fun a _ b _ => by show (!lexB b a) = !PySem.W.dataLt (pT b) (pT a); rw [lt_T]), List.map_map]
      rfl
    rw [e2]
    exact h
/-! ### the cards after some swaps (k36) -/
def afterF : List Int → List Int → Option (List Int)
  | cards, [] => some cards
  | cards, d :: told => if cards.getD d.toNat 0 < cards.getD (d + 1).toNat 0 then none else afterF (swapF cards d) told
def oT : Option (List Int) → D
  | some l => tI l
  | none => .non
theorem lawafter_w [Fn T law_swap_d] [Fn T law_after_d] {cards told : List Int} (hd : ∀ d ∈ told, 0 ≤ d ∧ d + 1 < cards.length) (hl : cards.length ≤ 1000000) : Ret (callF T (k + 2) "_law_after" [tI cards, tI told]) (oT (afterF cards told)) := by
  refine ret_call law_after_d rfl rfl fun S => ?_
  show Wp (evSs (T.ctx (k + 1)) law_after_b [some (tI cards), some (tI told), none]) S _ _
  unfold law_after_b
  walk_at "pi"
  refine for_list (told.map .int) (fun i env S' => S' = S ∧ ∃ (c : List Int) (x : Option D), env = [some (tI c), some (tI told), x] ∧ c.length = cards.length ∧ afterF c (told.drop i) = afterF cards told) rfl ⟨rfl, cards, none, rfl, rfl, rfl⟩ (fun i env S' _ => rfl) (fun i x env S' hx ⟨hS, c, x0, he, hcl, hb⟩ => ?_) (fun env S' ⟨hS, c, x0, he, hcl, hb⟩ => ?_)
  · subst he hS
    rw [List.getElem?_map, Option.map_eq_some_iff] at hx
    obtain ⟨d, hi, rfl⟩ := hx
    have hdw := hd d (List.mem_of_getElem? hi)
    rw [drop_step hi, afterF] at hb
    walk_at "pi"
    rw [at_int (by omega) (by omega)]
    dsimp only
    rw [at_int (by omega) (by omega)]
    dsimp only
    rw [vc_lt]
    by_cases q : c.getD d.toNat 0 < c.getD (d + 1).toNat 0
    · rw [if_pos q] at hb
      simp only [q, decide_true, if_true]
      rw [← hb, fzq_non]
      exact ⟨rfl, rfl⟩
    · rw [if_neg q] at hb
      simp only [q, decide_false, Bool.false_eq_true, if_false]
      rw [(lawswap_w hdw.1 (by omega) (by omega)).wp]
      exact ⟨rfl, _, _, rfl, by rw [swapF_length hdw.1 (by omega)]; exact hcl, hb⟩
  · subst he hS
    rw [List.length_map, List.drop_length, afterF] at hb
    walk_at "pi"
    rw [← hb]
    rfl
theorem at_last {l : List Int} (h : l ≠ []) : L2.atI (l.map D.int) (-1) = some (.int (l.getLastD 0)) := by
  have hl := List.length_pos_iff.mpr h
  unfold L2.atI L2.ixN
  rw [if_neg (by decide), List.length_map, if_pos (by omega)]
  show (l.map D.int)[(-1 + (l.length : Int)).toNat]? = _
  rw [show (-1 + (l.length : Int)).toNat = l.length - 1 by omega, List.getElem?_map, ← List.getLast?_eq_getElem?, List.getLastD_eq_getLast?]
  cases e : l.getLast? with
  | none => exact absurd (List.getLast?_eq_none_iff.mp e) h
  | some a => rfl
theorem fm_map {α β : Type} (p : α → Bool) (g : α → β) : ∀ L : List α, (L.filterMap fun s => if p s = true then some (g s) else none) = (L.filter p).map g
  | [] => rfl
  | a :: L => by
    rw [List.filterMap_cons, List.filter_cons, fm_map p g L]
    cases p a <;> rfl
theorem cut_one (x : D) (l : List D) : cut (x :: l) (some 1) none = l := by
  have := cut_suf (x :: l) (d := 1) (by decide)
  exact this
def okR (d : Int) (s : List Int) : Bool := s.isEmpty || decide (1 < d - s.getLastD 0)
def growR (L : List (List Int)) (d : Int) : List (List Int) := L ++ (L.filter (okR d)).map (· ++ [d])
def roundsA (ds : List Int) : List (List Int) := ds.foldl growR [[]]
theorem growR_len (L : List (List Int)) (d : Int) : (growR L d).length ≤ 2 * L.length := by
  have := List.length_filter_le (okR d) L
  unfold growR
  rw [List.length_append, List.length_map]
  omega
theorem roundsA_head : ∀ (ds : List Int) (L : List (List Int)), (∀ l ∈ L, l ≠ []) → ∃ M, ds.foldl growR ([] :: L) = [] :: M ∧ ∀ l ∈ M, l ≠ []
  | [], L, h => ⟨L, rfl, h⟩
  | d :: ds, L, h => by
    rw [List.foldl_cons]
    refine roundsA_head ds (L ++ (([] :: L).filter (okR d)).map (· ++ [d])) fun l hl => ?_
    rcases List.mem_append.mp hl with z | z
    · exact h l z
    · obtain ⟨s, _, rfl⟩ := List.mem_map.mp z
      simp
theorem roundsof_w [Fn T rounds_of_d] {ds : List Int} (hl : ds.length ≤ 8) : Ret (callF T (k + 1) "rounds_of" [.clst (ds.map .int)]) (.clst ((sortT ((roundsA ds).drop 1)).map tI)) := by
  refine ret_call rounds_of_d rfl rfl fun S => ?_
  show Wp (evSs (T.ctx k) rounds_of_b [some (.clst (ds.map .int)), none, none, none]) S _ _
  unfold rounds_of_b
  walk_at "pi"
  refine ⟨by decide, by decide, ?_⟩
  rw [show [D.tup []] = [([] : List Int)].map tI from rfl, fzq_list encTI (by decide)]
  refine for_list (ds.map .int) (fun i env S' => S' = S ∧ ∃ (L : List (List Int)) (x : Option D), env = [some (.clst (ds.map .int)), some (.clst (L.map tI)), x, none] ∧ L.length ≤ 2 ^ i ∧ (∀ s ∈ L, s.length ≤ i) ∧ (ds.drop i).foldl growR L = roundsA ds) rfl ⟨rfl, [[]], none, rfl, by decide, fun s hs => by rw [List.mem_singleton.mp hs]; exact Nat.le_refl _, rfl⟩ (fun i env S' _ => rfl) (fun i x env S' hx ⟨hS, L, x0, he, hL, hs8, hr⟩ => ?_) (fun env S' ⟨hS, L, x0, he, hL, hs8, hr⟩ => ?_)
  · subst he hS
    rw [List.getElem?_map, Option.map_eq_some_iff] at hx
    obtain ⟨d, hi, rfl⟩ := hx
    have hiw := lt_len hi
    have hp : (2 : Nat) ^ i ≤ 2 ^ 8 := Nat.pow_le_pow_right (by decide) (by omega)
    rw [drop_step hi, List.foldl_cons] at hr
    have hg := growR_len L d
    walk_at "pi"
    refine comp_enc L tI tI (fun s => if okR d s then some (s ++ [d]) else none) (List.length_map _) (by rw [sizeLine_eq]; omega) (fun j => rfl) (fun s hs => ?_) ?_
    · have hsl := hs8 s hs
      walk_at "pi"
      have fin : okR d s = true → ∀ S3 : Sto, Wp (evDs (T.ctx k) [.var 2] [some (D.clst (List.map D.int ds)), some (D.clst (List.map tI L)), some (D.int d), some (tI s)]) S3 (fun xs S4 => (List.map D.int s ++ xs).length ≤ sizeLine ∧ some (D.tup (List.map D.int s ++ xs)) = Option.map tI (if okR d s = true then some (s ++ [d]) else none) ∧ S4 = S3) NoX := by
        intro z S3
        rw [wp_ds_cons _ _ _ (.var 2) [] rfl]
        walk_at "pi"
        rw [if_pos z]
        refine ⟨by rw [List.length_append, List.length_map, sizeLine_eq]; simp only [List.length_cons, List.length_nil]; omega, ?_⟩
        show some (D.tup _) = some (D.tup ((s ++ [d]).map .int))
        rw [List.map_append]
        rfl
      cases s with
      | nil => exact fin rfl S'
      | cons z s =>
        have hb : (!!(List.map D.int (z :: s)).isEmpty) = false := rfl
        rw [hb, if_neg (by decide), at_last (by simp)]
        dsimp only
        rw [vb_sub, vc_gt]
        by_cases q : 1 < d - (z :: s).getLastD 0
        · rw [if_pos (decide_eq_true q)]
          exact fin (by unfold okR; rw [decide_eq_true q]; rfl) S'
        · rw [if_neg (by rw [decide_eq_true_iff]; exact q), if_neg (by unfold okR; rw [decide_eq_false q]; exact Bool.false_ne_true)]
          exact ⟨rfl, rfl⟩
    · have e1 : (L.filterMap fun s => if okR d s = true then some (s ++ [d]) else none) = (L.filter (okR d)).map (· ++ [d]) := fm_map _ _ _
      rw [e1, fzq_list encTI (by decide), vb_addL (its_clst _ _) (its_clst _ _) rfl rfl, ← List.map_append, fzq_list encTI (by decide)]
      have hg2 := hg
      unfold growR at hg2
      rw [List.length_append] at hg2
      refine ⟨by rw [List.length_map, List.length_map, sizeLine_eq]; omega, rfl, growR L d, _, rfl, by rw [Nat.pow_succ]; omega, fun s hs => ?_, hr⟩
      rcases List.mem_append.mp hs with z | z
      · exact Nat.le_succ_of_le (hs8 s z)
      · obtain ⟨t, ht, rfl⟩ := List.mem_map.mp z
        have := hs8 t (List.mem_filter.mp ht).1
        rw [List.length_append]
        simp only [List.length_cons, List.length_nil]
        omega
  · subst he hS
    rw [List.length_map, List.drop_length] at hr
    obtain ⟨M, eM, hM⟩ := roundsA_head ds [] (by simp)
    have eL : L = [] :: M := (show L = roundsA ds from hr).trans eM
    have eR : roundsA ds = [] :: M := eM
    rw [eR]
    subst eL
    walk_at "pi"
    rw [show cut (([] :: M).map tI) (some 1) none = M.map tI from cut_one _ _, fzq_list encTI (by decide)]
    refine vf_sorted_T M _ _ _ ?_ (.inr hM)
    rw [fzq_list encTI (by decide), fzq_enc (encL encTI) (by decide)]
    exact ⟨rfl, rfl⟩
theorem lawrounds_w [Fn T law_rounds_d] {n : Int} (h0 : 1 ≤ n) (hn : n ≤ 9) : Ret (callF T (k + 1) "_law_rounds" [.int n]) (.clst ((sortT ((roundsA (upI 0 (n - 1))).drop 1)).map tI)) := by
  refine ret_call law_rounds_d rfl rfl fun S => ?_
  show Wp (evSs (T.ctx k) law_rounds_b [some (.int n), none, none, none]) S _ _
  have hul : (upI 0 (n - 1)).length = (n - 1).toNat := by rw [upI_length]; omega
  unfold law_rounds_b
  walk_at "pi"
  refine ⟨by decide, by decide, ?_⟩
  rw [show [D.tup []] = [([] : List Int)].map tI from rfl, fzq_list encTI (by decide)]
  refine ⟨rgOk_of (by omega) (by omega) (by omega) (by omega), ?_⟩
  refine for_list ((upI 0 (n - 1)).map .int) (fun i env S' => S' = S ∧ ∃ (L : List (List Int)) (x : Option D), env = [some (.int n), some (.clst (L.map tI)), x, none] ∧ L.length ≤ 2 ^ i ∧ (∀ s ∈ L, s.length ≤ i) ∧ ((upI 0 (n - 1)).drop i).foldl growR L = roundsA (upI 0 (n - 1))) (by rw [List.length_map, upI_length]) ⟨rfl, [[]], none, rfl, by decide, fun s hs => by rw [List.mem_singleton.mp hs]; exact Nat.le_refl _, rfl⟩ (fun i env S' _ => by rw [rangeL_upI]) (fun i x env S' hx ⟨hS, L, x0, he, hL, hs8, hr⟩ => ?_) (fun env S' ⟨hS, L, x0, he, hL, hs8, hr⟩ => ?_)
  · subst he hS
    rw [List.getElem?_map, Option.map_eq_some_iff] at hx
    obtain ⟨d, hi, rfl⟩ := hx
    have hiw := lt_len hi
    have hp : (2 : Nat) ^ i ≤ 2 ^ 8 := Nat.pow_le_pow_right (by decide) (by omega)
    rw [drop_step hi, List.foldl_cons] at hr
    have hg := growR_len L d
    walk_at "pi"
    refine comp_enc L tI tI (fun s => if okR d s then some (s ++ [d]) else none) (List.length_map _) (by rw [sizeLine_eq]; omega) (fun j => rfl) (fun s hs => ?_) ?_
    · have hsl := hs8 s hs
      walk_at "pi"
      have fin : okR d s = true → 1 ≤ sizeLine ∧ (List.map D.int s).length + 1 ≤ sizeLine ∧ FzQ S' (fun y S2 => some y = Option.map tI (if okR d s = true then some (s ++ [d]) else none) ∧ S2 = S') (D.tup (List.map D.int s ++ [D.int d])) S' := by
        intro z
        rw [if_pos z, show List.map D.int s ++ [D.int d] = (s ++ [d]).map .int by rw [List.map_append]; rfl, fzq_tup]
        exact ⟨by decide, by rw [List.length_map, sizeLine_eq]; omega, rfl, rfl⟩
      refine ⟨Nat.zero_le _, ?_⟩
      rw [show (D.tup [] : D) = tI [] from rfl, ve_tI]
      cases s with
      | nil => exact fin rfl
      | cons z s =>
        rw [decide_eq_false (by simp : ¬ (z :: s = [])), if_neg Bool.false_ne_true, at_last (by simp)]
        dsimp only
        rw [vb_add, fzq_int, vc_lt]
        by_cases q : (z :: s).getLastD 0 + 1 < d
        · rw [if_pos (decide_eq_true q)]
          exact fin (by unfold okR; rw [decide_eq_true (by omega)]; rfl)
        · rw [if_neg (by rw [decide_eq_true_iff]; exact q), if_neg (by unfold okR; rw [decide_eq_false (by omega)]; exact Bool.false_ne_true)]
          exact ⟨rfl, rfl⟩
    · have e1 : (L.filterMap fun s => if okR d s = true then some (s ++ [d]) else none) = (L.filter (okR d)).map (· ++ [d]) := fm_map _ _ _
      rw [e1, fzq_list encTI (by decide), vb_addL (its_clst _ _) (its_clst _ _) rfl rfl, ← List.map_append, fzq_list encTI (by decide)]
      have hg2 := hg
      unfold growR at hg2
      rw [List.length_append] at hg2
      refine ⟨by rw [List.length_map, List.length_map, sizeLine_eq]; omega, rfl, growR L d, _, rfl, by rw [Nat.pow_succ]; omega, fun s hs => ?_, hr⟩
      rcases List.mem_append.mp hs with z | z
      · exact Nat.le_succ_of_le (hs8 s z)
      · obtain ⟨t, ht, rfl⟩ := List.mem_map.mp z
        have := hs8 t (List.mem_filter.mp ht).1
        rw [List.length_append]
        simp only [List.length_cons, List.length_nil]
        omega
  · subst he hS
    rw [List.length_map] at hL hs8
    rw [List.length_map, List.drop_length] at hr
    obtain ⟨M, eM, hM⟩ := roundsA_head (upI 0 (n - 1)) [] (by simp)
    have eL : L = [] :: M := (show L = roundsA _ from hr).trans eM
    have eR : roundsA (upI 0 (n - 1)) = [] :: M := eM
    rw [eR]
    subst eL
    have hp : (2 : Nat) ^ (upI 0 (n - 1)).length ≤ 2 ^ 8 := Nat.pow_le_pow_right (by decide) (by omega)
    walk_at "pi"
    refine comp_filter ([] :: M) tI (fun l => decide (l ≠ [])) (List.length_map _) (by rw [sizeLine_eq]; omega) (fun j => rfl) (fun l hl => ?_) ?_
    · walk_at "pi"
      refine ⟨Nat.zero_le _, ?_⟩
      rw [show (D.tup [] : D) = tI [] from rfl, ve_tI]
      by_cases q : l = []
      · rw [decide_eq_true q, decide_eq_false (fun z => z q)]
        exact ⟨rfl, rfl⟩
      · rw [decide_eq_false q, decide_eq_true q]
        exact ⟨rfl, rfl⟩
    · have ef : ([] :: M).filter (fun l => decide (l ≠ [])) = M := by
        rw [List.filter_cons_of_neg (by simp)]
        exact List.filter_eq_self.mpr fun l hl => decide_eq_true (hM l hl)
      rw [ef, fzq_list encTI (by decide)]
      refine vf_sorted_T M _ _ _ ?_ (.inr hM)
      rw [fzq_list encTI (by decide), fzq_enc (encL encTI) (by decide)]
      exact ⟨rfl, rfl⟩
end
end Pi

/-! Tasks, what reaches a goal, values of all kinds in checks. -/
namespace Pi
open PySem
local macro_rules | `(tactic| walk_at "pi") => `(tactic| simp only [wp_pure, wp_bind, wp_bad, wp_ite, wp_chk, wp_new, wp_var, wp_lit, wp_glob, wp_bin, wp_neg, wp_not, wp_and, wp_or, wp_cmp, wp_cmp2, wp_iteE, wp_tup, wp_lst, wp_call, wp_fz, wp_tupS, wp_lstS, wp_dnew, wp_disp, wp_dget1, wp_dget2, wp_litems, wp_sset, wi_rev, vr_index, vr_count, vm_count, wi_items, vd_is, vd_items, wp_ds_nil, wp_ds_star, wp_ds_cons, notStar, wp_bi, wp_isi, wp_idx, wp_slice, wp_meth, wp_lrange, wp_trange, wp_tdown, wp_comp, wp_compB, wp_comp2, wp_comp2B, wp_rngv, wp_es_nil, wp_es_cons, wp_o_none, wp_o_some, wp_ts_nil, wp_ts_one, wt_not, wt_and, wt_or, wt_cmp, wt_ite, wt_var, wt_call, wt_bi, wt_isi, wt_cmp2, wt_idx, wt_lit, wi_of, wi_enum, wi_zip, wi_range, ws_asg, ws_par, ws_sub, ws_aug, ws_expr, ws_ret, ws_retN, ws_pass, ws_brk, ws_cont, ws_ifs, ws_for, ws_whil, wss_nil, wss_cons, then_nx, then_ret, then_brk, then_cont, out_ret, out_nx, turn_nx, turn_cont, turn_brk, turn_ret, wp_putM, ctx_cf, fzq_int, fzq_bl, fzq_non, fzq_str, fzq_tI, fzq_tup, fzq_ints, fzq_bls, fzq_tIs, fzq_nil, ctx_gl, vb_add, vb_sub, vb_mul, vb_fdiv, vb_mod, vb_pow, vb_addT, vc_lt, vc_le, vc_gt, vc_ge, vc_eqv, vc_nev, vc_inv, vc_ninv, ve_int, ve_bl, vt_bl, vt_int, vt_tup, vt_non, vi_int, vi_bl, vi_str, vi_non, vi_tup, vi_clst, vs_tup, vs_clst, vI_tup, vI_clst, vI_rng, vI_ref, vx_tup, vx_clst, vp_none, vp_int, vl_tup, vl_clst, vf_len_tup, vf_len_clst, vf_int, vf_tup, vf_list_tup, vf_sorted_tup, vf_sorted_clst, vf_all, vf_any, vf_sum, vf_tup_clst, vf_list_clst, vf_min2, vf_max2, vf_abs, va_add, va_sub, put_name, put_tup, put_clst, puts_nil, puts_cons, wipe, List.getElem?_cons_zero, List.getElem?_cons_succ, List.getElem?_nil, List.set_cons_zero, List.set_cons_succ, List.length_cons, List.length_nil, List.any_cons, List.any_nil, isTy, String.reduceBEq, String.reduceEq, Bool.false_and, Bool.and_false, Bool.true_and, Bool.and_true, Bool.or_false, Bool.false_or, Bool.or_true, Bool.true_or, Bool.not_true, Bool.not_false, if_true, if_false, Bool.false_eq_true, reduceIte, reduceCtorEq, Nat.reduceAdd, Nat.reduceLT, Nat.lt_add_one, and_self, true_and, and_true, rangeOf, BEq.rfl, bne_self_eq_false, Nat.reduceLeDiff, Nat.zero_lt_succ, Nat.zero_lt_one])
def check_word_up_to_b : List Pi.S := [(.expr (.call "check_word" [(.var 0), (.var 1)])), (.ifs (.cmp .gt (.bi .len [(.var 1)]) (.var 2)) [.never] [])]
def check_word_up_to_d : DefI := { name := "check_word_up_to", ps := [("n" : Str), ("word" : Str), ("most" : Str)], N := [("n" : Str), ("word" : Str), ("most" : Str)], body := check_word_up_to_b, mu := [] }
def check_word_that_fails_b : List Pi.S := [(.expr (.call "check_cards" [(.var 0)])), (.expr (.call "check_word_up_to" [(.var 0), (.var 1), (.glob "MOST_DEEDS_THAT_FAIL")]))]
def check_word_that_fails_d : DefI := { name := "check_word_that_fails", ps := [("n" : Str), ("word" : Str)], N := [("n" : Str), ("word" : Str)], body := check_word_that_fails_b, mu := [] }
def check_task_b : List Pi.S := [(.expr (.call "check_word_that_fails" [(.var 0), (.var 1)])), (.expr (.call "check_goal" [(.var 0), (.var 2)]))]
def check_task_d : DefI := { name := "check_task", ps := [("n" : Str), ("word" : Str), ("goal" : Str)], N := [("n" : Str), ("word" : Str), ("goal" : Str)], body := check_task_b, mu := [] }
def reaches_b : List Pi.S := [(.ret (.call "is_as_sorted" [(.call "end_of" [(.bi .len [(.var 1)]), (.var 0)]), (.var 1)]))]
def reaches_d : DefI := { name := "reaches", ps := [("word" : Str), ("goal" : Str)], N := [("word" : Str), ("goal" : Str)], body := reaches_b, mu := [] }
/-! ### least places, the lot failing -/
theorem goF_left (goal lot : List Int) : ∀ (w : List Int) (i j : Nat) (row : List Int), (goF goal lot i row w).2 = (goF goal [] j row (leftA i w lot)).2
  | [], _, _, _ => rfl
  | d :: w, i, j, row => by
    rw [goF, leftA]
    by_cases q : (i : Int) ∈ lot
    · rw [if_neg fun z => z.1 q, if_pos q]
      exact goF_left goal lot w (i + 1) j row
    · rw [if_neg q, goF]
      by_cases f : posF goal (row.getD (d + 1).toNat 0) < posF goal (row.getD d.toNat 0)
      · rw [if_pos ⟨q, f⟩, if_pos ⟨by simp, f⟩]
        exact goF_left goal lot w (i + 1) (j + 1) _
      · rw [if_neg fun z => f z.2, if_neg fun z => f z.2]
        exact goF_left goal lot w (i + 1) (j + 1) row
theorem least_reach {goal w lot : List Int} {n : Int} (h0 : 0 ≤ n) (hg : IsRow goal n) (hw : IsWord w n) : CntLe (endF n (leftF w lot)) goal ↔ (goF goal lot 0 (turnedF n) w).2 = goal := by
  rw [reach_iff h0 hg (hw.sub (leftF_sub w lot)), goF_left goal lot w 0 0]
  rfl
theorem goF_avoid (goal lot : List Int) : ∀ (w : List Int) (i : Nat) (row : List Int), ∀ p ∈ (goF goal lot i row w).1, p ∉ lot
  | [], _, _, p, h => by rw [goF] at h; cases h
  | d :: w, i, row, p, h => by
    rw [goF] at h
    split at h
    · rename_i q
      rcases List.mem_cons.mp h with rfl | h
      · exact q.1
      · exact goF_avoid goal lot w (i + 1) _ p h
    · exact goF_avoid goal lot w (i + 1) row p h
theorem greedy_pathL {goal word lot : List Int} {n : Int} (h0 : 0 ≤ n) (hw : IsWord word n) : ∀ (suf : List Int) (i : Nat) (row : List Int), word.drop i = suf → IsRow row n → AscF goal row → (goF goal lot i row suf).2 = goal → PathF goal row (deeds word (goF goal lot i row suf).1)
  | [], i, row, _, _, _, h => h
  | d :: suf, i, row, hs, hr, ha, h => by
    have hi : i < word.length := by
      rcases Nat.lt_or_ge i word.length with q | q
      · exact q
      · rw [List.drop_of_length_le q] at hs; cases hs
    have hgd := getD_of (row := word) hi
    rw [drop_step hgd] at hs
    obtain ⟨e1, e2⟩ := List.cons.inj hs
    have hd := hw _ (List.mem_of_getElem? hgd)
    rw [e1] at hd
    have hl := hr.leni h0
    rw [goF] at h ⊢
    by_cases q : (i : Int) ∉ lot ∧ posF goal (row.getD (d + 1).toNat 0) < posF goal (row.getD d.toNat 0)
    · rw [if_pos q] at h ⊢
      have hlt : row.getD (d + 1).toNat 0 < row.getD d.toNat 0 := by
        have hne := row_ne hr hd.1 (by omega)
        rcases Int.lt_or_le (row.getD (d + 1).toNat 0) (row.getD d.toNat 0) with z | z
        · exact z
        · have := ha d.toNat (d + 1).toNat _ _ (by omega) (getD_of (by omega)) (getD_of (by omega)) (by omega)
          omega
      show PathF goal row (word.getD (i : Int).toNat 0 :: deeds word (goF goal lot (i + 1) (swapF row d) suf).1)
      rw [Int.toNat_natCast, e1]
      exact ⟨hlt, greedy_pathL h0 hw suf (i + 1) _ e2 (swapF_row hr hd.1 (by omega)) ((asc_swap hd.1 (by omega) hlt).mp ⟨ha, q.2⟩) h⟩
    · rw [if_neg q] at h ⊢
      exact greedy_pathL h0 hw suf (i + 1) row e2 hr ha h
theorem outs_turned {n : Int} (h0 : 0 ≤ n) (h7 : n ≤ 7) : (outsF (turnedF n) : Int) = n * (n - 1) / 2 := by
  have : n = 0 ∨ n = 1 ∨ n = 2 ∨ n = 3 ∨ n = 4 ∨ n = 5 ∨ n = 6 ∨ n = 7 := by omega
  rcases this with rfl | rfl | rfl | rfl | rfl | rfl | rfl | rfl <;> decide
theorem sub_upI : ∀ (l : List Int) (lo hi : Int), l.Pairwise (· < ·) → (∀ x ∈ l, lo ≤ x ∧ x < hi) → l.Sublist (upI lo hi) := by
  intro l lo hi
  induction hk : (hi - lo).toNat generalizing l lo with
  | zero =>
    intro _ hm
    cases l with
    | nil => exact List.nil_sublist _
    | cons a l => have := hm a List.mem_cons_self; omega
  | succ m ih =>
    intro hp hm
    rw [upI_cons (by omega)]
    cases l with
    | nil => exact List.nil_sublist _
    | cons a l =>
      have ha := hm a List.mem_cons_self
      have hp2 := List.pairwise_cons.mp hp
      by_cases e : a = lo
      · subst e
        exact List.Sublist.cons_cons _ (ih l (a + 1) (by omega) hp2.2 fun x hx => ⟨by have := hp2.1 x hx; omega, (hm x (List.mem_cons_of_mem _ hx)).2⟩)
      · refine List.Sublist.cons _ (ih (a :: l) (lo + 1) (by omega) hp fun x hx => ⟨?_, (hm x hx).2⟩)
        rcases List.mem_cons.mp hx with rfl | hx
        · omega
        · have := hp2.1 x hx
          omega
theorem lot_iff {l : List Int} {size : Int} : IsLot l size ↔ l.Pairwise (· < ·) ∧ ∀ x ∈ l, 0 ≤ x ∧ x < size :=
  ⟨fun h => ⟨h.lt, fun x hx => h.mem hx⟩, fun h => sub_upI l 0 size h.1 h.2⟩
/-! ### values of all kinds -/
/-- what needs no store -/
def Plain : D → Prop
  | .ref _ => False
  | .rng _ _ => False
  | .cdic t _ _ => t = false
  | _ => True
def isI : D → Bool
  | .int _ => true
  | _ => false
def inR (lo hi : Int) : D → Bool
  | .int i => decide (lo ≤ i ∧ i ≤ hi)
  | _ => false
def isTp : D → Bool
  | .tup _ => true
  | _ => false
section
variable {S : Sto}
theorem vi_dic (ks : List (List L2.Key)) (vs : List D) (ts : List String) (Q : Bool → Sto → Prop) (E : XP) : Wp (isinst (.cdic false ks vs) ts) S Q E = Q (ts.any (isTy "dict")) S := by rw [wp_ap]; rfl
theorem vi_tuple {d : D} (h : Plain d) (Q : Bool → Sto → Prop) (E : XP) : Wp (isinst d ["tuple"]) S Q E = Q (isTp d) S := by
  cases d with
  | ref _ => exact h.elim
  | rng _ _ => exact h.elim
  | cdic t ks vs =>
    cases (show t = false from h)
    rw [vi_dic]; rfl
  | non => rw [vi_non]; rfl
  | bl _ => rw [vi_bl]; rfl
  | int _ => rw [vi_int]; rfl
  | str _ => rw [vi_str]; rfl
  | tup _ => rw [vi_tup]; rfl
  | clst _ => rw [vi_clst]; rfl
def isIB : D → Bool
  | .int _ => true
  | .bl _ => true
  | _ => false
def isB : D → Bool
  | .bl _ => true
  | _ => false
theorem vi_intD {d : D} (h : Plain d) (Q : Bool → Sto → Prop) (E : XP) : Wp (isinst d ["int"]) S Q E = Q (isIB d) S := by
  cases d with
  | ref _ => exact h.elim
  | rng _ _ => exact h.elim
  | cdic t ks vs =>
    cases (show t = false from h)
    rw [vi_dic]; rfl
  | non => rw [vi_non]; rfl
  | bl _ => rw [vi_bl]; rfl
  | int _ => rw [vi_int]; rfl
  | str _ => rw [vi_str]; rfl
  | tup _ => rw [vi_tup]; rfl
  | clst _ => rw [vi_clst]; rfl
theorem vi_boolD {d : D} (h : Plain d) (Q : Bool → Sto → Prop) (E : XP) : Wp (isinst d ["bool"]) S Q E = Q (isB d) S := by
  cases d with
  | ref _ => exact h.elim
  | rng _ _ => exact h.elim
  | cdic t ks vs =>
    cases (show t = false from h)
    rw [vi_dic]; rfl
  | non => rw [vi_non]; rfl
  | bl _ => rw [vi_bl]; rfl
  | int _ => rw [vi_int]; rfl
  | str _ => rw [vi_str]; rfl
  | tup _ => rw [vi_tup]; rfl
  | clst _ => rw [vi_clst]; rfl
theorem isI_eq (d : D) : isI d = (isIB d && !isB d) := by cases d <;> rfl
end
section
variable {T : Tb} {k : Nat}
theorem isintD_w [Fn T is_integer_d] {d : D} (h : Plain d) : Ret (callF T (k + 1) "is_integer" [d]) (.bl (isI d)) := by
  refine ret_call is_integer_d rfl rfl fun S => ?_
  show Wp (evSs (T.ctx k) is_integer_b [some d]) S _ _
  unfold is_integer_b
  walk_at "pi"
  rw [vi_intD h]
  walk_at "pi"
  rw [isI_eq]
  cases hb : isIB d
  · walk_at "pi"
  · walk_at "pi"
    rw [vi_boolD h]
    walk_at "pi"
theorem fromtoD_w [Fn T is_integer_d] [Fn T is_from_to_d] {d : D} (h : Plain d) (lo hi : Int) : Ret (callF T (k + 2) "is_from_to" [d, .int lo, .int hi]) (.bl (inR lo hi d)) := by
  refine ret_call is_from_to_d rfl rfl fun S => ?_
  show Wp (evSs (T.ctx (k + 1)) is_from_to_b [some d, some (.int lo), some (.int hi)]) S _ _
  unfold is_from_to_b
  walk_at "pi"
  rw [(isintD_w h).wp]
  walk_at "pi"
  cases d with
  | int v =>
    simp only [isI, inR, if_true]
    walk_at "pi"
    by_cases h1 : lo ≤ v <;> simp [h1]
  | _ =>
    simp only [isI, inR, Bool.false_eq_true, if_false]
    try walk_at "pi"
theorem islotN_w [Fn T is_integer_d] [Fn T is_from_to_d] [Fn T is_lot_d] {w : List Int} {l : List D} (hl : l.length ≤ 1000000) (hp : ∀ d ∈ l, Plain d) (hn : (l.all (inR 0 ((w.length : Int) - 1))) = false) : Ret (callF T (k + 3) "is_lot" [.tup l, tI w]) (.bl false) := by
  refine ret_call is_lot_d rfl rfl fun S => ?_
  show Wp (evSs (T.ctx (k + 2)) is_lot_b [some (.tup l), some (tI w), none, none]) S _ _
  unfold is_lot_b
  walk_at "pi"
  refine comp_map l id .bl (inR 0 ((w.length : Int) - 1)) rfl (by rw [sizeLine_eq]; omega) (fun i => by rw [List.map_id]; rfl) (fun a ha => ?_) ?_
  · rw [show id a = a from rfl]
    walk_at "pi"
    rw [List.length_map, (fromtoD_w (hp a ha) _ _).wp]
    exact ⟨rfl, rfl⟩
  · walk_at "pi"
    rw [all_true, hn]
    walk_at "pi"
theorem islotX_w [Fn T is_lot_d] {w : List Int} {d : D} (h : Plain d) (hd : isTp d = false) : Ret (callF T (k + 1) "is_lot" [d, tI w]) (.bl false) := by
  refine ret_call is_lot_d rfl rfl fun S => ?_
  show Wp (evSs (T.ctx k) is_lot_b [some d, some (tI w), none, none]) S _ _
  unfold is_lot_b
  walk_at "pi"
  rw [vi_tuple h, hd]
  walk_at "pi"
theorem islotI_w [Fn T is_integer_d] [Fn T is_from_to_d] [Fn T is_lot_d] {w l : List Int} [Decidable (IsLot l w.length)] (hl : l.length ≤ 1000000) : Ret (callF T (k + 3) "is_lot" [tI l, tI w]) (.bl (decide (IsLot l w.length))) := by
  by_cases ha : ∀ x ∈ l, 0 ≤ x ∧ x ≤ (w.length : Int) - 1
  · refine ret_call is_lot_d rfl rfl fun S => ?_
    show Wp (evSs (T.ctx (k + 2)) is_lot_b [some (tI l), some (tI w), none, none]) S _ _
    unfold is_lot_b
    walk_at "pi"
    refine comp_map l .int .bl (fun _ => true) (List.length_map _) (by rw [sizeLine_eq]; omega) (fun i => rfl) (fun a hx => ?_) ?_
    · walk_at "pi"
      rw [(fromto_w _ _ _).wp, decide_eq_true (by rw [List.length_map]; exact ha a hx)]
      exact ⟨rfl, rfl⟩
    · walk_at "pi"
      rw [all_true, List.all_eq_true.mpr fun _ _ => rfl]
      walk_at "pi"
      rw [cut_int_suf _ (by omega)]
      refine ⟨rfl, ?_⟩
      refine comp_map (l.zip (l.drop 1)) (fun p => D.tup [.int p.1, .int p.2]) .bl (fun p => decide (p.1 < p.2)) (by simp [List.length_zip]) (by rw [sizeLine_eq, List.length_zip]; omega) (fun i => by rw [← zipL_map]; exact zip_step rfl rfl) (fun p hp => ?_) ?_
      · walk_at "pi"
      · walk_at "pi"
        rw [all_true]
        congr 1
        rw [Bool.eq_iff_iff, List.all_eq_true, decide_eq_true_iff, lot_iff]
        constructor
        · intro h
          exact ⟨zip_tail_lt.mp fun p hp => of_decide_eq_true (h p hp), fun x hx => ⟨(ha x hx).1, by have := (ha x hx).2; omega⟩⟩
        · intro h p hp
          exact decide_eq_true (zip_tail_lt.mpr h.1 p hp)
  · have hne : ¬ IsLot l w.length := fun h => ha fun x hx => ⟨(h.mem hx).1, by have := (h.mem hx).2; omega⟩
    rw [decide_eq_false hne]
    refine islotN_w (by rw [List.length_map]; exact hl) (fun d hd => by obtain ⟨i, _, rfl⟩ := List.mem_map.mp hd; trivial) ?_
    rw [List.all_map, Bool.eq_false_iff]
    intro z
    rw [List.all_eq_true] at z
    exact ha fun x hx => of_decide_eq_true (z x hx)
/-! ### tasks -/
theorem upto_w [Fn T is_integer_d] [Fn T is_from_to_d] [Fn T is_word_d] [Fn T check_word_d] [Fn T check_word_up_to_d] [Gl T "MOST_DEEDS" (.int 200)] {w : List Int} {n m : Int} (hw : IsWord w n) (hl : w.length ≤ 200) (hm : (w.length : Int) ≤ m) : Ret (callF T (k + 5) "check_word_up_to" [.int n, tI w, .int m]) .non := by
  refine ret_call check_word_up_to_d rfl rfl fun S => ?_
  show Wp (evSs (T.ctx (k + 4)) check_word_up_to_b [some (.int n), some (tI w), some (.int m)]) S _ _
  unfold check_word_up_to_b
  walk_at "pi"
  rw [(checkword_w hw hl).wp]
  have : ¬ m < ((w.map D.int).length : Nat) := by rw [List.length_map]; omega
  simp only [this, decide_false, Bool.false_eq_true, if_false]
  rw [fzq_non]
  exact ⟨rfl, rfl⟩
theorem fails_w [Fn T is_integer_d] [Fn T is_from_to_d] [Fn T is_word_d] [Fn T check_word_d] [Fn T check_word_up_to_d] [Fn T check_cards_d] [Fn T check_word_that_fails_d] [Gl T "MOST_CARDS" (.int 7)] [Gl T "MOST_DEEDS" (.int 200)] [G : Gl T "MOST_DEEDS_THAT_FAIL" (.int 40)] {w : List Int} {n : Int} (h0 : 1 ≤ n) (h7 : n ≤ 7) (hw : IsWord w n) (hl : w.length ≤ 40) : Ret (callF T (k + 6) "check_word_that_fails" [.int n, tI w]) .non := by
  refine ret_call check_word_that_fails_d rfl rfl fun S => ?_
  show Wp (evSs (T.ctx (k + 5)) check_word_that_fails_b [some (.int n), some (tI w)]) S _ _
  unfold check_word_that_fails_b
  walk_at "pi"
  rw [(checkcards_w h0 h7).wp]
  rw [G.get]
  dsimp only
  rw [(upto_w hw (by omega) (by omega)).wp]
  walk_at "pi"
theorem task_w [Fn T is_integer_d] [Fn T is_from_to_d] [Fn T is_word_d] [Fn T is_row_d] [Fn T check_word_d] [Fn T check_word_up_to_d] [Fn T check_cards_d] [Fn T check_word_that_fails_d] [Fn T check_goal_d] [Fn T check_task_d] [Gl T "MOST_CARDS" (.int 7)] [Gl T "MOST_DEEDS" (.int 200)] [Gl T "MOST_DEEDS_THAT_FAIL" (.int 40)] {w g : List Int} {n : Int} (h0 : 1 ≤ n) (h7 : n ≤ 7) (hw : IsWord w n) (hl : w.length ≤ 40) (hg : IsRow g n) : Ret (callF T (k + 7) "check_task" [.int n, tI w, tI g]) .non := by
  refine ret_call check_task_d rfl rfl fun S => ?_
  show Wp (evSs (T.ctx (k + 6)) check_task_b [some (.int n), some (tI w), some (tI g)]) S _ _
  unfold check_task_b
  walk_at "pi"
  rw [(fails_w h0 h7 hw hl).wp]
  rw [(checkgoal_w hg h0 h7).wp]
  walk_at "pi"
open Classical in
theorem reaches_w [Fn T turned_row_d] [Fn T is_out_of_order_d] [Fn T swapped_d] [Fn T behind_d] [Fn T end_of_d] [Fn T count_less_d] [Fn T counts_ahead_d] [Fn T are_as_great_d] [Fn T is_as_sorted_d] [Fn T reaches_d] {w g : List Int} {n : Int} (h0 : 0 ≤ n) (h7 : n ≤ 900) (hw : IsWord w n) (hg : IsRow g n) : Ret (callF T (k + 4) "reaches" [tI w, tI g]) (.bl (decide (MoreF (endF n w) g))) := by
  refine ret_call reaches_d rfl rfl fun S => ?_
  show Wp (evSs (T.ctx (k + 3)) reaches_b [some (tI w), some (tI g)]) S _ _
  unfold reaches_b
  have hgl := hg.leni h0
  have hel := (end_row h0 hw).len
  walk_at "pi"
  rw [List.length_map, hgl, (endof_w h0 (by omega) hw).wp]
  rw [(assorted_w (by rw [hel, hg.len]) (by rw [hel]; omega)).wp, fzq_bl]
  exact ⟨rfl, rfl⟩
end
end Pi

/-! All shortest words from a row to a goal, and how many. -/
namespace Pi
open PySem
theorem steps_mem {row goal : List Int} {n d : Int} (hr : IsRow row n) (h0 : 0 ≤ n) (h : d ∈ stepsF row goal) : 0 ≤ d ∧ d + 1 < n ∧ FallF goal row d := by
  unfold stepsF at h
  rw [List.mem_filter, mem_upI, decide_eq_true_iff] at h
  have := hr.leni h0
  exact ⟨h.1.1, by omega, h.2⟩
theorem mem_steps' {row goal : List Int} {n d : Int} (hr : IsRow row n) (h0 : 0 ≤ n) (h1 : 0 ≤ d) (h2 : d + 1 < n) (h : FallF goal row d) : d ∈ stepsF row goal := by
  have := hr.leni h0
  exact (mem_steps h1 (by omega)).mpr h
theorem fall_lt {row goal : List Int} {n d : Int} (hr : IsRow row n) (h0 : 0 ≤ n) (ha : AscF goal row) (h1 : 0 ≤ d) (h2 : d + 1 < n) (h : FallF goal row d) : row.getD (d + 1).toNat 0 < row.getD d.toNat 0 := by
  have hl := hr.leni h0
  have hne := row_ne hr h1 (by omega)
  rcases Int.lt_or_le (row.getD (d + 1).toNat 0) (row.getD d.toNat 0) with z | z
  · exact z
  · have := ha d.toNat (d + 1).toNat _ _ (by omega) (getD_of (by omega)) (getD_of (by omega)) (by omega)
    unfold FallF at h
    omega
theorem step_exists {row goal : List Int} {n : Int} (h0 : 0 ≤ n) (hg : IsRow goal n) (hr : IsRow row n) (hne : row ≠ goal) : ∃ d, d ∈ stepsF row goal := by
  apply Classical.byContradiction
  intro hno
  apply hne
  apply pR_inj hg hr
  have hl := hr.leni h0
  have hp := pR_row hg hr
  have hpl := hp.leni h0
  have hnd := hp.nodup
  have hlt : (pR goal row).Pairwise (· < ·) := by
    apply zip_tail_lt.mp
    intro p hpz
    obtain ⟨i, hi, e⟩ := List.mem_iff_getElem.mp hpz
    rw [List.length_zip, List.length_drop] at hi
    rw [List.getElem_zip, List.getElem_drop] at e
    have hi1 : 1 + i < (pR goal row).length := by omega
    have hri : i < row.length := by have : (pR goal row).length = row.length := List.length_map _; omega
    have hri1 : 1 + i < row.length := by have : (pR goal row).length = row.length := List.length_map _; omega
    rw [← e]
    show (pR goal row)[i] < (pR goal row)[1 + i]
    have e1 : (pR goal row)[i] = posF goal row[i] := List.getElem_map _
    have e2 : (pR goal row)[1 + i] = posF goal row[1 + i] := List.getElem_map _
    have hneq : (pR goal row)[i] ≠ (pR goal row)[1 + i] := fun z => by
      have := (List.getElem_inj hnd).mp z
      omega
    have hnf : ¬ FallF goal row (i : Int) := fun z => hno ⟨(i : Int), mem_steps' hr h0 (by omega) (by omega) z⟩
    unfold FallF at hnf
    rw [show ((i : Int) + 1).toNat = 1 + i by omega, Int.toNat_natCast] at hnf
    rw [show row.getD (1 + i) 0 = row[1 + i] by rw [List.getD_eq_getElem?_getD, List.getElem?_eq_getElem hri1]; rfl, show row.getD i 0 = row[i] by rw [List.getD_eq_getElem?_getD, List.getElem?_eq_getElem hri]; rfl] at hnf
    rw [e1, e2] at hneq ⊢
    omega
  exact List.Perm.eq_of_pairwise (le := fun a b : Int => a ≤ b) (fun a b _ _ h1 h2 => by omega) (hlt.imp fun h => by omega) ((upI_lt 0 n).imp fun h => by omega) hp
theorem step_on {row goal : List Int} {n d : Int} (h0 : 0 ≤ n) (hr : IsRow row n) (ha : AscF goal row) (hd : d ∈ stepsF row goal) :
    IsRow (swapF row d) n ∧ AscF goal (swapF row d) ∧ outsF row = outsF (swapF row d) + 1 ∧ row.getD (d + 1).toNat 0 < row.getD d.toNat 0 := by
  obtain ⟨h1, h2, h3⟩ := steps_mem hr h0 hd
  have hl := hr.leni h0
  have hlt := fall_lt hr h0 ha h1 h2 h3
  exact ⟨swapF_row hr h1 (by omega), (asc_swap h1 (by omega) hlt).mp ⟨ha, h3⟩, outs_swap h1 (by omega) hlt, hlt⟩
theorem path_exists {goal : List Int} {n : Int} (h0 : 0 ≤ n) (hg : IsRow goal n) : ∀ (m : Nat) (row : List Int), outsF row = m → IsRow row n → AscF goal row → ∃ u, IsWord u n ∧ PathF goal row u := by
  intro m
  induction m with
  | zero =>
    intro row hm hr ha
    by_cases e : row = goal
    · exact ⟨[], word_nil n, e⟩
    · obtain ⟨d, hd⟩ := step_exists h0 hg hr e
      have := (step_on h0 hr ha hd).2.2.1
      omega
  | succ m ih =>
    intro row hm hr ha
    by_cases e : row = goal
    · exact ⟨[], word_nil n, e⟩
    · obtain ⟨d, hd⟩ := step_exists h0 hg hr e
      obtain ⟨s1, s2, s3, s4⟩ := step_on h0 hr ha hd
      obtain ⟨u, hu, hp⟩ := ih (swapF row d) (by omega) s1 s2
      have hdm := steps_mem hr h0 hd
      refine ⟨d :: u, fun x hx => ?_, s4, hp⟩
      rcases List.mem_cons.mp hx with rfl | hx
      · omega
      · exact hu x hx
theorem asc_outs {row goal : List Int} {n : Int} (h0 : 0 ≤ n) (hg : IsRow goal n) (hr : IsRow row n) (ha : AscF goal row) : outsF goal ≤ outsF row ∧ (outsF row = outsF goal → row = goal) := by
  obtain ⟨u, hu, hp⟩ := path_exists h0 hg _ row rfl hr ha
  have := outs_path h0 u row hr hu hp
  refine ⟨by omega, fun e => ?_⟩
  have : u = [] := List.eq_nil_of_length_eq_zero (by omega)
  subst this
  exact hp
def wF (goal : List Int) : Nat → List Int → List (List Int)
  | 0, _ => [[]]
  | t + 1, row => (stepsF row goal).flatMap fun d => (wF goal t (swapF row d)).map (d :: ·)
theorem wF_len {goal : List Int} : ∀ (t : Nat) (row u : List Int), u ∈ wF goal t row → u.length = t
  | 0, row, u, h => by rw [List.mem_singleton.mp h]; rfl
  | t + 1, row, u, h => by
    rw [wF, List.mem_flatMap] at h
    obtain ⟨d, _, h⟩ := h
    obtain ⟨v, hv, rfl⟩ := List.mem_map.mp h
    rw [List.length_cons, wF_len t _ v hv]
theorem mem_wF {goal : List Int} {n : Int} (h0 : 0 ≤ n) (hg : IsRow goal n) : ∀ (t : Nat) (row : List Int), IsRow row n → AscF goal row → outsF row = outsF goal + t → ∀ u, u ∈ wF goal t row ↔ IsWord u n ∧ PathF goal row u
  | 0, row, hr, ha, ho, u => by
    have e := (asc_outs h0 hg hr ha).2 (by omega)
    rw [wF, List.mem_singleton]
    constructor
    · rintro rfl
      exact ⟨word_nil n, e⟩
    · rintro ⟨hu, hp⟩
      have := outs_path h0 u row hr hu hp
      exact List.eq_nil_of_length_eq_zero (by omega)
  | t + 1, row, hr, ha, ho, u => by
    rw [wF, List.mem_flatMap]
    constructor
    · rintro ⟨d, hd, h⟩
      obtain ⟨v, hv, rfl⟩ := List.mem_map.mp h
      obtain ⟨s1, s2, s3, s4⟩ := step_on h0 hr ha hd
      have hdm := steps_mem hr h0 hd
      obtain ⟨w1, w2⟩ := (mem_wF h0 hg t _ s1 s2 (by omega) v).mp hv
      refine ⟨fun x hx => ?_, s4, w2⟩
      rcases List.mem_cons.mp hx with rfl | hx
      · omega
      · exact w1 x hx
    · rintro ⟨hu, hp⟩
      cases u with
      | nil =>
        have e : row = goal := hp
        rw [e] at ho
        omega
      | cons d v =>
        have hdu := hu d List.mem_cons_self
        have hf := path_fall h0 hg hr hu hp
        have hd := mem_steps' hr h0 hdu.1 (by omega) hf
        obtain ⟨s1, s2, s3, s4⟩ := step_on h0 hr ha hd
        exact ⟨d, hd, List.mem_map.mpr ⟨v, (mem_wF h0 hg t _ s1 s2 (by omega) v).mpr ⟨fun x hx => hu x (List.mem_cons_of_mem _ hx), hp.2⟩, rfl⟩⟩
theorem wF_ne {goal row : List Int} {n : Int} {t : Nat} (h0 : 0 ≤ n) (hg : IsRow goal n) (hr : IsRow row n) (ha : AscF goal row) (ho : outsF row = outsF goal + t) : wF goal t row ≠ [] := by
  obtain ⟨u, hu, hp⟩ := path_exists h0 hg _ row rfl hr ha
  intro z
  have := (mem_wF h0 hg t row hr ha ho u).mpr ⟨hu, hp⟩
  rw [z] at this
  cases this
theorem lexB_cons (d : Int) (a b : List Int) : lexB (d :: a) (d :: b) = lexB a b := by
  rw [lexB]
  simp
theorem wF_sorted {goal : List Int} : ∀ (t : Nat) (row : List Int), (wF goal t row).Pairwise fun a b => lexB a b = true
  | 0, row => List.pairwise_singleton _ _
  | t + 1, row => by
    rw [wF]
    have hs : (stepsF row goal).Pairwise (· < ·) := (upI_lt _ _).filter _
    generalize stepsF row goal = ds at hs
    induction ds with
    | nil => exact List.Pairwise.nil
    | cons d ds ih =>
      rw [List.flatMap_cons, List.pairwise_append]
      have hs2 := List.pairwise_cons.mp hs
      refine ⟨?_, ih hs2.2, fun a ha b hb => ?_⟩
      · rw [List.pairwise_map]
        exact (wF_sorted t (swapF row d)).imp fun h => by rw [lexB_cons]; exact h
      · obtain ⟨v, _, rfl⟩ := List.mem_map.mp ha
        obtain ⟨e, he, hb⟩ := List.mem_flatMap.mp hb
        obtain ⟨u, _, rfl⟩ := List.mem_map.mp hb
        have := hs2.1 e he
        rw [lexB]
        simp [this]
        left
        omega
theorem sortT_perm_eq {L M : List (List Int)} (h : L.Perm M) (hm : M.Pairwise fun a b => lexB a b = true) : sortT L = M := by
  have h1 : (sortT L).Perm M := (List.mergeSort_perm L _).trans h
  have h2 : (sortT L).Pairwise fun a b => (!lexB b a) = true := by
    unfold sortT
    refine List.pairwise_mergeSort (le := fun a b => !lexB b a) (fun a b c h1 h2 => ?_) (fun a b => ?_) L
    · simp only [Bool.not_eq_true'] at h1 h2 ⊢
      cases e : lexB c a with
      | false => rfl
      | true =>
        exfalso
        rcases lexB_total b a with z | z | z
        · subst z; rw [h2] at e; cases e
        · rw [h1] at z; cases z
        · rw [lexB_trans e z] at h2; cases h2
    · rcases lexB_total a b with z | z | z
      · subst z; rw [lexB_self]; rfl
      · rw [lexB_asym z]; rfl
      · rw [lexB_asym z]; simp
  refine List.Perm.eq_of_pairwise (le := fun a b => (!lexB b a) = true) (fun a b _ _ h1 h2 => ?_) h2 (hm.imp fun h => by rw [lexB_asym h]; rfl) h1
  simp only [Bool.not_eq_true'] at h1 h2
  rcases lexB_total a b with z | z | z
  · exact z
  · rw [h2] at z; cases z
  · rw [h1] at z; cases z
/-! ### the first one -/
def wayF (goal : List Int) : Nat → List Int → List Int
  | 0, _ => []
  | t + 1, row => match stepsF row goal with
    | d :: _ => d :: wayF goal t (swapF row d)
    | [] => []
theorem way_head {goal : List Int} {n : Int} (h0 : 0 ≤ n) (hg : IsRow goal n) : ∀ (t : Nat) (row : List Int), IsRow row n → AscF goal row → outsF row = outsF goal + t → (wF goal t row)[0]? = some (wayF goal t row)
  | 0, row, _, _, _ => rfl
  | t + 1, row, hr, ha, ho => by
    rw [wF, wayF]
    cases e : stepsF row goal with
    | nil =>
      have hne : row ≠ goal := fun z => by rw [z] at ho; omega
      obtain ⟨d, hd⟩ := step_exists h0 hg hr hne
      rw [e] at hd
      cases hd
    | cons d ds =>
      have hd : d ∈ stepsF row goal := by rw [e]; exact List.mem_cons_self
      obtain ⟨s1, s2, s3, s4⟩ := step_on h0 hr ha hd
      have ih := way_head h0 hg t _ s1 s2 (by omega)
      rw [List.flatMap_cons]
      cases e2 : wF goal t (swapF row d) with
      | nil => rw [e2] at ih; cases ih
      | cons u us =>
        rw [e2] at ih
        cases ih
        rfl
theorem way_path {goal row : List Int} {n : Int} {t : Nat} (h0 : 0 ≤ n) (hg : IsRow goal n) (hr : IsRow row n) (ha : AscF goal row) (ho : outsF row = outsF goal + t) : IsWord (wayF goal t row) n ∧ PathF goal row (wayF goal t row) :=
  (mem_wF h0 hg t row hr ha ho _).mp (List.mem_of_getElem? (way_head h0 hg t row hr ha ho))
/-! ### how many -/
theorem wF_count {goal : List Int} {c : Nat} : ∀ (t : Nat) (row : List Int) , row.length ≤ c + 1 → (wF goal t row).length ≤ c ^ t
  | 0, row, _ => by rw [wF]; simp
  | t + 1, row, h => by
    rw [wF]
    have hs : (stepsF row goal).length ≤ c := by
      have := List.length_filter_le (fun d => decide (posF goal (row.getD (d + 1).toNat 0) < posF goal (row.getD d.toNat 0))) (upI 0 ((row.length : Int) - 1))
      rw [upI_length] at this
      unfold stepsF
      omega
    have key : ∀ ds : List Int, (∀ d ∈ ds, d ∈ stepsF row goal) → (ds.flatMap fun d => (wF goal t (swapF row d)).map (d :: ·)).length ≤ ds.length * c ^ t := by
      intro ds
      induction ds with
      | nil => intro _; simp
      | cons d ds ih =>
        intro hd
        rw [List.flatMap_cons, List.length_append, List.length_map, List.length_cons, Nat.add_mul, Nat.one_mul]
        have h1 := ih fun x hx => hd x (List.mem_cons_of_mem _ hx)
        have hdm := hd d List.mem_cons_self
        unfold stepsF at hdm
        rw [List.mem_filter, mem_upI] at hdm
        have h2 := wF_count (goal := goal) (c := c) t (swapF row d) (by rw [swapF_length hdm.1.1 (by omega)]; exact h)
        omega
    have := key _ fun d hd => hd
    have h3 : (stepsF row goal).length * c ^ t ≤ c * c ^ t := Nat.mul_le_mul_right _ hs
    rw [Nat.pow_succ, Nat.mul_comm (c ^ t) c]
    omega
def nP (goal : List Int) : Nat → List Int → Int
  | 0, row => if row = goal then 1 else 0
  | t + 1, row => ((upI 0 ((row.length : Int) - 1)).map fun d => if row.getD (d + 1).toNat 0 < row.getD d.toNat 0 then nP goal t (swapF row d) else 0).sum
theorem sum_zero : ∀ l : List Int, (∀ x ∈ l, x = 0) → l.sum = 0
  | [], _ => rfl
  | x :: l, h => by
    rw [List.sum_cons, h x List.mem_cons_self, sum_zero l fun y hy => h y (List.mem_cons_of_mem _ hy)]
    rfl
theorem nP_zero {goal : List Int} {n : Int} (h0 : 0 ≤ n) : ∀ (t : Nat) (row : List Int), IsRow row n → (¬ ∃ u, IsWord u n ∧ PathF goal row u) → nP goal t row = 0
  | 0, row, hr, h => by
    rw [nP, if_neg]
    rintro rfl
    exact h ⟨[], word_nil n, rfl⟩
  | t + 1, row, hr, h => by
    rw [nP]
    have hl := hr.leni h0
    apply sum_zero
    intro x hx
    obtain ⟨d, hd, rfl⟩ := List.mem_map.mp hx
    rw [mem_upI] at hd
    split
    · rename_i hlt
      refine nP_zero h0 t _ (swapF_row hr hd.1 (by omega)) fun ⟨u, hu, hp⟩ => h ⟨d :: u, fun x hx => ?_, hlt, hp⟩
      rcases List.mem_cons.mp hx with rfl | hx
      · omega
      · exact hu x hx
    · rfl
theorem flat_sum {α : Type} (p : Int → Bool) (f : Int → List α) : ∀ l : List Int, (((l.filter p).flatMap f).length : Int) = (l.map fun d => if p d = true then ((f d).length : Int) else 0).sum
  | [] => rfl
  | d :: l => by
    rw [List.map_cons, List.sum_cons, List.filter_cons]
    by_cases h : p d = true
    · rw [if_pos h, if_pos h, List.flatMap_cons, List.length_append, ← flat_sum p f l]
      omega
    · rw [if_neg h, if_neg h, ← flat_sum p f l]
      omega
theorem nP_wF {goal : List Int} {n : Int} (h0 : 0 ≤ n) (hg : IsRow goal n) : ∀ (t : Nat) (row : List Int), IsRow row n → AscF goal row → outsF row = outsF goal + t → nP goal t row = (wF goal t row).length
  | 0, row, hr, ha, ho => by
    rw [nP, if_pos ((asc_outs h0 hg hr ha).2 (by omega)), wF]
    rfl
  | t + 1, row, hr, ha, ho => by
    rw [nP, wF]
    unfold stepsF
    rw [flat_sum]
    congr 1
    apply List.map_congr_left
    intro d hd
    rw [mem_upI] at hd
    have hl := hr.leni h0
    rw [List.length_map]
    by_cases hf : posF goal (row.getD (d + 1).toNat 0) < posF goal (row.getD d.toNat 0)
    · have hlt := fall_lt hr h0 ha hd.1 (by omega) hf
      have hds := mem_steps' (goal := goal) hr h0 hd.1 (by omega) hf
      obtain ⟨s1, s2, s3, s4⟩ := step_on h0 hr ha hds
      rw [if_pos hlt, decide_eq_true hf, if_pos rfl, nP_wF h0 hg t _ s1 s2 (by omega)]
    · simp only [decide_eq_false hf, Bool.false_eq_true, if_false]
      split
      · rename_i hlt
        refine nP_zero h0 t _ (swapF_row hr hd.1 (by omega)) fun ⟨u, hu, hp⟩ => ?_
        have hasc := path_asc h0 hg u _ (swapF_row hr hd.1 (by omega)) hu hp
        exact hf ((asc_swap hd.1 (by omega) hlt).mpr hasc).2
      · rfl
/-! ### tables of how many, one step back -/
def g0 (T : Tab Int) (r : List Int) : Int := (getA T r).getD 0
def bumpT (T : Tab Int) (r : List Int) (m : Int) : Tab Int := putA T r (g0 T r + m)
def backD (p : List Int × Int) (acc : Tab Int) (d : Int) : Tab Int := if p.1.getD (d + 1).toNat 0 < p.1.getD d.toNat 0 then acc else bumpT acc (swapF p.1 d) p.2
def backR (acc : Tab Int) (p : List Int × Int) : Tab Int := (upI 0 ((p.1.length : Int) - 1)).foldl (backD p) acc
def backT (T : Tab Int) : Tab Int := T.foldl backR []
def tabN (goal : List Int) : Nat → Tab Int
  | 0 => [(goal, 1)]
  | t + 1 => backT (tabN goal t)
theorem g0_bump (T : Tab Int) (r s : List Int) (m : Int) : g0 (bumpT T r m) s = g0 T s + if s = r then m else 0 := by
  unfold bumpT g0
  rw [getA_put]
  by_cases h : s = r
  · rw [if_pos h, if_pos h, h]
    rfl
  · rw [if_neg h, if_neg h]
    omega
/-- keys unlike, all of them rows -/
def Good2 (n : Int) (T : Tab Int) : Prop := (T.map (·.1)).Nodup ∧ ∀ p ∈ T, IsRow p.1 n
theorem good_bump {n : Int} {T : Tab Int} {r : List Int} {m : Int} (h : Good2 n T) (hr : IsRow r n) : Good2 n (bumpT T r m) :=
  ⟨putA_nodup r _ h.1, fun p hp => by
    rcases putA_mem hp with z | ⟨q, hq, e⟩
    · rw [z]; exact hr
    · rw [← e]; exact h.2 q hq⟩
theorem back_D {n : Int} {p : List Int × Int} {s : List Int} (h0 : 0 ≤ n) (hp : IsRow p.1 n) (hs : IsRow s n) : ∀ (ds : List Int) (acc : Tab Int), (∀ d ∈ ds, 0 ≤ d ∧ d + 1 < n) → Good2 n acc →
    Good2 n (ds.foldl (backD p) acc) ∧ (ds.foldl (backD p) acc).length ≤ acc.length + ds.length ∧
      g0 (ds.foldl (backD p) acc) s = g0 acc s + (ds.map fun d => if s.getD (d + 1).toNat 0 < s.getD d.toNat 0 then (if p.1 = swapF s d then p.2 else 0) else 0).sum
  | [], acc, _, h => ⟨h, Nat.le_refl _, by simp⟩
  | d :: ds, acc, hd, h => by
    have hd0 := hd d List.mem_cons_self
    have hpl := hp.leni h0
    have hsl := hs.leni h0
    rw [List.foldl_cons, List.map_cons, List.sum_cons]
    have hst : Good2 n (backD p acc d) ∧ (backD p acc d).length ≤ acc.length + 1 ∧ g0 (backD p acc d) s = g0 acc s + if s.getD (d + 1).toNat 0 < s.getD d.toNat 0 then (if p.1 = swapF s d then p.2 else 0) else 0 := by
      unfold backD
      by_cases q : p.1.getD (d + 1).toNat 0 < p.1.getD d.toNat 0
      · rw [if_pos q]
        refine ⟨h, Nat.le_succ _, ?_⟩
        split
        · rename_i q2
          rw [if_neg]
          · omega
          · intro e
            have := swapF_at (row := s) hd0.1 (by omega)
            rw [← e] at this
            omega
        · omega
      · rw [if_neg q]
        refine ⟨good_bump h (swapF_row hp hd0.1 (by omega)), putA_length _ _ _, ?_⟩
        rw [g0_bump]
        congr 1
        have hne := row_ne hp hd0.1 (by omega)
        by_cases e : s = swapF p.1 d
        · rw [if_pos e]
          have := swapF_at (row := p.1) hd0.1 (by omega)
          rw [← e] at this
          rw [if_pos (by omega), if_pos]
          rw [e, swapF_swapF hd0.1 (by omega)]
        · rw [if_neg e]
          split
          · rw [if_neg]
            intro z
            apply e
            rw [z, swapF_swapF hd0.1 (by omega)]
          · rfl
    obtain ⟨i1, i2, i3⟩ := back_D h0 hp hs ds (backD p acc d) (fun x hx => hd x (List.mem_cons_of_mem _ hx)) hst.1
    refine ⟨i1, ?_, ?_⟩
    · rw [List.length_cons]
      have := hst.2.1
      omega
    · rw [i3, hst.2.2]
      omega
def sumT (T : Tab Int) (x : List Int) : Int := (T.map fun p => if p.1 = x then p.2 else 0).sum
theorem sumT_g0 : ∀ (T : Tab Int) (x : List Int), (T.map (·.1)).Nodup → sumT T x = g0 T x
  | [], x, _ => rfl
  | p :: T, x, h => by
    rw [List.map_cons, List.nodup_cons] at h
    unfold sumT g0
    rw [List.map_cons, List.sum_cons, getA_cons]
    have ih := sumT_g0 T x h.2
    unfold sumT g0 at ih
    rw [ih]
    by_cases e : p.1 = x
    · rw [if_pos e, if_pos e]
      have : getA T x = none := by
        cases q : getA T x with
        | none => rfl
        | some v =>
          unfold getA at q
          rw [Option.map_eq_some_iff] at q
          obtain ⟨r, hr, _⟩ := q
          have h1 := List.find?_some hr
          have h2 := List.mem_of_find?_eq_some hr
          rw [decide_eq_true_iff] at h1
          exact absurd (List.mem_map.mpr ⟨r, h2, h1.trans e.symm⟩) h.1
      rw [this]
      simp
    · rw [if_neg e, if_neg e]
      omega
theorem sum_add (f g : Int → Int) : ∀ l : List Int, (l.map fun d => f d + g d).sum = (l.map f).sum + (l.map g).sum
  | [] => rfl
  | x :: l => by
    rw [List.map_cons, List.map_cons, List.map_cons, List.sum_cons, List.sum_cons, List.sum_cons, sum_add f g l]
    omega
theorem back_T {n : Int} {s : List Int} (h0 : 0 ≤ n) (hs : IsRow s n) : ∀ (L : Tab Int) (acc : Tab Int), (∀ p ∈ L, IsRow p.1 n) → Good2 n acc →
    Good2 n (L.foldl backR acc) ∧ (L.foldl backR acc).length ≤ acc.length + L.length * (n - 1).toNat ∧
      g0 (L.foldl backR acc) s = g0 acc s + ((upI 0 (n - 1)).map fun d => if s.getD (d + 1).toNat 0 < s.getD d.toNat 0 then sumT L (swapF s d) else 0).sum
  | [], acc, _, h => ⟨h, by simp, by
    have : ((upI 0 (n - 1)).map fun d => if s.getD (d + 1).toNat 0 < s.getD d.toNat 0 then sumT [] (swapF s d) else 0).sum = 0 := by
      apply sum_zero
      intro x hx
      obtain ⟨d, _, rfl⟩ := List.mem_map.mp hx
      split <;> rfl
    rw [this]
    simp⟩
  | p :: L, acc, hL, h => by
    have hp := hL p List.mem_cons_self
    have hpl := hp.leni h0
    rw [List.foldl_cons]
    obtain ⟨i1, i2, i3⟩ := back_D h0 hp hs (upI 0 ((p.1.length : Int) - 1)) acc (fun d hd => by rw [mem_upI] at hd; omega) h
    obtain ⟨j1, j2, j3⟩ := back_T h0 hs L (backR acc p) (fun q hq => hL q (List.mem_cons_of_mem _ hq)) i1
    refine ⟨j1, ?_, ?_⟩
    · rw [upI_length] at i2
      have : (backR acc p).length ≤ acc.length + ((p.1.length : Int) - 1 - 0).toNat := i2
      rw [List.length_cons, Nat.add_mul, Nat.one_mul]
      omega
    · rw [j3, show g0 (backR acc p) s = _ from i3, hpl, Int.add_assoc, ← sum_add]
      congr 2
      apply List.map_congr_left
      intro d _
      unfold sumT
      rw [List.map_cons, List.sum_cons]
      split <;> rfl
theorem tab_N {goal : List Int} {n : Int} (h0 : 0 ≤ n) (hg : IsRow goal n) : ∀ t, Good2 n (tabN goal t) ∧ (tabN goal t).length ≤ (n - 1).toNat ^ t ∧ ∀ s, IsRow s n → g0 (tabN goal t) s = nP goal t s
  | 0 => by
    refine ⟨⟨by simp [tabN], fun p hp => ?_⟩, by simp [tabN], fun s hs => ?_⟩
    · rw [tabN, List.mem_singleton] at hp
      rw [hp]
      exact hg
    · rw [tabN, nP]
      unfold g0
      rw [getA_cons, getA_nil]
      by_cases e : goal = s
      · rw [if_pos e, if_pos e.symm]
        rfl
      · rw [if_neg e, if_neg fun z => e z.symm]
        rfl
  | t + 1 => by
    obtain ⟨i1, i2, i3⟩ := tab_N h0 hg t
    have key := fun s (hs : IsRow s n) => back_T h0 hs (tabN goal t) [] i1.2 ⟨by simp, fun p hp => by cases hp⟩
    refine ⟨(key goal hg).1, ?_, fun s hs => ?_⟩
    · have := (key goal hg).2.1
      rw [List.length_nil, Nat.zero_add] at this
      refine Nat.le_trans this ?_
      rw [Nat.pow_succ]
      exact Nat.mul_le_mul_right _ i2
    · have := (key s hs).2.2
      rw [tabN, nP]
      refine this.trans ?_
      rw [show g0 [] s = 0 from rfl, Int.zero_add, hs.leni h0]
      congr 1
      apply List.map_congr_left
      intro d hd
      rw [mem_upI] at hd
      have hsl := hs.leni h0
      split
      · rw [sumT_g0 _ _ i1.1, i3 _ (swapF_row hs hd.1 (by omega))]
      · rfl
/-! ### all of them, step by step -/
def allStep (goal : List Int) (L : List (List Int × List Int)) : List (List Int × List Int) := L.flatMap fun p => (stepsF p.2 goal).map fun d => (p.1 ++ [d], swapF p.2 d)
def allIt (goal : List Int) : Nat → List (List Int × List Int) → List (List Int × List Int)
  | 0, L => L
  | t + 1, L => allIt goal t (allStep goal L)
theorem all_words {goal : List Int} : ∀ (t : Nat) (L : List (List Int × List Int)), (allIt goal t L).map (·.1) = L.flatMap fun p => (wF goal t p.2).map (p.1 ++ ·)
  | 0, L => by
    rw [allIt]
    induction L with
    | nil => rfl
    | cons p L ih =>
      rw [List.map_cons, List.flatMap_cons, ih, wF]
      simp
  | t + 1, L => by
    rw [allIt, all_words t]
    induction L with
    | nil => rfl
    | cons p L ih =>
      unfold allStep at ih ⊢
      rw [List.flatMap_cons, List.flatMap_append, ih, List.flatMap_cons]
      congr 1
      rw [wF]
      generalize stepsF p.2 goal = ds
      induction ds with
      | nil => rfl
      | cons d ds ih2 =>
        rw [List.map_cons, List.flatMap_cons, ih2, List.flatMap_cons, List.map_append, List.map_map]
        congr 1
        apply List.map_congr_left
        intro u _
        show p.1 ++ [d] ++ u = p.1 ++ (d :: u)
        simp
theorem allIt_succ {goal : List Int} : ∀ (t : Nat) (L : List (List Int × List Int)), allIt goal (t + 1) L = allStep goal (allIt goal t L)
  | 0, _ => rfl
  | t + 1, L => by
    rw [allIt, allIt_succ t]
    rfl
/-! ### pairs out of order, by cards -/
def poF (row : List Int) (n : Int) : List (Int × Int) := (upI 0 n).flatMap fun h => (upI 0 h).filterMap fun l => if posF row h < posF row l then some (h, l) else none
theorem mem_poF {row : List Int} {n : Int} {p : Int × Int} : p ∈ poF row n ↔ (0 ≤ p.2 ∧ p.2 < p.1 ∧ p.1 < n) ∧ posF row p.1 < posF row p.2 := by
  unfold poF
  rw [List.mem_flatMap]
  constructor
  · rintro ⟨i, hi, hp⟩
    rw [List.mem_filterMap] at hp
    obtain ⟨v, hv, e⟩ := hp
    rw [mem_upI] at hi hv
    split at e
    · rename_i q
      cases e
      exact ⟨⟨hv.1, hv.2, hi.2⟩, q⟩
    · cases e
  · rintro ⟨h1, h3⟩
    exact ⟨p.1, mem_upI.mpr (by omega), List.mem_filterMap.mpr ⟨p.2, mem_upI.mpr (by omega), by rw [if_pos h3]⟩⟩
theorem mem_outP : ∀ {row : List Int} {p : Int × Int}, p ∈ outP row ↔ ∃ i j : Nat, i < j ∧ row[i]? = some p.1 ∧ row[j]? = some p.2 ∧ p.2 < p.1
  | [], p => by simp [outP]
  | a :: l, p => by
    rw [outP, List.mem_append, mem_outP, List.mem_filterMap]
    constructor
    · rintro (⟨o, ho, e⟩ | ⟨i, j, h1, h2, h3, h4⟩)
      · split at e
        · rename_i q
          cases e
          obtain ⟨j, hj⟩ := List.mem_iff_getElem?.mp ho
          exact ⟨0, j + 1, by omega, rfl, hj, q⟩
        · cases e
      · exact ⟨i + 1, j + 1, by omega, h2, h3, h4⟩
    · rintro ⟨i, j, h1, h2, h3, h4⟩
      cases j with
      | zero => omega
      | succ j =>
        cases i with
        | zero =>
          cases h2
          exact .inl ⟨p.2, List.mem_of_getElem? h3, by rw [if_pos h4]⟩
        | succ i => exact .inr ⟨i, j, by omega, h2, h3, h4⟩
theorem outP_nodup : ∀ {row : List Int}, row.Nodup → (outP row).Nodup
  | [], _ => by simp [outP]
  | a :: l, h => by
    rw [List.nodup_cons] at h
    rw [outP, List.nodup_append]
    refine ⟨?_, outP_nodup h.2, fun x hx y hy e => ?_⟩
    · have key : ∀ m : List Int, m.Nodup → (m.filterMap fun o => if o < a then some (a, o) else none).Nodup := by
        intro m
        induction m with
        | nil => intro _; simp
        | cons o m ih =>
          intro hm
          rw [List.nodup_cons] at hm
          rw [List.filterMap_cons]
          split
          · exact ih hm.2
          · rename_i b hb
            split at hb
            · cases hb
              rw [List.nodup_cons]
              refine ⟨fun z => ?_, ih hm.2⟩
              rw [List.mem_filterMap] at z
              obtain ⟨o', ho', e⟩ := z
              split at e
              · cases e
                exact hm.1 ho'
              · cases e
            · cases hb
      exact key l h.2
    · subst e
      rw [List.mem_filterMap] at hx
      obtain ⟨o, ho, e⟩ := hx
      split at e
      · cases e
        obtain ⟨i, j, _, h2, _, _⟩ := mem_outP.mp hy
        exact h.1 (List.mem_of_getElem? h2)
      · cases e
theorem pos_iff {row : List Int} {n : Int} (hr : IsRow row n) {a b : Int} (ha : a ∈ row) (hb : b ∈ row) : posF row a < posF row b ↔ ∃ i j : Nat, i < j ∧ row[i]? = some a ∧ row[j]? = some b := by
  constructor
  · intro h
    unfold posF at h
    exact ⟨row.idxOf a, row.idxOf b, by omega, idx_get ha, idx_get hb⟩
  · rintro ⟨i, j, h1, h2, h3⟩
    unfold posF
    rw [idx_of hr.nodup h2, idx_of hr.nodup h3]
    omega
theorem mem_both {row : List Int} {n : Int} (hr : IsRow row n) (p : Int × Int) : p ∈ outP row ↔ p ∈ poF row n := by
  rw [mem_outP, mem_poF]
  constructor
  · rintro ⟨i, j, h1, h2, h3, h4⟩
    have ha := List.mem_of_getElem? h2
    have hb := List.mem_of_getElem? h3
    have m1 := hr.mem ha
    have m2 := hr.mem hb
    exact ⟨⟨m2.1, h4, m1.2⟩, (pos_iff hr ha hb).mpr ⟨i, j, h1, h2, h3⟩⟩
  · rintro ⟨⟨h1, h2, h3⟩, h4⟩
    have ha : p.1 ∈ row := hr.mem_iff.mpr (mem_upI.mpr (by omega))
    have hb : p.2 ∈ row := hr.mem_iff.mpr (mem_upI.mpr (by omega))
    obtain ⟨i, j, k1, k2, k3⟩ := (pos_iff hr ha hb).mp h4
    exact ⟨i, j, k1, k2, k3, h2⟩
theorem poF_nodup (row : List Int) (n : Int) : (poF row n).Nodup := by
  unfold poF
  have inner : ∀ (h : Int) (m : List Int), m.Nodup → (m.filterMap fun l => if posF row h < posF row l then some (h, l) else none).Nodup := by
    intro h m
    induction m with
    | nil => intro _; simp
    | cons o m ih =>
      intro hm
      rw [List.nodup_cons] at hm
      rw [List.filterMap_cons]
      split
      · exact ih hm.2
      · rename_i b hb
        split at hb
        · cases hb
          rw [List.nodup_cons]
          refine ⟨fun z => ?_, ih hm.2⟩
          rw [List.mem_filterMap] at z
          obtain ⟨o', ho', e⟩ := z
          split at e
          · cases e
            exact hm.1 ho'
          · cases e
        · cases hb
  have hn := upI_nodup 0 n
  generalize upI 0 n = ms at hn
  induction ms with
  | nil => simp
  | cons h ms ih =>
    rw [List.nodup_cons] at hn
    rw [List.flatMap_cons, List.nodup_append]
    refine ⟨inner h _ (upI_nodup 0 h), ih hn.2, fun x hx y hy e => ?_⟩
    subst e
    rw [List.mem_filterMap] at hx
    obtain ⟨o, _, e⟩ := hx
    rw [List.mem_flatMap] at hy
    obtain ⟨h', hm', hy⟩ := hy
    rw [List.mem_filterMap] at hy
    obtain ⟨o', _, e'⟩ := hy
    split at e
    · cases e
      split at e'
      · cases e'
        exact hn.1 hm'
      · cases e'
    · cases e
theorem poF_length {row : List Int} {n : Int} (hr : IsRow row n) : (poF row n).length = outsF row := by
  rw [← outP_length]
  exact ((List.perm_ext_iff_of_nodup (poF_nodup row n) (outP_nodup hr.nodup)).mpr fun p => (mem_both hr p).symm).length_eq
end Pi

/-! The rows so many deeds on with their least words; the least word that makes a row good. -/
namespace Pi
open PySem
theorem least_nat (P : Nat → Prop) : ∀ n, P n → ∃ t, t ≤ n ∧ P t ∧ ∀ s, s < t → ¬ P s := by
  intro n
  induction n using Nat.strongRecOn with
  | _ n ih =>
    intro h
    by_cases q : ∃ m, m < n ∧ P m
    · obtain ⟨m, hm, hp⟩ := q
      obtain ⟨t, ht, h1, h2⟩ := ih m hm hp
      exact ⟨t, by omega, h1, h2⟩
    · exact ⟨n, Nat.le_refl _, h, fun s hs hp => q ⟨s, hs, hp⟩⟩
theorem lexB_app (u a b : List Int) : lexB (u ++ a) (u ++ b) = lexB a b := by
  induction u with
  | nil => rfl
  | cons x u ih => rw [List.cons_append, List.cons_append, lexB_cons, ih]
theorem lexB_grow {a b : List Int} : ∀ {u v : List Int}, u.length = v.length → lexB u v = true → lexB (u ++ a) (v ++ b) = true
  | [], [], _, h => by cases h
  | [], _ :: _, h, _ => by simp at h
  | _ :: _, [], h, _ => by simp at h
  | x :: u, y :: v, hl, h => by
    rw [List.cons_append, List.cons_append, lexB]
    rw [lexB] at h
    by_cases q : x = y
    · rw [if_pos q] at h ⊢
      exact lexB_grow (by simpa using hl) h
    · rw [if_neg q] at h ⊢
      exact h
/-! ### the first of each row -/
def setA (T : Tab (List Int)) (c : List Int × List Int) : Tab (List Int) := match getA T c.1 with
  | some _ => T
  | none => putA T c.1 c.2
theorem getA_mem {α : Type} {T : Tab α} {r : List Int} {v : α} (h : getA T r = some v) : (r, v) ∈ T := by
  unfold getA at h
  obtain ⟨p, hp, rfl⟩ := Option.map_eq_some_iff.mp h
  have h1 := List.mem_of_find?_eq_some hp
  have h2 : p.1 = r := by simpa using List.find?_some hp
  rw [← h2]
  exact h1
theorem getA_no {α : Type} {T : Tab α} {r : List Int} (h : getA T r = none) : ∀ p ∈ T, p.1 ≠ r := by
  unfold getA at h
  rw [Option.map_eq_none_iff, List.find?_eq_none] at h
  exact fun p hp q => h p hp (by simpa using q)
theorem putA_new {α : Type} {T : Tab α} {r : List Int} {v : α} (h : getA T r = none) : putA T r v = T ++ [(r, v)] := by
  unfold putA
  rw [if_neg]
  rw [List.any_eq_true]
  rintro ⟨p, hp, q⟩
  exact getA_no h p hp (by simpa using q)
def ltW (a b : List Int × List Int) : Prop := lexB a.2 b.2 = true
theorem ded_spec : ∀ (Cs acc : Tab (List Int)), (acc ++ Cs).Pairwise ltW → (acc.map (·.1)).Nodup →
    (Cs.foldl setA acc).Pairwise ltW ∧ ((Cs.foldl setA acc).map (·.1)).Nodup ∧ (∀ c ∈ Cs.foldl setA acc, c ∈ acc ++ Cs) ∧ (Cs.foldl setA acc).length ≤ acc.length + Cs.length ∧
    ∀ c ∈ acc ++ Cs, ∃ v, (c.1, v) ∈ Cs.foldl setA acc ∧ (v = c.2 ∨ lexB v c.2 = true)
  | [], acc, hp, hn => by
    rw [List.append_nil] at hp ⊢
    exact ⟨hp, hn, fun c hc => hc, Nat.le_refl _, fun c hc => ⟨c.2, hc, .inl rfl⟩⟩
  | c :: Cs, acc, hp, hn => by
    rw [List.foldl_cons]
    unfold setA
    cases hg : getA acc c.1 with
    | some v0 =>
      dsimp only
      have hs : (acc ++ Cs).Sublist (acc ++ c :: Cs) := List.Sublist.append (List.Sublist.refl _) (List.sublist_cons_self _ _)
      obtain ⟨i1, i2, i3, i4, i5⟩ := ded_spec Cs acc (hp.sublist hs) hn
      refine ⟨i1, i2, fun x hx => hs.subset (i3 x hx), by rw [List.length_cons]; exact Nat.le_trans i4 (by omega), fun x hx => ?_⟩
      have h0 := getA_mem hg
      rcases List.mem_append.mp hx with hx | hx
      · exact i5 x (List.mem_append_left _ hx)
      rcases List.mem_cons.mp hx with rfl | hx
      · have hlt : lexB v0 x.2 = true := (List.pairwise_append.mp hp).2.2 _ h0 _ List.mem_cons_self
        obtain ⟨v, hv, hor⟩ := i5 (x.1, v0) (List.mem_append_left _ h0)
        refine ⟨v, hv, .inr ?_⟩
        rcases hor with q | q
        · rw [q]
          exact hlt
        · exact lexB_trans q hlt
      · exact i5 x (List.mem_append_right _ hx)
    | none =>
      dsimp only
      rw [putA_new hg]
      have e : acc ++ [(c.1, c.2)] ++ Cs = acc ++ c :: Cs := by simp
      have hn' : ((acc ++ [(c.1, c.2)]).map (·.1)).Nodup := by
        rw [List.map_append, List.map_cons, List.map_nil]
        refine List.nodup_append.mpr ⟨hn, by simp, ?_⟩
        intro a ha b hb
        obtain ⟨p, hp1, rfl⟩ := List.mem_map.mp ha
        rw [List.mem_singleton.mp hb]
        exact getA_no hg p hp1
      obtain ⟨i1, i2, i3, i4, i5⟩ := ded_spec Cs (acc ++ [(c.1, c.2)]) (by rw [e]; exact hp) hn'
      rw [e] at i3 i5
      refine ⟨i1, i2, i3, Nat.le_trans i4 ?_, i5⟩
      rw [List.length_append, List.length_cons, List.length_cons, List.length_nil]
      omega
/-! ### words that exchange at every deed -/
def FallW (row : List Int) (d : Int) : Prop := row.getD (d + 1).toNat 0 < row.getD d.toNat 0
instance (row : List Int) (d : Int) : Decidable (FallW row d) := by unfold FallW; infer_instance
def EffW : List Int → List Int → Prop
  | _, [] => True
  | row, d :: u => FallW row d ∧ EffW (swapF row d) u
theorem stepF_fall {row : List Int} {d : Int} (h : FallW row d) : stepF row d = swapF row d := by
  unfold stepF
  exact if_pos h
theorem stepF_stay {row : List Int} {d : Int} (h : ¬ FallW row d) : stepF row d = row := by
  unfold stepF
  exact if_neg h
theorem eff_snoc {d : Int} : ∀ {u row : List Int}, EffW row (u ++ [d]) → EffW row u ∧ FallW (behindF row u) d
  | [], row, h => ⟨trivial, h.1⟩
  | x :: u, row, h => by
    obtain ⟨h1, h2⟩ := h
    obtain ⟨a, b⟩ := eff_snoc (u := u) h2
    refine ⟨⟨h1, a⟩, ?_⟩
    show FallW (behindF (stepF row x) u) d
    rw [stepF_fall h1]
    exact b
theorem eff_or {n : Int} : ∀ (u row : List Int), IsWord u n → EffW row u ∨ ∃ v, IsWord v n ∧ v.length + 1 = u.length ∧ behindF row v = behindF row u
  | [], row, _ => .inl trivial
  | x :: u, row, hw => by
    have hu : IsWord u n := fun y hy => hw y (List.mem_cons_of_mem _ hy)
    by_cases hf : FallW row x
    · rcases eff_or u (swapF row x) hu with h | ⟨v, h1, h2, h3⟩
      · exact .inl ⟨hf, h⟩
      · refine .inr ⟨x :: v, fun y hy => ?_, by rw [List.length_cons, List.length_cons, h2], ?_⟩
        · rcases List.mem_cons.mp hy with rfl | hy
          · exact hw _ List.mem_cons_self
          · exact h1 y hy
        · show behindF (stepF row x) v = behindF (stepF row x) u
          rw [stepF_fall hf]
          exact h3
    · refine .inr ⟨u, hu, rfl, ?_⟩
      show behindF row u = behindF (stepF row x) u
      rw [stepF_stay hf]
/-! ### the levels -/
def kidW (p : List Int × List Int) : Tab (List Int) := ((upI 0 ((p.1.length : Int) - 1)).filter fun d => decide (FallW p.1 d)).map fun d => (swapF p.1 d, p.2 ++ [d])
def candW (T : Tab (List Int)) : Tab (List Int) := T.flatMap kidW
def nextW (T : Tab (List Int)) : Tab (List Int) := (candW T).foldl setA []
def levW (e : List Int) : Nat → Tab (List Int)
  | 0 => [(e, [])]
  | t + 1 => nextW (levW e t)
theorem mem_kidW {p c : List Int × List Int} {n : Int} (h0 : 0 ≤ n) (hr : IsRow p.1 n) : c ∈ kidW p ↔ ∃ d, 0 ≤ d ∧ d + 1 < n ∧ FallW p.1 d ∧ c = (swapF p.1 d, p.2 ++ [d]) := by
  unfold kidW
  rw [List.mem_map, hr.leni h0]
  constructor
  · rintro ⟨d, hd, rfl⟩
    rw [List.mem_filter, mem_upI, decide_eq_true_iff] at hd
    exact ⟨d, hd.1.1, by omega, hd.2, rfl⟩
  · rintro ⟨d, h1, h2, h3, rfl⟩
    exact ⟨d, by rw [List.mem_filter, mem_upI, decide_eq_true_iff]; exact ⟨⟨h1, by omega⟩, h3⟩, rfl⟩
theorem kidW_len {p : List Int × List Int} {n : Int} (h0 : 0 ≤ n) (hr : IsRow p.1 n) : (kidW p).length ≤ (n - 1).toNat := by
  unfold kidW
  rw [List.length_map, hr.leni h0]
  refine Nat.le_trans (List.length_filter_le _ _) ?_
  rw [upI_length]
  omega
theorem kidW_sorted (p : List Int × List Int) : (kidW p).Pairwise ltW := by
  unfold kidW
  rw [List.pairwise_map]
  refine ((upI_lt _ _).filter _).imp fun {a b} h => ?_
  unfold ltW
  dsimp only
  rw [lexB_app, lexB, if_neg (by omega)]
  exact decide_eq_true h
theorem candW_sorted {t : Nat} : ∀ {T : Tab (List Int)}, (∀ p ∈ T, p.2.length = t) → T.Pairwise ltW → (candW T).Pairwise ltW
  | [], _, _ => List.Pairwise.nil
  | p :: T, hl, hp => by
    unfold candW
    rw [List.flatMap_cons, List.pairwise_append]
    obtain ⟨h1, h2⟩ := List.pairwise_cons.mp hp
    refine ⟨kidW_sorted p, candW_sorted (fun q hq => hl q (List.mem_cons_of_mem _ hq)) h2, fun a ha b hb => ?_⟩
    obtain ⟨q, hq, hb⟩ := List.mem_flatMap.mp hb
    unfold kidW at ha hb
    obtain ⟨d, _, rfl⟩ := List.mem_map.mp ha
    obtain ⟨f, _, rfl⟩ := List.mem_map.mp hb
    exact lexB_grow (by rw [hl p List.mem_cons_self, hl q (List.mem_cons_of_mem _ hq)]) (h1 q hq)
structure LevW (e : List Int) (n : Int) (t : Nat) (T : Tab (List Int)) : Prop where
  asc : T.Pairwise ltW
  nod : (T.map (·.1)).Nodup
  ent : ∀ p ∈ T, IsRow p.1 n ∧ IsWord p.2 n ∧ p.2.length = t ∧ behindF e p.2 = p.1
  all : ∀ u, IsWord u n → u.length = t → EffW e u → ∃ v, (behindF e u, v) ∈ T ∧ (v = u ∨ lexB v u = true)
  len : T.length ≤ (n - 1).toNat ^ t
theorem lev_spec {e : List Int} {n : Int} (h0 : 0 ≤ n) (he : IsRow e n) : ∀ t, LevW e n t (levW e t) := by
  intro t
  induction t with
  | zero =>
    refine ⟨List.pairwise_singleton _ _, by simp [levW], fun p hp => ?_, fun u hu hl _ => ?_, by simp [levW]⟩
    · rw [levW, List.mem_singleton] at hp
      subst hp
      exact ⟨he, word_nil n, rfl, rfl⟩
    · rw [List.length_eq_zero_iff.mp hl]
      exact ⟨[], List.mem_singleton.mpr rfl, .inl rfl⟩
  | succ t ih =>
    have hc := candW_sorted (fun p hp => (ih.ent p hp).2.2.1) ih.asc
    obtain ⟨i1, i2, i3, i4, i5⟩ := ded_spec (candW (levW e t)) [] (by simpa using hc) (by simp)
    refine ⟨i1, i2, fun c hc => ?_, fun u hu hl hf => ?_, Nat.le_trans i4 ?_⟩
    · have := i3 c hc
      rw [List.nil_append] at this
      obtain ⟨p, hp, hk⟩ := List.mem_flatMap.mp this
      obtain ⟨h1, h2, h3, h4⟩ := ih.ent p hp
      obtain ⟨d, d0, d1, df, rfl⟩ := (mem_kidW h0 h1).mp hk
      have hl := h1.leni h0
      refine ⟨swapF_row h1 d0 (by omega), h2.app (fun x hx => ?_), by rw [List.length_append, h3]; rfl, ?_⟩
      · rw [List.mem_singleton.mp hx]
        omega
      · dsimp only
        rw [behindF_app, h4]
        show stepF p.1 d = _
        exact stepF_fall df
    · have hne : u ≠ [] := by
        intro z
        rw [z] at hl
        cases hl
      obtain ⟨u1, d, rfl⟩ : ∃ u1 d, u = u1 ++ [d] := ⟨u.dropLast, u.getLast hne, (List.dropLast_concat_getLast hne).symm⟩
      obtain ⟨f1, f2⟩ := eff_snoc hf
      have hu1 : IsWord u1 n := hu.sub (List.sublist_append_left _ _)
      have hd := hu d (List.mem_append_right _ (List.mem_singleton.mpr rfl))
      have hl1 : u1.length = t := by
        rw [List.length_append] at hl
        simpa using hl
      obtain ⟨v, hv, hor⟩ := ih.all u1 hu1 hl1 f1
      obtain ⟨g1, g2, g3, g4⟩ := ih.ent _ hv
      have hb : behindF e (u1 ++ [d]) = swapF (behindF e u1) d := by
        rw [behindF_app]
        exact stepF_fall f2
      have hm : (swapF (behindF e u1) d, v ++ [d]) ∈ candW (levW e t) := List.mem_flatMap.mpr ⟨_, hv, (mem_kidW h0 g1).mpr ⟨d, hd.1, by omega, f2, rfl⟩⟩
      obtain ⟨w, hw, hor2⟩ := i5 _ (by rw [List.nil_append]; exact hm)
      refine ⟨w, by rw [hb]; exact hw, ?_⟩
      have hle : v ++ [d] = u1 ++ [d] ∨ lexB (v ++ [d]) (u1 ++ [d]) = true := by
        rcases hor with q | q
        · exact .inl (by rw [q])
        · exact .inr (lexB_grow (by rw [hl1, g3]) q)
      dsimp only at hor2
      rcases hor2 with q | q
      · rw [q]
        exact hle
      · rcases hle with z | z
        · rw [← z]
          exact .inr q
        · exact .inr (lexB_trans q z)
    · have hk : ∀ T : Tab (List Int), (∀ p ∈ T, IsRow p.1 n) → (candW T).length ≤ T.length * (n - 1).toNat := by
        intro T
        induction T with
        | nil => intro _; simp [candW]
        | cons p T iT =>
          intro hT
          have a := kidW_len h0 (hT p List.mem_cons_self)
          have b := iT fun q hq => hT q (List.mem_cons_of_mem _ hq)
          unfold candW at b ⊢
          rw [List.flatMap_cons, List.length_append, List.length_cons, Nat.succ_mul]
          omega
      have h1 := hk _ fun p hp => (ih.ent p hp).1
      have h2 := Nat.mul_le_mul_right (n - 1).toNat ih.len
      rw [Nat.pow_succ]
      simp only [List.length_nil]
      omega
/-! ### all words of a length -/
def allD (m : Int) : Nat → List (List Int)
  | 0 => [[]]
  | t + 1 => (allD m t).flatMap fun w => (upI 0 m).map fun d => w ++ [d]
theorem mem_allD {n : Int} : ∀ {t : Nat} {u : List Int}, u ∈ allD (n - 1) t ↔ IsWord u n ∧ u.length = t
  | 0, u => by
    rw [allD, List.mem_singleton]
    constructor
    · rintro rfl
      exact ⟨word_nil n, rfl⟩
    · exact fun h => List.length_eq_zero_iff.mp h.2
  | t + 1, u => by
    rw [allD, List.mem_flatMap]
    constructor
    · rintro ⟨w, hw, hu⟩
      obtain ⟨d, hd, rfl⟩ := List.mem_map.mp hu
      obtain ⟨h1, h2⟩ := mem_allD.mp hw
      rw [mem_upI] at hd
      refine ⟨h1.app fun x hx => ?_, by rw [List.length_append, h2]; rfl⟩
      rw [List.mem_singleton.mp hx]
      omega
    · rintro ⟨h1, h2⟩
      have hne : u ≠ [] := by
        intro z
        rw [z] at h2
        cases h2
      obtain ⟨u1, d, rfl⟩ : ∃ u1 d, u = u1 ++ [d] := ⟨u.dropLast, u.getLast hne, (List.dropLast_concat_getLast hne).symm⟩
      have hd := h1 d (List.mem_append_right _ (List.mem_singleton.mpr rfl))
      refine ⟨u1, mem_allD.mpr ⟨h1.sub (List.sublist_append_left _ _), by rw [List.length_append] at h2; simpa using h2⟩, List.mem_map.mpr ⟨d, ?_, rfl⟩⟩
      rw [mem_upI]
      omega
theorem allD_len {m : Int} : ∀ t : Nat, (allD m t).length ≤ m.toNat ^ t
  | 0 => by simp [allD]
  | t + 1 => by
    rw [allD, flatMap_length_const (c := m.toNat) (fun w => by rw [List.length_map, upI_length]; congr 1; omega), Nat.pow_succ]
    exact Nat.mul_le_mul_right _ (allD_len t)
theorem allD_sorted {m : Int} : ∀ t : Nat, (allD m t).Pairwise fun a b => lexB a b = true
  | 0 => List.pairwise_singleton _ _
  | t + 1 => by
    rw [allD]
    have hl : ∀ u ∈ allD m t, u.length = t := by
      intro u hu
      have : m = (m + 1) - 1 := by omega
      rw [this] at hu
      exact (mem_allD.mp hu).2
    have hs := allD_sorted (m := m) t
    generalize allD m t = L at hl hs
    induction L with
    | nil => exact List.Pairwise.nil
    | cons w L iL =>
      rw [List.flatMap_cons, List.pairwise_append]
      obtain ⟨h1, h2⟩ := List.pairwise_cons.mp hs
      refine ⟨?_, iL (fun u hu => hl u (List.mem_cons_of_mem _ hu)) h2, fun a ha b hb => ?_⟩
      · rw [List.pairwise_map]
        refine (upI_lt _ _).imp fun {a b} h => ?_
        rw [lexB_app, lexB, if_neg (by omega)]
        exact decide_eq_true h
      · obtain ⟨d, _, rfl⟩ := List.mem_map.mp ha
        obtain ⟨q, hq, hb⟩ := List.mem_flatMap.mp hb
        obtain ⟨f, _, rfl⟩ := List.mem_map.mp hb
        exact lexB_grow (by rw [hl w List.mem_cons_self, hl q (List.mem_cons_of_mem _ hq)]) (h1 q hq)
theorem find_least {p : List Int → Bool} : ∀ {L : List (List Int)} {u : List Int}, L.Pairwise (fun a b => lexB a b = true) → L.find? p = some u → u ∈ L ∧ p u = true ∧ ∀ v ∈ L, p v = true → v = u ∨ lexB u v = true := by
  intro L
  induction L with
  | nil => intro u _ h; cases h
  | cons w L ih =>
    intro u hs h
    obtain ⟨h1, h2⟩ := List.pairwise_cons.mp hs
    rw [List.find?_cons] at h
    split at h
    · rename_i hp
      cases h
      refine ⟨List.mem_cons_self, hp, fun v hv _ => ?_⟩
      rcases List.mem_cons.mp hv with rfl | hv
      · exact .inl rfl
      · exact .inr (h1 v hv)
    · rename_i hp
      obtain ⟨a, b, c⟩ := ih h2 h
      refine ⟨List.mem_cons_of_mem _ a, b, fun v hv hv2 => ?_⟩
      rcases List.mem_cons.mp hv with rfl | hv
      · rw [hp] at hv2
        cases hv2
      · exact c v hv hv2
/-- of a level: the words of the good rows -/
def foundW (good : List Int → Bool) (T : Tab (List Int)) : List (List Int) := (T.filter fun p => good p.1).map (·.2)
theorem found_first {good : List Int → Bool} {e : List Int} {n : Int} {t : Nat} (h0 : 0 ≤ n) (he : IsRow e n) (hm : ∀ s, s < t → ∀ u, IsWord u n → u.length = s → good (behindF e u) = false) :
    (foundW good (levW e t))[0]? = (allD (n - 1) t).find? fun u => good (behindF e u) := by
  have L := lev_spec h0 he t
  cases hf : (allD (n - 1) t).find? (fun u => good (behindF e u)) with
  | none =>
    rw [List.find?_eq_none] at hf
    have : foundW good (levW e t) = [] := by
      unfold foundW
      rw [List.map_eq_nil_iff, List.filter_eq_nil_iff]
      intro p hp hg
      obtain ⟨_, h2, h3, h4⟩ := L.ent p hp
      exact hf p.2 (mem_allD.mpr ⟨h2, h3⟩) (by rw [h4]; exact hg)
    rw [this]
    rfl
  | some u =>
    obtain ⟨hu, hg, hmin⟩ := find_least (allD_sorted t) hf
    obtain ⟨hw, hl⟩ := mem_allD.mp hu
    have hF : (foundW good (levW e t)).Pairwise fun a b => lexB a b = true := by
      unfold foundW
      rw [List.pairwise_map]
      exact (L.asc.filter _).imp fun h => h
    have hback : ∀ v ∈ foundW good (levW e t), v = u ∨ lexB u v = true := by
      intro v hv
      unfold foundW at hv
      obtain ⟨p, hp, rfl⟩ := List.mem_map.mp hv
      obtain ⟨hp, hgp⟩ := List.mem_filter.mp hp
      obtain ⟨_, h2, h3, h4⟩ := L.ent p hp
      exact hmin p.2 (mem_allD.mpr ⟨h2, h3⟩) (by rw [h4]; exact hgp)
    have hin : u ∈ foundW good (levW e t) := by
      rcases eff_or u e hw with hE | ⟨v, h1, h2, h3⟩
      · obtain ⟨v, hv, hor⟩ := L.all u hw hl hE
        have hvF : v ∈ foundW good (levW e t) := List.mem_map.mpr ⟨_, List.mem_filter.mpr ⟨hv, hg⟩, rfl⟩
        rcases hor with q | q
        · rw [← q]
          exact hvF
        · rcases hback v hvF with z | z
          · rw [← z]
            exact hvF
          · rw [lexB_asym q] at z
            cases z
      · have := hm v.length (by omega) v h1 rfl
        rw [h3, hg] at this
        cases this
    cases hFe : foundW good (levW e t) with
    | nil =>
      rw [hFe] at hin
      cases hin
    | cons w0 rest =>
      rw [hFe] at hin hF hback
      have h1 := hback w0 List.mem_cons_self
      have h2 : w0 = u ∨ lexB w0 u = true := by
        rcases List.mem_cons.mp hin with q | q
        · exact .inl q.symm
        · exact .inr ((List.pairwise_cons.mp hF).1 u q)
      have : w0 = u := by
        rcases h1 with q | q
        · exact q
        · rcases h2 with z | z
          · exact z
          · rw [lexB_asym q] at z
            cases z
      rw [this]
      rfl
end Pi

/-! The law of mending. -/
namespace Pi
open PySem
local macro_rules | `(tactic| walk_at "pi") => `(tactic| simp only [wp_pure, wp_bind, wp_bad, wp_ite, wp_chk, wp_new, wp_var, wp_lit, wp_glob, wp_bin, wp_neg, wp_not, wp_and, wp_or, wp_cmp, wp_cmp2, wp_iteE, wp_tup, wp_lst, wp_call, wp_fz, wp_tupS, wp_lstS, wp_dnew, wp_disp, wp_dget1, wp_dget2, wp_dsetd, wp_litems, wp_sset, wi_rev, vr_index, vr_count, vm_count, wi_items, vd_is, vd_items, wp_ds_nil, wp_ds_star, wp_ds_cons, notStar, wp_bi, wp_isi, wp_idx, wp_slice, wp_meth, wp_lrange, wp_trange, wp_tdown, wp_comp, wp_compB, wp_comp2, wp_comp2B, wp_rngv, wp_es_nil, wp_es_cons, wp_o_none, wp_o_some, wp_ts_nil, wp_ts_one, wt_not, wt_and, wt_or, wt_cmp, wt_ite, wt_var, wt_call, wt_bi, wt_isi, wt_cmp2, wt_idx, wt_lit, wi_of, wi_enum, wi_zip, wi_range, ws_asg, ws_par, ws_par3, ws_sub, ws_aug, ws_expr, ws_ret, ws_retN, ws_pass, ws_brk, ws_cont, ws_ifs, ws_for, ws_whil, wss_nil, wss_cons, then_nx, then_ret, then_brk, then_cont, out_ret, out_nx, turn_nx, turn_cont, turn_brk, turn_ret, wp_putM, ctx_cf, fzq_int, fzq_bl, fzq_non, fzq_str, fzq_tI, fzq_tup, fzq_ints, fzq_bls, fzq_tIs, fzq_nil, ctx_gl, vb_add, vb_sub, vb_mul, vb_fdiv, vb_mod, vb_pow, vb_addT, vc_lt, vc_le, vc_gt, vc_ge, vc_eqv, vc_nev, vc_inv, vc_ninv, ve_int, ve_bl, vt_bl, vt_int, vt_tup, vt_non, vi_int, vi_bl, vi_str, vi_non, vi_tup, vi_clst, vs_tup, vs_clst, vI_tup, vI_clst, vI_rng, vI_ref, vx_tup, vx_clst, vp_none, vp_int, vl_tup, vl_clst, vf_len_tup, vf_len_clst, vf_int, vf_tup, vf_list_tup, vf_sorted_tup, vf_sorted_clst, vf_all, vf_any, vf_sum, vf_tup_clst, vf_list_clst, vf_min2, vf_max2, vf_abs, va_add, va_sub, put_name, put_tup, put_clst, puts_nil, puts_cons, wipe, List.getElem?_cons_zero, List.getElem?_cons_succ, List.getElem?_nil, List.set_cons_zero, List.set_cons_succ, List.length_cons, List.length_nil, List.any_cons, List.any_nil, isTy, String.reduceBEq, String.reduceEq, Bool.false_and, Bool.and_false, Bool.true_and, Bool.and_true, Bool.or_false, Bool.false_or, Bool.or_true, Bool.true_or, Bool.not_true, Bool.not_false, if_true, if_false, Bool.false_eq_true, reduceIte, reduceCtorEq, Nat.reduceAdd, Nat.reduceLT, Nat.lt_add_one, and_self, true_and, and_true, rangeOf, BEq.rfl, bne_self_eq_false, Nat.reduceLeDiff, Nat.zero_lt_succ, Nat.zero_lt_one])
def ways_to_b : List Pi.S := [(.ret (.fz (.comp [2, 3] (.tup [(.name 2), (.name 3)]) (.items (.var 0)) [(.call "are_as_great" [(.call "counts_ahead" [(.var 2)]), (.var 1)])] (.var 3))))]
def ways_to_d : DefI := { name := "ways_to", ps := [("ways" : Str), ("least" : Str)], N := [("ways" : Str), ("least" : Str), ("row" : Str), ("word" : Str)], body := ways_to_b, mu := [] }
def ways_one_deed_on_b : List Pi.S := [(.asg (.name 1) (.dnew true)), (.for (.tup [(.name 2), (.name 3)]) (.items (.var 0)) [(.for (.name 4) (.range [(.bin .sub (.bi .len [(.var 2)]) (.lit (.int 1)))]) [(.ifs (.call "is_out_of_order" [(.var 2), (.var 4)]) [(.expr (.dsetd (.var 1) (.call "swapped" [(.var 2), (.var 4)]) (.tupS [(.star (.var 3)), (.var 4)])))] [])])]), (.ret (.var 1))]
def ways_one_deed_on_d : DefI := { name := "ways_one_deed_on", ps := [("ways" : Str)], N := [("ways" : Str), ("found" : Str), ("row" : Str), ("word" : Str), ("deed" : Str)], body := ways_one_deed_on_b, mu := [("found" : Str)] }
def mending_b : List Pi.S := [(.expr (.call "check_task" [(.var 0), (.var 1), (.var 2)])), (.expr (.call "check_lot" [(.var 1), (.var 3)])), (.asg (.name 4) (.call "counts_ahead" [(.var 2)])), (.asg (.name 5) (.fz (.disp (.call "end_of" [(.var 0), (.call "left_of" [(.var 1), (.var 3)])]) (.tup [])))), (.asg (.name 6) (.call "ways_to" [(.var 5), (.var 4)])), (.whil (.not (.var 6)) [(.asg (.name 5) (.call "ways_one_deed_on" [(.var 5)])), (.asg (.name 6) (.call "ways_to" [(.var 5), (.var 4)]))]), (.ret (.idx (.var 6) (.lit (.int 0))))]
def mending_d : DefI := { name := "mending", ps := [("n" : Str), ("word" : Str), ("goal" : Str), ("lot" : Str)], N := [("n" : Str), ("word" : Str), ("goal" : Str), ("lot" : Str), ("least" : Str), ("ways" : Str), ("found" : Str)], body := mending_b, mu := [] }
def left_with_b : List Pi.S := [(.asg (.name 4) (.fz (.comp [5] (.name 5) (.of (.var 1)) [] (.ite (.cmp .ge (.var 5) (.var 2)) (.bin .add (.var 5) (.lit (.int 1))) (.var 5))))), (.ret (.call "left_of" [(.tupS [(.star (.slice (.var 0) none (some (.var 2)))), (.var 3), (.star (.slice (.var 0) (some (.var 2)) none))]), (.var 4)]))]
def left_with_d : DefI := { name := "left_with", ps := [("word" : Str), ("lot" : Str), ("place" : Str), ("deed" : Str)], N := [("word" : Str), ("lot" : Str), ("place" : Str), ("deed" : Str), ("failing" : Str), ("one" : Str)], body := left_with_b, mu := [] }
def spots_b : List Pi.S := [(.expr (.call "check_task" [(.var 0), (.var 1), (.var 2)])), (.expr (.call "check_lot" [(.var 1), (.var 3)])), (.ifs (.call "reaches" [(.call "left_of" [(.var 1), (.var 3)]), (.var 2)]) [(.ret (.tup []))] []), (.asg (.name 4) (.fz (.comp2 [5, 6] (.name 5) (.range [(.bin .add (.bi .len [(.var 1)]) (.lit (.int 1)))]) [6] (.name 6) (.range [(.bin .sub (.var 0) (.lit (.int 1)))]) [] (.tup [(.var 5), (.var 6)])))), (.ret (.bi .tuple [(.fz (.comp [5, 6] (.tup [(.name 5), (.name 6)]) (.of (.var 4)) [(.call "reaches" [(.call "left_with" [(.var 1), (.var 3), (.var 5), (.var 6)]), (.var 2)])] (.tup [(.var 5), (.var 6)])))]))]
def spots_d : DefI := { name := "spots", ps := [("n" : Str), ("word" : Str), ("goal" : Str), ("lot" : Str)], N := [("n" : Str), ("word" : Str), ("goal" : Str), ("lot" : Str), ("pairs" : Str), ("place" : Str), ("deed" : Str)], body := spots_b, mu := [] }
def law_fine_b : List Pi.S := [(.ret (.call "_law_far" [(.call "_law_end" [(.var 1), (.var 3), (.var 0)]), (.var 2)]))]
def law_fine_d : DefI := { name := "_law_fine", ps := [("n" : Str), ("word" : Str), ("goal" : Str), ("lot" : Str)], N := [("n" : Str), ("word" : Str), ("goal" : Str), ("lot" : Str)], body := law_fine_b, mu := [] }
def law_next_words_b : List Pi.S := [(.asg (.name 2) (.fz (.lst []))), (.for (.name 3) (.of (.var 1)) [(.asg (.name 2) (.fz (.bin .add (.var 2) (.fz (.comp [4] (.name 4) (.range [(.bin .sub (.var 0) (.lit (.int 1)))]) [] (.fz (.bin .add (.var 3) (.tup [(.var 4)]))))))))]), (.ret (.var 2))]
def law_next_words_d : DefI := { name := "_law_next_words", ps := [("n" : Str), ("words" : Str)], N := [("n" : Str), ("words" : Str), ("found" : Str), ("word" : Str), ("deed" : Str)], body := law_next_words_b, mu := [] }
def law_b : List Pi.S := [(.asg (.name 1) (.lst [(.var 0), (.lit (.int 0)), (.lit (.int 7153)), (.lit (.int 0))])), (.asg (.tup [(.name 2), (.name 3), (.name 4)]) (.call "_law_case" [(.var 1), (.lit (.int 4)), (.lit (.int 9))])), (.asg (.name 5) (.call "_law_lot" [(.var 1), (.bi .len [(.var 3)])])), (.par3 6 7 8 (.call "_law_end" [(.var 3), (.var 5), (.var 2)]) (.fz (.lst [(.tup [])])) (.lit .non)), (.for (.name 9) (.range [(.bin .mul (.var 2) (.var 2))]) [(.for (.name 10) (.of (.ite (.cmp .is_ (.var 8) (.lit .non)) (.var 7) (.fz (.lst [])))) [(.ifs (.and (.cmp .is_ (.var 8) (.lit .non)) (.call "_law_far" [(.call "_law_run" [(.var 6), (.var 10), (.tup [])]), (.var 4)])) [(.asg (.name 8) (.var 10))] [])]), (.asg (.name 7) (.ite (.cmp .is_ (.var 8) (.lit .non)) (.call "_law_next_words" [(.var 2), (.var 7)]) (.fz (.lst []))))]), (.ifs (.not (.call "_law_alike" [(.call "mending" [(.var 2), (.var 3), (.var 4), (.var 5)]), (.var 8)])) [(.ret (.lit (.bl false)))] []), (.asg (.name 11) (.lst [])), (.for (.name 12) (.range [(.ite (.cmp .ne (.var 8) (.tup [])) (.bin .add (.bi .len [(.var 3)]) (.lit (.int 1))) (.lit (.int 0)))]) [(.for (.name 13) (.range [(.bin .sub (.var 2) (.lit (.int 1)))]) [(.asg (.name 14) (.bin .add (.bin .add (.slice (.var 3) none (some (.var 12))) (.tup [(.var 13)])) (.slice (.var 3) (some (.var 12)) none))), (.asg (.name 15) (.bi .tuple [(.fz (.comp [16] (.name 16) (.of (.var 5)) [] (.bin .add (.var 16) (.ite (.cmp .ge (.var 16) (.var 12)) (.lit (.int 1)) (.lit (.int 0))))))])), (.ifs (.call "_law_fine" [(.var 2), (.var 14), (.var 4), (.var 15)]) [(.expr (.meth .append (.var 11) [(.tup [(.var 12), (.var 13)])]))] [])])]), (.ret (.call "_law_alike" [(.call "spots" [(.var 2), (.var 3), (.var 4), (.var 5)]), (.bi .tuple [(.var 11)])]))]
def law_d : DefI := { name := "law", ps := [("script" : Str)], N := [("script" : Str), ("row" : Str), ("n" : Str), ("word" : Str), ("goal" : Str), ("lot" : Str), ("left" : Str), ("words" : Str), ("due" : Str), ("turn" : Str), ("one" : Str), ("found" : Str), ("place" : Str), ("deed" : Str), ("longer" : Str), ("moved" : Str), ("own" : Str)], body := law_b, mu := [("found" : Str), ("row" : Str)] }
def law_p0 : List Pi.S := [(.asg (.name 1) (.lst [(.var 0), (.lit (.int 0)), (.lit (.int 7153)), (.lit (.int 0))])), (.asg (.tup [(.name 2), (.name 3), (.name 4)]) (.call "_law_case" [(.var 1), (.lit (.int 4)), (.lit (.int 9))])), (.asg (.name 5) (.call "_law_lot" [(.var 1), (.bi .len [(.var 3)])]))]
def law_p1 : List Pi.S := [(.par3 6 7 8 (.call "_law_end" [(.var 3), (.var 5), (.var 2)]) (.fz (.lst [(.tup [])])) (.lit .non)), (.for (.name 9) (.range [(.bin .mul (.var 2) (.var 2))]) [(.for (.name 10) (.of (.ite (.cmp .is_ (.var 8) (.lit .non)) (.var 7) (.fz (.lst [])))) [(.ifs (.and (.cmp .is_ (.var 8) (.lit .non)) (.call "_law_far" [(.call "_law_run" [(.var 6), (.var 10), (.tup [])]), (.var 4)])) [(.asg (.name 8) (.var 10))] [])]), (.asg (.name 7) (.ite (.cmp .is_ (.var 8) (.lit .non)) (.call "_law_next_words" [(.var 2), (.var 7)]) (.fz (.lst []))))]), (.ifs (.not (.call "_law_alike" [(.call "mending" [(.var 2), (.var 3), (.var 4), (.var 5)]), (.var 8)])) [(.ret (.lit (.bl false)))] [])]
def law_p2 : List Pi.S := [(.asg (.name 11) (.lst [])), (.for (.name 12) (.range [(.ite (.cmp .ne (.var 8) (.tup [])) (.bin .add (.bi .len [(.var 3)]) (.lit (.int 1))) (.lit (.int 0)))]) [(.for (.name 13) (.range [(.bin .sub (.var 2) (.lit (.int 1)))]) [(.asg (.name 14) (.bin .add (.bin .add (.slice (.var 3) none (some (.var 12))) (.tup [(.var 13)])) (.slice (.var 3) (some (.var 12)) none))), (.asg (.name 15) (.bi .tuple [(.fz (.comp [16] (.name 16) (.of (.var 5)) [] (.bin .add (.var 16) (.ite (.cmp .ge (.var 16) (.var 12)) (.lit (.int 1)) (.lit (.int 0))))))])), (.ifs (.call "_law_fine" [(.var 2), (.var 14), (.var 4), (.var 15)]) [(.expr (.meth .append (.var 11) [(.tup [(.var 12), (.var 13)])]))] [])])]), (.ret (.call "_law_alike" [(.call "spots" [(.var 2), (.var 3), (.var 4), (.var 5)]), (.bi .tuple [(.var 11)])]))]
theorem law_parts : law_b = law_p0 ++ (law_p1 ++ (law_p2)) := rfl
class Wf (T : Tb) : Prop where
  wf : 1000000 ≤ T.wf
theorem vt_clst (l : List D) (S : Sto) (Q : Bool → Sto → Prop) (E : XP) : Wp (truth (.clst l)) S Q E = Q (!l.isEmpty) S := by rw [wp_ap]; rfl
theorem vd_itemsT {α : Type} (e : α → D) (L : Tab α) (S : Sto) (Q : Iter → Sto → Prop) (E : XP) : Wp (iterItems (dcT e L)) S Q E = Q ⟨L.length, fun i _ => stepL (L.map fun p => D.tup [tI p.1, e p.2]) i⟩ S := by
  unfold dcT
  rw [vd_items, pairs_tab, dKs_length]
theorem vd_setd {S : Sto} {m : Nat} {acc : Tab (List Int)} {r v : List Int} {Q : D → Sto → Prop} {E : XP} (h : S[m]? = some (.dic true (dKs acc) (dVs tI acc))) (hz : acc.length < sizeLine)
    (hQ : ∀ d, Q d (S.set m (.dic true (dKs (setA acc (r, v))) (dVs tI (setA acc (r, v)))))) : Wp (dsetd (.ref m) (tI r) (tI v)) S Q E := by
  rw [wp_ap]
  unfold dsetd
  dsimp only
  rw [h]
  dsimp only
  rw [key_tI]
  dsimp only
  rw [if_pos (by rw [dKs_length]; exact hz), valK_tab]
  unfold setA at hQ
  dsimp only at hQ
  cases hg : getA acc r with
  | some w =>
    rw [hg] at hQ
    dsimp only at hQ
    have he : S.set m (.dic true (dKs acc) (dVs tI acc)) = S := by
      obtain ⟨hl, hv⟩ := List.getElem?_eq_some_iff.mp h
      rw [← hv]
      exact List.set_getElem_self hl
    have := hQ (tI w)
    rw [he] at this
    exact this
  | none =>
    rw [hg] at hQ
    dsimp only at hQ
    have := hQ (tI v)
    rw [← putKs_tab, ← putVs_tab] at this
    exact this
/-! ### the levels, as the program goes through them -/
def deedW (p : List Int × List Int) (acc : Tab (List Int)) (d : Int) : Tab (List Int) := if FallW p.1 d then setA acc (swapF p.1 d, p.2 ++ [d]) else acc
def rowW (acc : Tab (List Int)) (p : List Int × List Int) : Tab (List Int) := (upI 0 ((p.1.length : Int) - 1)).foldl (deedW p) acc
theorem setA_len (acc : Tab (List Int)) (c : List Int × List Int) : (setA acc c).length ≤ acc.length + 1 := by
  unfold setA
  split
  · omega
  · exact putA_length _ _ _
theorem deedW_len (p : List Int × List Int) : ∀ (ds : List Int) (acc : Tab (List Int)), (ds.foldl (deedW p) acc).length ≤ acc.length + ds.length
  | [], acc => Nat.le_refl _
  | d :: ds, acc => by
    rw [List.foldl_cons, List.length_cons]
    have h1 := deedW_len p ds (deedW p acc d)
    have h2 : (deedW p acc d).length ≤ acc.length + 1 := by
      unfold deedW
      split
      · exact setA_len _ _
      · omega
    omega
theorem rowW_len {c : Nat} : ∀ (L acc : Tab (List Int)), (∀ p ∈ L, p.1.length ≤ c + 1) → (L.foldl rowW acc).length ≤ acc.length + L.length * c
  | [], acc, _ => by simp
  | p :: L, acc, h => by
    rw [List.foldl_cons, List.length_cons]
    have h1 := rowW_len L (rowW acc p) fun q hq => h q (List.mem_cons_of_mem _ hq)
    have h2 : (rowW acc p).length ≤ acc.length + (upI 0 ((p.1.length : Int) - 1)).length := deedW_len p _ acc
    rw [upI_length] at h2
    have h3 := h p List.mem_cons_self
    rw [Nat.succ_mul]
    omega
theorem fold_kid (p : List Int × List Int) : ∀ (ds : List Int) (acc : Tab (List Int)), ((ds.filter fun d => decide (FallW p.1 d)).map fun d => (swapF p.1 d, p.2 ++ [d])).foldl setA acc = ds.foldl (deedW p) acc
  | [], acc => rfl
  | d :: ds, acc => by
    rw [List.foldl_cons, List.filter_cons]
    unfold deedW
    by_cases q : FallW p.1 d
    · rw [if_pos (decide_eq_true q), if_pos q, List.map_cons, List.foldl_cons]
      exact fold_kid p ds _
    · rw [if_neg (by simpa using q), if_neg q]
      exact fold_kid p ds _
theorem fold_cand : ∀ (L acc : Tab (List Int)), (candW L).foldl setA acc = L.foldl rowW acc
  | [], acc => rfl
  | p :: L, acc => by
    unfold candW
    rw [List.flatMap_cons, List.foldl_append, List.foldl_cons]
    have := fold_cand L (rowW acc p)
    unfold candW at this
    rw [← this]
    congr 1
    exact fold_kid p _ acc
theorem next_fold (L : Tab (List Int)) : nextW L = L.foldl rowW [] := fold_cand L []
theorem take_row (L : Tab (List Int)) {j : Nat} {p : List Int × List Int} (h : L[j]? = some p) : (L.take (j + 1)).foldl rowW [] = rowW ((L.take j).foldl rowW []) p := by
  rw [List.take_add_one, h, List.foldl_append]
  rfl
def goodB (g row : List Int) : Bool := ((aheadF row).zip (aheadF g)).all fun p => decide (p.2 ≤ p.1)
theorem goodB_iff {g row : List Int} {n : Int} (h0 : 0 ≤ n) (hg : IsRow g n) (hr : IsRow row n) : goodB g row = true ↔ CntLe row g :=
  (ahead_all (by rw [hr.len, hg.len])).trans (more_cnt hr hg h0)
section
variable {T : Tb} {k : Nat}
theorem waysto_w [Fn T count_less_d] [Fn T counts_ahead_d] [Fn T are_as_great_d] [Fn T ways_to_d] {g : List Int} {n : Int} {L : Tab (List Int)} (h7 : n ≤ 7) (hL : ∀ p ∈ L, IsRow p.1 n) (hl : L.length ≤ 1000) : Ret (callF T (k + 3) "ways_to" [dcT tI L, .clst ((aheadF g).map .int)]) (.clst ((foundW (goodB g) L).map tI)) := by
  refine ret_call ways_to_d rfl rfl fun S => ?_
  show Wp (evSs (T.ctx (k + 2)) ways_to_b [some (dcT tI L), some (.clst ((aheadF g).map .int)), none, none]) S _ _
  unfold ways_to_b
  try walk_at "pi"
  rw [vd_itemsT]
  refine comp_enc L (fun p => D.tup [tI p.1, tI p.2]) tI (fun p => if goodB g p.1 = true then some p.2 else none) rfl (by rw [sizeLine_eq]; omega) (fun i => rfl) (fun p hp => ?_) ?_
  · have hrl := (hL p hp).len
    try walk_at "pi"
    rw [(countsahead_w (by omega)).wp]
    rw [(asgreat_w (by rw [aheadF_length, hrl]; exact Nat.le_trans (Nat.mul_le_mul (show n.toNat - 1 ≤ 6 by omega) (show n.toNat - 1 ≤ 6 by omega)) (by decide))).wp]
    rw [show (((aheadF p.1).zip (aheadF g)).all fun p => decide (p.2 ≤ p.1)) = goodB g p.1 from rfl]
    cases hb : goodB g p.1
    · simp only [Bool.false_eq_true, if_false]
      first | exact ⟨rfl, trivial⟩ | exact ⟨trivial, rfl⟩ | exact ⟨rfl, rfl⟩
    · simp only [if_true]
      first | exact ⟨rfl, trivial⟩ | exact ⟨trivial, rfl⟩ | exact ⟨rfl, rfl⟩
  · rw [fm_map (fun p : List Int × List Int => goodB g p.1) (fun p => p.2) L]
    rw [fzq_list encTI (by decide), fzq_enc (encL encTI) (by decide)]
    exact ⟨rfl, rfl⟩
theorem waysone_w [Fn T is_out_of_order_d] [Fn T swapped_d] [Fn T ways_one_deed_on_d] {n : Int} {L : Tab (List Int)} (h0 : 1 ≤ n) (h4 : n ≤ 4) (hg : ∀ p ∈ L, IsRow p.1 n ∧ p.2.length ≤ 100) (hl : L.length ≤ 1000) : Ret (callF T (k + 2) "ways_one_deed_on" [dcT tI L]) (dcT tI (nextW L)) := by
  refine ret_call ways_one_deed_on_d rfl rfl fun S => ?_
  show Wp (evSs (T.ctx (k + 1)) ways_one_deed_on_b [some (dcT tI L), none, none, none, none]) S _ _
  rw [next_fold]
  unfold ways_one_deed_on_b
  try walk_at "pi"
  rw [vd_itemsT]
  rw [show Ob.dic true [] [] = Ob.dic true (dKs (([] : Tab (List Int)))) (dVs tI ([] : Tab (List Int))) from rfl]
  refine for_list (L.map fun p => D.tup [tI p.1, tI p.2]) (fun i env S' => ∃ (x2 x3 x4 : Option D), env = [some (dcT tI L), some (.ref S.length), x2, x3, x4] ∧ S' = S ++ [.dic true (dKs ((L.take i).foldl rowW [])) (dVs tI ((L.take i).foldl rowW []))]) (by rw [List.length_map]) ⟨_, _, _, rfl, rfl⟩ (fun i env S' _ => rfl) (fun i x env S' hx ⟨x2, x3, x4, he, hS⟩ => ?_) (fun env S' ⟨x2, x3, x4, he, hS⟩ => ?_)
  · subst he hS
    rw [List.getElem?_map, Option.map_eq_some_iff] at hx
    obtain ⟨⟨row, word⟩, hp, rfl⟩ := hx
    have hrw := hg _ (List.mem_of_getElem? hp)
    have hr : IsRow row n := hrw.1
    have hwl : word.length ≤ 100 := hrw.2
    have hrl := hr.leni (by omega)
    have hi := lt_len hp
    rw [take_row L hp]
    have hbl : ((L.take i).foldl rowW []).length ≤ 3000 := by
      have := rowW_len (c := 3) (L.take i) [] fun p hp => by have := (hg p (List.mem_of_mem_take hp)).1.len; omega
      rw [List.length_nil, List.length_take] at this
      have : min i L.length * 3 ≤ 1000 * 3 := Nat.mul_le_mul_right 3 (by omega)
      omega
    generalize (L.take i).foldl rowW [] = acc0 at hbl ⊢
    try walk_at "pi"
    rw [List.length_map, hrl]
    refine ⟨rgOk_of (by omega) (by omega) (by omega) (by omega), ?_⟩
    refine for_list ((upI 0 (n - 1)).map .int) (fun j env S2 => ∃ (x4 : Option D), env = [some (dcT tI L), some (.ref S.length), some (tI row), some (tI word), x4] ∧ S2 = S ++ [.dic true (dKs (((upI 0 (n - 1)).take j).foldl (deedW (row, word)) acc0)) (dVs tI (((upI 0 (n - 1)).take j).foldl (deedW (row, word)) acc0))]) (by rw [List.length_map, upI_length]) ⟨_, rfl, rfl⟩ (fun j env S2 _ => by rw [rangeL_upI]) (fun j x env S2 hx ⟨x4, he, hS⟩ => ?_) (fun env S2 ⟨x4, he, hS⟩ => ?_)
    · subst he hS
      rw [List.getElem?_map, Option.map_eq_some_iff] at hx
      obtain ⟨d, hd, rfl⟩ := hx
      have hdm := mem_upI.mp (List.mem_of_getElem? hd)
      have hjl := lt_len hd
      rw [upI_length] at hjl
      have hb2l := deedW_len (row, word) ((upI 0 (n - 1)).take j) acc0
      rw [List.length_take, upI_length] at hb2l
      have e1 : ((upI 0 (n - 1)).take (j + 1)).foldl (deedW (row, word)) acc0 = deedW (row, word) (((upI 0 (n - 1)).take j).foldl (deedW (row, word)) acc0) d := by
        rw [List.take_add_one, hd, List.foldl_append]
        rfl
      rw [e1]
      generalize ((upI 0 (n - 1)).take j).foldl (deedW (row, word)) acc0 = acc at hb2l ⊢
      try walk_at "pi"
      rw [(isout_w hdm.1 (by omega)).wp]
      try walk_at "pi"
      unfold deedW FallW
      dsimp only
      by_cases q : row.getD (d + 1).toNat 0 < row.getD d.toNat 0
      · simp only [q, decide_true, if_true]
        try walk_at "pi"
        rw [vd_isR _ (get_last _ _), (swapped_w hdm.1 (by omega) (by omega)).wp]
        try walk_at "pi"
        rw [wp_ds_cons _ _ _ (.var 4) [] rfl]
        walk_at "pi"
        rw [show List.map D.int word ++ [D.int d] = (word ++ [d]).map D.int by rw [List.map_append]; rfl]
        refine ⟨by rw [List.length_map, List.length_append, sizeLine_eq]; simp; omega, vd_setd (get_last _ _) (by rw [sizeLine_eq]; omega) fun x => ?_⟩
        try walk_at "pi"
        refine ⟨_, rfl, ?_⟩
        rw [List.set_append_right _ _ (Nat.le_refl _), Nat.sub_self]
        rfl
      · simp only [q, decide_false, Bool.false_eq_true, if_false]
        first | exact ⟨_, rfl, rfl⟩ | exact ⟨_, rfl, trivial⟩
    · subst he hS
      try walk_at "pi"
      rw [List.length_map, upI_length]
      have et : (upI 0 (n - 1)).take (n - 1 - 0).toNat = upI 0 (n - 1) := List.take_of_length_le (by rw [upI_length]; omega)
      rw [et]
      refine ⟨_, _, _, rfl, ?_⟩
      unfold rowW
      rw [show ((row, word) : List Int × List Int).1.length = row.length from rfl, hrl]
  · subst he hS
    try walk_at "pi"
    rw [List.length_map, List.take_length, fzq_tab encTI (by decide)]
    exact ⟨rfl, rfl⟩
theorem mending_w [Wf T] [Fn T is_integer_d] [Fn T is_from_to_d] [Fn T is_word_d] [Fn T is_row_d] [Fn T is_lot_d] [Fn T check_word_d] [Fn T check_word_up_to_d] [Fn T check_cards_d] [Fn T check_word_that_fails_d] [Fn T check_goal_d] [Fn T check_lot_d] [Fn T check_task_d] [Gl T "MOST_CARDS" (.int 7)] [Gl T "MOST_DEEDS" (.int 200)] [Gl T "MOST_DEEDS_THAT_FAIL" (.int 40)]
    [Fn T turned_row_d] [Fn T is_out_of_order_d] [Fn T swapped_d] [Fn T behind_d] [Fn T end_of_d] [Fn T left_of_d] [Fn T count_less_d] [Fn T counts_ahead_d] [Fn T are_as_great_d] [Fn T ways_to_d] [Fn T ways_one_deed_on_d] [Fn T mending_d]
    {w g lot u : List Int} {n : Int} {t : Nat} (h0 : 1 ≤ n) (h4 : n ≤ 4) (hw : IsWord w n) (hl : w.length ≤ 40) (hg : IsRow g n) (hlot : IsLot lot w.length) (ht : t ≤ 6)
    (hm : ∀ s, s < t → ∀ v, IsWord v n → v.length = s → goodB g (behindF (endF n (leftF w lot)) v) = false) (hu : (allD (n - 1) t).find? (fun v => goodB g (behindF (endF n (leftF w lot)) v)) = some u) :
    Ret (callF T (k + 8) "mending" [.int n, tI w, tI g, tI lot]) (tI u) := by
  refine ret_call mending_d rfl rfl fun S => ?_
  show Wp (evSs (T.ctx (k + 7)) mending_b [some (.int n), some (tI w), some (tI g), some (tI lot), none, none, none]) S _ _
  have hw' := hw.sub (leftF_sub w lot)
  have her := end_row (show 0 ≤ n by omega) hw'
  have hlotl := hlot.len
  generalize he : endF n (leftF w lot) = e at *
  have hlv : ∀ s, s ≤ 6 → (∀ p ∈ levW e s, IsRow p.1 n) ∧ (∀ p ∈ levW e s, IsRow p.1 n ∧ p.2.length ≤ 100) ∧ (levW e s).length ≤ 1000 := fun s hs => by
    have L := lev_spec (show 0 ≤ n by omega) her s
    refine ⟨fun p hp => (L.ent p hp).1, fun p hp => ⟨(L.ent p hp).1, by rw [(L.ent p hp).2.2.1]; omega⟩, ?_⟩
    have h1 := L.len
    have h2 : (n - 1).toNat ^ s ≤ 3 ^ s := Nat.pow_le_pow_left (by omega) s
    have h3 : 3 ^ s ≤ 3 ^ 6 := Nat.pow_le_pow_right (by decide) hs
    have h4 : (3 : Nat) ^ 6 = 729 := by decide
    omega
  unfold mending_b
  try walk_at "pi"
  rw [(task_w h0 (by omega) hw hl hg).wp]
  rw [(checklot_w hlot (by omega)).wp]
  rw [(countsahead_w (by rw [hg.len]; omega)).wp]
  try walk_at "pi"
  rw [(leftof_w (by omega)).wp, (endof_w (by omega) (by omega) hw').wp, he]
  rw [key_tI]
  dsimp only
  rw [show Ob.dic true [kI e] [D.tup []] = Ob.dic true (dKs (levW e 0)) (dVs tI (levW e 0)) from rfl, fzq_tab encTI (by decide)]
  try walk_at "pi"
  rw [(waysto_w (by omega) (hlv 0 (by omega)).1 (hlv 0 (by omega)).2.2).wp]
  try walk_at "pi"
  refine ⟨by decide, ?_⟩
  refine while_rule (fun m env S' => ∃ s, s + m = t ∧ env = [some (.int n), some (tI w), some (tI g), some (tI lot), some (.clst ((aheadF g).map .int)), some (dcT tI (levW e s)), some (.clst ((foundW (goodB g) (levW e s)).map tI))] ∧ S' = S) (fun m env S' ⟨s, hs, he2, hS⟩ => ?_) _ t _ _ (by have := Wf.wf (T := T); show t < T.wf; omega) ⟨0, by omega, rfl, rfl⟩
  subst he2 hS
  have hff := found_first (t := s) (good := goodB g) (show 0 ≤ n by omega) her (fun s' hs' => hm s' (by omega))
  try walk_at "pi"
  rw [vt_clst]
  by_cases q : s = t
  · subst q
    rw [hu] at hff
    cases hF : foundW (goodB g) (levW e s) with
    | nil =>
      rw [hF] at hff
      cases hff
    | cons a rest =>
      rw [hF] at hff
      cases hff
      simp only [List.map_cons, List.isEmpty_cons, Bool.not_false, Bool.not_true, Bool.false_eq_true, if_false]
      try walk_at "pi"
      rw [show L2.atI (tI u :: List.map tI rest) 0 = some (tI u) from at_enc tI (l := u :: rest) (by decide) rfl]
      dsimp only
      rw [fzq_enc encTI (by decide)]
      exact ⟨rfl, rfl⟩
  · have hno : (allD (n - 1) s).find? (fun v => goodB g (behindF e v)) = none := by
      rw [List.find?_eq_none]
      intro v hv
      obtain ⟨h1, h2⟩ := mem_allD.mp hv
      rw [hm s (by omega) v h1 h2]
      decide
    rw [hno] at hff
    cases hF : foundW (goodB g) (levW e s) with
    | cons a rest =>
      rw [hF] at hff
      cases hff
    | nil =>
      simp only [List.map_nil, List.isEmpty_nil, Bool.not_true, Bool.not_false, if_true]
      rw [(waysone_w h0 h4 (hlv s (by omega)).2.1 (hlv s (by omega)).2.2).wp]
      try walk_at "pi"
      rw [show nextW (levW e s) = levW e (s + 1) from rfl, (waysto_w (by omega) (hlv (s + 1) (by omega)).1 (hlv (s + 1) (by omega)).2.2).wp]
      try walk_at "pi"
      first | exact ⟨m - 1, by omega, s + 1, by omega, rfl⟩ | exact ⟨m - 1, by omega, s + 1, by omega, trivial⟩ | exact ⟨m - 1, by omega, s + 1, by omega⟩
/-! ### a deed put ahead of a place -/
def insF (w : List Int) (p d : Int) : List Int := w.take p.toNat ++ d :: w.drop p.toNat
def shF (p : Int) (lot : List Int) : List Int := lot.map fun x => if p ≤ x then x + 1 else x
theorem insF_word {w : List Int} {p d n : Int} (hw : IsWord w n) (h0 : 0 ≤ d) (h1 : d ≤ n - 2) : IsWord (insF w p d) n := by
  intro x hx
  unfold insF at hx
  rcases List.mem_append.mp hx with hx | hx
  · exact hw x (List.mem_of_mem_take hx)
  · rcases List.mem_cons.mp hx with rfl | hx
    · exact ⟨h0, h1⟩
    · exact hw x (List.mem_of_mem_drop hx)
theorem insF_len (w : List Int) (p d : Int) : (insF w p d).length = w.length + 1 := by
  unfold insF
  rw [List.length_append, List.length_cons, List.length_take, List.length_drop]
  omega
theorem leftofL_w [Fn T left_of_d] {w lot : List Int} (hl : w.length ≤ 1000000) : Ret (callF T (k + 1) "left_of" [tI w, .clst (lot.map .int)]) (tI (leftF w lot)) := by
  refine ret_call left_of_d rfl rfl fun S => ?_
  show Wp (evSs (T.ctx k) left_of_b [some (tI w), some (.clst (lot.map .int)), none, none]) S _ _
  unfold left_of_b
  walk_at "pi"
  refine comp_enc w.zipIdx (fun p => D.tup [.int (p.2 : Nat), .int p.1]) .int (fun p => if (p.2 : Int) ∈ lot then none else some p.1) (by simp) (by rw [sizeLine_eq, List.length_zipIdx]; omega) (fun i => by rw [← enumL_map]; exact enum_step rfl) (fun p hp => ?_) ?_
  · walk_at "pi"
    rw [vin_intL]
    by_cases q : (p.2 : Int) ∈ lot
    · simp only [q, decide_true, Bool.not_true, Bool.false_eq_true, if_false, if_true]
      exact ⟨rfl, trivial⟩
    · simp only [q, decide_false, Bool.not_false, if_true, if_false]
      exact ⟨rfl, trivial⟩
  · rw [left_filter]
    walk_at "pi"
    rfl
theorem leftwith_w [Fn T left_of_d] [Fn T left_with_d] {w lot : List Int} {p d : Int} (h0 : 0 ≤ p) (hw : w.length ≤ 1000) (hl : lot.length ≤ 1000) : Ret (callF T (k + 2) "left_with" [tI w, tI lot, .int p, .int d]) (tI (leftF (insF w p d) (shF p lot))) := by
  refine ret_call left_with_d rfl rfl fun S => ?_
  show Wp (evSs (T.ctx (k + 1)) left_with_b [some (tI w), some (tI lot), some (.int p), some (.int d), none, none]) S _ _
  unfold left_with_b
  walk_at "pi"
  refine comp_map lot .int .int (fun x => if p ≤ x then x + 1 else x) (List.length_map _) (by rw [sizeLine_eq]; omega) (fun i => rfl) (fun x hx => ?_) ?_
  · walk_at "pi"
    by_cases q : p ≤ x
    · simp only [q, ge_iff_le, decide_true, if_true]
      try walk_at "pi"
    · simp only [q, ge_iff_le, decide_false, Bool.false_eq_true, if_false]
      try walk_at "pi"
  · walk_at "pi"
    rw [cut_int_pre _ h0]
    rw [wp_ds_cons _ _ _ (.var 3) _ rfl]
    walk_at "pi"
    rw [cut_int_suf _ h0]
    simp only [List.append_nil]
    rw [show List.map D.int (w.take p.toNat) ++ D.int d :: List.map D.int (w.drop p.toNat) = (insF w p d).map D.int by unfold insF; rw [List.map_append, List.map_cons]]
    refine ⟨by rw [List.length_map, insF_len, sizeLine_eq]; omega, ?_⟩
    rw [(leftofL_w (by rw [insF_len]; omega)).wp]
    try walk_at "pi"
    rfl
def prF (n : Int) (len : Nat) : List (Int × Int) := (upI 0 ((len : Int) + 1)).flatMap fun p => (upI 0 (n - 1)).map fun d => (p, d)
open Classical in
noncomputable def spF (n : Int) (w g lot : List Int) : List (Int × Int) := (prF n w.length).filter fun p => decide (CntLe (endF n (leftF (insF w p.1 p.2) (shF p.1 lot))) g)
theorem mem_prF {n : Int} {len : Nat} {p : Int × Int} : p ∈ prF n len ↔ (0 ≤ p.1 ∧ p.1 ≤ len) ∧ 0 ≤ p.2 ∧ p.2 < n - 1 := by
  unfold prF
  rw [List.mem_flatMap]
  constructor
  · rintro ⟨x, hx, hp⟩
    obtain ⟨d, hd, rfl⟩ := List.mem_map.mp hp
    rw [mem_upI] at hx hd
    exact ⟨⟨hx.1, by omega⟩, hd⟩
  · rintro ⟨h1, h2⟩
    refine ⟨p.1, mem_upI.mpr ⟨h1.1, by omega⟩, List.mem_map.mpr ⟨p.2, mem_upI.mpr h2, rfl⟩⟩
theorem prF_len (n : Int) (len : Nat) : (prF n len).length = (len + 1) * (n - 1).toNat := by
  unfold prF
  rw [flatMap_length_const (c := (n - 1).toNat) (fun w => by rw [List.length_map, upI_length]; congr 1; omega), upI_length]
  congr 1
open Classical in
theorem reachC_w [Fn T turned_row_d] [Fn T is_out_of_order_d] [Fn T swapped_d] [Fn T behind_d] [Fn T end_of_d] [Fn T count_less_d] [Fn T counts_ahead_d] [Fn T are_as_great_d] [Fn T is_as_sorted_d] [Fn T reaches_d] {w g : List Int} {n : Int} (h0 : 0 ≤ n) (h7 : n ≤ 900) (hw : IsWord w n) (hg : IsRow g n) : Ret (callF T (k + 4) "reaches" [tI w, tI g]) (.bl (decide (CntLe (endF n w) g))) := by
  have h := reaches_w (T := T) (k := k) h0 h7 hw hg
  have e := more_cnt (end_row h0 hw) hg h0
  by_cases q : CntLe (endF n w) g
  · rw [decide_eq_true q]
    rw [decide_eq_true (e.mpr q)] at h
    exact h
  · rw [decide_eq_false q]
    rw [decide_eq_false fun z => q (e.mp z)] at h
    exact h
open Classical in
theorem spots_w [Fn T is_integer_d] [Fn T is_from_to_d] [Fn T is_word_d] [Fn T is_row_d] [Fn T is_lot_d] [Fn T check_word_d] [Fn T check_word_up_to_d] [Fn T check_cards_d] [Fn T check_word_that_fails_d] [Fn T check_goal_d] [Fn T check_lot_d] [Fn T check_task_d] [Gl T "MOST_CARDS" (.int 7)] [Gl T "MOST_DEEDS" (.int 200)] [Gl T "MOST_DEEDS_THAT_FAIL" (.int 40)]
    [Fn T turned_row_d] [Fn T is_out_of_order_d] [Fn T swapped_d] [Fn T behind_d] [Fn T end_of_d] [Fn T left_of_d] [Fn T count_less_d] [Fn T counts_ahead_d] [Fn T are_as_great_d] [Fn T is_as_sorted_d] [Fn T reaches_d] [Fn T left_with_d] [Fn T spots_d]
    {w g lot : List Int} {n : Int} (h0 : 1 ≤ n) (h4 : n ≤ 7) (hw : IsWord w n) (hl : w.length ≤ 40) (hg : IsRow g n) (hlot : IsLot lot w.length) :
    Ret (callF T (k + 8) "spots" [.int n, tI w, tI g, tI lot]) (.tup ((if CntLe (endF n (leftF w lot)) g then [] else spF n w g lot).map eP)) := by
  refine ret_call spots_d rfl rfl fun S => ?_
  show Wp (evSs (T.ctx (k + 7)) spots_b [some (.int n), some (tI w), some (tI g), some (tI lot), none, none, none]) S _ _
  have hw' := hw.sub (leftF_sub w lot)
  have hlotl := hlot.len
  have hpl : (prF n w.length).length ≤ 246 := by
    rw [prF_len]
    exact Nat.le_trans (Nat.mul_le_mul (show w.length + 1 ≤ 41 by omega) (show (n - 1).toNat ≤ 6 by omega)) (by decide)
  unfold spots_b
  walk_at "pi"
  rw [(task_w h0 h4 hw hl hg).wp]
  rw [(checklot_w hlot (by omega)).wp]
  rw [(leftof_w (by omega)).wp]
  rw [(reachC_w (by omega) (by omega) hw' hg).wp]
  try walk_at "pi"
  by_cases q : CntLe (endF n (leftF w lot)) g
  · simp only [q, decide_true, if_true]
    refine ⟨by decide, ?_⟩
    rw [show D.tup [] = D.tup (([] : List (Int × Int)).map eP) from rfl, fzq_enc (encT encPP) (by decide)]
    exact ⟨rfl, rfl⟩
  · simp only [q, decide_false, Bool.false_eq_true, if_false]
    rw [List.length_map]
    refine ⟨rgOk_of (by omega) (by omega) (by omega) (by omega), ?_⟩
    refine comp2_enc (upI 0 ((w.length : Int) + 1)) .int eP (fun p => (upI 0 (n - 1)).map fun d => (p, d)) (by rw [upI_length]) (by show (prF n w.length).length ≤ _; rw [sizeLine_eq]; omega) (fun i => by rw [rangeL_upI]) (fun p hp acc hacc => ?_) ?_
    · walk_at "pi"
      refine ⟨rgOk_of (by omega) (by omega) (by omega) (by omega), ?_⟩
      refine comp_encA (upI 0 (n - 1)) .int eP (fun d => some (p, d)) (by rw [upI_length]) acc (by rw [List.filterMap_eq_map']; exact hacc) (fun j => by rw [rangeL_upI]) (fun d hd => ?_) ?_
      · walk_at "pi"
        first | exact ⟨by decide, rfl, trivial⟩ | exact ⟨by decide, rfl, rfl⟩ | exact ⟨by decide, rfl⟩
      · rw [List.filterMap_eq_map']
        exact ⟨rfl, rfl⟩
    · rw [show ((upI 0 ((w.length : Int) + 1)).flatMap fun p => (upI 0 (n - 1)).map fun d => (p, d)) = prF n w.length from rfl]
      rw [fzq_list encPP (by decide)]
      walk_at "pi"
      refine comp_filter (prF n w.length) eP (fun p => decide (CntLe (endF n (leftF (insF w p.1 p.2) (shF p.1 lot))) g)) (List.length_map _) (by rw [sizeLine_eq]; omega) (fun i => rfl) (fun p hp => ?_) ?_
      · obtain ⟨p1, p2⟩ := p
        have hm := mem_prF.mp hp
        dsimp only at hm
        rw [show eP (p1, p2) = D.tup [.int p1, .int p2] from rfl]
        have hw2 := (insF_word (p := p1) hw hm.2.1 (show p2 ≤ n - 2 by omega)).sub (leftF_sub _ (shF p1 lot))
        walk_at "pi"
        rw [(leftwith_w (by omega) (by omega) (by omega)).wp]
        rw [(reachC_w (by omega) (by omega) hw2 hg).wp]
        by_cases z : CntLe (endF n (leftF (insF w p1 p2) (shF p1 lot))) g
        · simp only [z, decide_true, if_true]
          refine ⟨by decide, ?_⟩
          first | exact ⟨trivial, rfl⟩ | exact ⟨rfl, rfl⟩
        · simp only [z, decide_false, Bool.false_eq_true, if_false]
          first | exact ⟨trivial, rfl⟩ | exact ⟨rfl, rfl⟩
      · rw [fzq_list encPP (by decide)]
        walk_at "pi"
        rw [fzq_enc (encT encPP) (by decide)]
        exact ⟨rfl, rfl⟩
/-! ### the law's own -/
open Classical in
theorem lawfine_w [Fn T law_turned_d] [Fn T law_swap_d] [Fn T law_run_d] [Fn T law_end_d] [Fn T law_far_d] [Fn T law_fine_d] {w g lot : List Int} {n : Int} (h0 : 0 ≤ n) (h7 : n ≤ 900) (hw : IsWord w n) (hg : IsRow g n) : Ret (callF T (k + 4) "_law_fine" [.int n, tI w, tI g, tI lot]) (.bl (decide (CntLe (endF n (leftF w lot)) g))) := by
  refine ret_call law_fine_d rfl rfl fun S => ?_
  show Wp (evSs (T.ctx (k + 3)) law_fine_b [some (.int n), some (tI w), some (tI g), some (tI lot)]) S _ _
  have hw' := hw.sub (leftF_sub w lot)
  have hel := (end_row h0 hw').len
  have hgl := hg.len
  unfold law_fine_b
  walk_at "pi"
  rw [(lawend_w h0 (by omega) hw).wp]
  rw [(lawfar_w (by omega) (by omega)).wp, fzq_bl]
  refine ⟨?_, rfl⟩
  congr 1
  rw [Bool.eq_iff_iff, decide_eq_true_iff, decide_eq_true_iff, moreA_cnt (end_row h0 hw') hg h0]
theorem lawnext_w [Fn T law_next_words_d] {n : Int} {W : List (List Int)} (h0 : 1 ≤ n) (h4 : n ≤ 4) (hl : W.length ≤ 1000) (hw : ∀ w ∈ W, w.length ≤ 1000) : Ret (callF T (k + 1) "_law_next_words" [.int n, .clst (W.map tI)]) (.clst ((W.flatMap fun w => (upI 0 (n - 1)).map fun d => w ++ [d]).map tI)) := by
  refine ret_call law_next_words_d rfl rfl fun S => ?_
  show Wp (evSs (T.ctx k) law_next_words_b [some (.int n), some (.clst (W.map tI)), none, none, none]) S _ _
  unfold law_next_words_b
  walk_at "pi"
  refine ⟨Nat.zero_le _, ?_⟩
  rw [show ([] : List D) = (([] : List (List Int)).map tI) from rfl]
  try rw [fzq_list encTI (by decide)]
  try walk_at "pi"
  refine for_list (W.map tI) (fun i env S' => S' = S ∧ ∃ (x y : Option D), env = [some (.int n), some (.clst (W.map tI)), some (.clst (((W.take i).flatMap fun w => (upI 0 (n - 1)).map fun d => w ++ [d]).map tI)), x, y]) (by rw [List.length_map]) ⟨rfl, none, none, rfl⟩ (fun i env S' _ => rfl) (fun i x env S' hx ⟨hS, x0, y0, he⟩ => ?_) (fun env S' ⟨hS, x0, y0, he⟩ => ?_)
  · subst he hS
    rw [List.getElem?_map, Option.map_eq_some_iff] at hx
    obtain ⟨w, hp, rfl⟩ := hx
    have hi := lt_len hp
    have hwl := hw w (List.mem_of_getElem? hp)
    have hz : ((W.take i).flatMap fun w => (upI 0 (n - 1)).map fun d => w ++ [d]).length ≤ 3000 := by
      rw [flatMap_length_const (c := (n - 1).toNat) (fun w => by rw [List.length_map, upI_length]; congr 1; omega), List.length_take]
      exact Nat.le_trans (Nat.mul_le_mul (show min i W.length ≤ 1000 by omega) (show (n - 1).toNat ≤ 3 by omega)) (by decide)
    have et : ((W.take (i + 1)).flatMap fun w => (upI 0 (n - 1)).map fun d => w ++ [d]) = ((W.take i).flatMap fun w => (upI 0 (n - 1)).map fun d => w ++ [d]) ++ (upI 0 (n - 1)).map fun d => w ++ [d] := by
      rw [List.take_add_one, hp, List.flatMap_append]
      simp
    rw [et]
    generalize ((W.take i).flatMap fun w => (upI 0 (n - 1)).map fun d => w ++ [d]) = acc at hz ⊢
    walk_at "pi"
    refine ⟨rgOk_of (by omega) (by omega) (by omega) (by omega), ?_⟩
    refine comp_map (upI 0 (n - 1)) .int tI (fun d => w ++ [d]) (by rw [upI_length]) (by rw [sizeLine_eq, upI_length]; omega) (fun i => by rw [rangeL_upI]) (fun d hd => ?_) ?_
    · walk_at "pi"
      rw [show List.map D.int w ++ [D.int d] = (w ++ [d]).map D.int by rw [List.map_append]; rfl, fzq_tup]
      refine ⟨by decide, by rw [List.length_map, sizeLine_eq]; simp; omega, rfl, rfl⟩
    · walk_at "pi"
      rw [vb_addL (its_clst _ _) (its_clst _ _) rfl rfl, ← List.map_append]
      refine ⟨by rw [List.length_map, List.length_map, List.length_map, upI_length, sizeLine_eq]; omega, ?_⟩
      rw [fzq_list encTI (by decide)]
      try walk_at "pi"
      first | exact ⟨rfl, _, _, rfl⟩ | exact ⟨_, _, rfl⟩
  · subst he hS
    rw [List.length_map, List.take_length]
    walk_at "pi"
    rw [fzq_enc (encL encTI) (by decide)]
    exact ⟨rfl, rfl⟩
end
/-! ### the law -/
theorem asc_upI (row : List Int) {n : Int} (hr : IsRow row n) : AscF (upI 0 n) row := by
  intro i j x y _ hx hy hxy
  have m1 := hr.mem (List.mem_of_getElem? hx)
  have m2 := hr.mem (List.mem_of_getElem? hy)
  have e : ∀ c : Int, 0 ≤ c → c < n → posF (upI 0 n) c = c := fun c h0 h1 => by
    unfold posF
    rw [idx_of (upI_nodup 0 n) (j := c.toNat) (by rw [upI_get (by omega)]; congr 1; omega)]
    omega
  rw [e x m1.1 m1.2, e y m2.1 m2.2]
  exact hxy
theorem outs_up {n : Int} (h0 : 0 ≤ n) (h7 : n ≤ 7) : outsF (upI 0 n) = 0 := by
  have : n = 0 ∨ n = 1 ∨ n = 2 ∨ n = 3 ∨ n = 4 ∨ n = 5 ∨ n = 6 ∨ n = 7 := by omega
  rcases this with rfl | rfl | rfl | rfl | rfl | rfl | rfl | rfl <;> decide
theorem outs_small {n : Int} (h0 : 1 ≤ n) (h4 : n ≤ 4) : outsF (turnedF n) ≤ 6 ∧ (outsF (turnedF n) : Int) < n * n := by
  have : n = 1 ∨ n = 2 ∨ n = 3 ∨ n = 4 := by omega
  rcases this with rfl | rfl | rfl | rfl <;> decide
structure Mends (n : Int) (e g : List Int) (t : Nat) (u : List Int) : Prop where
  six : t ≤ 6
  sq : (t : Int) < n * n
  no : ∀ s, s < t → ∀ v, IsWord v n → v.length = s → goodB g (behindF e v) = false
  fd : (allD (n - 1) t).find? (fun v => goodB g (behindF e v)) = some u
  word : IsWord u n
  len : u.length = t
  nil : u = [] ↔ CntLe e g
theorem mends {n : Int} {e g : List Int} (h0 : 1 ≤ n) (h4 : n ≤ 4) (he : IsRow e n) (hg : IsRow g n) : ∃ t u, Mends n e g t u := by
  obtain ⟨u, hu, hp⟩ := path_exists (show 0 ≤ n by omega) (upI_row n) _ e rfl he (asc_upI e he)
  have hb := path_behind (show 0 ≤ n by omega) u e he hu hp
  have ho := outs_path (show 0 ≤ n by omega) u e he hu hp
  rw [outs_up (by omega) (by omega)] at ho
  have hmx := (asc_outs (show 0 ≤ n by omega) he (turnedF_row n) (asc_turned e n)).1
  have hsm := outs_small h0 h4
  obtain ⟨t, ht, ⟨v, hv, hvl, hvg⟩, hmin⟩ := least_nat (fun t => ∃ v, IsWord v n ∧ v.length = t ∧ goodB g (behindF e v) = true) u.length ⟨u, hu, rfl, by
    rw [goodB_iff (by omega) hg (by rw [hb]; exact upI_row n), hb]
    exact cnt_up_min (by omega) hg⟩
  have hno : ∀ s, s < t → ∀ v, IsWord v n → v.length = s → goodB g (behindF e v) = false := fun s hs v h1 h2 => by
    cases q : goodB g (behindF e v) with
    | false => rfl
    | true => exact absurd ⟨v, h1, h2, q⟩ (hmin s hs)
  cases hf : (allD (n - 1) t).find? (fun v => goodB g (behindF e v)) with
  | none =>
    rw [List.find?_eq_none] at hf
    exact absurd hvg (hf v (mem_allD.mpr ⟨hv, hvl⟩))
  | some x =>
    obtain ⟨h1, h2, _⟩ := find_least (allD_sorted t) hf
    obtain ⟨hw, hl⟩ := mem_allD.mp h1
    refine ⟨t, x, by omega, by omega, hno, hf, hw, hl, ?_⟩
    constructor
    · rintro rfl
      exact (goodB_iff (by omega) hg he).mp h2
    · intro hc
      have hgd := (goodB_iff (show 0 ≤ n by omega) hg he).mpr hc
      rcases Nat.eq_zero_or_pos t with z | z
      · rw [z] at hl
        exact List.length_eq_zero_iff.mp hl
      · have := hno 0 z [] (word_nil n) rfl
        rw [show behindF e [] = e from rfl, hgd] at this
        cases this
theorem good_far {n : Int} {row g : List Int} [Decidable (MoreA row g)] (h0 : 0 ≤ n) (hr : IsRow row n) (hg : IsRow g n) : decide (MoreA row g) = goodB g row := by
  rw [Bool.eq_iff_iff, decide_eq_true_iff, goodB_iff h0 hg hr, moreA_cnt hr hg h0]
theorem isnone_opt (o : Option (List Int)) (S : Sto) (Q : Bool → Sto → Prop) (E : XP) : Wp (cmpop .is_ (optT o) .non) S Q E = Q o.isNone S := by
  rw [vk_is_non]
  cases o <;> rfl
def wordsAt (n : Int) (t i : Nat) : List (List Int) := if i ≤ t then allD (n - 1) i else []
def dueAt (t : Nat) (u : List Int) (i : Nat) : Option (List Int) := if i ≤ t then none else some u
theorem small_PP (L : List (Int × Int)) (h1 : L.length ≤ 16777216) : small (.tuple (L.map pP)) = true := by
  have key : ∀ L : List (Int × Int), smallL (L.map pP) = true := by
    intro L
    induction L with
    | nil => rfl
    | cons l L ih =>
      rw [List.map_cons, smallL, ih]
      rfl
  rw [small, key L, List.length_map, decide_eq_true h1]
  rfl
theorem flat_le {α β : Type} {f : α → List β} {c : Nat} (h : ∀ x, (f x).length ≤ c) : ∀ l : List α, (l.flatMap f).length ≤ l.length * c
  | [] => by simp
  | x :: l => by
    rw [List.flatMap_cons, List.length_append, List.length_cons, Nat.succ_mul]
    have := h x
    have := flat_le h l
    omega
open Classical in
noncomputable def goodP (n : Int) (w g lot : List Int) (p : Int × Int) : Bool := decide (CntLe (endF n (leftF (insF w p.1 p.2) (shF p.1 lot))) g)
noncomputable def rowP (n : Int) (w g lot : List Int) (x : Int) : List (Int × Int) := ((upI 0 (n - 1)).map fun d => (x, d)).filter (goodP n w g lot)
theorem rowP_len (n : Int) (w g lot : List Int) (x : Int) : (rowP n w g lot x).length ≤ (n - 1).toNat := by
  unfold rowP
  refine Nat.le_trans (List.length_filter_le _ _) ?_
  rw [List.length_map, upI_length]
  omega
theorem spF_rows (n : Int) (w g lot : List Int) : spF n w g lot = (upI 0 ((w.length : Int) + 1)).flatMap (rowP n w g lot) := by
  unfold spF prF
  generalize upI 0 ((w.length : Int) + 1) = L
  induction L with
  | nil => rfl
  | cons x L ih =>
    rw [List.flatMap_cons, List.flatMap_cons, List.filter_append, ih]
    rfl
def StA (sc : List Int) (e : Env) (S : Sto) : Prop := ∃ (n : Int) (w g lot : List Int), e = [some (.clst (sc.map .int)), some (.ref 0), some (.int n), some (tI w), some (tI g), some (tI lot), none, none, none, none, none, none, none, none, none, none, none] ∧ 1 ≤ n ∧ n ≤ 4 ∧ IsWord w n ∧ w.length ≤ 9 ∧ IsRow g n ∧ IsLot lot w.length
def StB (e : Env) (S : Sto) : Prop := ∃ (n : Int) (w g lot u : List Int) (x0 x1 x6 x7 x9 x10 : Option D), e = [x0, x1, some (.int n), some (tI w), some (tI g), some (tI lot), x6, x7, some (tI u), x9, x10, none, none, none, none, none, none] ∧ 1 ≤ n ∧ n ≤ 4 ∧ IsWord w n ∧ w.length ≤ 9 ∧ IsRow g n ∧ IsLot lot w.length ∧ (u = [] ↔ CntLe (endF n (leftF w lot)) g)
section
variable {T : Tb} {S : Sto}
variable [Wf T] [Fn T is_integer_d] [Fn T is_from_to_d] [Fn T is_word_d] [Fn T is_row_d] [Fn T is_lot_d] [Fn T check_word_d] [Fn T check_word_up_to_d] [Fn T check_cards_d] [Fn T check_word_that_fails_d] [Fn T check_goal_d] [Fn T check_lot_d] [Fn T check_task_d] [Gl T "MOST_CARDS" (.int 7)] [Gl T "MOST_DEEDS" (.int 200)] [Gl T "MOST_DEEDS_THAT_FAIL" (.int 40)]
variable [Fn T turned_row_d] [Fn T is_out_of_order_d] [Fn T swapped_d] [Fn T behind_d] [Fn T end_of_d] [Fn T left_of_d] [Fn T count_less_d] [Fn T counts_ahead_d] [Fn T are_as_great_d] [Fn T is_as_sorted_d] [Fn T reaches_d] [Fn T ways_to_d] [Fn T ways_one_deed_on_d] [Fn T mending_d] [Fn T left_with_d] [Fn T spots_d]
variable [Fn T law_taken_d] [Fn T law_pick_d] [Fn T law_alike_d] [Fn T law_row_d] [Fn T law_word_d] [Fn T law_lot_d] [Fn T law_turned_d] [Fn T law_swap_d] [Fn T law_run_d] [Fn T law_end_d] [Fn T law_far_d] [Fn T law_fine_d] [Fn T law_goal_d] [Fn T law_case_d] [Fn T law_sorter_d] [Fn T law_next_words_d] [Fn T law_d]
theorem law0 (sc : List Int) : Wp (evSs (T.ctx 60) law_p0 [some (.clst (sc.map .int)), none, none, none, none, none, none, none, none, none, none, none, none, none, none, none, none]) [] (fun f S' => ∃ e, f = .nx e ∧ StA sc e S') NoX := by
  unfold law_p0
  walk_at "pi"
  have hD0 : Draw ([] ++ [Ob.lst [D.clst (List.map D.int sc), D.int 0, D.int 7153, D.int 0]]) 0 sc := ⟨_, rfl, 0, 7153, 0, rfl, by decide, by decide, by decide⟩
  generalize ([] ++ [Ob.lst [D.clst (List.map D.int sc), D.int 0, D.int 7153, D.int 0]]) = S0 at hD0 ⊢
  refine ⟨by decide, lawcase_w hD0 (by decide) (by decide) (by decide) fun n w g S1 n0 n4 n5 hw hwl hg hN1 => ?_⟩
  walk_at "pi"
  rw [List.length_map]
  refine lawlot_w (hD0.after hN1) (by omega) (by omega) fun lot S2 hlot hN2 => ?_
  try walk_at "pi"
  exact ⟨_, rfl, n, w, g, lot, rfl, n0, n4, hw, by omega, hg, hlot⟩
open Classical in
theorem law1 (sc : List Int) {e : Env} (h : StA sc e S) : Wp (evSs (T.ctx 60) law_p1 e) S (fun f S' => ∃ e, f = .nx e ∧ StB e S') NoX := by
  obtain ⟨n, w, g, lot, rfl, n0, n4, hw, hwl, hg, hlot⟩ := h
  have hw' := hw.sub (leftF_sub w lot)
  have her := end_row (show 0 ≤ n by omega) hw'
  obtain ⟨t, u, M⟩ := mends n0 n4 her hg
  have hm := M.six
  have hsq := M.sq
  unfold law_p1
  walk_at "pi"
  rw [(lawend_w (by omega) (by omega) hw).wp]
  refine ⟨Nat.zero_le _, by decide, ?_⟩
  rw [show ([D.tup []] : List D) = (wordsAt n t 0).map tI from rfl]
  try rw [fzq_list encTI (by decide)]
  generalize hee : endF n (leftF w lot) = e at *
  try walk_at "pi"
  have h16 : n * n ≤ 16 := Int.mul_le_mul n4 n4 (by omega) (by omega)
  have hnn : 0 ≤ n * n := Int.mul_nonneg (by omega) (by omega)
  refine ⟨.inl ⟨by omega, by omega⟩, rgOk_of (by omega) (by omega) (by omega) (by omega), ?_⟩
  have hel := her.leni (by omega)
  have hlenD : ∀ i, i ≤ t → (allD (n - 1) i).length ≤ 729 := fun i hi => by
    have h1 := allD_len (m := n - 1) i
    have h2 : (n - 1).toNat ^ i ≤ 3 ^ i := Nat.pow_le_pow_left (by omega) i
    have h3 : 3 ^ i ≤ 3 ^ 6 := Nat.pow_le_pow_right (by decide) (by omega)
    have h4 : (3 : Nat) ^ 6 = 729 := by decide
    omega
  refine for_list ((upI 0 (n * n)).map .int) (fun i env S' => S' = S ∧ ∃ (x9 x10 : Option D), env = [some (.clst (sc.map .int)), some (.ref 0), some (.int n), some (tI w), some (tI g), some (tI lot), some (tI e), some (.clst ((wordsAt n t i).map tI)), some (optT (dueAt t u i)), x9, x10, none, none, none, none, none, none]) (by rw [List.length_map, upI_length]) ⟨rfl, none, none, by unfold dueAt; rw [if_pos (Nat.zero_le _)]; rfl⟩ (fun i env S' _ => by rw [rangeL_upI]) (fun i x env S' hx ⟨hS, x9, x10, he⟩ => ?_) (fun env S' ⟨hS, x9, x10, he⟩ => ?_)
  · subst he hS
    rw [List.getElem?_map, Option.map_eq_some_iff] at hx
    obtain ⟨p, hp, rfl⟩ := hx
    walk_at "pi"
    rw [isnone_opt]
    by_cases hi : i ≤ t
    · have hw1 : wordsAt n t i = allD (n - 1) i := if_pos hi
      have hd1 : dueAt t u i = none := if_pos hi
      rw [hw1, hd1]
      simp only [Option.isNone_none, if_true]
      have hAL : ∀ v ∈ allD (n - 1) i, IsWord v n ∧ v.length = i := fun v hv => mem_allD.mp hv
      have hLl := hlenD i hi
      have hfin : (allD (n - 1) i).find? (fun v => goodB g (behindF e v)) = dueAt t u (i + 1) := by
        unfold dueAt
        by_cases z : i + 1 ≤ t
        · rw [if_pos z, List.find?_eq_none]
          intro v hv
          rw [M.no i (by omega) v (hAL v hv).1 (hAL v hv).2]
          decide
        · rw [if_neg z, show i = t by omega]
          exact M.fd
      have hnx : i + 1 ≤ t → wordsAt n t (i + 1) = (allD (n - 1) i).flatMap fun w => (upI 0 (n - 1)).map fun d => w ++ [d] := fun z => if_pos z
      have hnx2 : ¬ i + 1 ≤ t → wordsAt n t (i + 1) = [] := fun z => if_neg z
      generalize allD (n - 1) i = W at hAL hLl hfin hnx ⊢
      try walk_at "pi"
      refine for_list (W.map tI) (fun j env S2 => S2 = S' ∧ ∃ (x10 : Option D), env = [some (.clst (sc.map .int)), some (.ref 0), some (.int n), some (tI w), some (tI g), some (tI lot), some (tI e), some (.clst (W.map tI)), some (optT ((W.take j).find? fun v => goodB g (behindF e v))), some (.int p), x10, none, none, none, none, none, none]) (by rw [List.length_map]) ⟨rfl, _, rfl⟩ (fun j env S2 _ => rfl) (fun j x env S2 hx ⟨hS, x10, he⟩ => ?_) (fun env S2 ⟨hS, x10, he⟩ => ?_)
      · subst he hS
        rw [List.getElem?_map, Option.map_eq_some_iff] at hx
        obtain ⟨v, hv, rfl⟩ := hx
        have hvw := (hAL v (List.mem_of_getElem? hv)).1
        have et : (W.take (j + 1)).find? (fun v => goodB g (behindF e v)) = ((W.take j).find? fun v => goodB g (behindF e v)).or (if goodB g (behindF e v) = true then some v else none) := by
          rw [List.take_add_one, hv, List.find?_append]
          congr 1
          show List.find? _ [v] = _
          rw [List.find?_cons]
          cases goodB g (behindF e v) <;> rfl
        rw [et]
        generalize (W.take j).find? (fun v => goodB g (behindF e v)) = o
        walk_at "pi"
        rw [isnone_opt]
        cases o with
        | some y =>
          simp only [Option.isNone_some, Bool.false_eq_true, if_false, Option.or_some]
          try walk_at "pi"
          first | exact ⟨rfl, _, rfl⟩ | exact ⟨_, rfl⟩
        | none =>
          simp only [Option.isNone_none, if_true, Option.none_or]
          rw [show D.tup [] = tI [] from rfl, (lawrun_w (lot := []) (by rw [hel]; exact hvw) (by omega)).wp, leftF_nil]
          have hbr := behindF_row her hvw
          rw [(lawfar_w (a := behindF e v) (b := g) (by rw [hbr.len, hg.len]) (by rw [hbr.len]; omega)).wp, good_far (by omega) hbr hg]
          cases hgd : goodB g (behindF e v)
          · simp only [Bool.false_eq_true, if_false]
            try walk_at "pi"
            exact ⟨by decide, _, rfl⟩
          · simp only [if_true]
            try walk_at "pi"
            exact ⟨by decide, _, rfl⟩
      · subst he hS
        rw [List.length_map, List.take_length, hfin]
        walk_at "pi"
        rw [isnone_opt]
        by_cases z : i + 1 ≤ t
        · have hd2 : dueAt t u (i + 1) = none := if_pos z
          rw [hd2, hnx z]
          simp only [Option.isNone_none, if_true]
          try walk_at "pi"
          rw [(lawnext_w n0 n4 (by omega) (fun v hv => by rw [(hAL v hv).2]; omega)).wp]
          try walk_at "pi"
          first | exact ⟨rfl, _, _, rfl⟩ | exact ⟨_, _, rfl⟩
        · have hd2 : dueAt t u (i + 1) = some u := if_neg z
          rw [hd2, hnx2 z]
          simp only [Option.isNone_some, Bool.false_eq_true, if_false]
          try walk_at "pi"
          exact ⟨by decide, _, _, rfl⟩
    · have hw1 : wordsAt n t i = [] := if_neg hi
      have hd1 : dueAt t u i = some u := if_neg hi
      have hw2 : wordsAt n t (i + 1) = [] := if_neg (by omega)
      have hd2 : dueAt t u (i + 1) = some u := if_neg (by omega)
      rw [hw1, hd1, hw2, hd2]
      simp only [Option.isNone_some, Bool.false_eq_true, if_false]
      try walk_at "pi"
      refine ⟨by decide, ?_⟩
      refine for_list [] (fun j env S2 => S2 = S' ∧ env = [some (.clst (sc.map .int)), some (.ref 0), some (.int n), some (tI w), some (tI g), some (tI lot), some (tI e), some (.clst (([] : List (List Int)).map tI)), some (optT (some u)), some (.int p), x10, none, none, none, none, none, none]) rfl ⟨rfl, rfl⟩ (fun j env S2 _ => rfl) (fun j x env S2 hx _ => by cases hx) (fun env S2 ⟨hS, he⟩ => ?_)
      subst he hS
      walk_at "pi"
      rw [isnone_opt]
      simp only [Option.isNone_some, Bool.false_eq_true, if_false]
      try walk_at "pi"
      exact ⟨by decide, _, _, rfl⟩
  · subst he hS
    have hN : dueAt t u ((upI 0 (n * n)).map D.int).length = some u := by
      rw [List.length_map, upI_length]
      exact if_neg (by omega)
    rw [hN]
    try walk_at "pi"
    rw [show optT (some u) = tI u from rfl]
    rw [(mending_w n0 n4 hw (by omega) hg hlot hm (by rw [hee]; exact M.no) (by rw [hee]; exact M.fd)).wp]
    rw [(alike_tI u (by rw [M.len]; omega) (show 2 ≤ 60 by decide)).wp]
    try walk_at "pi"
    first | exact ⟨_, rfl, n, w, g, lot, u, _, _, _, _, _, _, rfl, n0, n4, hw, hwl, hg, hlot, by rw [hee]; exact M.nil⟩ | exact ⟨_, rfl, n, w, g, lot, u, _, _, _, _, _, _, rfl, n0, n4, hw, hwl, hg, hlot, M.nil⟩
open Classical in
theorem law2 {e : Env} (h : StB e S) : Wp (evSs (T.ctx 60) law_p2 e) S (outC (fun d _ => d = .bl true)) NoX := by
  obtain ⟨n, w, g, lot, u, x0, x1, x6, x7, x9, x10, rfl, n0, n4, hw, hwl, hg, hlot, hun⟩ := h
  have hlotl := hlot.len
  have fin : ∀ L : List (Int × Int), L.length ≤ 246 → Ret (callF T 60 "_law_alike" [.tup (L.map eP), .tup (L.map eP)]) (.bl true) := fun L hL =>
    alike_enc (encT encPP) (by decide) L (small_PP L (by omega)) (by decide)
  unfold law_p2
  walk_at "pi"
  rw [show D.tup [] = tI [] from rfl, ve_tI]
  by_cases hu : u = []
  · subst hu
    simp only [decide_true, Bool.not_true, Bool.false_eq_true, if_false]
    refine ⟨by decide, by decide, rgOk_of (by omega) (by omega) (by omega) (by omega), ?_⟩
    refine for_list [] (fun j env S2 => S2 = S ++ [Ob.lst (([] : List (Int × Int)).map eP)] ∧ env = [x0, x1, some (D.int n), some (tI w), some (tI g), some (tI lot), x6, x7, some (tI []), x9, x10, some (D.ref (List.length S)), none, none, none, none, none]) rfl ⟨rfl, rfl⟩ (fun j env S2 _ => rfl) (fun j x env S2 hx _ => by cases hx) (fun env S2 ⟨hS, he⟩ => ?_)
    subst he hS
    walk_at "pi"
    rw [(spots_w n0 (by omega) hw (by omega) hg hlot).wp, if_pos (hun.mp rfl)]
    rw [vf_tup_ref _ (get_last _ _), (fin [] (by decide)).wp]
  · simp only [hu, decide_false, Bool.not_false, if_true]
    rw [List.length_map]
    refine ⟨by decide, by decide, rgOk_of (by omega) (by omega) (by omega) (by omega), ?_⟩
    refine for_list ((upI 0 ((w.length : Int) + 1)).map .int) (fun i env S' => ∃ (x12 x13 x14 x15 : Option D), env = [x0, x1, some (.int n), some (tI w), some (tI g), some (tI lot), x6, x7, some (tI u), x9, x10, some (.ref S.length), x12, x13, x14, x15, none] ∧ S' = S ++ [.lst ((((upI 0 ((w.length : Int) + 1)).take i).flatMap (rowP n w g lot)).map eP)]) (by rw [List.length_map, upI_length]) ⟨_, _, _, _, rfl, rfl⟩ (fun i env S' _ => by rw [rangeL_upI]) (fun i x env S' hx ⟨x12, x13, x14, x15, he, hS⟩ => ?_) (fun env S' ⟨x12, x13, x14, x15, he, hS⟩ => ?_)
    · subst he hS
      rw [List.getElem?_map, Option.map_eq_some_iff] at hx
      obtain ⟨p, hp, rfl⟩ := hx
      have hpm := mem_upI.mp (List.mem_of_getElem? hp)
      have hi := lt_len hp
      rw [upI_length] at hi
      have et : ((upI 0 ((w.length : Int) + 1)).take (i + 1)).flatMap (rowP n w g lot) = ((upI 0 ((w.length : Int) + 1)).take i).flatMap (rowP n w g lot) ++ rowP n w g lot p := by
        rw [List.take_add_one, hp, List.flatMap_append]
        simp
      rw [et]
      have hal := flat_le (c := (n - 1).toNat) (rowP_len n w g lot) ((upI 0 ((w.length : Int) + 1)).take i)
      rw [List.length_take, upI_length] at hal
      have hal2 : (((upI 0 ((w.length : Int) + 1)).take i).flatMap (rowP n w g lot)).length ≤ 30 := Nat.le_trans hal (Nat.le_trans (Nat.mul_le_mul (show _ ≤ 10 by omega) (show (n - 1).toNat ≤ 3 by omega)) (by decide))
      generalize ((upI 0 ((w.length : Int) + 1)).take i).flatMap (rowP n w g lot) = acc at hal2 ⊢
      walk_at "pi"
      refine ⟨rgOk_of (by omega) (by omega) (by omega) (by omega), ?_⟩
      refine for_list ((upI 0 (n - 1)).map .int) (fun j env S2 => ∃ (x13 x14 x15 : Option D), env = [x0, x1, some (.int n), some (tI w), some (tI g), some (tI lot), x6, x7, some (tI u), x9, x10, some (.ref S.length), some (.int p), x13, x14, x15, none] ∧ S2 = S ++ [.lst ((acc ++ (((upI 0 (n - 1)).take j).map fun d => (p, d)).filter (goodP n w g lot)).map eP)]) (by rw [List.length_map, upI_length]) ⟨_, _, _, rfl, by simp⟩ (fun j env S2 _ => by rw [rangeL_upI]) (fun j x env S2 hx ⟨x13, x14, x15, he, hS⟩ => ?_) (fun env S2 ⟨x13, x14, x15, he, hS⟩ => ?_)
      · subst he hS
        rw [List.getElem?_map, Option.map_eq_some_iff] at hx
        obtain ⟨d, hd, rfl⟩ := hx
        have hdm := mem_upI.mp (List.mem_of_getElem? hd)
        have hj := lt_len hd
        rw [upI_length] at hj
        have et2 : (((upI 0 (n - 1)).take (j + 1)).map fun d => (p, d)).filter (goodP n w g lot) = (((upI 0 (n - 1)).take j).map fun d => (p, d)).filter (goodP n w g lot) ++ if goodP n w g lot (p, d) = true then [(p, d)] else [] := by
          rw [List.take_add_one, hd, List.map_append, List.filter_append]
          congr 1
          show List.filter _ [(p, d)] = _
          rw [List.filter_cons]
          rfl
        rw [et2]
        have hbl : ((((upI 0 (n - 1)).take j).map fun d => (p, d)).filter (goodP n w g lot)).length ≤ 3 := by
          refine Nat.le_trans (List.length_filter_le _ _) ?_
          rw [List.length_map, List.length_take, upI_length]
          omega
        generalize (((upI 0 (n - 1)).take j).map fun d => (p, d)).filter (goodP n w g lot) = bcc at hbl ⊢
        have hlen : (List.map eP (acc ++ bcc)).length ≤ 33 := by
          rw [List.length_map, List.length_append]
          omega
        walk_at "pi"
        rw [cut_int_pre _ hpm.1, cut_int_suf _ hpm.1]
        have e5 : List.map D.int (w.take p.toNat) ++ [D.int d] ++ List.map D.int (w.drop p.toNat) = (insF w p d).map D.int := by
          unfold insF
          simp
        rw [e5]
        refine ⟨by decide, by rw [List.length_map, List.length_take, sizeLine_eq]; omega, by rw [List.length_append, List.length_map, List.length_map, List.length_take, List.length_drop, sizeLine_eq]; simp only [List.length_cons, List.length_nil]; omega, ?_⟩
        refine comp_map lot .int .int (fun x => if p ≤ x then x + 1 else x) (List.length_map _) (by rw [sizeLine_eq]; omega) (fun i => rfl) (fun x hx => ?_) ?_
        · walk_at "pi"
          by_cases q : p ≤ x
          · simp only [q, ge_iff_le, decide_true, if_true]
            try walk_at "pi"
          · simp only [q, ge_iff_le, decide_false, Bool.false_eq_true, if_false]
            try walk_at "pi"
            simp only [Int.add_zero]
        · rw [fzq_list encI (by decide)]
          try walk_at "pi"
          rw [show List.map D.int (List.map (fun x => if p ≤ x then x + 1 else x) lot) = (shF p lot).map D.int from rfl]
          rw [(lawfine_w (by omega) (by omega) (insF_word (p := p) hw hdm.1 (show d ≤ n - 2 by omega)) hg).wp]
          rw [show decide (CntLe (endF n (leftF (insF w p d) (shF p lot))) g) = goodP n w g lot (p, d) from rfl]
          cases hgp : goodP n w g lot (p, d)
          · simp only [Bool.false_eq_true, if_false, List.append_nil]
            try walk_at "pi"
            exact ⟨_, _, _, rfl⟩
          · simp only [if_true]
            try walk_at "pi"
            rw [vr_ref _ (get_last _ _), vm_append _ (get_last _ _)]
            refine ⟨by decide, by rw [sizeLine_eq]; omega, ?_⟩
            try walk_at "pi"
            refine ⟨_, _, _, rfl, ?_⟩
            rw [List.set_append_right _ _ (Nat.le_refl _), Nat.sub_self]
            simp only [List.map_append, List.append_assoc]
            rfl
      · subst he hS
        rw [List.length_map, upI_length]
        have e3 : (upI 0 (n - 1)).take (n - 1 - 0).toNat = upI 0 (n - 1) := List.take_of_length_le (by rw [upI_length]; omega)
        rw [e3]
        walk_at "pi"
        first | exact ⟨_, _, _, _, rfl, rfl⟩ | exact ⟨_, _, _, _, rfl⟩ | exact ⟨_, _, _, rfl⟩
    · subst he hS
      rw [List.length_map, List.take_length, ← spF_rows]
      walk_at "pi"
      rw [(spots_w n0 (by omega) hw (by omega) hg hlot).wp, if_neg (fun z => hu (hun.mpr z))]
      rw [vf_tup_ref _ (get_last _ _), (fin (spF n w g lot) (by
        refine Nat.le_trans (List.length_filter_le _ _) ?_
        rw [prF_len]
        exact Nat.le_trans (Nat.mul_le_mul (show w.length + 1 ≤ 10 by omega) (show (n - 1).toNat ≤ 3 by omega)) (by decide))).wp]
theorem law_true (n : Nat) : LawTrue T 61 "law" n := by
  intro sc hsc
  suffices h : Wp (callK T 61 "law" [.clst (sc.map .int)]) [] (fun d _ => d = .bl true) NoX by
    rw [wp_ap] at h
    cases e : callK T 61 "law" [.clst (sc.map .int)] [] with
    | ok a S' => rw [e] at h; dsimp only at h; subst h; exact ⟨S', rfl⟩
    | err c fs S' => rw [e] at h; exact h.elim
    | bad => rw [e] at h; exact h.elim
  refine wp_def (Fn.find (d := law_d)) rfl ?_
  show Wp (evSs (T.ctx 60) law_b [some (.clst (sc.map .int)), none, none, none, none, none, none, none, none, none, none, none, none, none, none, none, none]) [] _ _
  rw [law_parts]
  exact seq_rule _ (law0 sc) fun e S h => seq_rule _ (law1 sc h) fun e S h => law2 h
end
end Pi

namespace Pi
open PySem PySem.Spec PyProof.Rows L2
def top (i : Nat) : Stmt := PySem.Challenge.pw_sturdysort_k53_whole_mending.main.body.getD i (.Pass ⟨0, 0, 0, 0⟩)
def fns : List Str := [("turned_row" : Str), ("swapped" : Str), ("is_out_of_order" : Str), ("behind" : Str), ("left_of" : Str), ("end_of" : Str), ("count_less" : Str), ("counts_ahead" : Str), ("is_as_sorted" : Str), ("are_as_great" : Str), ("reaches" : Str), ("is_integer" : Str), ("is_from_to" : Str), ("is_row" : Str), ("is_word" : Str), ("is_lot" : Str), ("check_cards" : Str), ("check_word" : Str), ("check_lot" : Str), ("check_goal" : Str), ("check_word_up_to" : Str), ("check_word_that_fails" : Str), ("check_task" : Str), ("mending" : Str), ("ways_to" : Str), ("ways_one_deed_on" : Str), ("spots" : Str), ("left_with" : Str), ("_law_taken" : Str), ("_law_pick" : Str), ("_law_alike" : Str), ("_law_row" : Str), ("_law_word" : Str), ("_law_lot" : Str), ("_law_turned" : Str), ("_law_swap" : Str), ("_law_run" : Str), ("_law_end" : Str), ("_law_far" : Str), ("_law_fine" : Str), ("_law_goal" : Str), ("_law_case" : Str), ("_law_sorter" : Str), ("_law_next_words" : Str), ("law" : Str)]
def gls : List Str := [("MOST_CARDS" : Str), ("MOST_DEEDS" : Str), ("MOST_DEEDS_THAT_FAIL" : Str)]
def fl : List Nat := [202, 1000091, 1000100]
theorem turned_row_eq : turned_row_b = cSs ⟨[("n" : Str)], fns, gls, [], fl⟩ 60 (defScope (top 1)) (defBody (top 1)) := by kernel_rfl
theorem swapped_eq : swapped_b = cSs ⟨[("row" : Str), ("deed" : Str)], fns, gls, [], fl⟩ 60 (defScope (top 2)) (defBody (top 2)) := by kernel_rfl
theorem is_out_of_order_eq : is_out_of_order_b = cSs ⟨[("row" : Str), ("deed" : Str)], fns, gls, [], fl⟩ 60 (defScope (top 3)) (defBody (top 3)) := by kernel_rfl
theorem behind_eq : behind_b = cSs ⟨[("row" : Str), ("word" : Str), ("deed" : Str)], fns, gls, [], fl⟩ 60 (defScope (top 4)) (defBody (top 4)) := by kernel_rfl
theorem left_of_eq : left_of_b = cSs ⟨[("word" : Str), ("lot" : Str), ("place" : Str), ("deed" : Str)], fns, gls, [], fl⟩ 60 (defScope (top 5)) (defBody (top 5)) := by kernel_rfl
theorem end_of_eq : end_of_b = cSs ⟨[("n" : Str), ("word" : Str)], fns, gls, [], fl⟩ 60 (defScope (top 6)) (defBody (top 6)) := by kernel_rfl
theorem count_less_eq : count_less_b = cSs ⟨[("row" : Str), ("i" : Str), ("v" : Str), ("card" : Str)], fns, gls, [], fl⟩ 60 (defScope (top 7)) (defBody (top 7)) := by kernel_rfl
theorem counts_ahead_eq : counts_ahead_b = cSs ⟨[("row" : Str), ("within" : Str), ("i" : Str), ("v" : Str)], fns, gls, [], fl⟩ 60 (defScope (top 8)) (defBody (top 8)) := by kernel_rfl
theorem is_as_sorted_eq : is_as_sorted_b = cSs ⟨[("row" : Str), ("other" : Str)], fns, gls, [], fl⟩ 60 (defScope (top 9)) (defBody (top 9)) := by kernel_rfl
theorem are_as_great_eq : are_as_great_b = cSs ⟨[("counts" : Str), ("others" : Str), ("here" : Str), ("there" : Str)], fns, gls, [], fl⟩ 60 (defScope (top 10)) (defBody (top 10)) := by kernel_rfl
theorem reaches_eq : reaches_b = cSs ⟨[("word" : Str), ("goal" : Str)], fns, gls, [], fl⟩ 60 (defScope (top 11)) (defBody (top 11)) := by kernel_rfl
theorem is_integer_eq : is_integer_b = cSs ⟨[("value" : Str)], fns, gls, [], fl⟩ 60 (defScope (top 23)) (defBody (top 23)) := by kernel_rfl
theorem is_from_to_eq : is_from_to_b = cSs ⟨[("value" : Str), ("low" : Str), ("high" : Str)], fns, gls, [], fl⟩ 60 (defScope (top 24)) (defBody (top 24)) := by kernel_rfl
theorem is_row_eq : is_row_b = cSs ⟨[("value" : Str), ("n" : Str), ("card" : Str)], fns, gls, [], fl⟩ 60 (defScope (top 25)) (defBody (top 25)) := by kernel_rfl
theorem is_word_eq : is_word_b = cSs ⟨[("value" : Str), ("n" : Str), ("deed" : Str)], fns, gls, [], fl⟩ 60 (defScope (top 26)) (defBody (top 26)) := by kernel_rfl
theorem is_lot_eq : is_lot_b = cSs ⟨[("value" : Str), ("word" : Str), ("place" : Str), ("later" : Str)], fns, gls, [], fl⟩ 60 (defScope (top 27)) (defBody (top 27)) := by kernel_rfl
theorem check_cards_eq : check_cards_b = cSs ⟨[("n" : Str)], fns, gls, [], fl⟩ 60 (defScope (top 28)) (defBody (top 28)) := by kernel_rfl
theorem check_word_eq : check_word_b = cSs ⟨[("n" : Str), ("word" : Str)], fns, gls, [], fl⟩ 60 (defScope (top 29)) (defBody (top 29)) := by kernel_rfl
theorem check_lot_eq : check_lot_b = cSs ⟨[("word" : Str), ("lot" : Str)], fns, gls, [], fl⟩ 60 (defScope (top 30)) (defBody (top 30)) := by kernel_rfl
theorem check_goal_eq : check_goal_b = cSs ⟨[("n" : Str), ("goal" : Str)], fns, gls, [], fl⟩ 60 (defScope (top 31)) (defBody (top 31)) := by kernel_rfl
theorem check_word_up_to_eq : check_word_up_to_b = cSs ⟨[("n" : Str), ("word" : Str), ("most" : Str)], fns, gls, [], fl⟩ 60 (defScope (top 32)) (defBody (top 32)) := by kernel_rfl
theorem check_word_that_fails_eq : check_word_that_fails_b = cSs ⟨[("n" : Str), ("word" : Str)], fns, gls, [], fl⟩ 60 (defScope (top 33)) (defBody (top 33)) := by kernel_rfl
theorem check_task_eq : check_task_b = cSs ⟨[("n" : Str), ("word" : Str), ("goal" : Str)], fns, gls, [], fl⟩ 60 (defScope (top 34)) (defBody (top 34)) := by kernel_rfl
theorem mending_eq : mending_b = cSs ⟨[("n" : Str), ("word" : Str), ("goal" : Str), ("lot" : Str), ("least" : Str), ("ways" : Str), ("found" : Str)], fns, gls, [], fl⟩ 60 (defScope (top 36)) (defBody (top 36)) := by kernel_rfl
theorem ways_to_eq : ways_to_b = cSs ⟨[("ways" : Str), ("least" : Str), ("row" : Str), ("word" : Str)], fns, gls, [], fl⟩ 60 (defScope (top 37)) (defBody (top 37)) := by kernel_rfl
theorem ways_one_deed_on_eq : ways_one_deed_on_b = cSs ⟨[("ways" : Str), ("found" : Str), ("row" : Str), ("word" : Str), ("deed" : Str)], fns, gls, [("found" : Str)], fl⟩ 60 (defScope (top 38)) (defBody (top 38)) := by kernel_rfl
theorem spots_eq : spots_b = cSs ⟨[("n" : Str), ("word" : Str), ("goal" : Str), ("lot" : Str), ("pairs" : Str), ("place" : Str), ("deed" : Str)], fns, gls, [], fl⟩ 60 (defScope (top 39)) (defBody (top 39)) := by kernel_rfl
theorem left_with_eq : left_with_b = cSs ⟨[("word" : Str), ("lot" : Str), ("place" : Str), ("deed" : Str), ("failing" : Str), ("one" : Str)], fns, gls, [], fl⟩ 60 (defScope (top 40)) (defBody (top 40)) := by kernel_rfl
theorem law_taken_eq : law_taken_b = cSs ⟨[("row" : Str), ("many" : Str), ("found" : Str), ("cell" : Str)], fns, gls, [], fl⟩ 60 (defScope (top 42)) (defBody (top 42)) := by kernel_rfl
theorem law_pick_eq : law_pick_b = cSs ⟨[("row" : Str), ("things" : Str)], fns, gls, [], fl⟩ 60 (defScope (top 43)) (defBody (top 43)) := by kernel_rfl
theorem law_alike_eq : law_alike_b = cSs ⟨[("found" : Str), ("due" : Str), ("k" : Str), ("key" : Str)], fns, gls, [], fl⟩ 60 (defScope (top 44)) (defBody (top 44)) := by kernel_rfl
theorem law_row_eq : law_row_b = cSs ⟨[("row" : Str), ("n" : Str), ("left" : Str), ("found" : Str), ("turn" : Str)], fns, gls, [("found" : Str), ("left" : Str)], fl⟩ 60 (defScope (top 45)) (defBody (top 45)) := by kernel_rfl
theorem law_word_eq : law_word_b = cSs ⟨[("row" : Str), ("n" : Str), ("most" : Str), ("turn" : Str)], fns, gls, [], fl⟩ 60 (defScope (top 46)) (defBody (top 46)) := by kernel_rfl
theorem law_lot_eq : law_lot_b = cSs ⟨[("row" : Str), ("size" : Str), ("way" : Str), ("place" : Str)], fns, gls, [], fl⟩ 60 (defScope (top 47)) (defBody (top 47)) := by kernel_rfl
theorem law_turned_eq : law_turned_b = cSs ⟨[("n" : Str), ("card" : Str)], fns, gls, [], fl⟩ 60 (defScope (top 48)) (defBody (top 48)) := by kernel_rfl
theorem law_swap_eq : law_swap_b = cSs ⟨[("cards" : Str), ("deed" : Str)], fns, gls, [], fl⟩ 60 (defScope (top 49)) (defBody (top 49)) := by kernel_rfl
theorem law_run_eq : law_run_b = cSs ⟨[("cards" : Str), ("word" : Str), ("lot" : Str), ("place" : Str), ("deed" : Str)], fns, gls, [], fl⟩ 60 (defScope (top 50)) (defBody (top 50)) := by kernel_rfl
theorem law_end_eq : law_end_b = cSs ⟨[("word" : Str), ("lot" : Str), ("n" : Str)], fns, gls, [], fl⟩ 60 (defScope (top 51)) (defBody (top 51)) := by kernel_rfl
theorem law_far_eq : law_far_b = cSs ⟨[("one" : Str), ("other" : Str), ("first" : Str), ("bound" : Str), ("card" : Str)], fns, gls, [], fl⟩ 60 (defScope (top 52)) (defBody (top 52)) := by kernel_rfl
theorem law_fine_eq : law_fine_b = cSs ⟨[("n" : Str), ("word" : Str), ("goal" : Str), ("lot" : Str)], fns, gls, [], fl⟩ 60 (defScope (top 53)) (defBody (top 53)) := by kernel_rfl
theorem law_goal_eq : law_goal_b = cSs ⟨[("row" : Str), ("n" : Str), ("word" : Str), ("way" : Str)], fns, gls, [], fl⟩ 60 (defScope (top 54)) (defBody (top 54)) := by kernel_rfl
theorem law_case_eq : law_case_b = cSs ⟨[("row" : Str), ("most_cards" : Str), ("most" : Str), ("n" : Str), ("size" : Str), ("word" : Str)], fns, gls, [], fl⟩ 60 (defScope (top 55)) (defBody (top 55)) := by kernel_rfl
theorem law_sorter_eq : law_sorter_b = cSs ⟨[("n" : Str), ("found" : Str), ("turn" : Str)], fns, gls, [], fl⟩ 60 (defScope (top 56)) (defBody (top 56)) := by kernel_rfl
theorem law_next_words_eq : law_next_words_b = cSs ⟨[("n" : Str), ("words" : Str), ("found" : Str), ("word" : Str), ("deed" : Str)], fns, gls, [], fl⟩ 60 (defScope (top 57)) (defBody (top 57)) := by kernel_rfl
theorem law_eq : law_b = cSs ⟨[("script" : Str), ("row" : Str), ("n" : Str), ("word" : Str), ("goal" : Str), ("lot" : Str), ("left" : Str), ("words" : Str), ("due" : Str), ("turn" : Str), ("one" : Str), ("found" : Str), ("place" : Str), ("deed" : Str), ("longer" : Str), ("moved" : Str), ("own" : Str)], fns, gls, [("found" : Str), ("row" : Str)], fl⟩ 60 (defScope (top 58)) (defBody (top 58)) := by kernel_rfl
def T0 : Tb := ⟨[turned_row_d, swapped_d, is_out_of_order_d, behind_d, left_of_d, end_of_d, count_less_d, counts_ahead_d, is_as_sorted_d, are_as_great_d, reaches_d, is_integer_d, is_from_to_d, is_row_d, is_word_d, is_lot_d, check_cards_d, check_word_d, check_lot_d, check_goal_d, check_word_up_to_d, check_word_that_fails_d, check_task_d, mending_d, ways_to_d, ways_one_deed_on_d, spots_d, left_with_d, law_taken_d, law_pick_d, law_alike_d, law_row_d, law_word_d, law_lot_d, law_turned_d, law_swap_d, law_run_d, law_end_d, law_far_d, law_fine_d, law_goal_d, law_case_d, law_sorter_d, law_next_words_d, law_d], [("MOST_CARDS", .int 7), ("MOST_DEEDS", .int 200), ("MOST_DEEDS_THAT_FAIL", .int 40)], 2000000⟩
theorem turned_row_f : T0.find "turned_row" = some turned_row_d := by kernel_rfl
instance : Fn T0 turned_row_d := ⟨turned_row_f⟩
theorem turned_row_s : FnScope [("n" : Str)] [("n" : Str)] (defScope (top 1)) := ⟨rfl, rfl, rfl, by decide +kernel, rfl, by decide +kernel, by decide +kernel⟩
theorem swapped_f : T0.find "swapped" = some swapped_d := by kernel_rfl
instance : Fn T0 swapped_d := ⟨swapped_f⟩
theorem swapped_s : FnScope [("row" : Str), ("deed" : Str)] [("row" : Str), ("deed" : Str)] (defScope (top 2)) := ⟨rfl, rfl, rfl, by decide +kernel, rfl, by decide +kernel, by decide +kernel⟩
theorem is_out_of_order_f : T0.find "is_out_of_order" = some is_out_of_order_d := by kernel_rfl
instance : Fn T0 is_out_of_order_d := ⟨is_out_of_order_f⟩
theorem is_out_of_order_s : FnScope [("row" : Str), ("deed" : Str)] [("row" : Str), ("deed" : Str)] (defScope (top 3)) := ⟨rfl, rfl, rfl, by decide +kernel, rfl, by decide +kernel, by decide +kernel⟩
theorem behind_f : T0.find "behind" = some behind_d := by kernel_rfl
instance : Fn T0 behind_d := ⟨behind_f⟩
theorem behind_s : FnScope [("row" : Str), ("word" : Str), ("deed" : Str)] [("row" : Str), ("word" : Str)] (defScope (top 4)) := ⟨rfl, rfl, rfl, by decide +kernel, rfl, by decide +kernel, by decide +kernel⟩
theorem left_of_f : T0.find "left_of" = some left_of_d := by kernel_rfl
instance : Fn T0 left_of_d := ⟨left_of_f⟩
theorem left_of_s : FnScope [("word" : Str), ("lot" : Str), ("place" : Str), ("deed" : Str)] [("word" : Str), ("lot" : Str)] (defScope (top 5)) := ⟨rfl, rfl, rfl, by decide +kernel, rfl, by decide +kernel, by decide +kernel⟩
theorem end_of_f : T0.find "end_of" = some end_of_d := by kernel_rfl
instance : Fn T0 end_of_d := ⟨end_of_f⟩
theorem end_of_s : FnScope [("n" : Str), ("word" : Str)] [("n" : Str), ("word" : Str)] (defScope (top 6)) := ⟨rfl, rfl, rfl, by decide +kernel, rfl, by decide +kernel, by decide +kernel⟩
theorem count_less_f : T0.find "count_less" = some count_less_d := by kernel_rfl
instance : Fn T0 count_less_d := ⟨count_less_f⟩
theorem count_less_s : FnScope [("row" : Str), ("i" : Str), ("v" : Str), ("card" : Str)] [("row" : Str), ("i" : Str), ("v" : Str)] (defScope (top 7)) := ⟨rfl, rfl, rfl, by decide +kernel, rfl, by decide +kernel, by decide +kernel⟩
theorem counts_ahead_f : T0.find "counts_ahead" = some counts_ahead_d := by kernel_rfl
instance : Fn T0 counts_ahead_d := ⟨counts_ahead_f⟩
theorem counts_ahead_s : FnScope [("row" : Str), ("within" : Str), ("i" : Str), ("v" : Str)] [("row" : Str)] (defScope (top 8)) := ⟨rfl, rfl, rfl, by decide +kernel, rfl, by decide +kernel, by decide +kernel⟩
theorem is_as_sorted_f : T0.find "is_as_sorted" = some is_as_sorted_d := by kernel_rfl
instance : Fn T0 is_as_sorted_d := ⟨is_as_sorted_f⟩
theorem is_as_sorted_s : FnScope [("row" : Str), ("other" : Str)] [("row" : Str), ("other" : Str)] (defScope (top 9)) := ⟨rfl, rfl, rfl, by decide +kernel, rfl, by decide +kernel, by decide +kernel⟩
theorem are_as_great_f : T0.find "are_as_great" = some are_as_great_d := by kernel_rfl
instance : Fn T0 are_as_great_d := ⟨are_as_great_f⟩
theorem are_as_great_s : FnScope [("counts" : Str), ("others" : Str), ("here" : Str), ("there" : Str)] [("counts" : Str), ("others" : Str)] (defScope (top 10)) := ⟨rfl, rfl, rfl, by decide +kernel, rfl, by decide +kernel, by decide +kernel⟩
theorem reaches_f : T0.find "reaches" = some reaches_d := by kernel_rfl
instance : Fn T0 reaches_d := ⟨reaches_f⟩
theorem reaches_s : FnScope [("word" : Str), ("goal" : Str)] [("word" : Str), ("goal" : Str)] (defScope (top 11)) := ⟨rfl, rfl, rfl, by decide +kernel, rfl, by decide +kernel, by decide +kernel⟩
theorem is_integer_f : T0.find "is_integer" = some is_integer_d := by kernel_rfl
instance : Fn T0 is_integer_d := ⟨is_integer_f⟩
theorem is_integer_s : FnScope [("value" : Str)] [("value" : Str)] (defScope (top 23)) := ⟨rfl, rfl, rfl, by decide +kernel, rfl, by decide +kernel, by decide +kernel⟩
theorem is_from_to_f : T0.find "is_from_to" = some is_from_to_d := by kernel_rfl
instance : Fn T0 is_from_to_d := ⟨is_from_to_f⟩
theorem is_from_to_s : FnScope [("value" : Str), ("low" : Str), ("high" : Str)] [("value" : Str), ("low" : Str), ("high" : Str)] (defScope (top 24)) := ⟨rfl, rfl, rfl, by decide +kernel, rfl, by decide +kernel, by decide +kernel⟩
theorem is_row_f : T0.find "is_row" = some is_row_d := by kernel_rfl
instance : Fn T0 is_row_d := ⟨is_row_f⟩
theorem is_row_s : FnScope [("value" : Str), ("n" : Str), ("card" : Str)] [("value" : Str), ("n" : Str)] (defScope (top 25)) := ⟨rfl, rfl, rfl, by decide +kernel, rfl, by decide +kernel, by decide +kernel⟩
theorem is_word_f : T0.find "is_word" = some is_word_d := by kernel_rfl
instance : Fn T0 is_word_d := ⟨is_word_f⟩
theorem is_word_s : FnScope [("value" : Str), ("n" : Str), ("deed" : Str)] [("value" : Str), ("n" : Str)] (defScope (top 26)) := ⟨rfl, rfl, rfl, by decide +kernel, rfl, by decide +kernel, by decide +kernel⟩
theorem is_lot_f : T0.find "is_lot" = some is_lot_d := by kernel_rfl
instance : Fn T0 is_lot_d := ⟨is_lot_f⟩
theorem is_lot_s : FnScope [("value" : Str), ("word" : Str), ("place" : Str), ("later" : Str)] [("value" : Str), ("word" : Str)] (defScope (top 27)) := ⟨rfl, rfl, rfl, by decide +kernel, rfl, by decide +kernel, by decide +kernel⟩
theorem check_cards_f : T0.find "check_cards" = some check_cards_d := by kernel_rfl
instance : Fn T0 check_cards_d := ⟨check_cards_f⟩
theorem check_cards_s : FnScope [("n" : Str)] [("n" : Str)] (defScope (top 28)) := ⟨rfl, rfl, rfl, by decide +kernel, rfl, by decide +kernel, by decide +kernel⟩
theorem check_word_f : T0.find "check_word" = some check_word_d := by kernel_rfl
instance : Fn T0 check_word_d := ⟨check_word_f⟩
theorem check_word_s : FnScope [("n" : Str), ("word" : Str)] [("n" : Str), ("word" : Str)] (defScope (top 29)) := ⟨rfl, rfl, rfl, by decide +kernel, rfl, by decide +kernel, by decide +kernel⟩
theorem check_lot_f : T0.find "check_lot" = some check_lot_d := by kernel_rfl
instance : Fn T0 check_lot_d := ⟨check_lot_f⟩
theorem check_lot_s : FnScope [("word" : Str), ("lot" : Str)] [("word" : Str), ("lot" : Str)] (defScope (top 30)) := ⟨rfl, rfl, rfl, by decide +kernel, rfl, by decide +kernel, by decide +kernel⟩
theorem check_goal_f : T0.find "check_goal" = some check_goal_d := by kernel_rfl
instance : Fn T0 check_goal_d := ⟨check_goal_f⟩
theorem check_goal_s : FnScope [("n" : Str), ("goal" : Str)] [("n" : Str), ("goal" : Str)] (defScope (top 31)) := ⟨rfl, rfl, rfl, by decide +kernel, rfl, by decide +kernel, by decide +kernel⟩
theorem check_word_up_to_f : T0.find "check_word_up_to" = some check_word_up_to_d := by kernel_rfl
instance : Fn T0 check_word_up_to_d := ⟨check_word_up_to_f⟩
theorem check_word_up_to_s : FnScope [("n" : Str), ("word" : Str), ("most" : Str)] [("n" : Str), ("word" : Str), ("most" : Str)] (defScope (top 32)) := ⟨rfl, rfl, rfl, by decide +kernel, rfl, by decide +kernel, by decide +kernel⟩
theorem check_word_that_fails_f : T0.find "check_word_that_fails" = some check_word_that_fails_d := by kernel_rfl
instance : Fn T0 check_word_that_fails_d := ⟨check_word_that_fails_f⟩
theorem check_word_that_fails_s : FnScope [("n" : Str), ("word" : Str)] [("n" : Str), ("word" : Str)] (defScope (top 33)) := ⟨rfl, rfl, rfl, by decide +kernel, rfl, by decide +kernel, by decide +kernel⟩
theorem check_task_f : T0.find "check_task" = some check_task_d := by kernel_rfl
instance : Fn T0 check_task_d := ⟨check_task_f⟩
theorem check_task_s : FnScope [("n" : Str), ("word" : Str), ("goal" : Str)] [("n" : Str), ("word" : Str), ("goal" : Str)] (defScope (top 34)) := ⟨rfl, rfl, rfl, by decide +kernel, rfl, by decide +kernel, by decide +kernel⟩
theorem mending_f : T0.find "mending" = some mending_d := by kernel_rfl
instance : Fn T0 mending_d := ⟨mending_f⟩
theorem mending_s : FnScope [("n" : Str), ("word" : Str), ("goal" : Str), ("lot" : Str), ("least" : Str), ("ways" : Str), ("found" : Str)] [("n" : Str), ("word" : Str), ("goal" : Str), ("lot" : Str)] (defScope (top 36)) := ⟨rfl, rfl, rfl, by decide +kernel, rfl, by decide +kernel, by decide +kernel⟩
theorem ways_to_f : T0.find "ways_to" = some ways_to_d := by kernel_rfl
instance : Fn T0 ways_to_d := ⟨ways_to_f⟩
theorem ways_to_s : FnScope [("ways" : Str), ("least" : Str), ("row" : Str), ("word" : Str)] [("ways" : Str), ("least" : Str)] (defScope (top 37)) := ⟨rfl, rfl, rfl, by decide +kernel, rfl, by decide +kernel, by decide +kernel⟩
theorem ways_one_deed_on_f : T0.find "ways_one_deed_on" = some ways_one_deed_on_d := by kernel_rfl
instance : Fn T0 ways_one_deed_on_d := ⟨ways_one_deed_on_f⟩
theorem ways_one_deed_on_s : FnScope [("ways" : Str), ("found" : Str), ("row" : Str), ("word" : Str), ("deed" : Str)] [("ways" : Str)] (defScope (top 38)) := ⟨rfl, rfl, rfl, by decide +kernel, rfl, by decide +kernel, by decide +kernel⟩
theorem spots_f : T0.find "spots" = some spots_d := by kernel_rfl
instance : Fn T0 spots_d := ⟨spots_f⟩
theorem spots_s : FnScope [("n" : Str), ("word" : Str), ("goal" : Str), ("lot" : Str), ("pairs" : Str), ("place" : Str), ("deed" : Str)] [("n" : Str), ("word" : Str), ("goal" : Str), ("lot" : Str)] (defScope (top 39)) := ⟨rfl, rfl, rfl, by decide +kernel, rfl, by decide +kernel, by decide +kernel⟩
theorem left_with_f : T0.find "left_with" = some left_with_d := by kernel_rfl
instance : Fn T0 left_with_d := ⟨left_with_f⟩
theorem left_with_s : FnScope [("word" : Str), ("lot" : Str), ("place" : Str), ("deed" : Str), ("failing" : Str), ("one" : Str)] [("word" : Str), ("lot" : Str), ("place" : Str), ("deed" : Str)] (defScope (top 40)) := ⟨rfl, rfl, rfl, by decide +kernel, rfl, by decide +kernel, by decide +kernel⟩
theorem law_taken_f : T0.find "_law_taken" = some law_taken_d := by kernel_rfl
instance : Fn T0 law_taken_d := ⟨law_taken_f⟩
theorem law_taken_s : FnScope [("row" : Str), ("many" : Str), ("found" : Str), ("cell" : Str)] [("row" : Str), ("many" : Str)] (defScope (top 42)) := ⟨rfl, rfl, rfl, by decide +kernel, rfl, by decide +kernel, by decide +kernel⟩
theorem law_pick_f : T0.find "_law_pick" = some law_pick_d := by kernel_rfl
instance : Fn T0 law_pick_d := ⟨law_pick_f⟩
theorem law_pick_s : FnScope [("row" : Str), ("things" : Str)] [("row" : Str), ("things" : Str)] (defScope (top 43)) := ⟨rfl, rfl, rfl, by decide +kernel, rfl, by decide +kernel, by decide +kernel⟩
theorem law_alike_f : T0.find "_law_alike" = some law_alike_d := by kernel_rfl
instance : Fn T0 law_alike_d := ⟨law_alike_f⟩
theorem law_alike_s : FnScope [("found" : Str), ("due" : Str), ("k" : Str), ("key" : Str)] [("found" : Str), ("due" : Str)] (defScope (top 44)) := ⟨rfl, rfl, rfl, by decide +kernel, rfl, by decide +kernel, by decide +kernel⟩
theorem law_row_f : T0.find "_law_row" = some law_row_d := by kernel_rfl
instance : Fn T0 law_row_d := ⟨law_row_f⟩
theorem law_row_s : FnScope [("row" : Str), ("n" : Str), ("left" : Str), ("found" : Str), ("turn" : Str)] [("row" : Str), ("n" : Str)] (defScope (top 45)) := ⟨rfl, rfl, rfl, by decide +kernel, rfl, by decide +kernel, by decide +kernel⟩
theorem law_word_f : T0.find "_law_word" = some law_word_d := by kernel_rfl
instance : Fn T0 law_word_d := ⟨law_word_f⟩
theorem law_word_s : FnScope [("row" : Str), ("n" : Str), ("most" : Str), ("turn" : Str)] [("row" : Str), ("n" : Str), ("most" : Str)] (defScope (top 46)) := ⟨rfl, rfl, rfl, by decide +kernel, rfl, by decide +kernel, by decide +kernel⟩
theorem law_lot_f : T0.find "_law_lot" = some law_lot_d := by kernel_rfl
instance : Fn T0 law_lot_d := ⟨law_lot_f⟩
theorem law_lot_s : FnScope [("row" : Str), ("size" : Str), ("way" : Str), ("place" : Str)] [("row" : Str), ("size" : Str)] (defScope (top 47)) := ⟨rfl, rfl, rfl, by decide +kernel, rfl, by decide +kernel, by decide +kernel⟩
theorem law_turned_f : T0.find "_law_turned" = some law_turned_d := by kernel_rfl
instance : Fn T0 law_turned_d := ⟨law_turned_f⟩
theorem law_turned_s : FnScope [("n" : Str), ("card" : Str)] [("n" : Str)] (defScope (top 48)) := ⟨rfl, rfl, rfl, by decide +kernel, rfl, by decide +kernel, by decide +kernel⟩
theorem law_swap_f : T0.find "_law_swap" = some law_swap_d := by kernel_rfl
instance : Fn T0 law_swap_d := ⟨law_swap_f⟩
theorem law_swap_s : FnScope [("cards" : Str), ("deed" : Str)] [("cards" : Str), ("deed" : Str)] (defScope (top 49)) := ⟨rfl, rfl, rfl, by decide +kernel, rfl, by decide +kernel, by decide +kernel⟩
theorem law_run_f : T0.find "_law_run" = some law_run_d := by kernel_rfl
instance : Fn T0 law_run_d := ⟨law_run_f⟩
theorem law_run_s : FnScope [("cards" : Str), ("word" : Str), ("lot" : Str), ("place" : Str), ("deed" : Str)] [("cards" : Str), ("word" : Str), ("lot" : Str)] (defScope (top 50)) := ⟨rfl, rfl, rfl, by decide +kernel, rfl, by decide +kernel, by decide +kernel⟩
theorem law_end_f : T0.find "_law_end" = some law_end_d := by kernel_rfl
instance : Fn T0 law_end_d := ⟨law_end_f⟩
theorem law_end_s : FnScope [("word" : Str), ("lot" : Str), ("n" : Str)] [("word" : Str), ("lot" : Str), ("n" : Str)] (defScope (top 51)) := ⟨rfl, rfl, rfl, by decide +kernel, rfl, by decide +kernel, by decide +kernel⟩
theorem law_far_f : T0.find "_law_far" = some law_far_d := by kernel_rfl
instance : Fn T0 law_far_d := ⟨law_far_f⟩
theorem law_far_s : FnScope [("one" : Str), ("other" : Str), ("first" : Str), ("bound" : Str), ("card" : Str)] [("one" : Str), ("other" : Str)] (defScope (top 52)) := ⟨rfl, rfl, rfl, by decide +kernel, rfl, by decide +kernel, by decide +kernel⟩
theorem law_fine_f : T0.find "_law_fine" = some law_fine_d := by kernel_rfl
instance : Fn T0 law_fine_d := ⟨law_fine_f⟩
theorem law_fine_s : FnScope [("n" : Str), ("word" : Str), ("goal" : Str), ("lot" : Str)] [("n" : Str), ("word" : Str), ("goal" : Str), ("lot" : Str)] (defScope (top 53)) := ⟨rfl, rfl, rfl, by decide +kernel, rfl, by decide +kernel, by decide +kernel⟩
theorem law_goal_f : T0.find "_law_goal" = some law_goal_d := by kernel_rfl
instance : Fn T0 law_goal_d := ⟨law_goal_f⟩
theorem law_goal_s : FnScope [("row" : Str), ("n" : Str), ("word" : Str), ("way" : Str)] [("row" : Str), ("n" : Str), ("word" : Str)] (defScope (top 54)) := ⟨rfl, rfl, rfl, by decide +kernel, rfl, by decide +kernel, by decide +kernel⟩
theorem law_case_f : T0.find "_law_case" = some law_case_d := by kernel_rfl
instance : Fn T0 law_case_d := ⟨law_case_f⟩
theorem law_case_s : FnScope [("row" : Str), ("most_cards" : Str), ("most" : Str), ("n" : Str), ("size" : Str), ("word" : Str)] [("row" : Str), ("most_cards" : Str), ("most" : Str)] (defScope (top 55)) := ⟨rfl, rfl, rfl, by decide +kernel, rfl, by decide +kernel, by decide +kernel⟩
theorem law_sorter_f : T0.find "_law_sorter" = some law_sorter_d := by kernel_rfl
instance : Fn T0 law_sorter_d := ⟨law_sorter_f⟩
theorem law_sorter_s : FnScope [("n" : Str), ("found" : Str), ("turn" : Str)] [("n" : Str)] (defScope (top 56)) := ⟨rfl, rfl, rfl, by decide +kernel, rfl, by decide +kernel, by decide +kernel⟩
theorem law_next_words_f : T0.find "_law_next_words" = some law_next_words_d := by kernel_rfl
instance : Fn T0 law_next_words_d := ⟨law_next_words_f⟩
theorem law_next_words_s : FnScope [("n" : Str), ("words" : Str), ("found" : Str), ("word" : Str), ("deed" : Str)] [("n" : Str), ("words" : Str)] (defScope (top 57)) := ⟨rfl, rfl, rfl, by decide +kernel, rfl, by decide +kernel, by decide +kernel⟩
theorem law_f : T0.find "law" = some law_d := by kernel_rfl
instance : Fn T0 law_d := ⟨law_f⟩
theorem law_s : FnScope [("script" : Str), ("row" : Str), ("n" : Str), ("word" : Str), ("goal" : Str), ("lot" : Str), ("left" : Str), ("words" : Str), ("due" : Str), ("turn" : Str), ("one" : Str), ("found" : Str), ("place" : Str), ("deed" : Str), ("longer" : Str), ("moved" : Str), ("own" : Str)] [("script" : Str)] (defScope (top 58)) := ⟨rfl, rfl, rfl, by decide +kernel, rfl, by decide +kernel, by decide +kernel⟩
instance : Wf T0 := ⟨by show (1000000 : Nat) ≤ 2000000; decide⟩
instance : Gl T0 "MOST_CARDS" (.int 7) := ⟨by kernel_rfl⟩
instance : Gl T0 "MOST_DEEDS" (.int 200) := ⟨by kernel_rfl⟩
instance : Gl T0 "MOST_DEEDS_THAT_FAIL" (.int 40) := ⟨by kernel_rfl⟩
set_option maxHeartbeats 0 in
theorem all_mk {K : PySem.W.Frag} {h : Heap} {mg : Str → Option Value} (X : K.In h) (G : h.Ns mainGlobals mg)
    (d1 : DefIn K "turned_row" (top 1))
    (d2 : DefIn K "swapped" (top 2))
    (d3 : DefIn K "is_out_of_order" (top 3))
    (d4 : DefIn K "behind" (top 4))
    (d5 : DefIn K "left_of" (top 5))
    (d6 : DefIn K "end_of" (top 6))
    (d7 : DefIn K "count_less" (top 7))
    (d8 : DefIn K "counts_ahead" (top 8))
    (d9 : DefIn K "is_as_sorted" (top 9))
    (d10 : DefIn K "are_as_great" (top 10))
    (d11 : DefIn K "reaches" (top 11))
    (d23 : DefIn K "is_integer" (top 23))
    (d24 : DefIn K "is_from_to" (top 24))
    (d25 : DefIn K "is_row" (top 25))
    (d26 : DefIn K "is_word" (top 26))
    (d27 : DefIn K "is_lot" (top 27))
    (d28 : DefIn K "check_cards" (top 28))
    (d29 : DefIn K "check_word" (top 29))
    (d30 : DefIn K "check_lot" (top 30))
    (d31 : DefIn K "check_goal" (top 31))
    (d32 : DefIn K "check_word_up_to" (top 32))
    (d33 : DefIn K "check_word_that_fails" (top 33))
    (d34 : DefIn K "check_task" (top 34))
    (d36 : DefIn K "mending" (top 36))
    (d37 : DefIn K "ways_to" (top 37))
    (d38 : DefIn K "ways_one_deed_on" (top 38))
    (d39 : DefIn K "spots" (top 39))
    (d40 : DefIn K "left_with" (top 40))
    (d42 : DefIn K "_law_taken" (top 42))
    (d43 : DefIn K "_law_pick" (top 43))
    (d44 : DefIn K "_law_alike" (top 44))
    (d45 : DefIn K "_law_row" (top 45))
    (d46 : DefIn K "_law_word" (top 46))
    (d47 : DefIn K "_law_lot" (top 47))
    (d48 : DefIn K "_law_turned" (top 48))
    (d49 : DefIn K "_law_swap" (top 49))
    (d50 : DefIn K "_law_run" (top 50))
    (d51 : DefIn K "_law_end" (top 51))
    (d52 : DefIn K "_law_far" (top 52))
    (d53 : DefIn K "_law_fine" (top 53))
    (d54 : DefIn K "_law_goal" (top 54))
    (d55 : DefIn K "_law_case" (top 55))
    (d56 : DefIn K "_law_sorter" (top 56))
    (d57 : DefIn K "_law_next_words" (top 57))
    (d58 : DefIn K "law" (top 58))
    (b_len : PySem.W.nsIn K mainGlobals "len" = some none)
    (b_int : PySem.W.nsIn K mainGlobals "int" = some none)
    (b_str : PySem.W.nsIn K mainGlobals "str" = some none)
    (b_list : PySem.W.nsIn K mainGlobals "list" = some none)
    (b_tuple : PySem.W.nsIn K mainGlobals "tuple" = some none)
    (b_sorted : PySem.W.nsIn K mainGlobals "sorted" = some none)
    (b_min : PySem.W.nsIn K mainGlobals "min" = some none)
    (b_max : PySem.W.nsIn K mainGlobals "max" = some none)
    (b_sum : PySem.W.nsIn K mainGlobals "sum" = some none)
    (b_abs : PySem.W.nsIn K mainGlobals "abs" = some none)
    (b_all : PySem.W.nsIn K mainGlobals "all" = some none)
    (b_any : PySem.W.nsIn K mainGlobals "any" = some none)
    (b_isinstance : PySem.W.nsIn K mainGlobals "isinstance" = some none)
    (b_range : PySem.W.nsIn K mainGlobals "range" = some none)
    (b_enumerate : PySem.W.nsIn K mainGlobals "enumerate" = some none)
    (b_zip : PySem.W.nsIn K mainGlobals "zip" = some none)
    (b_bool : PySem.W.nsIn K mainGlobals "bool" = some none)
    (b_dict : PySem.W.nsIn K mainGlobals "dict" = some none)
    (b_reversed : PySem.W.nsIn K mainGlobals "reversed" = some none)
    (b_set : PySem.W.nsIn K mainGlobals "set" = some none)
    {t_MOST_CARDS : Tok} (g_MOST_CARDS : PySem.W.nsIn K mainGlobals "MOST_CARDS" = some (some (.int 7 t_MOST_CARDS)))
    {t_MOST_DEEDS : Tok} (g_MOST_DEEDS : PySem.W.nsIn K mainGlobals "MOST_DEEDS" = some (some (.int 200 t_MOST_DEEDS)))
    {t_MOST_DEEDS_THAT_FAIL : Tok} (g_MOST_DEEDS_THAT_FAIL : PySem.W.nsIn K mainGlobals "MOST_DEEDS_THAT_FAIL" = some (some (.int 40 t_MOST_DEEDS_THAT_FAIL)))
    : (∀ N mu, Facts K mg T0 ⟨N, fns, gls, mu, fl⟩) ∧ ∀ f, fns.contains f = true → ∃ d st, DefOk K mg T0 fns gls fl 60 f d st := by
  refine ⟨fun N mu => facts_of X G ?_ ?_ N mu, ?_⟩
  · exact all_cons b_len <| all_cons b_int <| all_cons b_str <| all_cons b_list <| all_cons b_tuple <| all_cons b_sorted <| all_cons b_min <| all_cons b_max <| all_cons b_sum <| all_cons b_abs <| all_cons b_all <| all_cons b_any <| all_cons b_isinstance <| all_cons b_range <| all_cons b_enumerate <| all_cons b_zip <| all_cons b_bool <| all_cons b_dict <| all_cons b_reversed <| all_cons b_set <| fun x h => by cases h
  · exact each_cons (gl_int (by kernel_rfl) g_MOST_CARDS) <| each_cons (gl_int (by kernel_rfl) g_MOST_DEEDS) <| each_cons (gl_int (by kernel_rfl) g_MOST_DEEDS_THAT_FAIL) <| fun x h => absurd h (by simp)
  · exact each_cons ⟨_, _, defOk_of X G d1 turned_row_f turned_row_s turned_row_eq (fun _ _ _ _ _ _ us hl => match us, hl with | [_], _ => rfl)⟩ <| each_cons ⟨_, _, defOk_of X G d2 swapped_f swapped_s swapped_eq (fun _ _ _ _ _ _ us hl => match us, hl with | [_, _], _ => rfl)⟩ <| each_cons ⟨_, _, defOk_of X G d3 is_out_of_order_f is_out_of_order_s is_out_of_order_eq (fun _ _ _ _ _ _ us hl => match us, hl with | [_, _], _ => rfl)⟩ <| each_cons ⟨_, _, defOk_of X G d4 behind_f behind_s behind_eq (fun _ _ _ _ _ _ us hl => match us, hl with | [_, _], _ => rfl)⟩ <| each_cons ⟨_, _, defOk_of X G d5 left_of_f left_of_s left_of_eq (fun _ _ _ _ _ _ us hl => match us, hl with | [_, _], _ => rfl)⟩ <| each_cons ⟨_, _, defOk_of X G d6 end_of_f end_of_s end_of_eq (fun _ _ _ _ _ _ us hl => match us, hl with | [_, _], _ => rfl)⟩ <| each_cons ⟨_, _, defOk_of X G d7 count_less_f count_less_s count_less_eq (fun _ _ _ _ _ _ us hl => match us, hl with | [_, _, _], _ => rfl)⟩ <| each_cons ⟨_, _, defOk_of X G d8 counts_ahead_f counts_ahead_s counts_ahead_eq (fun _ _ _ _ _ _ us hl => match us, hl with | [_], _ => rfl)⟩ <| each_cons ⟨_, _, defOk_of X G d9 is_as_sorted_f is_as_sorted_s is_as_sorted_eq (fun _ _ _ _ _ _ us hl => match us, hl with | [_, _], _ => rfl)⟩ <| each_cons ⟨_, _, defOk_of X G d10 are_as_great_f are_as_great_s are_as_great_eq (fun _ _ _ _ _ _ us hl => match us, hl with | [_, _], _ => rfl)⟩ <| each_cons ⟨_, _, defOk_of X G d11 reaches_f reaches_s reaches_eq (fun _ _ _ _ _ _ us hl => match us, hl with | [_, _], _ => rfl)⟩ <| each_cons ⟨_, _, defOk_of X G d23 is_integer_f is_integer_s is_integer_eq (fun _ _ _ _ _ _ us hl => match us, hl with | [_], _ => rfl)⟩ <| each_cons ⟨_, _, defOk_of X G d24 is_from_to_f is_from_to_s is_from_to_eq (fun _ _ _ _ _ _ us hl => match us, hl with | [_, _, _], _ => rfl)⟩ <| each_cons ⟨_, _, defOk_of X G d25 is_row_f is_row_s is_row_eq (fun _ _ _ _ _ _ us hl => match us, hl with | [_, _], _ => rfl)⟩ <| each_cons ⟨_, _, defOk_of X G d26 is_word_f is_word_s is_word_eq (fun _ _ _ _ _ _ us hl => match us, hl with | [_, _], _ => rfl)⟩ <| each_cons ⟨_, _, defOk_of X G d27 is_lot_f is_lot_s is_lot_eq (fun _ _ _ _ _ _ us hl => match us, hl with | [_, _], _ => rfl)⟩ <| each_cons ⟨_, _, defOk_of X G d28 check_cards_f check_cards_s check_cards_eq (fun _ _ _ _ _ _ us hl => match us, hl with | [_], _ => rfl)⟩ <| each_cons ⟨_, _, defOk_of X G d29 check_word_f check_word_s check_word_eq (fun _ _ _ _ _ _ us hl => match us, hl with | [_, _], _ => rfl)⟩ <| each_cons ⟨_, _, defOk_of X G d30 check_lot_f check_lot_s check_lot_eq (fun _ _ _ _ _ _ us hl => match us, hl with | [_, _], _ => rfl)⟩ <| each_cons ⟨_, _, defOk_of X G d31 check_goal_f check_goal_s check_goal_eq (fun _ _ _ _ _ _ us hl => match us, hl with | [_, _], _ => rfl)⟩ <| each_cons ⟨_, _, defOk_of X G d32 check_word_up_to_f check_word_up_to_s check_word_up_to_eq (fun _ _ _ _ _ _ us hl => match us, hl with | [_, _, _], _ => rfl)⟩ <| each_cons ⟨_, _, defOk_of X G d33 check_word_that_fails_f check_word_that_fails_s check_word_that_fails_eq (fun _ _ _ _ _ _ us hl => match us, hl with | [_, _], _ => rfl)⟩ <| each_cons ⟨_, _, defOk_of X G d34 check_task_f check_task_s check_task_eq (fun _ _ _ _ _ _ us hl => match us, hl with | [_, _, _], _ => rfl)⟩ <| each_cons ⟨_, _, defOk_of X G d36 mending_f mending_s mending_eq (fun _ _ _ _ _ _ us hl => match us, hl with | [_, _, _, _], _ => rfl)⟩ <| each_cons ⟨_, _, defOk_of X G d37 ways_to_f ways_to_s ways_to_eq (fun _ _ _ _ _ _ us hl => match us, hl with | [_, _], _ => rfl)⟩ <| each_cons ⟨_, _, defOk_of X G d38 ways_one_deed_on_f ways_one_deed_on_s ways_one_deed_on_eq (fun _ _ _ _ _ _ us hl => match us, hl with | [_], _ => rfl)⟩ <| each_cons ⟨_, _, defOk_of X G d39 spots_f spots_s spots_eq (fun _ _ _ _ _ _ us hl => match us, hl with | [_, _, _, _], _ => rfl)⟩ <| each_cons ⟨_, _, defOk_of X G d40 left_with_f left_with_s left_with_eq (fun _ _ _ _ _ _ us hl => match us, hl with | [_, _, _, _], _ => rfl)⟩ <| each_cons ⟨_, _, defOk_of X G d42 law_taken_f law_taken_s law_taken_eq (fun _ _ _ _ _ _ us hl => match us, hl with | [_, _], _ => rfl)⟩ <| each_cons ⟨_, _, defOk_of X G d43 law_pick_f law_pick_s law_pick_eq (fun _ _ _ _ _ _ us hl => match us, hl with | [_, _], _ => rfl)⟩ <| each_cons ⟨_, _, defOk_of X G d44 law_alike_f law_alike_s law_alike_eq (fun _ _ _ _ _ _ us hl => match us, hl with | [_, _], _ => rfl)⟩ <| each_cons ⟨_, _, defOk_of X G d45 law_row_f law_row_s law_row_eq (fun _ _ _ _ _ _ us hl => match us, hl with | [_, _], _ => rfl)⟩ <| each_cons ⟨_, _, defOk_of X G d46 law_word_f law_word_s law_word_eq (fun _ _ _ _ _ _ us hl => match us, hl with | [_, _, _], _ => rfl)⟩ <| each_cons ⟨_, _, defOk_of X G d47 law_lot_f law_lot_s law_lot_eq (fun _ _ _ _ _ _ us hl => match us, hl with | [_, _], _ => rfl)⟩ <| each_cons ⟨_, _, defOk_of X G d48 law_turned_f law_turned_s law_turned_eq (fun _ _ _ _ _ _ us hl => match us, hl with | [_], _ => rfl)⟩ <| each_cons ⟨_, _, defOk_of X G d49 law_swap_f law_swap_s law_swap_eq (fun _ _ _ _ _ _ us hl => match us, hl with | [_, _], _ => rfl)⟩ <| each_cons ⟨_, _, defOk_of X G d50 law_run_f law_run_s law_run_eq (fun _ _ _ _ _ _ us hl => match us, hl with | [_, _, _], _ => rfl)⟩ <| each_cons ⟨_, _, defOk_of X G d51 law_end_f law_end_s law_end_eq (fun _ _ _ _ _ _ us hl => match us, hl with | [_, _, _], _ => rfl)⟩ <| each_cons ⟨_, _, defOk_of X G d52 law_far_f law_far_s law_far_eq (fun _ _ _ _ _ _ us hl => match us, hl with | [_, _], _ => rfl)⟩ <| each_cons ⟨_, _, defOk_of X G d53 law_fine_f law_fine_s law_fine_eq (fun _ _ _ _ _ _ us hl => match us, hl with | [_, _, _, _], _ => rfl)⟩ <| each_cons ⟨_, _, defOk_of X G d54 law_goal_f law_goal_s law_goal_eq (fun _ _ _ _ _ _ us hl => match us, hl with | [_, _, _], _ => rfl)⟩ <| each_cons ⟨_, _, defOk_of X G d55 law_case_f law_case_s law_case_eq (fun _ _ _ _ _ _ us hl => match us, hl with | [_, _, _], _ => rfl)⟩ <| each_cons ⟨_, _, defOk_of X G d56 law_sorter_f law_sorter_s law_sorter_eq (fun _ _ _ _ _ _ us hl => match us, hl with | [_], _ => rfl)⟩ <| each_cons ⟨_, _, defOk_of X G d57 law_next_words_f law_next_words_s law_next_words_eq (fun _ _ _ _ _ _ us hl => match us, hl with | [_, _], _ => rfl)⟩ <| each_cons ⟨_, _, defOk_of X G d58 law_f law_s law_eq (fun _ _ _ _ _ _ us hl => match us, hl with | [_], _ => rfl)⟩ <| fun x h => absurd h (by simp)
end Pi
open PySem PySem.W PyProof.Rows in
set_option maxRecDepth 100000 in
set_option maxHeartbeats 0 in
theorem PySem.Challenge.cw_sturdysort_k53_whole_mending_holds : PySem.Challenge.rw_sturdysort_k53_whole_mending.Holds := by
  w_on; o_law; k_head; (case hw => w_witness2)
  k_fill
  refine Pi.law_walk (T := Pi.T0) (fns := Pi.fns) (gls := Pi.gls) (fl := Pi.fl) (k := 60) (fuel := 60) (f := "law") (n := 63) (x := "script") (di := Pi.law_d) (l := PySem.Challenge.rw_sturdysort_k53_whole_mending) rfl (by decide) rfl ⟨rfl, by decide, by decide⟩ rfl (by kernel_rfl) Pi.law_f rfl (fun w h Y => PySem.W.kIn_of Y) ?F (Pi.law_true 63)
  case F =>
    intro w mg h KX G
    refine' Pi.all_mk KX G ?d1 ?d2 ?d3 ?d4 ?d5 ?d6 ?d7 ?d8 ?d9 ?d10 ?d11 ?d23 ?d24 ?d25 ?d26 ?d27 ?d28 ?d29 ?d30 ?d31 ?d32 ?d33 ?d34 ?d36 ?d37 ?d38 ?d39 ?d40 ?d42 ?d43 ?d44 ?d45 ?d46 ?d47 ?d48 ?d49 ?d50 ?d51 ?d52 ?d53 ?d54 ?d55 ?d56 ?d57 ?d58 ?b_len ?b_int ?b_str ?b_list ?b_tuple ?b_sorted ?b_min ?b_max ?b_sum ?b_abs ?b_all ?b_any ?b_isinstance ?b_range ?b_enumerate ?b_zip ?b_bool ?b_dict ?b_reversed ?b_set ?g_MOST_CARDS ?g_MOST_DEEDS ?g_MOST_DEEDS_THAT_FAIL
    (case d1 => refine' Pi.defIn_mk ?a ?l ?c ?k; (case a => k_is); (case l => k_is); (case c => k_is); (case k => k_is))
    (case d2 => refine' Pi.defIn_mk ?a ?l ?c ?k; (case a => k_is); (case l => k_is); (case c => k_is); (case k => k_is))
    (case d3 => refine' Pi.defIn_mk ?a ?l ?c ?k; (case a => k_is); (case l => k_is); (case c => k_is); (case k => k_is))
    (case d4 => refine' Pi.defIn_mk ?a ?l ?c ?k; (case a => k_is); (case l => k_is); (case c => k_is); (case k => k_is))
    (case d5 => refine' Pi.defIn_mk ?a ?l ?c ?k; (case a => k_is); (case l => k_is); (case c => k_is); (case k => k_is))
    (case d6 => refine' Pi.defIn_mk ?a ?l ?c ?k; (case a => k_is); (case l => k_is); (case c => k_is); (case k => k_is))
    (case d7 => refine' Pi.defIn_mk ?a ?l ?c ?k; (case a => k_is); (case l => k_is); (case c => k_is); (case k => k_is))
    (case d8 => refine' Pi.defIn_mk ?a ?l ?c ?k; (case a => k_is); (case l => k_is); (case c => k_is); (case k => k_is))
    (case d9 => refine' Pi.defIn_mk ?a ?l ?c ?k; (case a => k_is); (case l => k_is); (case c => k_is); (case k => k_is))
    (case d10 => refine' Pi.defIn_mk ?a ?l ?c ?k; (case a => k_is); (case l => k_is); (case c => k_is); (case k => k_is))
    (case d11 => refine' Pi.defIn_mk ?a ?l ?c ?k; (case a => k_is); (case l => k_is); (case c => k_is); (case k => k_is))
    (case d23 => refine' Pi.defIn_mk ?a ?l ?c ?k; (case a => k_is); (case l => k_is); (case c => k_is); (case k => k_is))
    (case d24 => refine' Pi.defIn_mk ?a ?l ?c ?k; (case a => k_is); (case l => k_is); (case c => k_is); (case k => k_is))
    (case d25 => refine' Pi.defIn_mk ?a ?l ?c ?k; (case a => k_is); (case l => k_is); (case c => k_is); (case k => k_is))
    (case d26 => refine' Pi.defIn_mk ?a ?l ?c ?k; (case a => k_is); (case l => k_is); (case c => k_is); (case k => k_is))
    (case d27 => refine' Pi.defIn_mk ?a ?l ?c ?k; (case a => k_is); (case l => k_is); (case c => k_is); (case k => k_is))
    (case d28 => refine' Pi.defIn_mk ?a ?l ?c ?k; (case a => k_is); (case l => k_is); (case c => k_is); (case k => k_is))
    (case d29 => refine' Pi.defIn_mk ?a ?l ?c ?k; (case a => k_is); (case l => k_is); (case c => k_is); (case k => k_is))
    (case d30 => refine' Pi.defIn_mk ?a ?l ?c ?k; (case a => k_is); (case l => k_is); (case c => k_is); (case k => k_is))
    (case d31 => refine' Pi.defIn_mk ?a ?l ?c ?k; (case a => k_is); (case l => k_is); (case c => k_is); (case k => k_is))
    (case d32 => refine' Pi.defIn_mk ?a ?l ?c ?k; (case a => k_is); (case l => k_is); (case c => k_is); (case k => k_is))
    (case d33 => refine' Pi.defIn_mk ?a ?l ?c ?k; (case a => k_is); (case l => k_is); (case c => k_is); (case k => k_is))
    (case d34 => refine' Pi.defIn_mk ?a ?l ?c ?k; (case a => k_is); (case l => k_is); (case c => k_is); (case k => k_is))
    (case d36 => refine' Pi.defIn_mk ?a ?l ?c ?k; (case a => k_is); (case l => k_is); (case c => k_is); (case k => k_is))
    (case d37 => refine' Pi.defIn_mk ?a ?l ?c ?k; (case a => k_is); (case l => k_is); (case c => k_is); (case k => k_is))
    (case d38 => refine' Pi.defIn_mk ?a ?l ?c ?k; (case a => k_is); (case l => k_is); (case c => k_is); (case k => k_is))
    (case d39 => refine' Pi.defIn_mk ?a ?l ?c ?k; (case a => k_is); (case l => k_is); (case c => k_is); (case k => k_is))
    (case d40 => refine' Pi.defIn_mk ?a ?l ?c ?k; (case a => k_is); (case l => k_is); (case c => k_is); (case k => k_is))
    (case d42 => refine' Pi.defIn_mk ?a ?l ?c ?k; (case a => k_is); (case l => k_is); (case c => k_is); (case k => k_is))
    (case d43 => refine' Pi.defIn_mk ?a ?l ?c ?k; (case a => k_is); (case l => k_is); (case c => k_is); (case k => k_is))
    (case d44 => refine' Pi.defIn_mk ?a ?l ?c ?k; (case a => k_is); (case l => k_is); (case c => k_is); (case k => k_is))
    (case d45 => refine' Pi.defIn_mk ?a ?l ?c ?k; (case a => k_is); (case l => k_is); (case c => k_is); (case k => k_is))
    (case d46 => refine' Pi.defIn_mk ?a ?l ?c ?k; (case a => k_is); (case l => k_is); (case c => k_is); (case k => k_is))
    (case d47 => refine' Pi.defIn_mk ?a ?l ?c ?k; (case a => k_is); (case l => k_is); (case c => k_is); (case k => k_is))
    (case d48 => refine' Pi.defIn_mk ?a ?l ?c ?k; (case a => k_is); (case l => k_is); (case c => k_is); (case k => k_is))
    (case d49 => refine' Pi.defIn_mk ?a ?l ?c ?k; (case a => k_is); (case l => k_is); (case c => k_is); (case k => k_is))
    (case d50 => refine' Pi.defIn_mk ?a ?l ?c ?k; (case a => k_is); (case l => k_is); (case c => k_is); (case k => k_is))
    (case d51 => refine' Pi.defIn_mk ?a ?l ?c ?k; (case a => k_is); (case l => k_is); (case c => k_is); (case k => k_is))
    (case d52 => refine' Pi.defIn_mk ?a ?l ?c ?k; (case a => k_is); (case l => k_is); (case c => k_is); (case k => k_is))
    (case d53 => refine' Pi.defIn_mk ?a ?l ?c ?k; (case a => k_is); (case l => k_is); (case c => k_is); (case k => k_is))
    (case d54 => refine' Pi.defIn_mk ?a ?l ?c ?k; (case a => k_is); (case l => k_is); (case c => k_is); (case k => k_is))
    (case d55 => refine' Pi.defIn_mk ?a ?l ?c ?k; (case a => k_is); (case l => k_is); (case c => k_is); (case k => k_is))
    (case d56 => refine' Pi.defIn_mk ?a ?l ?c ?k; (case a => k_is); (case l => k_is); (case c => k_is); (case k => k_is))
    (case d57 => refine' Pi.defIn_mk ?a ?l ?c ?k; (case a => k_is); (case l => k_is); (case c => k_is); (case k => k_is))
    (case d58 => refine' Pi.defIn_mk ?a ?l ?c ?k; (case a => k_is); (case l => k_is); (case c => k_is); (case k => k_is))
    (case b_len => k_is)
    (case b_int => k_is)
    (case b_str => k_is)
    (case b_list => k_is)
    (case b_tuple => k_is)
    (case b_sorted => k_is)
    (case b_min => k_is)
    (case b_max => k_is)
    (case b_sum => k_is)
    (case b_abs => k_is)
    (case b_all => k_is)
    (case b_any => k_is)
    (case b_isinstance => k_is)
    (case b_range => k_is)
    (case b_enumerate => k_is)
    (case b_zip => k_is)
    (case b_bool => k_is)
    (case b_dict => k_is)
    (case b_reversed => k_is)
    (case b_set => k_is)
    (case g_MOST_CARDS => k_is)
    (case g_MOST_DEEDS => k_is)
    (case g_MOST_DEEDS_THAT_FAIL => k_is)
