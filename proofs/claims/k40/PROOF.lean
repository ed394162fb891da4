import PyProof.Rows.All
import Wide.All
import OpenK.AllK
import Wide.FinOn
import HandS.Codes
import HandS.Conv
import HandS.Deep
import HandS.Defaults
import HandS.Dict
import HandS.DictComp
import HandS.DictEq
import HandS.FStr
import HandS.Flow
import HandS.ForExc
import HandS.ForMost
import HandS.IsInst
import HandS.ListEq
import HandS.ListItems
import HandS.More
import HandS.Property
import HandS.RaiseMore
import HandS.Set
import HandS.SetBool
import HandS.SetFor
import HandS.Star
import HandS.StrMore
import HandS.Strs
import HandS.Style
import HandS.TryOnly
import HandS.TupAny
import HandS.TupSets
import HandS.Walk
import HandS.Zip
import HandS.Zip0
import KE.GoesMore
import KE.KDictList
import PyProof.DictUpdate
import PyProof.EnumMake
import PyProof.MeetsSeq2
import PyProof.Rows.StrNews2
import PySem.Challenge.RW_everylevel_k40_following_known_by_hand
/-! P0 -/
section
set_option Elab.async false
set_option linter.all false
set_option maxRecDepth 100000
namespace Pg
open PySem L2
def top (i : Nat) : Stmt := PySem.Challenge.pw_everylevel_k40_following_known_by_hand.main.body.getD i (.Pass ⟨0, 0, 0, 0⟩)
abbrev st__wall : Stmt := top 0
abbrev cl_LevelError : Stmt := top 2
abbrev cl_InvalidLevel : Stmt := top 3
abbrev cl_InvalidDemand : Stmt := top 4
abbrev cl_InvalidBook : Stmt := top 5
abbrev cl_InvalidText : Stmt := top 6
abbrev cl_InvalidNumbers : Stmt := top 7
abbrev st_is_whole : Stmt := top 12
abbrev st_is_number : Stmt := top 13
abbrev st_is_sequence : Stmt := top 14
abbrev st_is_name : Stmt := top 15
abbrev st_are_names : Stmt := top 16
abbrev st_check_numbers : Stmt := top 17
abbrev st_tokens_of : Stmt := top 18
abbrev st__token_at : Stmt := top 19
abbrev st_steps_of : Stmt := top 20
abbrev st__leaf : Stmt := top 21
abbrev st_is_numeral : Stmt := top 22
abbrev st__is_full : Stmt := top 23
abbrev st_steps_within : Stmt := top 24
abbrev st_read_within : Stmt := top 25
abbrev st_parts_of : Stmt := top 26
abbrev st_parts_within : Stmt := top 27
abbrev st_names_in : Stmt := top 28
abbrev st_worth : Stmt := top 29
abbrev st_is_true : Stmt := top 30
abbrev st_atoms_in : Stmt := top 32
abbrev st__greatest : Stmt := top 33
abbrev st_cases_of : Stmt := top 34
abbrev st__open_name : Stmt := top 35
abbrev st_steps_in : Stmt := top 36
abbrev st_sides_of : Stmt := top 37
abbrev st_denials_of : Stmt := top 38
abbrev st_bounds_in : Stmt := top 39
abbrev st_settle : Stmt := top 41
abbrev st__lower_bounds : Stmt := top 42
abbrev st__values_with : Stmt := top 43
abbrev st_same_tops : Stmt := top 44
abbrev st_some_in : Stmt := top 45
abbrev st_rise_in : Stmt := top 46
abbrev st__rise : Stmt := top 47
abbrev st_follows : Stmt := top 49
abbrev st_counter : Stmt := top 50
abbrev st__counter_in : Stmt := top 51
abbrev st_excess : Stmt := top 52
abbrev st_no_wider : Stmt := top 53
abbrev st_unlike : Stmt := top 54
abbrev st__only_in : Stmt := top 55
abbrev cl_Book : Stmt := top 57
abbrev st__law_box : Stmt := top 59
abbrev st__law_take : Stmt := top 60
abbrev st__law_pick : Stmt := top 61
abbrev st__law_mixed : Stmt := top 62
abbrev st__law_ring_right : Stmt := top 63
abbrev st_law : Stmt := top 64
end Pg
end
/-! Ev -/
section
set_option Elab.async false
set_option linter.all false
set_option autoImplicit false
namespace Ev
abbrev Cs := List Nat
inductive DK where
  | i (n : Int) | s (l : Cs)
  deriving DecidableEq, Repr
/-- data, without a heap -/
inductive D where
  | non | bl (b : Bool) | int (i : Int) | str (l : Cs)
  | tup (ds : List D) | lst (ds : List D) | dct (kvs : List (DK × D))
  | ins (c : Nat) (fs : List (DK × D)) | scr (ns : List Int)
/-- what a name of one's own holds and may change -/
inductive M where
  | lst (ds : List D) | dct (kvs : List (DK × D)) | ins (c : Nat) (fs : List (DK × D))
def M.dat : M → D
  | .lst ds => .lst ds
  | .dct k => .dct k
  | .ins c f => .ins c f
inductive EV where
  | no | val (d : D) | own (m : M) (pin lk : Bool)
  /-- a value that is not looked at and not replaced -/
  | kept
abbrev Env := List EV
inductive RV where
  | d (x : D) | f (m : M) | p (i : Nat)
structure Exc where
  c : Nat
  fs : List (DK × D)
inductive Out (α : Type) where
  | ok (a : α) (ρ : Env) | exc (x : Exc) (ρ : Env) | bad
def Out.bind {α β : Type} (o : Out α) (k : α → Env → Out β) : Out β := match o with
  | .ok a ρ => k a ρ
  | .exc x ρ => .exc x ρ
  | .bad => .bad
@[simp] theorem Out.bind_ok {α β : Type} (a : α) (ρ : Env) (k : α → Env → Out β) : (Out.ok a ρ).bind k = k a ρ := rfl
@[simp] theorem Out.bind_exc {α β : Type} (x : Exc) (ρ : Env) (k : α → Env → Out β) : (Out.exc x ρ : Out α).bind k = .exc x ρ := rfl
@[simp] theorem Out.bind_bad {α β : Type} (k : α → Env → Out β) : (Out.bad : Out α).bind k = .bad := rfl
def Out.of {α : Type} (ρ : Env) : Option α → Out α
  | some a => .ok a ρ
  | none => .bad
@[simp] theorem Out.of_some {α : Type} (ρ : Env) (a : α) : Out.of ρ (some a) = .ok a ρ := rfl
@[simp] theorem Out.of_none {α : Type} (ρ : Env) : Out.of ρ (none : Option α) = .bad := rfl
def gtS : Env → Nat → EV
  | [], _ => .no
  | e :: _, 0 => e
  | _ :: r, i + 1 => gtS r i
/-- the same, in the kernel's own words -/
noncomputable def gtR (ρ : Env) : Nat → EV := @List.rec EV (fun _ => Nat → EV) (fun _ => .no) (fun e _ ih i => @Nat.rec (fun _ => EV) e (fun j _ => ih j) i) ρ
theorem gtR_gtS : ∀ (ρ : Env) (i : Nat), gtR ρ i = gtS ρ i
  | [], _ => rfl
  | _ :: _, 0 => rfl
  | _ :: r, i + 1 => gtR_gtS r i
def gt (ρ : Env) (i : Nat) : EV := gtS ρ i
theorem gt_def : ∀ (ρ : Env) (i : Nat), gt ρ i = (ρ[i]?).getD .no
  | [], _ => rfl
  | _ :: _, 0 => rfl
  | _ :: r, i + 1 => by
    rw [List.getElem?_cons_succ]
    exact gt_def r i
def SZ : Nat := 16777216
def look (ρ : Env) : RV → Option D
  | .d x => some x
  | .f m => some m.dat
  | .p i => match gt ρ i with
    | .own m _ _ => some m.dat
    | _ => none
/-- an operand that other things may be read behind: a new object is frozen -/
def RV.hold : RV → RV
  | .f m => .d m.dat
  | r => r

/-! ### operators -/
inductive BOp where | add | sub | mul | fdiv | mod | pow
  deriving DecidableEq
inductive COp where | lt | le | gt | ge | eq | ne | inn | nin | is | nis
  deriving DecidableEq
def key? : D → Option DK
  | .int i => some (.i i)
  | .str l => some (.s l)
  | _ => none
def DK.dat : DK → D
  | .i n => .int n
  | .s l => .str l
def getK (kvs : List (DK × D)) (k : DK) : Option D := (kvs.find? fun kv => decide (kv.1 = k)).map (·.2)
def putK (kvs : List (DK × D)) (k : DK) (v : D) : List (DK × D) := if kvs.any fun kv => decide (kv.1 = k) then kvs.map fun kv => if kv.1 = k then (kv.1, v) else kv else kvs ++ [(k, v)]
def mergeK (kvs more : List (DK × D)) : List (DK × D) := more.foldl (fun acc kv => putK acc kv.1 kv.2) kvs

mutual
/-- == where it is asked of data without dicts and instances -/
def eqv : D → D → Bool
  | .non, .non => true
  | .bl a, .bl b => a == b
  | .bl a, .int j => (if a then 1 else 0) == j
  | .int i, .bl b => i == (if b then 1 else 0)
  | .int i, .int j => i == j
  | .str a, .str b => decide (a = b)
  | .tup xs, .tup ys => eqvs xs ys
  | .lst xs, .lst ys => eqvs xs ys
  | _, _ => false
def eqvs : List D → List D → Bool
  | [], [] => true
  | x :: xs, y :: ys => eqv x y && eqvs xs ys
  | _, _ => false
end
mutual
/-- no dict, no instance, at most n deep -/
def plain : Nat → D → Bool
  | _, .non | _, .bl _ | _, .int _ | _, .str _ => true
  | 0, .tup _ | 0, .lst _ => false
  | n + 1, .tup ds | n + 1, .lst ds => plains n ds
  | _, .dct _ | _, .ins _ _ | _, .scr _ => false
def plains : Nat → List D → Bool
  | _, [] => true
  | n, d :: ds => plain n d && plains n ds
end
def scal : D → Bool
  | .non | .bl _ | .int _ | .str _ => true
  | _ => false
def flat : M → Bool
  | .lst ds => ds.all scal
  | .dct k => k.all fun x => scal x.2
  | .ins _ f => f.all fun x => scal x.2

def binE : BOp → D → D → Option RV
  | .add, .int i, .int j => some (.d (.int (i + j)))
  | .add, .str a, .str b => if a.length + b.length ≤ SZ then some (.d (.str (a ++ b))) else none
  | .add, .lst a, .lst b => if a.length + b.length ≤ SZ then some (.f (.lst (a ++ b))) else none
  | .add, .tup a, .tup b => if a.length + b.length ≤ SZ then some (.d (.tup (a ++ b))) else none
  | .sub, .int i, .int j => some (.d (.int (i - j)))
  | .mul, .int i, .int j => if (-(2 ^ 64) < i ∧ i < 2 ^ 64) ∨ (-(2 ^ 64) < j ∧ j < 2 ^ 64) then some (.d (.int (i * j))) else none
  | .fdiv, .int i, .int j => if 0 < j ∧ j < 1073741824 then some (.d (.int (i / j))) else none
  | .mod, .int i, .int j => if 0 < j then some (.d (.int (i % j))) else none
  | .pow, .int i, .int j => if 0 ≤ j ∧ j ≤ 1000000 ∧ i.natAbs < 2 ^ 64 then some (.d (.int (i ^ j.toNat))) else none
  | _, _, _ => none
def eqE (a b : D) : Option Bool := if plain 40 a && plain 40 b then some (eqv a b) else none
def memE (x : D) : D → Option Bool
  | .lst ds => if plain 39 x && plains 39 ds then some (ds.any fun z => eqv z x) else none
  | .tup ds => if plain 39 x && plains 39 ds then some (ds.any fun z => eqv z x) else none
  | .dct kvs => match key? x with
    | some k => some (getK kvs k).isSome
    | none => none
  | .str l => match x with
    | .str z => some (!(PySem.Builtin.Str.occurrences (SX.S l) (SX.S z) 0 (SX.S l).length 1).isEmpty)
    | _ => none
  | _ => none
def eqKd (kb : List (DK × D)) : List (DK × D) → Bool
  | [] => true
  | (k, d) :: r => match getK kb k with
    | some x => eqv d x && eqKd kb r
    | none => false
def eqX (a b : D) : Option Bool := match a, b with
  | .dct ka, .dct kb => if (ka.all fun p => scal p.2) && (kb.all fun p => scal p.2) then some (ka.length == kb.length && eqKd kb ka) else none
  | a, b => eqE a b
def cmpE : COp → D → D → Option Bool
  | .lt, .int i, .int j => some (decide (i < j))
  | .le, .int i, .int j => some (decide (i ≤ j))
  | .gt, .int i, .int j => some (decide (j < i))
  | .ge, .int i, .int j => some (decide (j ≤ i))
  | .eq, a, b => eqX a b
  | .ne, a, b => (eqE a b).map (!·)
  | .inn, a, b => memE a b
  | .nin, a, b => (memE a b).map (!·)
  | .is, .non, .non => some true
  | .is, _, .non => some false
  | .is, .bl a, .bl b => some (a == b)
  | .nis, .non, .non => some false
  | .nis, _, .non => some true
  | .nis, .bl a, .bl b => some (!(a == b))
  | _, _, _ => none
def truth : D → Option Bool
  | .non => some false
  | .bl b => some b
  | .int i => some (i != 0)
  | .str l => some (!l.isEmpty)
  | .tup ds => some (!ds.isEmpty)
  | .lst ds => some (!ds.isEmpty)
  | .dct kvs => some (!kvs.isEmpty)
  | .ins _ _ => none
  | .scr _ => none
def idxE : D → D → Option D
  | .lst ds, .int i => L2.atI ds i
  | .tup ds, .int i => L2.atI ds i
  | .str l, .int i => (L2.atI l i).map fun c => .str [c]
  | .dct kvs, k => (key? k).bind (getK kvs)
  | .scr ns, .int i => (L2.atI ns i).map .int
  | _, _ => none
def cut {α : Type} (xs : List α) (lo hi : Option Int) : List α := (xs.drop (HT.sIx xs.length 0 lo)).take (HT.sIx xs.length xs.length hi - HT.sIx xs.length 0 lo)
def slcE : D → Option Int → Option Int → Option RV
  | .lst ds, lo, hi => some (.f (.lst (cut ds lo hi)))
  | .tup ds, lo, hi => some (.d (.tup (cut ds lo hi)))
  | .str l, lo, hi => some (.d (.str (cut l lo hi)))
  | _, _, _ => none
def partE : Option D → Option (Option Int)
  | none => some none
  | some (.int i) => some (some i)
  | _ => none
def isTupR : RV → Bool
  | .d (.tup _) => true
  | _ => false
/-- what is walked -/
def items : D → Option (List D)
  | .lst ds => some ds
  | .tup ds => some ds
  | .str l => some (l.map fun c => .str [c])
  | _ => none

/-! ### the terms -/
inductive Tg where
  | n (i : Nat) | t (ts : List Tg)
inductive BI where
  | len | abs | int | str | max | min | list | tuple | any | all | sum | dict | sorted | bool
  deriving DecidableEq
inductive MT where
  | join | get1 | get2 | index
  deriving DecidableEq
/-- tests of texts without arguments -/
inductive M0 where
  | ascii | alpha | lower | digit | alnum
  deriving DecidableEq
/-- pure forms: all operands are values that are read -/
inductive FX where
  | m0 (m : M0) | sw3 | parti | isi (ts : List Nat) | isiT (ts : List Nat) | tupI | lstV | lset
  deriving DecidableEq
inductive IE where
  | fx (f : FX) (es : List IE)
  | att (e : IE) (a : Cs)
  | mk (c f : Nat) (es : List IE) | meth (c f : Nat) (m : Cs) (o : IE) (es : List IE) | prop (c f : Nat) (o : IE)
  | inKD (g : Nat) (neg : Bool) (e : IE) | ixKD (g : Nat) (e : IE)
  | lc2 (own : List Nat) (tg : Tg) (it : IE) (cs : List IE) (own1 : List Nat) (tg1 : Tg) (it1 : IE) (cs1 : List IE) (e : IE)
  | scs (own : List Nat) (tg : Tg) (it : IE) (lk : Option Nat) (cs : List IE) (e : IE)
  | dspS (e : IE) (es : List IE) | fstr (es : List IE)
  | var (i : Nat) | peek (i : Nat) | take (i : Nat) | frz (i : Nat)
  | lit (d : D) | glob (g : Nat)
  | tup (es : List IE) | lst (es : List IE) | star (e : IE) | tupS (es : List IE) | lstS (es : List IE)
  | dsp (kvs : List IE)
  | bin (op : BOp) (a b : IE) | neg (a : IE) | cmp (op : COp) (a b : IE)
  | and (a b : IE) | or (a b : IE) | not (a : IE) | tru (a : IE) | ite (c a b : IE)
  | idx (a b : IE) | slc (a : IE) (lo hi : Option IE)
  | bi (f : BI) (es : List IE) | mt (m : MT) (o : IE) (es : List IE)
  | call (f : Nat) (rf : Option Nat) (es : List IE)
  | pop (i : Nat) | popAt (i : Nat) (e : IE)
  | lc (own : List Nat) (tg : Tg) (it : IE) (lk : Option Nat) (cs : List IE) (e : IE)
  | dc (own : List Nat) (tg : Tg) (it : IE) (lk : Option Nat) (cs : List IE) (k v : IE)
  | rng1 (e : IE) | rng2 (a b : IE) | enm (e : IE) | zip (a b : IE) | itms (e : IE) | vals (e : IE) | keys (e : IE) | itmF (e : IE) | itmD (e : IE)

inductive Ar where
  | d (x : D) | m (m : M)
inductive Res where
  | ok (r : RV) (back : Option M) | exc (x : Exc) (back : Option M) | bad
structure Cn where
  call : Nat → List Ar → Res
  /-- a level lower: making things, properties -/
  cmk : Nat → List Ar → Res
  glob : Nat → Option D
  /-- written dicts of texts -/
  gdic : Nat → Option (List (Cs × D))
  /-- names that instances of a class may have -/
  fld : Nat → Cs → Bool
  W : Nat

def stxS : Env → Nat → EV → Env
  | [], _, _ => []
  | _ :: r, 0, v => v :: r
  | e :: r, i + 1, v => e :: stxS r i v
noncomputable def stxR (ρ : Env) : Nat → EV → Env := @List.rec EV (fun _ => Nat → EV → Env) (fun _ _ => []) (fun e r ih i v => @Nat.rec (fun _ => Env) (v :: r) (fun j _ => e :: ih j v) i) ρ
theorem stxR_stxS : ∀ (ρ : Env) (i : Nat) (v : EV), stxR ρ i v = stxS ρ i v
  | [], _, _ => rfl
  | _ :: _, 0, _ => rfl
  | e :: r, i + 1, v => congrArg (e :: ·) (stxR_stxS r i v)
def setE (ρ : Env) (i : Nat) (e : EV) : Env := stxS ρ i e
theorem setE_def : ∀ (ρ : Env) (i : Nat) (e : EV), setE ρ i e = ρ.set i e
  | [], _, _ => rfl
  | _ :: _, 0, _ => rfl
  | e :: r, i + 1, v => congrArg (e :: ·) (setE_def r i v)
def pinned (ρ : Env) (i : Nat) : Bool := match gt ρ i with
  | .own _ pin _ => pin
  | .kept => true
  | _ => false
mutual
def bindT : Tg → D → Env → Option Env
  | .n i, d, ρ => if pinned ρ i then none else some (setE ρ i (.val d))
  | .t ts, .tup ds, ρ => bindTs ts ds ρ
  | .t ts, .lst ds, ρ => bindTs ts ds ρ
  | .t _, _, _ => none
def bindTs : List Tg → List D → Env → Option Env
  | [], [], ρ => some ρ
  | t :: ts, d :: ds, ρ => (bindT t d ρ).bind (bindTs ts ds)
  | _, _, _ => none
end
def wipeE : List Nat → Env → Env
  | [], ρ => ρ
  | i :: r, ρ => setE (wipeE r ρ) i .no
def keptE : List Nat → Env → Env
  | [], ρ => ρ
  | i :: r, ρ => setE (keptE r ρ) i .kept
def showE (ρ0 : Env) : List Nat → Env → Env
  | [], ρ => ρ
  | i :: r, ρ => setE (showE ρ0 r ρ) i (gt ρ0 i)
def isV (ρ : Env) (i : Nat) : Bool := match gt ρ i with
  | .val _ => true
  | _ => false
def loose (ρ : Env) (i : Nat) : Bool := match gt ρ i with
  | .own _ p l => !p && !l
  | .kept => false
  | _ => true
/-- the slots of a target -/
def tgS : Tg → List Nat
  | .n i => [i]
  | .t ts => tgSs ts
where tgSs : List Tg → List Nat
  | [] => []
  | t :: r => tgS t ++ tgSs r
/-- none of these slots is pinned -/
def noPin (own : List Nat) (ρ : Env) : Bool := own.all fun i => !pinned ρ i

def rvOk : RV → Bool
  | .d _ => true
  | .f _ => true
  | .p _ => false
def flatR : RV → Bool
  | .d x => scal x
  | .f m => flat m
  | .p _ => false
def datAll : List RV → Option (List D)
  | [] => some []
  | .d x :: r => (datAll r).map (x :: ·)
  | _ :: _ => none
/-- the argument at place j is handed on to be changed, all others are values -/
def argsAt : List RV → Nat → M → Option (List Ar)
  | .p _ :: r, 0, m => (datAll r).map fun ds => .m m :: ds.map .d
  | .d x :: r, j + 1, m => (argsAt r j m).map (.d x :: ·)
  | _, _, _ => none
def intsD : List D → Option (List Int)
  | [] => some []
  | .int i :: r => (intsD r).map (i :: ·)
  | _ :: _ => none
def boolsD : List D → Option (List Bool)
  | [] => some []
  | .bl b :: r => (boolsD r).map (b :: ·)
  | _ :: _ => none
def maxI : List Int → Int
  | [] => 0
  | [x] => x
  | x :: y :: r => max x (maxI (y :: r))
def minI : List Int → Int
  | [] => 0
  | [x] => x
  | x :: y :: r => min x (minI (y :: r))
def insBy {α : Type} (le : α → α → Bool) (x : α) : List α → List α
  | [] => [x]
  | y :: r => if le x y then x :: y :: r else y :: insBy le x r
def sortBy {α : Type} (le : α → α → Bool) : List α → List α
  | [] => []
  | x :: r => insBy le x (sortBy le r)
def leI (a b : Int) : Bool := decide (a ≤ b)
def sortI : List Int → List Int := sortBy leI
def strsD : List D → Option (List Cs)
  | [] => some []
  | .str l :: r => (strsD r).map (l :: ·)
  | _ :: _ => none
def leS (a b : Cs) : Bool := decide (a ≤ b)
def sortS : List Cs → List Cs := sortBy leS
def seqOf : D → Option (List D)
  | .lst ds => some ds
  | .tup ds => some ds
  | _ => none
def pairsOf : List D → Option (List (DK × D))
  | [] => some []
  | .tup [k, v] :: r => (key? k).bind fun k => (pairsOf r).map ((k, v) :: ·)
  | _ :: _ => none
def strOf (i : Int) : Cs := (((toString i : String) : PySem.Str)).cps.toList
def biE : BI → List D → Option RV
  | .len, [.lst ds] => some (.d (.int ds.length))
  | .len, [.tup ds] => some (.d (.int ds.length))
  | .len, [.str l] => some (.d (.int l.length))
  | .len, [.dct kvs] => some (.d (.int kvs.length))
  | .len, [.scr ns] => some (.d (.int ns.length))
  | .abs, [.int i] => some (.d (.int (if i < 0 then -i else i)))
  | .int, [.int i] => some (.d (.int i))
  | .int, [.bl b] => some (.d (.int (if b then 1 else 0)))
  | .int, [.str l] => if l.length ≤ 640 then (PySem.intText? (SX.S l)).map fun i => .d (.int i) else none
  | .bool, [.int i] => some (.d (.bl (i != 0)))
  | .bool, [.bl b] => some (.d (.bl b))
  | .str, [.int i] => if i.natAbs.log2 < 1920 ∧ (strOf i).length ≤ SZ then some (.d (.str (strOf i))) else none
  | .max, [.int i, .int j] => some (.d (.int (if j > i then j else i)))
  | .min, [.int i, .int j] => some (.d (.int (if j < i then j else i)))
  | .max, [.lst ds] => (intsD ds).bind fun ns => if ns.length = 0 then none else some (.d (.int (maxI ns)))
  | .min, [.lst ds] => (intsD ds).bind fun ns => if ns.length = 0 then none else some (.d (.int (minI ns)))
  | .sum, [.lst ds] => (intsD ds).map fun ns => .d (.int ns.sum)
  | .any, [.lst ds] => (boolsD ds).map fun bs => .d (.bl (bs.any id))
  | .all, [.lst ds] => (boolsD ds).map fun bs => .d (.bl (bs.all id))
  | .list, [d] => (seqOf d).map fun ds => .f (.lst ds)
  | .tuple, [d] => (seqOf d).map fun ds => .d (.tup ds)
  | .dict, [.lst ds] => (pairsOf ds).map fun kvs => .f (.dct (mergeK [] kvs))
  | .dict, [.dct kvs] => some (.f (.dct kvs))
  | .sorted, [.lst ds] => if ds.length < 64 then (match intsD ds with
    | some ns => some (.f (.lst ((sortI ns).map .int)))
    | none => match strsD ds with
      | some ls => some (.f (.lst ((sortS ls).map .str)))
      | none => none) else none
  | _, _ => none
def mtE : MT → D → List D → Option RV
  | .get1, .dct kvs, [k] => (key? k).map fun k => .d ((getK kvs k).getD .non)
  | .join, .str a, [.lst ds] => match strsD ds with
    | some ls => if (ls.map (·.length)).sum + ls.length * a.length ≤ 16777216 ∧ ((TL.joinL a ls).all (fun c => decide (c < 0x110000)) && decide ((TL.joinL a ls).length ≤ SZ)) = true then some (.d (.str (TL.joinL a ls))) else none
    | none => none
  | .get2, .dct kvs, [k, x] => (key? k).map fun k => .d ((getK kvs k).getD x)
  | _, _, _ => none
/-- what a method is asked of -/
def mtP : MT → Option D → Bool
  | .get1, some (.dct _) | .get2, some (.dct _) => true
  | .join, some (.str _) => true
  | .index, some (.lst _) => true
  | _, _ => false
def RV.dat? : RV → Option D
  | .d x => some x
  | .f m => some m.dat
  | .p _ => none
def lookAll (ρ : Env) : List RV → Option (List D)
  | [] => some []
  | r :: rs => (look ρ r).bind fun x => (lookAll ρ rs).map (x :: ·)
def blOf : RV → Option Bool
  | .d (.bl b) => some b
  | _ => none
def kOk : DK → Bool
  | .i _ => true
  | .s l => l.all (fun c => decide (c < 0x110000)) && decide (l.length ≤ SZ)
def pairsD (kvs : List (DK × D)) : List D := kvs.map fun kv => .tup [kv.1.dat, kv.2]
def m0T : M0 → Cs → Bool
  | .ascii, l => PySem.Txt.isascii (SX.S l)
  | .alpha, l => PySem.Txt.isalpha (SX.S l)
  | .lower, l => PySem.Txt.islower (SX.S l)
  | .digit, l => PySem.Txt.isdigit (SX.S l)
  | .alnum, l => PySem.Txt.isalnum (SX.S l)
def alphaA (c : Nat) : Bool := (Nat.ble 97 c && Nat.ble c 122) || (Nat.ble 65 c && Nat.ble c 90)
def digitA (c : Nat) : Bool := Nat.ble 48 c && Nat.ble c 57
def lowerA (c : Nat) : Bool := Nat.ble 97 c && Nat.ble c 122
def upperA (c : Nat) : Bool := Nat.ble 65 c && Nat.ble c 90
/-- the same, quick where all is ASCII -/
def m0E (m : M0) (l : Cs) : Bool := if l.all (fun c => Nat.blt c 128) then (match m with
    | .ascii => true
    | .alpha => !l.isEmpty && l.all alphaA
    | .lower => l.any lowerA && !l.any upperA
    | .digit => !l.isEmpty && l.all digitA
    | .alnum => !l.isEmpty && l.all (fun c => alphaA c || digitA c))
  else m0T m l
theorem asc_alpha : ∀ c, c < 128 → PySem.Unicode.isAlpha c = alphaA c := by decide +kernel
theorem asc_lower : ∀ c, c < 128 → PySem.Unicode.isLower c = lowerA c := by decide +kernel
theorem asc_digit : ∀ c, c < 128 → PySem.Unicode.isDigit c = digitA c := by decide +kernel
theorem asc_alnum : ∀ c, c < 128 → PySem.Unicode.isAlnum c = (alphaA c || digitA c) := by decide +kernel
theorem asc_upper : ∀ c, c < 128 → (PySem.Unicode.isUpper c || PySem.Unicode.isTitle c) = upperA c := by decide +kernel
theorem all_asc {f g : Nat → Bool} (h : ∀ c, c < 128 → f c = g c) : ∀ {l : Cs}, (∀ c ∈ l, c < 128) → l.all f = l.all g
  | [], _ => rfl
  | a :: l, k => by rw [List.all_cons, List.all_cons, h a (k a List.mem_cons_self), all_asc h fun c m => k c (List.mem_cons_of_mem _ m)]
theorem any_asc {f g : Nat → Bool} (h : ∀ c, c < 128 → f c = g c) : ∀ {l : Cs}, (∀ c ∈ l, c < 128) → l.any f = l.any g
  | [], _ => rfl
  | a :: l, k => by rw [List.any_cons, List.any_cons, h a (k a List.mem_cons_self), any_asc h fun c m => k c (List.mem_cons_of_mem _ m)]
theorem len_pos {l : Cs} : decide ((SX.S l).length > 0) = !l.isEmpty := by cases l <;> rfl
theorem m0E_def (m : M0) (l : Cs) : m0E m l = m0T m l := by
  unfold m0E
  split
  · rename_i h
    have k : ∀ c ∈ l, c < 128 := fun c m => by
      have := List.all_eq_true.mp h c m
      simpa using this
    cases m with
    | ascii =>
      show true = PySem.Txt.isascii (SX.S l)
      unfold PySem.Txt.isascii
      rw [List.all_toArray]
      exact (List.all_eq_true.mpr fun c m => decide_eq_true (k c m)).symm
    | alpha =>
      show _ = PySem.Txt.isalpha (SX.S l)
      unfold PySem.Txt.isalpha
      rw [List.all_toArray, all_asc asc_alpha k, len_pos]
    | lower =>
      show _ = PySem.Txt.islower (SX.S l)
      unfold PySem.Txt.islower
      rw [List.any_toArray, List.any_toArray, any_asc asc_lower k, any_asc asc_upper k]
    | digit =>
      show _ = PySem.Txt.isdigit (SX.S l)
      unfold PySem.Txt.isdigit
      rw [List.all_toArray, all_asc asc_digit k, len_pos]
    | alnum =>
      show _ = PySem.Txt.isalnum (SX.S l)
      unfold PySem.Txt.isalnum
      rw [List.all_toArray, all_asc asc_alnum k, len_pos]
  · rfl
/-- of a built-in type -/
def tyN : D → Option String
  | .non => some "NoneType"
  | .bl _ => some "bool"
  | .int _ => some "int"
  | .str _ => some "str"
  | .tup _ => some "tuple"
  | .lst _ => some "list"
  | .dct _ => some "dict"
  | .scr _ => some "list"
  | .ins _ _ => none
def tyI : Nat → String
  | 0 => "int" | 1 => "bool" | 2 => "str" | 3 => "tuple" | 4 => "list" | _ => "dict"
def kit1 (a b : String) : Bool := decide (a = b) || (decide (a = "bool") && decide (b = "int"))
def okCb (l : Cs) : Bool := l.all (fun c => decide (c < 0x110000)) && decide (l.length ≤ SZ)
def distS : List Cs → List Cs
  | [] => []
  | x :: r => if r.contains x then distS r else x :: distS r
def fxE : FX → List D → Option RV
  | .m0 m, [.str l] => some (.d (.bl (m0E m l)))
  | .sw3, [.str a, .str b, .int i] => if 0 ≤ i ∧ b ≠ [] then some (.d (.bl (b.isPrefixOf (a.drop i.toNat)))) else none
  | .parti, [.str a, .str b] => if b = [] then none else match TL.par b [] a with
    | some (x, y) => if okCb x && okCb y then some (.d (.tup [.str x, .str b, .str y])) else none
    | none => some (.d (.tup [.str a, .str [], .str []]))
  | .isi ts, [d] => (tyN d).map fun t => .d (.bl (ts.any fun i => kit1 t (tyI i)))
  | .isiT ts, [d] => (tyN d).map fun t => .d (.bl (ts.any fun i => kit1 t (tyI i)))
  | .tupI, [.dct kvs] => if kvs.length ≤ SZ ∧ kvs.all (fun kv => kOk kv.1) = true then some (.d (.tup (pairsD kvs))) else none
  | .lstV, [.dct kvs] => if kvs.length ≤ SZ then some (.f (.lst (kvs.map fun kv => kv.2))) else none
  | .lset, [d] => (seqOf d).bind fun ds => (strsD ds).bind fun ls => if ls.length < 60 then some (.d (.int (distS ls).length)) else none
  | _, _ => none
def getF : List (DK × D) → Cs → Option D
  | [], _ => none
  | (.s l, d) :: r, a => if l = a then some d else getF r a
  | (.i _, _) :: r, a => getF r a
def putA (a : Cs) (d : D) : List (DK × D) → List (DK × D)
  | [] => [(.s a, d)]
  | (.s l, x) :: r => if l = a then (.s l, d) :: r else (.s l, x) :: putA a d r
  | (.i n, x) :: r => (.i n, x) :: putA a d r
def lookKD (kvs : List (Cs × D)) (z : Cs) : Option D := (kvs.find? fun kv => decide (kv.1 = z)).map (·.2)
def irange (lo : Int) (n : Nat) : List D := (List.range n).map fun i => .int (lo + (i : Nat))
def rngE (lo hi : Int) : Option (List D) := if -(2 ^ 62) ≤ lo ∧ lo < 2 ^ 62 ∧ -(2 ^ 62) ≤ hi ∧ hi < 2 ^ 62 ∧ (hi - lo).toNat ≤ SZ then some (irange lo (hi - lo).toNat) else none
def enmFrom : Nat → List D → List D
  | _, [] => []
  | n, d :: ds => .tup [.int n, d] :: enmFrom (n + 1) ds
def zipE : List D → List D → List D
  | a :: as, b :: bs => .tup [a, b] :: zipE as bs
  | _, _ => []
/-- the turns of a comprehension -/
def evLc {α : Type} (turn : D → Env → Out (Option α)) (back : Env → Env) : List D → Env → List α → Out (List α)
  | [], ρ, acc => .ok acc ρ
  | d :: ds, ρ, acc => (turn d ρ).bind fun o ρ' => match o with
    | some a => evLc turn back ds (back ρ') (acc ++ [a])
    | none => evLc turn back ds (back ρ') acc
/-- .. of two generators -/
def evLc2 {α : Type} (t0 : D → Env → Out (Option (List D))) (t1 : D → Env → Out (Option α)) (back back1 : Env → Env) : List D → Env → List α → Out (List α)
  | [], ρ, acc => .ok acc ρ
  | d :: ds, ρ, acc => (t0 d ρ).bind fun o ρ' => match o with
    | some ys => (evLc t1 back1 ys (back1 ρ') acc).bind fun acc ρ' => evLc2 t0 t1 back back1 ds (back ρ') acc
    | none => evLc2 t0 t1 back back1 ds (back ρ') acc
def lockE (ρ : Env) : Option Nat → Option Env
  | none => some ρ
  | some i => match gt ρ i with
    | .own m pin false => some (setE ρ i (.own m pin true))
    | _ => none
def unlockE (ρ : Env) : Option Nat → Env
  | none => ρ
  | some i => match gt ρ i with
    | .own m pin true => setE ρ i (.own m pin false)
    | _ => ρ
/-- what a loop goes over -/
def walkD (ρ : Env) : RV → Option D
  | .p i => match gt ρ i with
    | .own m _ true => some m.dat
    | _ => none
  | .d x => some x
  | .f m => some m.dat
def walk (ρ : Env) (x : RV) : Option (List D) := (walkD ρ x).bind items
def itmE : D → Option RV
  | .dct kvs => if kvs.length ≤ SZ ∧ kvs.all (fun kv => kOk kv.1) = true then some (.d (.lst (pairsD kvs))) else none
  | _ => none
def valE : D → Option RV
  | .dct kvs => if kvs.length ≤ SZ then some (.d (.lst (kvs.map fun kv => kv.2))) else none
  | _ => none
def keyE : D → Option RV
  | .dct kvs => if kvs.length ≤ SZ ∧ kvs.all (fun kv => kOk kv.1) = true then some (.d (.lst (kvs.map fun kv => kv.1.dat))) else none
  | _ => none
def isL (ρ : Env) (i : Nat) : Bool := match gt ρ i with
  | .own (.lst _) _ _ => true
  | _ => false
def isDc (ρ : Env) (i : Nat) : Bool := match gt ρ i with
  | .own (.dct _) _ false => true
  | _ => false
def isO (ρ : Env) (i : Nat) : Bool := match gt ρ i with
  | .own _ _ _ => true
  | _ => false
mutual
def ev (C : Cn) : IE → Env → Out RV
  | .var i, ρ => match gt ρ i with
    | .val d => .ok (.d d) ρ
    | _ => .bad
  | .peek i, ρ => match gt ρ i with
    | .own _ _ _ => .ok (.p i) ρ
    | _ => .bad
  | .take i, ρ => match gt ρ i with
    | .own m false false => .ok (.f m) (setE ρ i .no)
    | _ => .bad
  | .frz i, ρ => match gt ρ i with
    | .own m false false => .ok (.d m.dat) (setE ρ i (.val m.dat))
    | _ => .bad
  | .lit d, ρ => .ok (.d d) ρ
  | .glob g, ρ => Out.of ρ ((C.glob g).map .d)
  | .fx f es, ρ => (evR C es ρ).bind fun rs ρ => Out.of ρ ((lookAll ρ rs).bind (fxE f))
  | .att e a, ρ => (ev C e ρ).bind fun x ρ => match look ρ x.hold with
    | some (.ins c fs) => if C.fld c a then Out.of ρ ((getF fs a).map .d) else .bad
    | _ => .bad
  | .mk c f es, ρ => (evR C es ρ).bind fun rs ρ => match datAll rs with
    | some ds => match C.cmk f (.m (.ins c []) :: ds.map .d) with
      | .ok (.d .non) (some (.ins c' fs)) => if c' = c then .ok (.f (.ins c fs)) ρ else .bad
      | _ => .bad
    | none => .bad
  | .meth c f m o es, ρ => (ev C o ρ).bind fun x ρ => match x.hold with
    | .d (.ins c' fs) => if c' = c ∧ getF fs m = none then (evR C es ρ).bind fun rs ρ => match datAll rs with
        | some ds => match C.call f (.d (.ins c fs) :: ds.map .d) with
          | .ok r none => if rvOk r then .ok r ρ else .bad
          | _ => .bad
        | none => .bad
      else .bad
    | _ => .bad
  | .prop c f o, ρ => (ev C o ρ).bind fun x ρ => match x.hold with
    | .d (.ins c' fs) => if c' = c then (match C.cmk f [.d (.ins c fs)] with
          | .ok r none => if rvOk r then .ok r ρ else .bad
          | _ => .bad)
      else .bad
    | _ => .bad
  | .inKD g neg e, ρ => (ev C e ρ).bind fun x ρ => match x, C.gdic g with
    | .d (.str z), some kvs => .ok (.d (.bl (if neg then !(lookKD kvs z).isSome else (lookKD kvs z).isSome))) ρ
    | _, _ => .bad
  | .ixKD g e, ρ => (ev C e ρ).bind fun x ρ => match x, C.gdic g with
    | .d (.str z), some kvs => Out.of ρ ((lookKD kvs z).map .d)
    | _, _ => .bad
  | .lc2 own tg it cs own1 tg1 it1 cs1 e, ρ => (ev C it ρ).bind fun x ρ => match walk ρ x with
      | some ds => if noPin own ρ then (evLc2 (fun d ρ => (Out.of ρ (bindT tg d ρ)).bind fun ρ' _ => (evC C cs ρ').bind fun b ρ => if b then (ev C it1 ρ).bind fun y ρ => (match walk ρ y with
          | some ys => if noPin own1 ρ && isTupR y then .ok (some ys) ρ else .bad
          | none => .bad) else .ok none ρ)
          (fun d ρ => (Out.of ρ (bindT tg1 d ρ)).bind fun ρ' _ => (evC C cs1 ρ').bind fun b ρ => if b then (ev C e ρ).bind fun r ρ => Out.of ρ (r.dat?.map some) else .ok none ρ) (wipeE own) (wipeE own1) ds (wipeE own ρ) []).bind fun ds ρ => if ds.length ≤ SZ then .ok (.f (.lst ds)) ρ else .bad
        else .bad
      | none => .bad
  | .scs own tg it lk cs e, ρ => match lockE ρ lk with
    | some ρ => (ev C it ρ).bind fun x ρ => match walk ρ x with
      | some ds => if noPin own ρ && decide (ds.length < 1000) then (evLc (fun d ρ => (Out.of ρ (bindT tg d ρ)).bind fun ρ' _ => (evC C cs ρ').bind fun b ρ => if b then (ev C e ρ).bind fun r ρ => Out.of ρ (r.dat?.bind fun d => match d with
          | .str l => some (some l)
          | _ => none) else .ok none ρ) (wipeE own) ds (wipeE own ρ) []).bind fun ls ρ => if ls.length < 64 then .ok (.f (.lst ((sortS (distS ls)).map .str))) (unlockE ρ lk) else .bad
        else .bad
      | none => .bad
    | none => .bad
  | .fstr es, ρ => (evFs C es ρ []).bind fun l ρ => .ok (.d (.str l)) ρ
  | .dspS e es, ρ => (ev C e ρ).bind fun x ρ => match look ρ x.hold with
    | some (.dct k0) => (evPs C es ρ).bind fun kvs ρ => if k0.length + kvs.length ≤ SZ then .ok (.f (.dct (mergeK (mergeK [] k0) (mergeK [] kvs)))) ρ else .bad
    | _ => .bad
  | .tup es, ρ => (evR C es ρ).bind fun rs ρ => Out.of ρ ((datAll rs).map fun ds => .d (.tup ds))
  | .lst es, ρ => (evR C es ρ).bind fun rs ρ => Out.of ρ ((datAll rs).map fun ds => .f (.lst ds))
  | .tupS es, ρ => (evSp C es ρ).bind fun ds ρ => if ds.length ≤ SZ then .ok (.d (.tup ds)) ρ else .bad
  | .lstS es, ρ => (evSp C es ρ).bind fun ds ρ => if ds.length ≤ SZ then .ok (.f (.lst ds)) ρ else .bad
  | .star _, _ => .bad
  | .dsp kvs, ρ => (evPs C kvs ρ).bind fun kvs ρ => .ok (.f (.dct (mergeK [] kvs))) ρ
  | .bin op a b, ρ => (ev C a ρ).bind fun x ρ => (ev C b ρ).bind fun y ρ => Out.of ρ ((look ρ x.hold).bind fun x => (look ρ y).bind fun y => binE op x y)
  | .neg a, ρ => (ev C a ρ).bind fun x ρ => match x with
    | .d (.int i) => .ok (.d (.int (-i))) ρ
    | _ => .bad
  | .cmp op a b, ρ => (ev C a ρ).bind fun x ρ => (ev C b ρ).bind fun y ρ => Out.of ρ ((look ρ x.hold).bind fun x => (look ρ y).bind fun y => (cmpE op x y).map fun b => .d (.bl b))
  | .and a b, ρ => (ev C a ρ).bind fun x ρ => match blOf x with
    | some true => ev C b ρ
    | some false => .ok (.d (.bl false)) ρ
    | none => .bad
  | .or a b, ρ => (ev C a ρ).bind fun x ρ => match blOf x with
    | some true => .ok (.d (.bl true)) ρ
    | some false => ev C b ρ
    | none => .bad
  | .not a, ρ => (ev C a ρ).bind fun x ρ => match blOf x with
    | some b => .ok (.d (.bl (!b))) ρ
    | none => .bad
  | .tru a, ρ => (ev C a ρ).bind fun x ρ => Out.of ρ ((look ρ x).bind fun x => (truth x).map fun b => .d (.bl b))
  | .ite c a b, ρ => (ev C c ρ).bind fun x ρ => match blOf x with
    | some true => ev C a ρ
    | some false => ev C b ρ
    | none => .bad
  | .idx a b, ρ => (ev C a ρ).bind fun x ρ => (ev C b ρ).bind fun y ρ => Out.of ρ ((look ρ x.hold).bind fun x => (look ρ y).bind fun y => (idxE x y).map .d)
  | .slc a lo hi, ρ => (ev C a ρ).bind fun x ρ => (evO C lo ρ).bind fun l ρ => (evO C hi ρ).bind fun h ρ =>
      Out.of ρ ((look ρ x.hold).bind fun x => (partE l).bind fun l => (partE h).bind fun h => slcE x l h)
  | .bi f es, ρ => (evR C es ρ).bind fun rs ρ => Out.of ρ ((lookAll ρ rs).bind (biE f))
  | .mt m o es, ρ => (ev C o ρ).bind fun x ρ => if mtP m (look ρ x.hold) then (evR C es ρ).bind fun rs ρ => Out.of ρ ((look ρ x.hold).bind fun x => (datAll rs).bind (mtE m x)) else .bad
  | .call f none es, ρ => (evR C es ρ).bind fun rs ρ => match datAll rs with
    | some ds => match C.call f (ds.map .d) with
      | .ok r none => if rvOk r then .ok r ρ else .bad
      | _ => .bad
    | none => .bad
  | .call f (some j) es, ρ => (evR C es ρ).bind fun rs ρ => match rs[j]? with
    | some (.p k) => match gt ρ k with
      | .own m pin false => match argsAt rs j m with
        | some as => match C.call f as with
          | .ok r (some m') => if rvOk r then .ok r (setE ρ k (.own m' pin false)) else .bad
          | _ => .bad
        | none => .bad
      | _ => .bad
    | _ => .bad
  | .pop i, ρ => match gt ρ i with
    | .own (.lst ds) pin false => match ds[ds.length - 1]? with
      | some d => .ok (.d d) (setE ρ i (.own (.lst ds.dropLast) pin false))
      | none => .bad
    | _ => .bad
  | .popAt i e, ρ => if isL ρ i then (ev C e ρ).bind fun x ρ => match gt ρ i, x with
    | .own (.lst ds) pin false, .d (.int k) => match L2.ixN ds.length k with
      | some j => match ds[j]? with
        | some d => .ok (.d d) (setE ρ i (.own (.lst (ds.eraseIdx j)) pin false))
        | none => .bad
      | none => .bad
    | _, _ => .bad
    else .bad
  | .lc own tg it lk cs e, ρ => match lockE ρ lk with
    | some ρ => (ev C it ρ).bind fun x ρ => match walk ρ x with
      | some ds => if noPin own ρ then (evLc (fun d ρ => (Out.of ρ (bindT tg d ρ)).bind fun ρ' _ => (evC C cs ρ').bind fun b ρ => if b then (ev C e ρ).bind fun r ρ => Out.of ρ (r.dat?.map some) else .ok none ρ) (wipeE own) ds (wipeE own ρ) []).bind fun ds ρ => .ok (.f (.lst ds)) (unlockE ρ lk)
        else .bad
      | none => .bad
    | none => .bad
  | .dc own tg it lk cs k v, ρ => match lockE ρ lk with
    | some ρ => (ev C it ρ).bind fun x ρ => match walk ρ x with
      | some ds => if noPin own ρ then (evLc (fun d ρ => (Out.of ρ (bindT tg d ρ)).bind fun ρ' _ => (evC C cs ρ').bind fun b ρ => if b then (ev C k ρ).bind fun a ρ => (ev C v ρ).bind fun r ρ => Out.of ρ (((look ρ a.hold).bind key?).bind fun a => r.dat?.map fun r => some (a, r)) else .ok none ρ) (wipeE own) ds (wipeE own ρ) []).bind fun kvs ρ => .ok (.f (.dct (mergeK [] kvs))) (unlockE ρ lk)
        else .bad
      | none => .bad
    | none => .bad
  | .rng1 e, ρ => (ev C e ρ).bind fun x ρ => match x with
    | .d (.int j) => Out.of ρ ((rngE 0 j).map fun ds => .d (.lst ds))
    | _ => .bad
  | .rng2 a b, ρ => (ev C a ρ).bind fun x ρ => (ev C b ρ).bind fun y ρ => match x, y with
    | .d (.int i), .d (.int j) => Out.of ρ ((rngE i j).map fun ds => .d (.lst ds))
    | _, _ => .bad
  | .enm e, ρ => (ev C e ρ).bind fun x ρ => Out.of ρ ((walkD ρ x).bind fun x => (seqOf x).map fun ds => .d (.lst (enmFrom 0 ds)))
  | .zip a b, ρ => (ev C a ρ).bind fun x ρ => (ev C b ρ).bind fun y ρ => Out.of ρ ((look ρ x.hold).bind fun x => (look ρ y.hold).bind fun y => (seqOf x).bind fun xs => (seqOf y).map fun ys => .d (.lst (zipE xs ys)))
  | .itms e, ρ => (ev C e ρ).bind fun x ρ => Out.of ρ ((walkD ρ x).bind itmE)
  | .vals e, ρ => (ev C e ρ).bind fun x ρ => Out.of ρ ((walkD ρ x).bind valE)
  | .itmF e, ρ => (ev C e ρ).bind fun x ρ => match x with
    | .f (.dct kvs) => Out.of ρ (itmE (.dct kvs))
    | _ => .bad
  | .itmD e, ρ => (ev C e ρ).bind fun x ρ => match x with
    | .d (.dct kvs) => Out.of ρ (itmE (.dct kvs))
    | .f (.dct kvs) => Out.of ρ (itmE (.dct kvs))
    | _ => .bad
  | .keys e, ρ => (ev C e ρ).bind fun x ρ => Out.of ρ ((walkD ρ x).bind keyE)
def evSp (C : Cn) : List IE → Env → Out (List D)
  | [], ρ => .ok [] ρ
  | .star e :: es, ρ => (ev C e ρ).bind fun r ρ => (Out.of ρ ((look ρ r.hold).bind seqOf)).bind fun d ρ => (evSp C es ρ).bind fun ds ρ => .ok (d ++ ds) ρ
  | e :: es, ρ => (ev C e ρ).bind fun r ρ => (Out.of ρ r.dat?).bind fun d ρ => (evSp C es ρ).bind fun ds ρ => .ok (d :: ds) ρ
/-- operands -/
def evR (C : Cn) : List IE → Env → Out (List RV)
  | [], ρ => .ok [] ρ
  | e :: es, ρ => (ev C e ρ).bind fun r ρ => (evR C es ρ).bind fun rs ρ => .ok (r.hold :: rs) ρ
def evC (C : Cn) : List IE → Env → Out Bool
  | [], ρ => .ok true ρ
  | e :: es, ρ => (ev C e ρ).bind fun r ρ => match blOf r with
    | some true => evC C es ρ
    | some false => .ok false ρ
    | none => .bad
def evPs (C : Cn) : List IE → Env → Out (List (DK × D))
  | [], ρ => .ok [] ρ
  | [_], _ => .bad
  | k :: v :: vs, ρ => (ev C k ρ).bind fun a ρ => (ev C v ρ).bind fun r ρ => (Out.of ρ (((look ρ a.hold).bind key?).bind fun a => r.dat?.map fun r => (a, r))).bind fun p ρ => (evPs C vs ρ).bind fun ps ρ => .ok (p :: ps) ρ
/-- the parts of an f-string -/
def evFs (C : Cn) : List IE → Env → Cs → Out Cs
  | [], ρ, acc => .ok acc ρ
  | e :: es, ρ, acc => (ev C e ρ).bind fun x ρ => match x with
    | .d (.str l) => if okCb (acc ++ l) then evFs C es ρ (acc ++ l) else .bad
    | .d (.int i) => if decide (i.natAbs.log2 < 1920) && okCb (acc ++ strOf i) then evFs C es ρ (acc ++ strOf i) else .bad
    | _ => .bad
def evO (C : Cn) : Option IE → Env → Out (Option D)
  | none, ρ => .ok none ρ
  | some e, ρ => (ev C e ρ).bind fun r ρ => match r with
    | .d x => .ok (some x) ρ
    | _ => .bad
end

/-! ### statements -/
inductive Flow where
  | nx | rt (r : RV) | bk | ct
inductive IS where
  | asg (i : Nat) (e : IE) | asgO (i : Nat) (e : IE) | unp (tg : Tg) (e : IE)
  | par (sw : Bool) (ts : List (Nat × Bool)) (es : List IE)
  | setI (i : Nat) (k e : IE) | aug (neg : Bool) (i : Nat) (e : IE) | augI (i : Nat) (k e : IE)
  | app (i : Nat) (e : IE) | ext (i : Nat) (e : IE) | upd (i : Nat) (e : IE) | delS (i : Nat) (e : IE)
  | ex (e : IE) | iff (c : IE) (a b : List IS) | for_ (tg : Tg) (it : IE) (lk : Option Nat) (b : List IS) | whl (c : IE) (b : List IS)
  | ret (e : IE) | retN | cont | brk | pass
  | raise | setA (i : Nat) (a : Cs) (e : IE)
  /-- the rest of a suite, some slots put aside till its end, some forgotten -/
  | hide (ks ws : List Nat) (b : List IS)
/-- one value into one name -/
def putE (ρ : Env) (i : Nat) : RV → Option Env
  | .d x => if pinned ρ i then none else some (setE ρ i (.val x))
  | .f m => if pinned ρ i then none else some (setE ρ i (.val m.dat))
  | .p _ => none
def putO (ρ : Env) (i : Nat) : RV → Option Env
  | .f m => if pinned ρ i then none else some (setE ρ i (.own m false false))
  | _ => none
def putAll : List (Nat × Bool) → List RV → Env → Option Env
  | [], [], ρ => some ρ
  | (i, o) :: ts, r :: rs, ρ => (putAll ts rs ρ).bind fun ρ => if o then putO ρ i r else putE ρ i r
  | _, _, _ => none
def evFor (f : D → Env → Out Flow) : List D → Env → Out Flow
  | [], ρ => .ok .nx ρ
  | d :: ds, ρ => (f d ρ).bind fun r ρ => match r with
    | .nx => evFor f ds ρ
    | .ct => evFor f ds ρ
    | .bk => .ok .nx ρ
    | .rt r => .ok (.rt r) ρ
def evWhl (c : Env → Out RV) (f : Env → Out Flow) : Nat → Env → Out Flow
  | 0, _ => .bad
  | n + 1, ρ => (c ρ).bind fun b ρ => match blOf b with
    | some true => (f ρ).bind fun r ρ => match r with
      | .nx => evWhl c f n ρ
      | .ct => evWhl c f n ρ
      | .bk => .ok .nx ρ
      | .rt r => .ok (.rt r) ρ
    | some false => .ok .nx ρ
    | none => .bad
def evRs (C : Cn) : List IE → Env → Out (List RV)
  | [], ρ => .ok [] ρ
  | e :: es, ρ => (ev C e ρ).bind fun r ρ => if rvOk r then (evRs C es ρ).bind fun rs ρ => .ok (r :: rs) ρ else .bad
mutual
def evS (C : Cn) : IS → Env → Out Flow
  | .asg i e, ρ => (ev C e ρ).bind fun r ρ => (Out.of ρ (putE ρ i r)).bind fun ρ _ => .ok .nx ρ
  | .asgO i e, ρ => (ev C e ρ).bind fun r ρ => (Out.of ρ (putO ρ i r)).bind fun ρ _ => .ok .nx ρ
  | .unp tg e, ρ => (ev C e ρ).bind fun r ρ => (Out.of ρ (r.dat?.bind fun d => bindT tg d ρ)).bind fun ρ _ => .ok .nx ρ
  | .par _ ts es, ρ => (evRs C es ρ).bind fun rs ρ => if (ts.map (·.1)).Nodup then (Out.of ρ (putAll ts rs ρ)).bind fun ρ _ => .ok .nx ρ else .bad
  | .setI i k e, ρ => (ev C e ρ).bind fun r ρ => if isO ρ i then (ev C k ρ).bind fun x ρ => match r.dat?, x, gt ρ i with
    | some d, .d (.int j), .own (.lst ds) pin false => match L2.ixN ds.length j with
      | some j => .ok .nx (setE ρ i (.own (.lst (ds.set j d)) pin false))
      | none => .bad
    | some d, .d x, .own (.dct kvs) pin false => match key? x with
      | some k => if kvs.length < SZ then .ok .nx (setE ρ i (.own (.dct (putK kvs k d)) pin false)) else .bad
      | none => .bad
    | _, _, _ => .bad
    else .bad
  | .aug neg i e, ρ => match gt ρ i with
    | .val (.int x) => (ev C e ρ).bind fun r ρ => match r with
      | .d (.int y) => if pinned ρ i then .bad else .ok .nx (setE ρ i (.val (.int (if neg then x - y else x + y))))
      | _ => .bad
    | _ => .bad
  | .augI i k e, ρ => if isO ρ i then (ev C k ρ).bind fun x ρ => match gt ρ i, x with
    | .own (.lst ds) _ false, .d (.int j) => match L2.atI ds j with
      | some (.int a) => (ev C e ρ).bind fun y ρ => match y, gt ρ i with
        | .d (.int y), .own (.lst ds) pin false => match L2.ixN ds.length j with
          | some j => .ok .nx (setE ρ i (.own (.lst (ds.set j (.int (a + y)))) pin false))
          | none => .bad
        | _, _ => .bad
      | _ => .bad
    | _, _ => .bad
    else .bad
  | .app i e, ρ => if isL ρ i then (ev C e ρ).bind fun r ρ => match r.dat?, gt ρ i with
    | some d, .own (.lst ds) pin false => if ds.length < SZ then .ok .nx (setE ρ i (.own (.lst (ds ++ [d])) pin false)) else .bad
    | _, _ => .bad
    else .bad
  | .ext i e, ρ => if isL ρ i then (ev C e ρ).bind fun r ρ => match r.dat?, gt ρ i with
    | some (.lst xs), .own (.lst ds) pin false => if ds.length + xs.length ≤ SZ then .ok .nx (setE ρ i (.own (.lst (ds ++ xs)) pin false)) else .bad
    | _, _ => .bad
    else .bad
  | .upd i e, ρ => if isDc ρ i then (ev C e ρ).bind fun r ρ => match r.dat?, gt ρ i with
    | some (.dct xs), .own (.dct kvs) pin false => if kvs.length + xs.length ≤ SZ then .ok .nx (setE ρ i (.own (.dct (mergeK kvs xs)) pin false)) else .bad
    | _, _ => .bad
    else .bad
  | .delS i e, ρ => if isO ρ i then (ev C e ρ).bind fun r ρ => match r, gt ρ i with
    | .d (.int k), .own (.lst ds) pin false => .ok .nx (setE ρ i (.own (.lst (ds.take (HT.sIx ds.length 0 (some k)))) pin false))
    | _, _ => .bad
    else .bad
  | .ex e, ρ => (ev C e ρ).bind fun _ ρ => .ok .nx ρ
  | .iff c a b, ρ => (ev C c ρ).bind fun x ρ => match blOf x with
    | some true => evB C a ρ
    | some false => evB C b ρ
    | none => .bad
  | .for_ tg it lk b, ρ => match lockE ρ lk with
    | some ρ => (ev C it ρ).bind fun x ρ => match walk ρ x with
      | some ds => (evFor (fun d ρ => (Out.of ρ (bindT tg d ρ)).bind fun ρ _ => evB C b ρ) ds ρ).bind fun r ρ => .ok r (unlockE ρ lk)
      | none => .bad
    | none => .bad
  | .whl c b, ρ => evWhl (ev C c) (evB C b) C.W ρ
  | .ret e, ρ => (ev C e ρ).bind fun r ρ => if rvOk r then .ok (.rt r) ρ else .bad
  | .retN, ρ => .ok (.rt (.d .non)) ρ
  | .raise, _ => .bad
  | .setA i a e, ρ => (ev C e ρ).bind fun r ρ => match r.dat?, gt ρ i with
    | some d, .own (.ins c fs) pin false => if C.fld c a && decide (fs.length < 1000) then .ok .nx (setE ρ i (.own (.ins c (putA a d fs)) pin false)) else .bad
    | _, _ => .bad
  | .hide ks ws b, ρ => if ks.all (isV ρ) && ws.all (loose ρ) then match evB C b (wipeE ws (keptE ks ρ)) with
      | .ok .nx ρ' => .ok .nx (showE ρ ks ρ')
      | _ => .bad
    else .bad
  | .cont, ρ => .ok .ct ρ
  | .brk, ρ => .ok .bk ρ
  | .pass, ρ => .ok .nx ρ
def evB (C : Cn) : List IS → Env → Out Flow
  | [], ρ => .ok .nx ρ
  | s :: ss, ρ => (evS C s ρ).bind fun r ρ => match r with
    | .nx => evB C ss ρ
    | r => .ok r ρ
end

/-! ### defs -/
structure FD where
  np : Nat
  ns : Nat
  rf : Option Nat
  body : List IS
def arEV : Ar → EV
  | .d x => .val x
  | .m m => .own m true false
def isM : Ar → Bool
  | .m _ => true
  | _ => false
/-- just the argument at the place j is one to be changed -/
def okArgs : Nat → Option Nat → List Ar → Bool
  | _, _, [] => true
  | i, rf, a :: r => (isM a == decide (rf = some i)) && okArgs (i + 1) rf r
def entry (fd : FD) (as : List Ar) : Option Env :=
  if decide (as.length = fd.np) && decide (fd.np ≤ fd.ns) && okArgs 0 fd.rf as then some (as.map arEV ++ List.replicate (fd.ns - fd.np) .no) else none
def backs (ρ : Env) : Option Nat → Option (Option M)
  | none => some none
  | some j => match gt ρ j with
    | .own m true false => some (some m)
    | _ => none
def leave (fd : FD) : Out Flow → Res
  | .ok .nx ρ => match backs ρ fd.rf with
    | some b => .ok (.d .non) b
    | none => .bad
  | .ok (.rt r) ρ => match backs ρ fd.rf with
    | some b => if rvOk r then .ok r b else .bad
    | none => .bad
  | _ => .bad
structure Pr where
  defs : Nat → Option FD
  glob : Nat → Option D
  gdic : Nat → Option (List (Cs × D))
  fld : Nat → Cs → Bool
  W : Nat
  /-- defs whose promise comes from elsewhere: by the fuel, the number, the values -/
  ext : Nat → Nat → List D → Option RV
def arD : List Ar → Option (List D)
  | [] => some []
  | .d x :: r => (arD r).map (x :: ·)
  | .m _ :: _ => none
def extR (g : List D → Option RV) (as : List Ar) : Res := match (arD as).bind g with
  | some r => if rvOk r then .ok r none else .bad
  | none => .bad
def callF (P : Pr) : Nat → Nat → List Ar → Res
  | 0, _, _ => .bad
  | n + 1, f, as => match P.defs f with
    | some fd => match entry fd as with
      | some ρ => leave fd (evB ⟨callF P n, (match n with
        | 0 => fun _ _ => .bad
        | m + 1 => callF P m), P.glob, P.gdic, P.fld, P.W⟩ fd.body ρ)
      | none => .bad
    | none => extR (P.ext (n + 1) f) as
end Ev
end
/-! Es -/
section
set_option Elab.async false
set_option linter.all false
set_option maxRecDepth 100000
set_option maxHeartbeats 1000000
namespace Ev
open PySem L2
open SX (S)
theorem SZ_line : SZ = sizeLine := by rw [sizeLine_eq]; rfl
def kK : DK → Key
  | .i n => .inl n
  | .s l => .inr (S l)
def okC (l : Cs) : Prop := l.all (· < 0x110000) = true ∧ l.length ≤ SZ
theorem kK_inj {a b : DK} (h : kK a = kK b) : a = b := by
  cases a <;> cases b <;> simp [kK] at h
  · rw [h]
  · rw [h]
section
variable (K : PySem.W.Frag) (cA : Nat → Addr)
def RTup (Av : Addr → Prop) (H : Hp) (a : Addr) (vs : List V) : Prop :=
  (¬ Av a ∧ Rd H a (.tup vs)) ∨ ∃ (o : Obj) (its : Array Value) (n : Nat), K.lookup a = some o ∧ o.cls = .type "tuple" ∧ o.data = .seq its n ∧ its.size ≤ sizeLine ∧ Vals vs its.toList
def RLst (Av : Addr → Prop) (H : Hp) (a : Addr) (vs : List V) : Prop :=
  (¬ Av a ∧ Rd H a (.lst vs)) ∨ ∃ (o : Obj) (its : Array Value) (n : Nat), K.lookup a = some o ∧ o.cls = .type "list" ∧ o.dict = none ∧ o.data = .seq its n ∧ its.size ≤ sizeLine ∧ Vals vs its.toList
mutual
def Rep (Av : Addr → Prop) (H : Hp) : D → V → Prop
  | .non, v => v = .non
  | .bl b, v => v = .bl b
  | .int i, v => v = .int i
  | .str l, v => v = .str (S l) ∧ okC l
  | .tup ds, v => ∃ a vs, v = .ref a ∧ ds.length ≤ SZ ∧ RTup K Av H a vs ∧ Reps Av H ds vs
  | .lst ds, v => ∃ a vs, v = .ref a ∧ ds.length ≤ SZ ∧ ¬ Av a ∧ Rd H a (.lst vs) ∧ Reps Av H ds vs
  | .dct kvs, v => ∃ a kv, v = .ref a ∧ ¬ Av a ∧ Rd H a (.dK kv) ∧ Repk Av H kvs kv
  | .scr ns, v => ∃ a, v = .ref a ∧ ns.length ≤ SZ ∧ RLst K Av H a (ns.map V.int)
  | .ins c fs, v => ∃ a dx fv, v = .ref a ∧ ¬ Av a ∧ H a = some (.ins (cA c) dx fv) ∧ Repf Av H fs fv
def Reps (Av : Addr → Prop) (H : Hp) : List D → List V → Prop
  | [], vs => vs = []
  | d :: ds, vs => ∃ v r, vs = v :: r ∧ Rep Av H d v ∧ Reps Av H ds r
def Repk (Av : Addr → Prop) (H : Hp) : List (DK × D) → List (Key × V) → Prop
  | [], kv => kv = []
  | (k, d) :: r, kv => ∃ v q, kv = (kK k, v) :: q ∧ Rep Av H d v ∧ Repk Av H r q
def Repf (Av : Addr → Prop) (H : Hp) : List (DK × D) → List (Str × V) → Prop
  | [], kv => kv = []
  | (.s l, d) :: r, kv => ∃ v q, kv = (S l, v) :: q ∧ Rep Av H d v ∧ Repf Av H r q
  | (.i _, _) :: _, _ => False
end
/-- the object at b reads the same -/
def Ag (H H' : Hp) (b : Addr) : Prop := H' b = H b ∨ ∃ kv, Rd H b (.dK kv) ∧ Rd H' b (.dK kv)
theorem Rd.inj {H : Hp} {a : Addr} {u w : HO} (h : Rd H a u) (h' : Rd H a w) (nu : ∀ o x, u ≠ .frz o x) (nw : ∀ o x, w ≠ .frz o x) : u = w := by
  rcases h with h | ⟨o, h⟩ <;> rcases h' with h' | ⟨o', h'⟩ <;> rw [h] at h' <;> cases h'
  · rfl
  · exact absurd rfl (nu _ _)
  · exact absurd rfl (nw _ _)
  · rfl
theorem Ag.rd {H H' : Hp} {b : Addr} {u : HO} (g : Ag H H' b) (h : Rd H b u) (nu : ∀ o x, u ≠ .frz o x) : Rd H' b u := by
  rcases g with g | ⟨kv, g1, g2⟩
  · rcases h with h | ⟨o, h⟩
    · exact .inl (g.trans h)
    · exact .inr ⟨o, g.trans h⟩
  · rw [Rd.inj h g1 nu (fun _ _ z => by cases z)]
    exact g2
theorem rd_some {H : Hp} {a : Addr} {u : HO} (h : Rd H a u) : H a ≠ none := by
  rcases h with h | ⟨o, h⟩ <;> rw [h] <;> intro z <;> cases z
def Tr (Av Av' : Addr → Prop) (H H' : Hp) : Prop := ∀ b, ¬ Av b → H b ≠ none → ¬ Av' b ∧ Ag H H' b
variable {K cA}
theorem RTup.tr {Av Av' : Addr → Prop} {H H' : Hp} (t : Tr Av Av' H H') {a : Addr} {vs : List V} (h : RTup K Av H a vs) : RTup K Av' H' a vs := by
  rcases h with ⟨n, r⟩ | h
  · obtain ⟨n', g⟩ := t a n (rd_some r)
    exact .inl ⟨n', g.rd r (fun _ _ z => by cases z)⟩
  · exact .inr h
theorem RLst.tr {Av Av' : Addr → Prop} {H H' : Hp} (t : Tr Av Av' H H') {a : Addr} {vs : List V} (h : RLst K Av H a vs) : RLst K Av' H' a vs := by
  rcases h with ⟨n, r⟩ | h
  · obtain ⟨n', g⟩ := t a n (rd_some r)
    exact .inl ⟨n', g.rd r (fun _ _ z => by cases z)⟩
  · exact .inr h
theorem RLst.sq {Av : Addr → Prop} {H : Hp} {a : Addr} {vs : List V} (h : RLst K Av H a vs) : SqL K H a vs := by
  rcases h with ⟨_, r⟩ | h
  · exact .inl r
  · exact .inr h
theorem RTup.sq {Av : Addr → Prop} {H : Hp} {a : Addr} {vs : List V} (h : RTup K Av H a vs) : SqT K H a vs := by
  rcases h with ⟨_, r⟩ | h
  · exact .inl r
  · exact .inr h
mutual
theorem Rep.tr {Av Av' : Addr → Prop} {H H' : Hp} (t : Tr Av Av' H H') : ∀ (d : D) (v : V), Rep K cA Av H d v → Rep K cA Av' H' d v
  | .non, v, h => by rw [Rep] at *; exact h
  | .bl b, v, h => by rw [Rep] at *; exact h
  | .int i, v, h => by rw [Rep] at *; exact h
  | .str l, v, h => by rw [Rep] at *; exact h
  | .tup ds, v, h => by
    rw [Rep] at *
    obtain ⟨a, vs, e, l, r, q⟩ := h
    exact ⟨a, vs, e, l, r.tr t, Reps.tr t ds vs q⟩
  | .lst ds, v, h => by
    rw [Rep] at *
    obtain ⟨a, vs, e, l, n, r, q⟩ := h
    obtain ⟨n', g⟩ := t a n (rd_some r)
    exact ⟨a, vs, e, l, n', g.rd r (fun _ _ z => by cases z), Reps.tr t ds vs q⟩
  | .dct kvs, v, h => by
    rw [Rep] at *
    obtain ⟨a, vs, e, n, r, q⟩ := h
    obtain ⟨n', g⟩ := t a n (rd_some r)
    exact ⟨a, vs, e, n', g.rd r (fun _ _ z => by cases z), Repk.tr t kvs vs q⟩
  | .scr ns, v, h => by
    rw [Rep] at *
    obtain ⟨a, e, l, r⟩ := h
    exact ⟨a, e, l, r.tr t⟩
  | .ins c fs, v, h => by
    rw [Rep] at *
    obtain ⟨a, dx, vs, e, n, r, q⟩ := h
    obtain ⟨n', g⟩ := t a n (by rw [r]; intro z; cases z)
    refine ⟨a, dx, vs, e, n', ?_, Repf.tr t fs vs q⟩
    rcases g with g | ⟨kv, g, _⟩
    · exact g.trans r
    · rcases g with g | ⟨o, g⟩ <;> rw [r] at g <;> cases g
theorem Reps.tr {Av Av' : Addr → Prop} {H H' : Hp} (t : Tr Av Av' H H') : ∀ (ds : List D) (vs : List V), Reps K cA Av H ds vs → Reps K cA Av' H' ds vs
  | [], vs, h => by rw [Reps] at *; exact h
  | d :: ds, vs, h => by
    rw [Reps] at *
    obtain ⟨v, r, e, p, q⟩ := h
    exact ⟨v, r, e, Rep.tr t d v p, Reps.tr t ds r q⟩
theorem Repk.tr {Av Av' : Addr → Prop} {H H' : Hp} (t : Tr Av Av' H H') : ∀ (ds : List (DK × D)) (vs : List (Key × V)), Repk K cA Av H ds vs → Repk K cA Av' H' ds vs
  | [], vs, h => by rw [Repk] at *; exact h
  | (k, d) :: ds, vs, h => by
    rw [Repk] at *
    obtain ⟨v, r, e, p, q⟩ := h
    exact ⟨v, r, e, Rep.tr t d v p, Repk.tr t ds r q⟩
theorem Repf.tr {Av Av' : Addr → Prop} {H H' : Hp} (t : Tr Av Av' H H') : ∀ (ds : List (DK × D)) (vs : List (Str × V)), Repf K cA Av H ds vs → Repf K cA Av' H' ds vs
  | [], vs, h => by rw [Repf] at *; exact h
  | (.s l, d) :: ds, vs, h => by
    rw [Repf] at *
    obtain ⟨v, r, e, p, q⟩ := h
    exact ⟨v, r, e, Rep.tr t d v p, Repf.tr t ds r q⟩
  | (.i _, _) :: _, _, h => by rw [Repf] at h; exact h.elim
end
/-- what a name of one's own stands for -/
def RepM (K : PySem.W.Frag) (cA : Nat → Addr) (Av : Addr → Prop) (H : Hp) (m : M) (a : Addr) : Prop := match m with
  | .lst ds => ∃ vs, ds.length ≤ SZ ∧ Rd H a (.lst vs) ∧ Reps K cA Av H ds vs
  | .dct kvs => ∃ kv, Rd H a (.dK kv) ∧ Repk K cA Av H kvs kv
  | .ins c fs => ∃ dx fv, H a = some (.ins (cA c) dx fv) ∧ Repf K cA Av H fs fv
theorem RepM.rep {Av : Addr → Prop} {H : Hp} {m : M} {a : Addr} (h : RepM K cA Av H m a) (n : ¬ Av a) : Rep K cA Av H m.dat (.ref a) := by
  cases m with
  | lst ds =>
    obtain ⟨vs, l, r, q⟩ := h
    show Rep K cA Av H (.lst ds) _
    rw [Rep]
    exact ⟨a, vs, rfl, l, n, r, q⟩
  | dct kvs =>
    obtain ⟨vs, r, q⟩ := h
    show Rep K cA Av H (.dct kvs) _
    rw [Rep]
    exact ⟨a, vs, rfl, n, r, q⟩
  | ins c fs =>
    obtain ⟨dx, vs, r, q⟩ := h
    show Rep K cA Av H (.ins c fs) _
    rw [Rep]
    exact ⟨a, dx, vs, rfl, n, r, q⟩
theorem RepM.tr {Av Av' : Addr → Prop} {H H' : Hp} (t : Tr Av Av' H H') {m : M} {a : Addr} (g : Ag H H' a) (h : RepM K cA Av H m a) : RepM K cA Av' H' m a := by
  cases m with
  | lst ds =>
    obtain ⟨vs, l, r, q⟩ := h
    exact ⟨vs, l, g.rd r (fun _ _ z => by cases z), Reps.tr t _ _ q⟩
  | dct kvs =>
    obtain ⟨vs, r, q⟩ := h
    exact ⟨vs, g.rd r (fun _ _ z => by cases z), Repk.tr t _ _ q⟩
  | ins c fs =>
    obtain ⟨dx, vs, r, q⟩ := h
    refine ⟨dx, vs, ?_, Repf.tr t _ _ q⟩
    rcases g with g | ⟨kv, g, _⟩
    · exact g.trans r
    · rcases g with g | ⟨o, g⟩ <;> rw [r] at g <;> cases g
/-- for reading alone: the object itself may be one that is changed later -/
def RepL (K : PySem.W.Frag) (cA : Nat → Addr) (Av : Addr → Prop) (H : Hp) (d : D) (v : V) : Prop := match d with
  | .lst ds => ∃ a, v = .ref a ∧ RepM K cA Av H (.lst ds) a
  | .dct kvs => ∃ a, v = .ref a ∧ RepM K cA Av H (.dct kvs) a
  | .ins c fs => ∃ a, v = .ref a ∧ RepM K cA Av H (.ins c fs) a
  | d => Rep K cA Av H d v
theorem Rep.l {Av : Addr → Prop} {H : Hp} : ∀ {d : D} {v : V}, Rep K cA Av H d v → RepL K cA Av H d v
  | .non, _, h | .bl _, _, h | .int _, _, h | .str _, _, h | .tup _, _, h | .scr _, _, h => h
  | .lst ds, v, h => by
    rw [Rep] at h
    obtain ⟨a, vs, e, l, n, r, q⟩ := h
    exact ⟨a, e, vs, l, r, q⟩
  | .dct ds, v, h => by
    rw [Rep] at h
    obtain ⟨a, vs, e, n, r, q⟩ := h
    exact ⟨a, e, vs, r, q⟩
  | .ins c ds, v, h => by
    rw [Rep] at h
    obtain ⟨a, dx, vs, e, n, r, q⟩ := h
    exact ⟨a, e, dx, vs, r, q⟩
theorem RepM.l {Av : Addr → Prop} {H : Hp} {m : M} {a : Addr} (h : RepM K cA Av H m a) : RepL K cA Av H m.dat (.ref a) := by
  cases m <;> exact ⟨a, rfl, h⟩

/-! ### names -/
def Ow (ρ : Env) (σ : St) (a : Addr) : Prop := ∃ i m p l, gt ρ i = .own m p l ∧ σ[i]? = some (some (.ref a))
def Fre (ρ : Env) (σ : St) (a : Addr) : Prop := ∃ i m p, gt ρ i = .own m p false ∧ σ[i]? = some (some (.ref a))
theorem Fre.ow {ρ : Env} {σ : St} {a : Addr} (h : Fre ρ σ a) : Ow ρ σ a := by
  obtain ⟨i, m, p, h⟩ := h
  exact ⟨i, m, p, false, h⟩
def AvO (G : Addr → Prop) (ρ : Env) (σ : St) (a : Addr) : Prop := G a ∨ Ow ρ σ a
structure ER (K : PySem.W.Frag) (cA : Nat → Addr) (G : Addr → Prop) (σ : St) (H : Hp) (ρ : Env) : Prop where
  len : ρ.length = σ.length
  val : ∀ i d, gt ρ i = .val d → ∃ v, σ[i]? = some (some v) ∧ Rep K cA (AvO G ρ σ) H d v
  own : ∀ i m p l, gt ρ i = .own m p l → ∃ a, σ[i]? = some (some (.ref a)) ∧ ¬ G a ∧ RepM K cA (AvO G ρ σ) H m a ∧ (l = false → ∀ o u, H a ≠ some (.frz o u))
  dis : ∀ i j a m p l m' p' l', gt ρ i = .own m p l → gt ρ j = .own m' p' l' → σ[i]? = some (some (.ref a)) → σ[j]? = some (some (.ref a)) → i = j
  gin : ∀ a, G a → H a ≠ none
structure Step (ρ : Env) (σ : St) (H : Hp) (ρ' : Env) (σ' : St) (H' : Hp) : Prop where
  keep : ∀ b o, H b = some o → ¬ Fre ρ σ b → H' b = some o
  own : ∀ a, Ow ρ' σ' a → Ow ρ σ a ∨ H a = none
  fre : ∀ a, Fre ρ' σ' a → Fre ρ σ a ∨ H a = none
  pin : ∀ i, pinned ρ i = true → pinned ρ' i = true ∧ σ'[i]? = σ[i]?
  dom : ∀ b, H b ≠ none → H' b ≠ none
  lkd : ∀ i m p, gt ρ' i = .own m p true → ∃ m0 p0, gt ρ i = .own m0 p0 true ∧ σ'[i]? = σ[i]?
theorem Step.refl (ρ : Env) (σ : St) (H : Hp) : Step ρ σ H ρ σ H := ⟨fun _ _ h _ => h, fun _ h => .inl h, fun _ h => .inl h, fun _ h => ⟨h, rfl⟩, fun _ h => h, fun _ _ _ h => ⟨_, _, h, rfl⟩⟩
theorem Step.trans {ρ ρ1 ρ2 : Env} {σ σ1 σ2 : St} {H H1 H2 : Hp} (a : Step ρ σ H ρ1 σ1 H1) (b : Step ρ1 σ1 H1 ρ2 σ2 H2) : Step ρ σ H ρ2 σ2 H2 := by
  refine ⟨fun c o h n => ?_, fun c h => ?_, fun c h => ?_, fun i h => ?_, fun c h => b.dom c (a.dom c h), fun i m p h => ?_⟩
  · refine b.keep c o (a.keep c o h n) fun f => ?_
    rcases a.fre c f with f | f
    · exact n f
    · rw [h] at f; cases f
  · rcases b.own c h with h | h
    · exact a.own c h
    · refine .inr ?_
      cases q : H c with
      | none => rfl
      | some o => exact absurd h (a.dom c (by rw [q]; intro z; cases z))
  · rcases b.fre c h with h | h
    · exact a.fre c h
    · refine .inr ?_
      cases q : H c with
      | none => rfl
      | some o => exact absurd h (a.dom c (by rw [q]; intro z; cases z))
  · obtain ⟨p1, e1⟩ := a.pin i h
    obtain ⟨p2, e2⟩ := b.pin i p1
    exact ⟨p2, e2.trans e1⟩
  · obtain ⟨m1, p1, g1, e1⟩ := b.lkd i m p h
    obtain ⟨m2, p2, g2, e2⟩ := a.lkd i m1 p1 g1
    exact ⟨m2, p2, g2, e1.trans e2⟩
theorem some_ne {α : Type} {o : Option α} {x : α} (h : o = some x) : o ≠ none := by rw [h]; intro z; cases z
/-- what was there reads the same behind a step -/
theorem Step.tr {G : Addr → Prop} {ρ ρ' : Env} {σ σ' : St} {H H' : Hp} (s : Step ρ σ H ρ' σ' H') : Tr (AvO G ρ σ) (AvO G ρ' σ') H H' := fun b n h => by
  refine ⟨fun q => ?_, ?_⟩
  · rcases q with q | q
    · exact n (.inl q)
    · rcases s.own b q with q | q
      · exact n (.inr q)
      · exact h q
  · cases q : H b with
    | none => exact absurd q h
    | some o => exact .inl (by rw [q]; exact s.keep b o q fun f => n (.inr f.ow))
theorem ER.avin {G : Addr → Prop} {σ : St} {H : Hp} {ρ : Env} (e : ER K cA G σ H ρ) {a : Addr} (h : AvO G ρ σ a) : H a ≠ none := by
  rcases h with h | ⟨i, m, p, l, g, h⟩
  · exact e.gin a h
  · obtain ⟨b, hb, _, r, _⟩ := e.own i m p l g
    rw [h] at hb
    cases hb
    cases m with
    | lst ds =>
      obtain ⟨vs, _, r, _⟩ := r
      exact rd_some r
    | dct ds =>
      obtain ⟨vs, r, _⟩ := r
      exact rd_some r
    | ins c ds =>
      obtain ⟨dx, vs, r, _⟩ := r
      exact some_ne r
/-- with one address more -/
def plus (G : Addr → Prop) (p : Addr) : Addr → Prop := fun a => G a ∨ a = p
theorem avO_plus {G : Addr → Prop} {ρ : Env} {σ : St} {p a : Addr} : AvO (plus G p) ρ σ a ↔ AvO G ρ σ a ∨ a = p := by
  unfold AvO plus
  constructor
  · rintro ((h | h) | h)
    · exact .inl (.inl h)
    · exact .inr h
    · exact .inl (.inr h)
  · rintro ((h | h) | h)
    · exact .inl (.inl h)
    · exact .inr h
    · exact .inl (.inr h)
/-- a new object, which no name holds -/
theorem tr_new {Av : Addr → Prop} {H : Hp} {p : Addr} {o : HO} (np : H p = none) : Tr Av (fun a => Av a ∨ a = p) H (upd H p o) := fun b n h => by
  have e : b ≠ p := fun z => h (by rw [z]; exact np)
  exact ⟨fun q => q.elim n e, .inl (upd_ne e)⟩
theorem tr_upd {Av : Addr → Prop} {H : Hp} {p : Addr} {o : HO} (np : H p = none) : Tr Av Av H (upd H p o) := fun b n h => ⟨n, .inl (upd_ne fun z => h (by rw [z]; exact np))⟩
theorem Tr.cong {Av Av' Bv Bv' : Addr → Prop} {H H' : Hp} (t : Tr Av Av' H H') (h : ∀ a, Av a → Bv a) (h' : ∀ a, Bv' a → Av' a) : Tr Bv Bv' H H' := fun b n q => by
  obtain ⟨x, y⟩ := t b (fun z => n (h b z)) q
  exact ⟨fun z => x (h' b z), y⟩
theorem upd_in {H : Hp} {p b : Addr} {o : HO} (h : H b ≠ none) : upd H p o b ≠ none := by
  unfold upd
  split
  · intro z; cases z
  · exact h
theorem ER.new {G : Addr → Prop} {σ : St} {H : Hp} {ρ : Env} {p : Addr} {o : HO} (e : ER K cA G σ H ρ) (np : H p = none) : ER K cA (plus G p) σ (upd H p o) ρ := by
  have t : Tr (AvO G ρ σ) (AvO (plus G p) ρ σ) H (upd H p o) := (tr_new np).cong (fun _ h => h) fun _ h => avO_plus.mp h
  refine ⟨e.len, fun i d h => ?_, fun i m q l h => ?_, e.dis, fun a h => ?_⟩
  · obtain ⟨v, hv, r⟩ := e.val i d h
    exact ⟨v, hv, r.tr t⟩
  · obtain ⟨a, ha, ng, r, f⟩ := e.own i m q l h
    have hin : H a ≠ none := e.avin (.inr ⟨i, m, q, l, h, ha⟩)
    have ne : a ≠ p := fun z => hin (by rw [z]; exact np)
    exact ⟨a, ha, fun z => z.elim ng ne, r.tr t (.inl (upd_ne ne)), fun z o' u => by rw [upd_ne ne]; exact f z o' u⟩
  · rcases h with h | h
    · exact upd_in (e.gin a h)
    · rw [h, upd_same]; intro z; cases z
theorem ER.less {G : Addr → Prop} {σ : St} {H : Hp} {ρ : Env} {p : Addr} (e : ER K cA (plus G p) σ H ρ) : ER K cA G σ H ρ := by
  have t : Tr (AvO (plus G p) ρ σ) (AvO G ρ σ) H H := fun b n h => ⟨fun z => n (avO_plus.mpr (.inl z)), .inl rfl⟩
  refine ⟨e.len, fun i d h => ?_, fun i m q l h => ?_, e.dis, fun a h => e.gin a (.inl h)⟩
  · obtain ⟨v, hv, r⟩ := e.val i d h
    exact ⟨v, hv, r.tr t⟩
  · obtain ⟨a, ha, ng, r, f⟩ := e.own i m q l h
    exact ⟨a, ha, fun z => ng (.inl z), r.tr t (.inl rfl), f⟩
theorem Step.upd {ρ : Env} {σ : St} {H : Hp} {p : Addr} {o : HO} (np : H p = none) : Step ρ σ H ρ σ (upd H p o) :=
  ⟨fun b u h _ => by rw [upd_ne (ne_of_none h np)]; exact h, fun _ h => .inl h, fun _ h => .inl h, fun _ h => ⟨h, rfl⟩, fun _ h => upd_in h, fun _ _ _ h => ⟨_, _, h, rfl⟩⟩

/-! ### results -/
def RR (K : PySem.W.Frag) (cA : Nat → Addr) (G : Addr → Prop) (ρ : Env) (σ : St) (H : Hp) (ρ' : Env) (H' : Hp) (r : RV) (v : V) : Prop := match r with
  | .d d => ER K cA G σ H' ρ' ∧ Rep K cA (AvO G ρ' σ) H' d v
  | .f m => ∃ p, v = .ref p ∧ ER K cA (plus G p) σ H' ρ' ∧ RepM K cA (AvO (plus G p) ρ' σ) H' m p ∧ (∀ o u, H' p ≠ some (.frz o u)) ∧ ¬ AvO G ρ' σ p ∧ (Fre ρ σ p ∨ H p = none)
  | .p i => ER K cA G σ H' ρ' ∧ σ[i]? = some (some v)
/-- .. of a value that is held while others come -/
def RH (K : PySem.W.Frag) (cA : Nat → Addr) (G : Addr → Prop) (σ : St) (ρ' : Env) (H' : Hp) (r : RV) (v : V) : Prop := match r with
  | .d d => Rep K cA (AvO G ρ' σ) H' d v
  | .f _ => False
  | .p i => σ[i]? = some (some v)
theorem RR.er {G : Addr → Prop} {ρ ρ' : Env} {σ : St} {H H' : Hp} {r : RV} {v : V} (h : RR K cA G ρ σ H ρ' H' r v) : ER K cA G σ H' ρ' := by
  cases r with
  | d d => exact h.1
  | f m =>
    obtain ⟨p, _, e, _⟩ := h
    exact e.less
  | p i => exact h.1
theorem RR.hold {G : Addr → Prop} {ρ ρ' : Env} {σ : St} {H H' : Hp} {r : RV} {v : V} (h : RR K cA G ρ σ H ρ' H' r v) : RH K cA G σ ρ' H' r.hold v := by
  cases r with
  | d d => exact h.2
  | f m =>
    obtain ⟨p, rfl, e, r, _, n, _⟩ := h
    have t : Tr (AvO (plus G p) ρ' σ) (AvO G ρ' σ) H' H' := fun b n h => ⟨fun z => n (avO_plus.mpr (.inl z)), .inl rfl⟩
    exact (r.tr t (.inl rfl)).rep n
  | p i => exact h.2
theorem RH.later {G : Addr → Prop} {ρ ρ' : Env} {σ : St} {H H' : Hp} {r : RV} {v : V} (h : RH K cA G σ ρ H r v) (s : Step ρ σ H ρ' σ H') : RH K cA G σ ρ' H' r v := by
  cases r with
  | d d => exact Rep.tr s.tr d v h
  | f m => exact h.elim
  | p i => exact h
theorem RH.look {G : Addr → Prop} {ρ : Env} {σ : St} {H : Hp} {r : RV} {v : V} {d : D} (h : RH K cA G σ ρ H r v) (e : ER K cA G σ H ρ) (l : look ρ r = some d) : RepL K cA (AvO G ρ σ) H d v := by
  cases r with
  | d x =>
    cases l
    exact Rep.l h
  | f m => exact h.elim
  | p i =>
    unfold Ev.look at l
    dsimp only at l
    cases g : gt ρ i with
    | no => rw [g] at l; cases l
    | val x => rw [g] at l; cases l
    | kept => rw [g] at l; cases l
    | own m p q =>
      rw [g] at l
      cases l
      obtain ⟨a, ha, _, r, _⟩ := e.own i m p q g
      have h' : σ[i]? = some (some v) := h
      rw [ha] at h'
      cases h'
      exact r.l
theorem hold_dat {r : RV} {d : D} (h : r.dat? = some d) : r.hold = .d d := by
  cases r with
  | d x => cases h; rfl
  | f m => cases h; rfl
  | p i => cases h
theorem RR.dat {G : Addr → Prop} {ρ ρ' : Env} {σ : St} {H H' : Hp} {r : RV} {v : V} {d : D} (h : RR K cA G ρ σ H ρ' H' r v) (e : r.dat? = some d) : Rep K cA (AvO G ρ' σ) H' d v := by
  have q := h.hold
  rw [hold_dat e] at q
  exact q
def RHs (K : PySem.W.Frag) (cA : Nat → Addr) (G : Addr → Prop) (σ : St) (ρ' : Env) (H' : Hp) : List RV → List V → Prop
  | [], vs => vs = []
  | r :: rs, vs => ∃ v q, vs = v :: q ∧ RH K cA G σ ρ' H' r v ∧ RHs K cA G σ ρ' H' rs q
theorem RHs.later {G : Addr → Prop} {ρ ρ' : Env} {σ : St} {H H' : Hp} (s : Step ρ σ H ρ' σ H') : ∀ {rs : List RV} {vs : List V}, RHs K cA G σ ρ H rs vs → RHs K cA G σ ρ' H' rs vs
  | [], _, h => h
  | _ :: _, _, ⟨v, q, e, a, b⟩ => ⟨v, q, e, a.later s, RHs.later s b⟩
end
end Ev
end
/-! Eo -/
section
set_option Elab.async false
set_option linter.all false
set_option maxRecDepth 100000
set_option maxHeartbeats 1000000
namespace Ev
open PySem L2
open SX (S)
variable {K : PySem.W.Frag} {cA : Nat → Addr}
/-! ### rows of data -/
theorem Reps.length {Av : Addr → Prop} {H : Hp} : ∀ {ds : List D} {vs : List V}, Reps K cA Av H ds vs → vs.length = ds.length
  | [], _, h => by rw [Reps] at h; rw [h]; rfl
  | d :: ds, _, h => by
    rw [Reps] at h
    obtain ⟨v, r, e, _, q⟩ := h
    rw [e, List.length_cons, List.length_cons, Reps.length q]
theorem Reps.nil {Av : Addr → Prop} {H : Hp} : Reps K cA Av H [] [] := by rw [Reps]
theorem Reps.cons {Av : Addr → Prop} {H : Hp} {d : D} {v : V} {ds : List D} {vs : List V} (a : Rep K cA Av H d v) (b : Reps K cA Av H ds vs) : Reps K cA Av H (d :: ds) (v :: vs) := by
  rw [Reps]; exact ⟨v, vs, rfl, a, b⟩
theorem Reps.append {Av : Addr → Prop} {H : Hp} : ∀ {ds es : List D} {vs us : List V}, Reps K cA Av H ds vs → Reps K cA Av H es us → Reps K cA Av H (ds ++ es) (vs ++ us)
  | [], _, _, _, h, g => by rw [Reps] at h; rw [h]; exact g
  | d :: ds, _, _, _, h, g => by
    rw [Reps] at h
    obtain ⟨v, r, e, p, q⟩ := h
    rw [e]
    exact Reps.cons p (Reps.append q g)
theorem Reps.get {Av : Addr → Prop} {H : Hp} : ∀ {ds : List D} {vs : List V} {i : Nat} {d : D}, Reps K cA Av H ds vs → ds[i]? = some d → ∃ v, vs[i]? = some v ∧ Rep K cA Av H d v
  | [], _, _, _, _, e => by cases e
  | x :: ds, _, i, d, h, e => by
    rw [Reps] at h
    obtain ⟨v, r, e1, p, q⟩ := h
    subst e1
    cases i with
    | zero => cases e; exact ⟨v, rfl, p⟩
    | succ i =>
      rw [List.getElem?_cons_succ] at *
      exact Reps.get q e
theorem Reps.getV {Av : Addr → Prop} {H : Hp} : ∀ {ds : List D} {vs : List V} {i : Nat} {v : V}, Reps K cA Av H ds vs → vs[i]? = some v → ∃ d, ds[i]? = some d ∧ Rep K cA Av H d v
  | [], _, _, _, h, e => by rw [Reps] at h; subst h; cases e
  | x :: ds, _, i, v', h, e => by
    rw [Reps] at h
    obtain ⟨v, r, e1, p, q⟩ := h
    subst e1
    cases i with
    | zero => cases e; exact ⟨x, rfl, p⟩
    | succ i =>
      rw [List.getElem?_cons_succ] at *
      exact Reps.getV q e
theorem Reps.take {Av : Addr → Prop} {H : Hp} : ∀ {ds : List D} {vs : List V} (n : Nat), Reps K cA Av H ds vs → Reps K cA Av H (ds.take n) (vs.take n)
  | [], _, n, h => by rw [Reps] at h; subst h; simp; exact Reps.nil
  | d :: ds, _, 0, _ => by simp; exact Reps.nil
  | d :: ds, _, n + 1, h => by
    rw [Reps] at h
    obtain ⟨v, r, e, p, q⟩ := h
    subst e
    exact Reps.cons p (Reps.take n q)
theorem Reps.drop {Av : Addr → Prop} {H : Hp} : ∀ {ds : List D} {vs : List V} (n : Nat), Reps K cA Av H ds vs → Reps K cA Av H (ds.drop n) (vs.drop n)
  | [], _, n, h => by rw [Reps] at h; subst h; simp; exact Reps.nil
  | d :: ds, _, 0, h => h
  | d :: ds, _, n + 1, h => by
    rw [Reps] at h
    obtain ⟨v, r, e, p, q⟩ := h
    subst e
    exact Reps.drop n q
theorem Reps.set {Av : Addr → Prop} {H : Hp} {d : D} {v : V} (hd : Rep K cA Av H d v) : ∀ {ds : List D} {vs : List V} (n : Nat), Reps K cA Av H ds vs → Reps K cA Av H (ds.set n d) (vs.set n v)
  | [], _, n, h => by rw [Reps] at h; subst h; exact Reps.nil
  | x :: ds, _, 0, h => by
    rw [Reps] at h
    obtain ⟨v', r, e, p, q⟩ := h
    subst e
    exact Reps.cons hd q
  | x :: ds, _, n + 1, h => by
    rw [Reps] at h
    obtain ⟨v', r, e, p, q⟩ := h
    subst e
    exact Reps.cons p (Reps.set hd n q)
theorem Reps.erase {Av : Addr → Prop} {H : Hp} : ∀ {ds : List D} {vs : List V} (n : Nat), Reps K cA Av H ds vs → Reps K cA Av H (ds.eraseIdx n) (vs.eraseIdx n)
  | [], _, n, h => by rw [Reps] at h; subst h; exact Reps.nil
  | x :: ds, _, 0, h => by
    rw [Reps] at h
    obtain ⟨v', r, e, p, q⟩ := h
    subst e
    exact q
  | x :: ds, _, n + 1, h => by
    rw [Reps] at h
    obtain ⟨v', r, e, p, q⟩ := h
    subst e
    exact Reps.cons p (Reps.erase n q)
theorem Reps.dropLast {Av : Addr → Prop} {H : Hp} {ds : List D} {vs : List V} (h : Reps K cA Av H ds vs) : Reps K cA Av H ds.dropLast vs.dropLast := by
  rw [List.dropLast_eq_take, List.dropLast_eq_take, h.length]
  exact h.take _
theorem Reps.cut {Av : Addr → Prop} {H : Hp} {ds : List D} {vs : List V} (lo hi : Option Int) (h : Reps K cA Av H ds vs) : Reps K cA Av H (Ev.cut ds lo hi) (cutV vs lo hi) := by
  unfold Ev.cut cutV
  rw [h.length]
  exact (h.drop _).take _
theorem Reps.atI {Av : Addr → Prop} {H : Hp} {ds : List D} {vs : List V} {i : Int} {d : D} (h : Reps K cA Av H ds vs) (e : L2.atI ds i = some d) : ∃ v, L2.atI vs i = some v ∧ Rep K cA Av H d v := by
  unfold L2.atI at *
  rw [h.length]
  cases q : L2.ixN ds.length i with
  | none => rw [q] at e; cases e
  | some j =>
    rw [q] at e
    exact h.get e

/-! ### results of operators -/
def Res1 (K : PySem.W.Frag) (cA : Nat → Addr) (G : Addr → Prop) (ρ : Env) (σ : St) (H : Hp) (r : RV) (Q : VK) : Prop := ∀ w H', RR K cA G ρ σ H ρ H' r w → Step ρ σ H ρ σ H' → Q w H'
section
variable {G : Addr → Prop} {ρ : Env} {σ : St} {H : Hp} {Q : VK}
theorem Res1.d {d : D} {w : V} (q : Res1 K cA G ρ σ H (.d d) Q) (e : ER K cA G σ H ρ) (r : Rep K cA (AvO G ρ σ) H d w) : Q w H := q w H ⟨e, r⟩ (Step.refl ρ σ H)
theorem ER.nav (e : ER K cA G σ H ρ) {p : Addr} (np : H p = none) : ¬ AvO G ρ σ p := fun z => e.avin z np
theorem ER.grow {p : Addr} {o : HO} (e : ER K cA G σ H ρ) (np : H p = none) : ER K cA G σ (upd H p o) ρ := (e.new np).less
theorem Res1.tup {ds : List D} {vs : List V} {p : Addr} (q : Res1 K cA G ρ σ H (.d (.tup ds)) Q) (e : ER K cA G σ H ρ) (np : H p = none) (r : Reps K cA (AvO G ρ σ) H ds vs) (l : ds.length ≤ SZ) : Q (.ref p) (upd H p (.tup vs)) := by
  refine q _ _ ⟨e.grow np, ?_⟩ (Step.upd np)
  rw [Rep]
  exact ⟨p, vs, rfl, l, .inl ⟨e.nav np, .inl upd_same⟩, Reps.tr (tr_upd np) _ _ r⟩
theorem tr_plus (np : H p = none) {o : HO} : Tr (AvO G ρ σ) (AvO (plus G p) ρ σ) H (upd H p o) := (tr_new np).cong (fun _ h => h) fun _ h => avO_plus.mp h
theorem Res1.lst {ds : List D} {vs : List V} {p : Addr} (q : Res1 K cA G ρ σ H (.f (.lst ds)) Q) (e : ER K cA G σ H ρ) (np : H p = none) (r : Reps K cA (AvO G ρ σ) H ds vs) (l : ds.length ≤ SZ) : Q (.ref p) (upd H p (.lst vs)) := by
  refine q _ _ ⟨p, rfl, e.new np, ⟨vs, l, .inl upd_same, Reps.tr (tr_plus np) _ _ r⟩, fun x u z => ?_, e.nav np, .inr np⟩ (Step.upd np)
  rw [upd_same] at z
  cases z
theorem Res1.dct {ds : List (DK × D)} {vs : List (Key × V)} {p : Addr} (q : Res1 K cA G ρ σ H (.f (.dct ds)) Q) (e : ER K cA G σ H ρ) (np : H p = none) (r : Repk K cA (AvO G ρ σ) H ds vs) : Q (.ref p) (upd H p (.dK vs)) := by
  refine q _ _ ⟨p, rfl, e.new np, ⟨vs, .inl upd_same, Repk.tr (tr_plus np) _ _ r⟩, fun x u z => ?_, e.nav np, .inr np⟩ (Step.upd np)
  rw [upd_same] at z
  cases z
theorem Res1.int {i : Int} (q : Res1 K cA G ρ σ H (.d (.int i)) Q) (e : ER K cA G σ H ρ) : Q (.int i) H := q.d e (by rw [Rep])
theorem Res1.bl {b : Bool} (q : Res1 K cA G ρ σ H (.d (.bl b)) Q) (e : ER K cA G σ H ρ) : Q (.bl b) H := q.d e (by rw [Rep])
theorem Res1.str {l : Cs} (q : Res1 K cA G ρ σ H (.d (.str l)) Q) (e : ER K cA G σ H ρ) (o : okC l) : Q (.str (S l)) H := q.d e (by rw [Rep]; exact ⟨rfl, o⟩)
/-- reading rules -/
theorem RepL.int {Av : Addr → Prop} {i : Int} {v : V} (h : RepL K cA Av H (.int i) v) : v = .int i := by
  have h' : Rep K cA Av H (.int i) v := h
  rw [Rep] at h'; exact h'
theorem RepL.bl {Av : Addr → Prop} {i : Bool} {v : V} (h : RepL K cA Av H (.bl i) v) : v = .bl i := by
  have h' : Rep K cA Av H (.bl i) v := h
  rw [Rep] at h'; exact h'
theorem RepL.str {Av : Addr → Prop} {i : Cs} {v : V} (h : RepL K cA Av H (.str i) v) : v = .str (S i) ∧ okC i := by
  have h' : Rep K cA Av H (.str i) v := h
  rw [Rep] at h'; exact h'
theorem RepL.non {Av : Addr → Prop} {v : V} (h : RepL K cA Av H .non v) : v = .non := by
  have h' : Rep K cA Av H .non v := h
  rw [Rep] at h'; exact h'
theorem RepL.tup {Av : Addr → Prop} {ds : List D} {v : V} (h : RepL K cA Av H (.tup ds) v) : ∃ a vs, v = .ref a ∧ ds.length ≤ SZ ∧ RTup K Av H a vs ∧ Reps K cA Av H ds vs := by
  have h' : Rep K cA Av H (.tup ds) v := h
  rw [Rep] at h'; exact h'
theorem RepL.lst {Av : Addr → Prop} {ds : List D} {v : V} (h : RepL K cA Av H (.lst ds) v) : ∃ a vs, v = .ref a ∧ ds.length ≤ SZ ∧ Rd H a (.lst vs) ∧ Reps K cA Av H ds vs := by
  obtain ⟨a, e, vs, l, r, q⟩ := h
  exact ⟨a, vs, e, l, r, q⟩
theorem RepL.dct {Av : Addr → Prop} {ds : List (DK × D)} {v : V} (h : RepL K cA Av H (.dct ds) v) : ∃ a kv, v = .ref a ∧ Rd H a (.dK kv) ∧ Repk K cA Av H ds kv := by
  obtain ⟨a, e, vs, r, q⟩ := h
  exact ⟨a, vs, e, r, q⟩
theorem RepL.scr {Av : Addr → Prop} {ds : List Int} {v : V} (h : RepL K cA Av H (.scr ds) v) : ∃ a, v = .ref a ∧ ds.length ≤ SZ ∧ SqL K H a (ds.map V.int) := by
  have h' : Rep K cA Av H (.scr ds) v := h
  rw [Rep] at h'
  obtain ⟨a, e, l, r⟩ := h'
  exact ⟨a, e, l, r.sq⟩
theorem RepL.ins {Av : Addr → Prop} {c : Nat} {ds : List (DK × D)} {v : V} (h : RepL K cA Av H (.ins c ds) v) : ∃ a dx fv, v = .ref a ∧ H a = some (.ins (cA c) dx fv) ∧ Repf K cA Av H ds fv := by
  obtain ⟨a, e, dx, vs, r, q⟩ := h
  exact ⟨a, dx, vs, e, r, q⟩
end
/-! ### data that == goes by -/
mutual
def toPy : D → PyData
  | .non => .none
  | .bl b => .bool b
  | .int i => .int i
  | .str l => .str (S l)
  | .tup ds => .tuple (toPys ds)
  | .lst ds => .list (toPys ds)
  | .dct _ => .none
  | .ins _ _ => .none
  | .scr _ => .none
def toPys : List D → List PyData
  | [] => []
  | d :: ds => toPy d :: toPys ds
end
mutual
theorem rep_dp {Av : Addr → Prop} {H : Hp} {n : Nat} : ∀ (d : D) (v : V), plain n d = true → Rep K cA Av H d v → Dp K H v (toPy d) ∧ (toPy d).canLay0 = true ∧ (toPy d).depth ≤ n
  | .non, v, p, h => by
    rw [Rep] at h; subst h; rw [toPy]
    exact ⟨.non, by rw [PyData.canLay0], by rw [PyData.depth]; exact Nat.zero_le _⟩
  | .bl b, v, p, h => by
    rw [Rep] at h; subst h; rw [toPy]
    exact ⟨.bl b, by rw [PyData.canLay0], by rw [PyData.depth]; exact Nat.zero_le _⟩
  | .int i, v, p, h => by
    rw [Rep] at h; subst h; rw [toPy]
    exact ⟨.int i, by rw [PyData.canLay0], by rw [PyData.depth]; exact Nat.zero_le _⟩
  | .str l, v, p, h => by
    rw [Rep] at h; obtain ⟨rfl, o⟩ := h; rw [toPy]
    refine ⟨.str _, ?_, by rw [PyData.depth]; exact Nat.zero_le _⟩
    rw [PyData.canLay0]
    unfold PyData.strOk
    rw [← Array.all_toList]
    exact o.1
  | .tup ds, v, p, h => by
    rw [Rep] at h
    obtain ⟨a, vs, rfl, _, r, q⟩ := h
    cases n with
    | zero => rw [plain] at p; cases p
    | succ n =>
      rw [plain] at p
      obtain ⟨x, y, z⟩ := reps_dp ds vs p q
      rw [toPy]
      exact ⟨.tup r.sq x, by rw [PyData.canLay0]; exact y, by rw [PyData.depth]; omega⟩
  | .lst ds, v, p, h => by
    rw [Rep] at h
    obtain ⟨a, vs, rfl, _, _, r, q⟩ := h
    cases n with
    | zero => rw [plain] at p; cases p
    | succ n =>
      rw [plain] at p
      obtain ⟨x, y, z⟩ := reps_dp ds vs p q
      rw [toPy]
      exact ⟨.lst (.inl r) x, by rw [PyData.canLay0]; exact y, by rw [PyData.depth]; omega⟩
  | .dct _, _, p, _ => by rw [plain] at p; cases p
  | .ins _ _, _, p, _ => by rw [plain] at p; cases p
  | .scr _, _, p, _ => by rw [plain] at p; cases p
theorem reps_dp {Av : Addr → Prop} {H : Hp} {n : Nat} : ∀ (ds : List D) (vs : List V), plains n ds = true → Reps K cA Av H ds vs → DpAll K H vs (toPys ds) ∧ PyData.canLayAll0 (toPys ds) = true ∧ PyData.depthAll (toPys ds) ≤ n
  | [], vs, p, h => by
    rw [Reps] at h; subst h; rw [toPys]
    exact ⟨.nil, by rw [PyData.canLayAll0], by rw [PyData.depthAll]; exact Nat.zero_le _⟩
  | d :: ds, vs, p, h => by
    rw [Reps] at h
    obtain ⟨v, r, rfl, h1, h2⟩ := h
    rw [plains, Bool.and_eq_true] at p
    obtain ⟨a1, a2, a3⟩ := rep_dp d v p.1 h1
    obtain ⟨b1, b2, b3⟩ := reps_dp ds r p.2 h2
    rw [toPys]
    exact ⟨.cons a1 b1, by rw [PyData.canLayAll0, a2, b2]; rfl, by rw [PyData.depthAll]; omega⟩
end
theorem repL_dp {Av : Addr → Prop} {H : Hp} {n : Nat} {d : D} {v : V} (p : plain n d = true) (h : RepL K cA Av H d v) : Dp K H v (toPy d) ∧ (toPy d).canLay0 = true ∧ (toPy d).depth ≤ n := by
  cases d with
  | lst ds =>
    obtain ⟨a, vs, rfl, _, r, q⟩ := h.lst
    cases n with
    | zero => rw [plain] at p; cases p
    | succ n =>
      rw [plain] at p
      obtain ⟨x, y, z⟩ := reps_dp ds vs p q
      rw [toPy]
      exact ⟨.lst (.inl r) x, by rw [PyData.canLay0]; exact y, by rw [PyData.depth]; omega⟩
  | dct _ => rw [plain] at p; cases p
  | ins _ _ => rw [plain] at p; cases p
  | scr _ => rw [plain] at p; cases p
  | non => exact rep_dp (cA := cA) (Av := Av) _ v p h
  | bl _ => exact rep_dp (cA := cA) (Av := Av) _ v p h
  | int _ => exact rep_dp (cA := cA) (Av := Av) _ v p h
  | str _ => exact rep_dp (cA := cA) (Av := Av) _ v p h
  | tup _ => exact rep_dp (cA := cA) (Av := Av) _ v p h
theorem S_dec {a b : Cs} : (S a == S b) = decide (a = b) := SX.S_beq_eq
mutual
theorem eqv_py {n m : Nat} : ∀ (a b : D), plain n a = true → plain m b = true → PyData.eqv (toPy a) (toPy b) = eqv a b
  | .non, b, p, q => by cases b <;> first | (rw [plain] at q; cases q; done) | simp [toPy, PyData.eqv, eqv]
  | .bl x, b, p, q => by cases b <;> first | (rw [plain] at q; cases q; done) | simp [toPy, PyData.eqv, eqv]
  | .int x, b, p, q => by cases b <;> first | (rw [plain] at q; cases q; done) | simp [toPy, PyData.eqv, eqv]
  | .str x, b, p, q => by
    cases b <;> first
      | (rw [plain] at q; cases q; done)
      | (rw [toPy, toPy, PyData.eqv, eqv]; exact S_dec)
      | simp [toPy, PyData.eqv, eqv]
  | .tup xs, b, p, q => by
    cases b <;> first
      | (rw [plain] at q; cases q; done)
      | (cases n <;> first
          | (rw [plain] at p; cases p; done)
          | (cases m <;> first
              | (rw [plain] at q; cases q; done)
              | (rw [plain] at p q; rw [toPy, toPy, PyData.eqv, eqv]; exact eqvs_py xs _ p q)))
      | simp [toPy, PyData.eqv, eqv]
  | .lst xs, b, p, q => by
    cases b <;> first
      | (rw [plain] at q; cases q; done)
      | (cases n <;> first
          | (rw [plain] at p; cases p; done)
          | (cases m <;> first
              | (rw [plain] at q; cases q; done)
              | (rw [plain] at p q; rw [toPy, toPy, PyData.eqv, eqv]; exact eqvs_py xs _ p q)))
      | simp [toPy, PyData.eqv, eqv]
  | .dct _, _, p, _ => by rw [plain] at p; cases p
  | .ins _ _, _, p, _ => by rw [plain] at p; cases p
  | .scr _, _, p, _ => by rw [plain] at p; cases p
theorem eqvs_py {n m : Nat} : ∀ (as bs : List D), plains n as = true → plains m bs = true → PyData.eqvAll (toPys as) (toPys bs) = eqvs as bs
  | [], [], _, _ => by simp [toPys, PyData.eqvAll, eqvs]
  | [], _ :: _, _, _ => by simp [toPys, PyData.eqvAll, eqvs]
  | _ :: _, [], _, _ => by simp [toPys, PyData.eqvAll, eqvs]
  | a :: as, b :: bs, p, q => by
    rw [plains, Bool.and_eq_true] at p q
    rw [toPys, toPys, PyData.eqvAll, eqvs, eqv_py a b p.1 q.1, eqvs_py as bs p.2 q.2]
end
theorem any_py {n m : Nat} {x : D} (p : plain n x = true) : ∀ {ds : List D}, plains m ds = true → ((toPys ds).any fun z => PyData.eqv z (toPy x)) = ds.any fun z => eqv z x
  | [], _ => by simp [toPys]
  | d :: ds, q => by
    rw [plains, Bool.and_eq_true] at q
    rw [toPys, List.any_cons, List.any_cons, eqv_py d x q.1 p, any_py p q.2]
theorem shaped_of {d : PyData} {n : Nat} (h : n ≤ 64) (a : d.canLay0 = true) (b : d.depth ≤ n) : SeqAt.shaped d = true := by
  unfold SeqAt.shaped
  rw [a, decide_eq_true (Nat.le_trans b h)]
  rfl
end Ev
end
/-! G0 -/
section
set_option Elab.async false
set_option linter.all false
set_option autoImplicit false
set_option maxRecDepth 100000
set_option maxHeartbeats 1000000
namespace Ev
open PySem L2 PySem.Spec PyProof.Rows
section
variable {X : Cx} {pins : List (Addr × Obj)} {σ : L2.St} {H : Hp} {s : Shared} {K : PySem.W.Frag} {cA : Nat → Addr}
theorem rd_dict {a : Addr} {kv : List (Key × V)} (I : Inv X pins σ H s) (r : Rd H a (.dK kv)) : (a == sysModules) = false ∧ ∃ vs, KV kv vs ∧ s.heap.DictOf (mixKind X.prog X.w) a vs := by
  obtain ⟨_, hS, vs, rr, m⟩ : kv.length ≤ sizeLine ∧ (a == sysModules) = false ∧ ∃ vs, KV kv vs ∧ s.heap.DictOf (mixKind X.prog X.w) a vs := r.ok I.hok
  exact ⟨hS, vs, rr, m⟩
/-- the values of a table are those of another one -/
def eqKV (ls : List (Key × V)) : List (Key × V) → Bool
  | [] => true
  | p :: r => match valV ls p.1 with
    | some u => eqV p.2 u && eqKV ls r
    | none => false
theorem hits_kv {P : Program} {w : World} {A : Around} {ls : List (Key × V)} {vb : List (Key × Value)} (rb : KV ls vb) (fb : ∀ k u, valV ls k = some u → flatV u = true) : ∀ {ks : List (Key × V)} {va : List (Key × Value)}, KV ks va → (∀ p ∈ ks, flatV p.2 = true) → PySem.W.KeqHitsP P w A s vb va (eqKV ls ks) := by
  intro ks va ra
  unfold KV at ra
  induction ra with
  | nil => intro _; exact .nil
  | @cons p q ps qs h t k =>
    intro hp
    obtain ⟨h1, h2⟩ := h
    have rr : RelO (valV ls p.1) (valueAt vb p.1) := rb.val p.1
    obtain ⟨key, v⟩ := q
    have h1' : p.1 = key := h1
    rw [eqKV]
    cases e : valV ls p.1 with
    | none =>
      rw [e] at rr
      have hn : valueAt vb p.1 = none := by
        cases hv : valueAt vb p.1 with
        | none => rfl
        | some _ => rw [hv] at rr; cases rr
      rw [h1'] at hn
      exact .miss hn
    | some u =>
      rw [e] at rr
      obtain ⟨y, hy, ry⟩ := rr.some_of
      rw [h1'] at hy
      exact .hit hy (eqAt_V h2 ry (hp p List.mem_cons_self) (fb _ _ e)).eqP (k fun p' hm => hp p' (List.mem_cons_of_mem _ hm))
def rEqK (K : PySem.W.Frag) : R2 := fun x y H Q => ∃ a b ks ls, x = .ref a ∧ y = .ref b ∧ Rd H a (.dK ks) ∧ Rd H b (.dK ls) ∧ (∀ p ∈ ks, flatV p.2 = true) ∧ (∀ k u, valV ls k = some u → flatV u = true) ∧ Q (.bl (ks.length == ls.length && eqKV ls ks)) H
theorem op_eqK (hu : X.A.units + 64 < cLine) : OpR X (compareOp .Eq) (rEqK X.K) := by
  intro pins s σ H x y v u Q I rx ry h
  obtain ⟨a, b, ks, ls, rfl, rfl, ha, hb, fa, fb, q⟩ := h
  cases (show v = Value.ref a from rx)
  cases (show u = Value.ref b from ry)
  obtain ⟨ya, va, ra, da⟩ := rd_dict I ha
  obtain ⟨yb, vb, rb, db⟩ := rd_dict I hb
  refine PySem.W.rcP_dicts (knd := mixKind X.prog X.w) (r := eqKV ls ks) ya yb da db (by omega) (fun _ => hits_kv rb fb ra fa) _ _ ?_
  rw [← ra.length, ← rb.length]
  exact ⟨.bl _, H, I, rfl, q⟩
theorem repl_flat {Av : Addr → Prop} {H : Hp} {d : D} {v : V} (h : Rep K cA Av H d v) (e : scal d = true) : flatV v = true := by
  cases d <;> first | (cases e; done) | (rw [Rep] at h; cases h; rfl) | (rw [Rep] at h; obtain ⟨rfl, _⟩ := h; rfl)
theorem eqv_flat {Av : Addr → Prop} {H : Hp} {d x : D} {v u : V} (h : Rep K cA Av H d v) (g : Rep K cA Av H x u) (e : scal d = true) (f : scal x = true) : eqV v u = eqv d x := by
  cases d <;> first | (cases e; done) | skip
  all_goals (cases x <;> first | (cases f; done) | skip)
  all_goals simp only [Rep] at h g
  all_goals first
    | (obtain ⟨rfl, _⟩ := h; obtain ⟨rfl, _⟩ := g; simp only [eqV, eqv]; exact SX.S_beq_eq)
    | (obtain ⟨rfl, _⟩ := h; cases g; rfl)
    | (cases h; obtain ⟨rfl, _⟩ := g; rfl)
    | (cases h; cases g; rfl)
end
end Ev
end
/-! Eq -/
section
set_option Elab.async false
set_option linter.all false
set_option maxRecDepth 100000
set_option maxHeartbeats 1000000
namespace Ev
open PySem L2
open SX (S)
def opS : BOp → Operator
  | .add => .Add | .sub => .Sub | .mul => .Mult | .fdiv => .FloorDiv | .mod => .Mod | .pow => .Pow
def opC : COp → CmpOp
  | .lt => .Lt | .le => .LtE | .gt => .Gt | .ge => .GtE | .eq => .Eq | .ne => .NotEq | .inn => .In | .nin => .NotIn | .is => .Is | .nis => .IsNot
section
variable {X : Cx} {cA : Nat → Addr}
/-- two operands, one result -/
def rTwo (K : PySem.W.Frag) (cA : Nat → Addr) (f : D → D → Option RV) : R2 := fun v u H Q => ∃ G ρ σ x y r, ER K cA G σ H ρ ∧ RepL K cA (AvO G ρ σ) H x v ∧ RepL K cA (AvO G ρ σ) H y u ∧ f x y = some r ∧ Res1 K cA G ρ σ H r Q
theorem RTup.nil_iff {Av : Addr → Prop} {H : Hp} {ds : List D} {vs : List V} {K : PySem.W.Frag} (h : Reps K cA Av H ds vs) : vs = [] ↔ ds = [] := by
  have e := h.length
  constructor
  · intro z; rw [z] at e; exact List.eq_nil_of_length_eq_zero e.symm
  · intro z; rw [z] at e; exact List.eq_nil_of_length_eq_zero e
theorem okC.append {a b : Cs} (ha : okC a) (hb : okC b) (h : a.length + b.length ≤ SZ) : okC (a ++ b) := ⟨by rw [List.all_append, ha.1, hb.1]; rfl, by rw [List.length_append]; exact h⟩
def ndup (ds : List (DK × D)) : Prop := (ds.map (·.1)).Nodup
theorem rd_list {pins : List (Addr × Obj)} {σ : St} {H : Hp} {s : Shared} {a : Addr} {vs : List V} (I : Inv X pins σ H s) (h : Rd H a (.lst vs)) : ∃ (its : List Value) (n : Nat), Vals vs its ∧ s.heap.get? a = some { cls := .type "list", data := .seq its.toArray n } ∧ vs.length ≤ sizeLine := by
  obtain ⟨z, its, n, r, e⟩ := h.ok I.hok
  exact ⟨its, n, r, e, z⟩
theorem op_bin (op : BOp) : OpR X (binaryOp (opS op)) (rTwo X.K cA (binE op)) := by
  intro pins s σ H v u v' u' Q I rv ru h
  obtain ⟨G, ρ, σ0, x, y, r, e, hx, hy, hf, q⟩ := h
  unfold binE at hf
  split at hf
  · cases hf
    cases hx.int
    cases hy.int
    exact op_add pins s σ H _ _ v' u' Q I rv ru ⟨_, _, rfl, rfl, q.int e⟩
  · rename_i a b
    split at hf
    · rename_i hl
      cases hf
      obtain ⟨rfl, ox⟩ := hx.str
      obtain ⟨rfl, oy⟩ := hy.str
      refine op_add_str pins s σ H _ _ v' u' Q I rv ru ⟨_, _, rfl, rfl, ?_, ?_⟩
      · rw [SX.S_len, SX.S_len, ← SZ_line]; exact hl
      · rw [SX.S_cat]
        exact q.str e (ox.append oy hl)
    · cases hf
  · rename_i a b
    split at hf
    · rename_i hl
      cases hf
      obtain ⟨p1, vs, rfl, l1, r1, q1⟩ := hx.lst
      obtain ⟨p2, us, rfl, l2, r2, q2⟩ := hy.lst
      cases rv
      cases ru
      obtain ⟨its, n, ra, h1, z1⟩ := rd_list I r1
      obtain ⟨its2, n2, rb, h2, z2⟩ := rd_list I r2
      have e1 := ra.length
      have e2 := rb.length
      have el1 := q1.length
      have el2 := q2.length
      rw [SZ_line] at hl
      refine PySem.P.add_list h1 h2 ?_ (by rw [List.size_toArray, List.size_toArray]; omega)
      rw [show its.toArray ++ its2.toArray = (its ++ its2).toArray by simp]
      exact ⟨.ref _, _, I.lnew (t' := s.toks) (ra.append rb) (by rw [List.length_append]; omega), rfl, q.lst e I.fresh (q1.append q2) (by rw [List.length_append, SZ_line]; exact hl)⟩
    · cases hf
  · rename_i a b
    split at hf
    · rename_i hl
      cases hf
      obtain ⟨p1, vs, rfl, l1, r1, q1⟩ := hx.tup
      obtain ⟨p2, us, rfl, l2, r2, q2⟩ := hy.tup
      refine op_catA pins s σ H _ _ v' u' Q I rv ru ⟨p1, p2, vs, us, rfl, rfl, r1.sq, r2.sq, ?_, fun z => ?_, fun z1 z2 => ?_, fun z1 z2 p np => ?_⟩
      · rw [q1.length, q2.length, ← SZ_line]; exact hl
      · have z' := (RTup.nil_iff q1).mp z
        subst z'
        exact q.d e (by rw [Rep]; exact ⟨p2, us, rfl, l2, r2, q2⟩)
      · have z' := (RTup.nil_iff q2).mp z2
        subst z'
        rw [List.append_nil] at q
        exact q.d e (by rw [Rep]; exact ⟨p1, vs, rfl, l1, r1, q1⟩)
      · exact q.tup e np (q1.append q2) (by rw [List.length_append]; exact hl)
    · cases hf
  · cases hf
    cases hx.int
    cases hy.int
    exact op_sub pins s σ H _ _ v' u' Q I rv ru ⟨_, _, rfl, rfl, q.int e⟩
  · split at hf
    · rename_i hc
      cases hf
      cases hx.int
      cases hy.int
      exact op_mul pins s σ H _ _ v' u' Q I rv ru ⟨_, _, rfl, rfl, hc, q.int e⟩
    · cases hf
  · split at hf
    · rename_i hc
      cases hf
      cases hx.int
      cases hy.int
      exact op_fdiv pins s σ H _ _ v' u' Q I rv ru ⟨_, _, rfl, rfl, hc, q.int e⟩
    · cases hf
  · split at hf
    · rename_i hc
      cases hf
      cases hx.int
      cases hy.int
      exact op_mod pins s σ H _ _ v' u' Q I rv ru ⟨_, _, rfl, rfl, hc, q.int e⟩
    · cases hf
  · split at hf
    · rename_i hc
      cases hf
      cases hx.int
      cases hy.int
      exact op_pow pins s σ H _ _ v' u' Q I rv ru ⟨_, _, rfl, rfl, hc, q.int e⟩
    · cases hf
  · cases hf
/-- a test of two operands -/
def rTwoB (K : PySem.W.Frag) (cA : Nat → Addr) (f : D → D → Option Bool) : R2 := fun v u H Q => ∃ G ρ σ x y b, ER K cA G σ H ρ ∧ RepL K cA (AvO G ρ σ) H x v ∧ RepL K cA (AvO G ρ σ) H y u ∧ f x y = some b ∧ Q (.bl b) H
theorem scal_eqV {K : PySem.W.Frag} {Av : Addr → Prop} {H : Hp} {x y : D} {v u : V} (hx : RepL K cA Av H x v) (hy : RepL K cA Av H y u) : True := trivial
theorem op_eqP (hu : X.A.units + 64 < cLine) : OpR X (compareOp .Eq) (rTwoB X.K cA eqE) := by
  intro pins s σ H v u v' u' Q I rv ru h
  obtain ⟨G, ρ, σ0, x, y, b, e, hx, hy, hf, q⟩ := h
  unfold eqE at hf
  split at hf
  · rename_i hp
    rw [Bool.and_eq_true] at hp
    cases hf
    obtain ⟨a1, a2, a3⟩ := repL_dp hp.1 hx
    obtain ⟨b1, b2, b3⟩ := repL_dp hp.2 hy
    refine op_eqD hu pins s σ H _ _ v' u' Q I rv ru ⟨_, _, a1, b1, shaped_of (by decide) a2 a3, shaped_of (by decide) b2 b3, ?_⟩
    rw [eqv_py x y hp.1 hp.2]
    exact q
  · cases hf
theorem op_neX (hu : X.A.units + 64 < cLine) : OpR X (compareOp .NotEq) (rTwoB X.K cA fun a b => (eqE a b).map (!·)) := by
  intro pins s σ H v u v' u' Q I rv ru h
  obtain ⟨G, ρ, σ0, x, y, b, e, hx, hy, hf, q⟩ := h
  unfold eqE at hf
  dsimp only at hf
  split at hf
  · rename_i hp
    rw [Bool.and_eq_true] at hp
    cases hf
    obtain ⟨a1, a2, a3⟩ := repL_dp hp.1 hx
    obtain ⟨b1, b2, b3⟩ := repL_dp hp.2 hy
    refine op_neD hu pins s σ H _ _ v' u' Q I rv ru ⟨_, _, a1, b1, shaped_of (by decide) a2 a3, shaped_of (by decide) b2 b3, ?_⟩
    rw [eqv_py x y hp.1 hp.2]
    exact q
  · cases hf
theorem rep_in {K : PySem.W.Frag} {Av : Addr → Prop} {H : Hp} {k : DK} {x : D} {v : V} (h : key? x = some k) (r : RepL K cA Av H x v) : v = kV (kK k) := by
  cases x <;> simp only [key?] at h <;> cases h
  · exact r.int
  · exact r.str.1
theorem repk_get {K : PySem.W.Frag} {Av : Addr → Prop} {H : Hp} {k : DK} : ∀ {kvs : List (DK × D)} {kv : List (Key × V)}, Repk K cA Av H kvs kv → (getK kvs k = none ∧ valV kv (kK k) = none) ∨ ∃ d v, getK kvs k = some d ∧ valV kv (kK k) = some v ∧ Rep K cA Av H d v
  | [], _, h => by
    rw [Repk] at h; subst h
    exact .inl ⟨rfl, rfl⟩
  | (k', d) :: r, _, h => by
    rw [Repk] at h
    obtain ⟨v, q, rfl, h1, h2⟩ := h
    by_cases e : k' = k
    · subst e
      refine .inr ⟨d, v, ?_, valV_pos rfl, h1⟩
      unfold getK
      rw [List.find?_cons_of_pos (by simp)]
      rfl
    · have e' : ¬ kK k' = kK k := fun z => e (kK_inj z)
      have g : getK ((k', d) :: r) k = getK r k := by
        unfold getK
        rw [List.find?_cons_of_neg (by simpa using e)]
      rw [g, valV_neg e']
      exact repk_get h2
theorem repk_flat {K : PySem.W.Frag} {Av : Addr → Prop} {H : Hp} : ∀ {kvs : List (DK × D)} {kv : List (Key × V)}, Repk K cA Av H kvs kv → (kvs.all fun p => scal p.2) = true → ∀ p ∈ kv, flatV p.2 = true
  | [], _, h, _ => by
    rw [Repk] at h; subst h
    intro p m
    cases m
  | (k', d) :: r, _, h, a => by
    rw [Repk] at h
    obtain ⟨v, q, rfl, h1, h2⟩ := h
    rw [List.all_cons, Bool.and_eq_true] at a
    intro p m
    rcases List.mem_cons.mp m with rfl | m
    · exact repl_flat h1 a.1
    · exact repk_flat h2 a.2 p m
theorem getK_mem {kvs : List (DK × D)} {k : DK} {d : D} (h : getK kvs k = some d) : ∃ p ∈ kvs, p.2 = d := by
  unfold getK at h
  obtain ⟨p, h1, h2⟩ := Option.map_eq_some_iff.mp h
  exact ⟨p, List.mem_of_find?_eq_some h1, h2⟩
theorem valV_mem {kv : List (Key × V)} {k : Key} {u : V} (h : valV kv k = some u) : ∃ p ∈ kv, p.2 = u := by
  unfold valV at h
  obtain ⟨p, h1, h2⟩ := Option.map_eq_some_iff.mp h
  exact ⟨p, List.mem_of_find?_eq_some h1, h2⟩
theorem eqKV_eq {K : PySem.W.Frag} {Av : Addr → Prop} {H : Hp} {kb : List (DK × D)} {lb : List (Key × V)} (hb : Repk K cA Av H kb lb) (fb : (kb.all fun p => scal p.2) = true) : ∀ {ka : List (DK × D)} {la : List (Key × V)}, Repk K cA Av H ka la → (ka.all fun p => scal p.2) = true → eqKV lb la = eqKd kb ka
  | [], _, h, _ => by
    rw [Repk] at h; subst h
    rfl
  | (k', d) :: r, _, h, a => by
    rw [Repk] at h
    obtain ⟨v, q, rfl, h1, h2⟩ := h
    rw [List.all_cons, Bool.and_eq_true] at a
    rw [eqKV, eqKd]
    dsimp only
    rcases repk_get (k := k') hb with ⟨e1, e2⟩ | ⟨x, u, e1, e2, r3⟩
    · rw [e1, e2]
    · rw [e1, e2]
      dsimp only
      obtain ⟨p, m, e⟩ := getK_mem e1
      have fx : scal x = true := by rw [← e]; exact List.all_eq_true.mp fb p m
      rw [eqv_flat h1 r3 a.1 fx, eqKV_eq hb fb h2 a.2]
theorem repk_len {K : PySem.W.Frag} {Av : Addr → Prop} {H : Hp} : ∀ {kvs : List (DK × D)} {kv : List (Key × V)}, Repk K cA Av H kvs kv → kv.length = kvs.length
  | [], _, h => by rw [Repk] at h; subst h; rfl
  | (k', d) :: r, _, h => by
    rw [Repk] at h
    obtain ⟨v, q, rfl, h1, h2⟩ := h
    rw [List.length_cons, List.length_cons, repk_len h2]
theorem op_eqX (hu : X.A.units + 64 < cLine) : OpR X (compareOp .Eq) (rTwoB X.K cA eqX) := by
  intro pins s σ H v u v' u' Q I rv ru h
  obtain ⟨G, ρ, σ0, x, y, b, e, hx, hy, hf, q⟩ := h
  unfold eqX at hf
  split at hf
  · rename_i ka kb
    split at hf
    · rename_i hp
      rw [Bool.and_eq_true] at hp
      cases hf
      obtain ⟨a, la, rfl, ra, pa⟩ := hx.dct
      obtain ⟨b, lb, rfl, rb, pb⟩ := hy.dct
      refine op_eqK hu pins s σ H _ _ v' u' Q I rv ru ⟨a, b, la, lb, rfl, rfl, ra, rb, repk_flat pa hp.1, fun k u e => ?_, ?_⟩
      · obtain ⟨p, m, e⟩ := valV_mem e
        rw [← e]
        exact repk_flat pb hp.2 p m
      · rw [repk_len pa, repk_len pb, eqKV_eq pb hp.2 pa hp.1]
        exact q
    · cases hf
  · exact op_eqP hu pins s σ H v u v' u' Q I rv ru ⟨G, ρ, σ0, x, y, b, e, hx, hy, hf, q⟩
theorem dget_of {K : PySem.W.Frag} {Av : Addr → Prop} {H : Hp} {k : DK} {a : Addr} {kv : List (Key × V)} (h : Rd H a (.dK kv)) : DGet H a (kV (kK k)) (valV kv (kK k)) := .inl ⟨kv, kK k, h, rfl, rfl⟩
theorem plains_mono {n m : Nat} (h : n ≤ m) : ∀ {ds : List D}, (∀ d ∈ ds, plain n d = true → plain m d = true) → plains n ds = true → plains m ds = true
  | [], _, _ => by rw [plains]
  | d :: ds, g, p => by
    rw [plains, Bool.and_eq_true] at *
    exact ⟨g d List.mem_cons_self p.1, plains_mono h (fun x m => g x (List.mem_cons_of_mem _ m)) p.2⟩
/-- x in y and x not in y -/
theorem op_mem (hu : X.A.units + 66 < cLine) (neg : Bool) : OpR X (compareOp (if neg then .NotIn else .In)) (rTwoB X.K cA fun a b => (memE a b).map fun c => if neg then !c else c) := by
  intro pins s σ H v u v' u' Q I rv ru h
  obtain ⟨G, ρ, σ0, x, y, b, e, hx, hy, hf, q⟩ := h
  obtain ⟨c, hc, hb⟩ := Option.map_eq_some_iff.mp hf
  subst hb
  clear hf
  unfold memE at hc
  split at hc
  · rename_i ds
    split at hc
    · rename_i hp
      rw [Bool.and_eq_true] at hp
      obtain ⟨a1, a2, a3⟩ := repL_dp hp.1 hx
      obtain ⟨b1, b2, b3⟩ := repL_dp (n := 40) (show plain 40 (.lst ds) = true by rw [plain]; exact hp.2) hy
      rw [toPy] at b1 b2 b3
      rw [PyData.canLay0] at b2
      rw [PyData.depth] at b3
      obtain ⟨as, r1⟩ := Dp.reads I _ _ _ a1 rv
      obtain ⟨bs, r2⟩ := Dp.reads I _ _ _ b1 ru
      have ea := any_py hp.1 hp.2
      cases neg with
      | false =>
        refine SeqAt.in_list_reads r2 r1 b2 a2 (by omega) ?_
        rw [ea]
        cases hc
        exact ⟨.bl _, H, I, rfl, q⟩
      | true =>
        refine SeqAt.notIn_list_reads r2 r1 b2 a2 (by omega) ?_
        rw [ea]
        cases hc
        exact ⟨.bl _, H, I, rfl, q⟩
    · cases hc
  · rename_i ds
    split at hc
    · rename_i hp
      rw [Bool.and_eq_true] at hp
      obtain ⟨a1, a2, a3⟩ := repL_dp hp.1 hx
      obtain ⟨b1, b2, b3⟩ := repL_dp (n := 40) (show plain 40 (.tup ds) = true by rw [plain]; exact hp.2) hy
      rw [toPy] at b1 b2 b3
      rw [PyData.canLay0] at b2
      rw [PyData.depth] at b3
      obtain ⟨as, r1⟩ := Dp.reads I _ _ _ a1 rv
      obtain ⟨bs, r2⟩ := Dp.reads I _ _ _ b1 ru
      have ea := any_py hp.1 hp.2
      cases neg with
      | false =>
        refine SeqAt.in_tuple_reads r2 r1 b2 a2 (by omega) ?_
        rw [ea]
        cases hc
        exact ⟨.bl _, H, I, rfl, q⟩
      | true =>
        refine SeqAt.notIn_tuple_reads r2 r1 b2 a2 (by omega) ?_
        rw [ea]
        cases hc
        exact ⟨.bl _, H, I, rfl, q⟩
    · cases hc
  · rename_i kvs
    split at hc
    · rename_i k hk
      have ev := rep_in hk hx
      subst ev
      obtain ⟨a, kv, rfl, r1, r2⟩ := hy.dct
      cases ru
      have g := dget_of (K := X.K) (Av := G) (k := k) r1
      have es : (valV kv (kK k)).isSome = (getK kvs k).isSome := by
        rcases repk_get (k := k) r2 with ⟨e1, e2⟩ | ⟨d, v, e1, e2, _⟩ <;> rw [e1, e2] <;> rfl
      cases neg with
      | false =>
        refine d_in (by omega) I g rv fun s3 I3 => ?_
        rw [es]
        cases hc
        exact ⟨.bl _, H, I3, rfl, q⟩
      | true =>
        refine d_notIn (by omega) I g rv fun s3 I3 => ?_
        rw [es]
        cases hc
        exact ⟨.bl _, H, I3, rfl, q⟩
    · cases hc
  · split at hc
    · obtain ⟨rfl, _⟩ := hx.str
      obtain ⟨rfl, _⟩ := hy.str
      cases neg with
      | false =>
        cases hc
        exact op_in_str pins s σ H _ _ v' u' Q I rv ru ⟨_, _, rfl, rfl, q⟩
      | true =>
        cases hc
        exact op_notin_str pins s σ H _ _ v' u' Q I rv ru ⟨_, _, rfl, rfl, q⟩
    · cases hc
  · cases hc
theorem ne_non {K : PySem.W.Frag} {Av : Addr → Prop} {H : Hp} {x : D} {v : V} (h : RepL K cA Av H x v) (n : x ≠ .non) : v ≠ .non := by
  cases x with
  | non => exact absurd rfl n
  | bl b => rw [h.bl]; intro z; cases z
  | int b => rw [h.int]; intro z; cases z
  | str b => rw [h.str.1]; intro z; cases z
  | tup b => obtain ⟨a, vs, rfl, _⟩ := h.tup; intro z; cases z
  | lst b => obtain ⟨a, vs, rfl, _⟩ := h.lst; intro z; cases z
  | dct b => obtain ⟨a, vs, rfl, _⟩ := h.dct; intro z; cases z
  | ins c b => obtain ⟨a, dx, vs, rfl, _⟩ := h.ins; intro z; cases z
  | scr b => obtain ⟨a, rfl, _⟩ := h.scr; intro z; cases z
theorem op_cmp (hu : X.A.units + 66 < cLine) (op : COp) : OpR X (compareOp (opC op)) (rTwoB X.K cA (cmpE op)) := by
  intro pins s σ H v u v' u' Q I rv ru h
  cases op with
  | eq => exact op_eqX (by omega) pins s σ H v u v' u' Q I rv ru h
  | ne => exact op_neX (by omega) pins s σ H v u v' u' Q I rv ru h
  | inn =>
    refine op_mem (cA := cA) hu false pins s σ H v u v' u' Q I rv ru ?_
    obtain ⟨G, ρ, σ0, x, y, b, e, hx, hy, hf, q⟩ := h
    refine ⟨G, ρ, σ0, x, y, b, e, hx, hy, ?_, q⟩
    simp only [cmpE] at hf
    show Option.map _ (memE x y) = _
    rw [hf]; rfl
  | nin =>
    refine op_mem (cA := cA) hu true pins s σ H v u v' u' Q I rv ru ?_
    obtain ⟨G, ρ, σ0, x, y, b, e, hx, hy, hf, q⟩ := h
    exact ⟨G, ρ, σ0, x, y, b, e, hx, hy, hf, q⟩
  | lt =>
    obtain ⟨G, ρ, σ0, x, y, b, e, hx, hy, hf, q⟩ := h
    cases x <;> cases y <;> simp only [cmpE] at hf <;> first | (cases hf; done) | skip
    cases hf
    cases hx.int
    cases hy.int
    exact op_lt pins s σ H _ _ v' u' Q I rv ru ⟨_, _, rfl, rfl, q⟩
  | le =>
    obtain ⟨G, ρ, σ0, x, y, b, e, hx, hy, hf, q⟩ := h
    cases x <;> cases y <;> simp only [cmpE] at hf <;> first | (cases hf; done) | skip
    cases hf
    cases hx.int
    cases hy.int
    exact op_le pins s σ H _ _ v' u' Q I rv ru ⟨_, _, rfl, rfl, q⟩
  | gt =>
    obtain ⟨G, ρ, σ0, x, y, b, e, hx, hy, hf, q⟩ := h
    cases x <;> cases y <;> simp only [cmpE] at hf <;> first | (cases hf; done) | skip
    cases hf
    cases hx.int
    cases hy.int
    exact op_gt pins s σ H _ _ v' u' Q I rv ru ⟨_, _, rfl, rfl, q⟩
  | ge =>
    obtain ⟨G, ρ, σ0, x, y, b, e, hx, hy, hf, q⟩ := h
    cases x <;> cases y <;> simp only [cmpE] at hf <;> first | (cases hf; done) | skip
    cases hf
    cases hx.int
    cases hy.int
    exact op_ge pins s σ H _ _ v' u' Q I rv ru ⟨_, _, rfl, rfl, q⟩
  | is =>
    obtain ⟨G, ρ, σ0, x, y, b, e, hx, hy, hf, q⟩ := h
    cases y with
    | non =>
      cases hy.non
      refine op_isN pins s σ H _ _ v' u' Q I rv ru ⟨rfl, ?_⟩
      by_cases n : x = .non
      · subst n
        cases hx.non
        cases hf
        exact q
      · rw [decide_eq_false (ne_non hx n)]
        cases x <;> simp only [cmpE] at hf <;> first | (exact absurd rfl n) | (cases hf; exact q)
    | bl c =>
      cases x <;> simp only [cmpE] at hf <;> first | (cases hf; done) | skip
      cases hf
      cases hx.bl
      cases hy.bl
      refine op_isBl pins s σ H _ _ v' u' Q I rv ru ⟨_, _, rfl, rfl, ?_⟩
      rw [← Bool.beq_eq_decide_eq]
      exact q
    | int _ | str _ | tup _ | lst _ | dct _ | ins _ _ | scr _ => cases x <;> simp only [cmpE] at hf <;> cases hf
  | nis =>
    obtain ⟨G, ρ, σ0, x, y, b, e, hx, hy, hf, q⟩ := h
    cases y with
    | non =>
      cases hy.non
      refine op_notN pins s σ H _ _ v' u' Q I rv ru ⟨rfl, ?_⟩
      by_cases n : x = .non
      · subst n
        cases hx.non
        cases hf
        exact q
      · rw [decide_eq_false (ne_non hx n)]
        cases x <;> simp only [cmpE] at hf <;> first | (exact absurd rfl n) | (cases hf; exact q)
    | bl c =>
      cases x <;> simp only [cmpE] at hf <;> first | (cases hf; done) | skip
      cases hf
      cases hx.bl
      cases hy.bl
      refine op_notBl pins s σ H _ _ v' u' Q I rv ru ⟨_, _, rfl, rfl, ?_⟩
      rw [← Bool.beq_eq_decide_eq]
      exact q
    | int _ | str _ | tup _ | lst _ | dct _ | ins _ _ | scr _ => cases x <;> simp only [cmpE] at hf <;> cases hf
/-! ### subscripts -/
theorem atI_map {α β : Type} (f : α → β) {xs : List α} {i : Int} {x : α} (h : atI xs i = some x) : atI (xs.map f) i = some (f x) := by
  unfold atI at *
  rw [List.length_map]
  cases q : ixN xs.length i with
  | none => rw [q] at h; cases h
  | some j =>
    rw [q] at h
    have h' : xs[j]? = some x := h
    show (xs.map f)[j]? = some (f x)
    rw [List.getElem?_map, h']
    rfl
def rIdx (K : PySem.W.Frag) (cA : Nat → Addr) : R2 := fun v u H Q => ∃ G ρ σ x y d, ER K cA G σ H ρ ∧ RepL K cA (AvO G ρ σ) H x v ∧ RepL K cA (AvO G ρ σ) H y u ∧ idxE x y = some d ∧ Res1 K cA G ρ σ H (.d d) Q
theorem atI_S {l : Cs} {i : Int} {c : Nat} (h : L2.atI l i = some c) : L2.atI (S l).cps.toList i = some c := h
theorem ix_any (hu : X.A.units + 66 < cLine) : IxR X (rIdx X.K cA) := by
  intro value slice pins s σ H v u v' u' Q I rv ru h hs
  obtain ⟨G, ρ, σ0, x, y, d, e, hx, hy, hf, q⟩ := h
  cases x with
  | lst ds =>
    cases y <;> simp only [idxE] at hf <;> first | (cases hf; done) | skip
    cases hy.int
    obtain ⟨a, vs, rfl, l, r, p⟩ := hx.lst
    obtain ⟨w, h1, h2⟩ := p.atI hf
    exact ix_list value slice pins s σ H _ _ v' u' Q I rv ru ⟨a, vs, _, w, rfl, rfl, .inl r, h1, q.d e h2⟩ hs
  | tup ds =>
    cases y <;> simp only [idxE] at hf <;> first | (cases hf; done) | skip
    cases hy.int
    obtain ⟨a, vs, rfl, l, r, p⟩ := hx.tup
    obtain ⟨w, h1, h2⟩ := p.atI hf
    exact ix_tup value slice pins s σ H _ _ v' u' Q I rv ru ⟨a, vs, _, w, rfl, rfl, r.sq, h1, q.d e h2⟩ hs
  | str l =>
    cases y <;> simp only [idxE] at hf <;> first | (cases hf; done) | skip
    cases hy.int
    obtain ⟨rfl, o⟩ := hx.str
    obtain ⟨c, hc, rfl⟩ := Option.map_eq_some_iff.mp hf
    refine ix_str value slice pins s σ H _ _ v' u' Q I rv ru ⟨_, _, c, rfl, rfl, ?_, hc, ?_⟩ hs
    · rw [SX.S_len, ← SZ_line]; exact o.2
    · refine q.str (l := [c]) e ⟨?_, (by decide : (1 : Nat) ≤ SZ)⟩
      obtain ⟨j, _, hj, _⟩ := atI_get hc
      have m : c ∈ l := List.mem_of_getElem? hj
      have := List.all_eq_true.mp o.1 c m
      simp only [List.all_cons, List.all_nil, Bool.and_true]
      exact this
  | dct kvs =>
    simp only [idxE] at hf
    obtain ⟨k, hk, hg⟩ := Option.bind_eq_some_iff.mp hf
    cases rep_in hk hy
    obtain ⟨a, kv, rfl, r1, r2⟩ := hx.dct
    have g := dget_of (K := X.K) (Av := G) (k := k) r1
    rcases repk_get (k := k) r2 with ⟨e1, _⟩ | ⟨d', w, e1, e2, e3⟩
    · rw [e1] at hg; cases hg
    · rw [e1] at hg
      cases hg
      rw [e2] at g
      cases rv
      exact PyProof.Rows.tail_any (dict_typeIs I g) PySem.F.slot_dict_getitem.lookup (d_getItem (by omega) I g ru fun w' s3 I3 rw' => ⟨w, H, I3, rw', q.d e e3⟩) hs
  | scr ns =>
    cases y <;> simp only [idxE] at hf <;> first | (cases hf; done) | skip
    rename_i i
    cases hy.int
    obtain ⟨a, rfl, l, r⟩ := hx.scr
    cases e2 : L2.atI ns i with
    | none => rw [e2] at hf; cases hf
    | some z =>
      rw [e2] at hf
      cases hf
      exact ix_list value slice pins s σ H _ _ v' u' Q I rv ru ⟨a, _, _, .int z, rfl, rfl, r, atI_map V.int e2, q.d e (by rw [Rep])⟩ hs
  | non | bl _ | int _ | ins _ _ => simp only [idxE] at hf; cases hf
/-! ### slices -/
def rSlc (K : PySem.W.Frag) (cA : Nat → Addr) : V → Option Int → Option Int → Hp → VK → Prop := fun v lo hi H Q => ∃ G ρ σ x r, ER K cA G σ H ρ ∧ RepL K cA (AvO G ρ σ) H x v ∧ slcE x lo hi = some r ∧ Res1 K cA G ρ σ H r Q
theorem cut_le {α : Type} (xs : List α) (lo hi : Option Int) : (cut xs lo hi).length ≤ xs.length := by
  unfold cut
  rw [List.length_take, List.length_drop]
  omega
theorem sl_any : SlR X (rSlc X.K cA) := by
  intro pins s σ H v v' vl vu lo hi sl Q I rv hs pl pu h
  obtain ⟨G, ρ, σ0, x, r, e, hx, hf, q⟩ := h
  cases x <;> simp only [slcE] at hf <;> first | (cases hf; done) | skip
  · rename_i l
    cases hf
    obtain ⟨rfl, o⟩ := hx.str
    refine sl_str pins s σ H _ v' vl vu lo hi sl Q I rv hs pl pu ⟨S l, rfl, by rw [SX.S_len, ← SZ_line]; exact o.2, ?_⟩
    have ec : cutS (S l) lo hi = S (Ev.cut l lo hi) := by
      unfold cutS Ev.cut
      rw [SX.S_len]
    rw [ec]
    refine q.str e ⟨?_, Nat.le_trans (cut_le _ _ _) o.2⟩
    refine List.all_eq_true.mpr fun c m => List.all_eq_true.mp o.1 c ?_
    unfold Ev.cut at m
    exact List.mem_of_mem_drop (List.mem_of_mem_take m)
  · rename_i ds
    cases hf
    obtain ⟨a, vs, rfl, l, r, p⟩ := hx.tup
    refine sl_tupA pins s σ H _ v' vl vu lo hi sl Q I rv hs pl pu ⟨a, vs, rfl, r.sq, fun z => ?_, fun z p' np => ?_⟩
    · have ec : Ev.cut ds lo hi = ds := by
        unfold Ev.cut
        rw [p.length] at z
        rw [z.1, z.2]
        simp
      rw [ec] at q
      exact q.d e (by rw [Rep]; exact ⟨a, vs, rfl, l, r, p⟩)
    · exact q.tup e np (p.cut lo hi) (Nat.le_trans (cut_le _ _ _) l)
  · rename_i ds
    cases hf
    obtain ⟨a, vs, rfl, l, r, p⟩ := hx.lst
    exact sl_list pins s σ H _ v' vl vu lo hi sl Q I rv hs pl pu ⟨a, vs, rfl, .inl r, fun p' np => q.lst e np (p.cut lo hi) (Nat.le_trans (cut_le _ _ _) l)⟩
/-! ### truth -/
def rTru (K : PySem.W.Frag) (cA : Nat → Addr) : V → Hp → (Bool → Hp → Prop) → Prop := fun v H Q => ∃ Av x b, RepL K cA Av H x v ∧ truth x = some b ∧ Q b H
theorem tru_any : TruR X (rTru X.K cA) := by
  intro pins s σ H v v' Q I rv h
  obtain ⟨Av, x, b, h, t, q⟩ := h
  have go : TruV X.K v H b → wpAny (model X.prog X.w) X.A (truthy v') (TP X pins σ Q) X.xe s := fun z => tru_ok pins s σ H v v' Q I rv ⟨b, z, q⟩
  cases x with
  | non => cases h.non; cases t; exact go rfl
  | bl c => cases h.bl; cases t; exact go rfl
  | int i => cases h.int; cases t; exact go rfl
  | str l =>
    obtain ⟨rfl, o⟩ := h.str
    cases t
    refine go ⟨by rw [SX.S_len, ← SZ_line]; exact o.2, ?_⟩
    rw [SX.S_len]
    cases l with
    | nil => rfl
    | cons a r =>
      have : ¬ (((a :: r).length : Int) = 0) := by rw [List.length_cons]; omega
      simp [bne, this]
      omega
  | tup ds =>
    obtain ⟨a, vs, rfl, l, r, p⟩ := h.tup
    cases t
    refine go (.inr (.inl ⟨vs, r.sq, ?_⟩))
    have e := p.length
    cases ds <;> cases vs <;> simp at e ⊢
  | lst ds =>
    obtain ⟨a, vs, rfl, l, r, p⟩ := h.lst
    cases t
    refine go (.inl ⟨vs, .inl r, ?_⟩)
    have e := p.length
    cases ds <;> cases vs <;> simp at e ⊢
  | dct kvs =>
    obtain ⟨a, kv, rfl, r, p⟩ := h.dct
    cases t
    cases rv
    obtain ⟨hz, hS, vs, rr, m⟩ : kv.length ≤ sizeLine ∧ (a == sysModules) = false ∧ ∃ vs, KV kv vs ∧ s.heap.DictOf (mixKind X.prog X.w) a vs := r.ok I.hok
    have hlen : kv.length = vs.length := Paired.length rr
    have hl := line63
    refine wpAny_truthy_dict hS m (by omega) ⟨H, I.tok _, ?_⟩
    rw [isEmpty_kv rr]
    have ee : kv.isEmpty = kvs.isEmpty := by
      cases kvs with
      | nil => rw [Repk] at p; rw [p]; rfl
      | cons k r =>
        obtain ⟨k, d⟩ := k
        rw [Repk] at p
        obtain ⟨_, _, e, _⟩ := p
        rw [e]; rfl
    rw [ee]
    exact q
  | ins _ _ => cases t
  | scr _ => cases t
end
end Ev
end
/-! Ex -/
section
set_option Elab.async false
set_option linter.all false
set_option maxRecDepth 100000
set_option maxHeartbeats 1000000
namespace Ev
open PySem L2
open SX (S)
theorem Out.bind_inv {α β : Type} {o : Out α} {k : α → Env → Out β} {b : β} {ρ' : Env} (h : o.bind k = .ok b ρ') : ∃ a ρ1, o = .ok a ρ1 ∧ k a ρ1 = .ok b ρ' := by
  cases o with
  | ok a ρ => exact ⟨a, ρ, rfl, h⟩
  | exc x ρ => cases h
  | bad => cases h
theorem Out.of_inv {α : Type} {ρ ρ' : Env} {o : Option α} {a : α} (h : Out.of ρ o = .ok a ρ') : o = some a ∧ ρ = ρ' := by
  cases o with
  | none => cases h
  | some x => cases h; exact ⟨rfl, rfl⟩
theorem _root_.L2.PE.imp {X : Cx} {e : Expr} {t t' : TE} (h : PE X e t) (i : ∀ σ H Q, t' σ H Q → t σ H Q) : PE X e t' := ⟨fun pins s σ H Q I q => h.run pins s σ H Q I (i _ _ _ q)⟩
theorem _root_.L2.PT.imp {X : Cx} {e : Expr} {t t' : TT} (h : PT X e t) (i : ∀ σ H Q, t' σ H Q → t σ H Q) : PT X e t' := ⟨fun pins s σ H Q I q => h.run pins s σ H Q I (i _ _ _ q)⟩
theorem _root_.L2.PA.imp {X : Cx} {e : List Expr} {t t' : TA} (h : PA X e t) (i : ∀ σ H Q, t' σ H Q → t σ H Q) : PA X e t' := ⟨fun pos pins s σ H Q I q => h.run pos pins s σ H Q I (i _ _ _ q)⟩

/-! ### readings -/
section
variable (K : PySem.W.Frag) (cA : Nat → Addr) (C : Cn)
def tI (ir : IE) : TE := fun σ H Q => ∃ G ρ r ρ', ER K cA G σ H ρ ∧ ev C ir ρ = .ok r ρ' ∧ ∀ v H', RR K cA G ρ σ H ρ' H' r v → Step ρ σ H ρ' σ H' → Q v H'
def tT (ir : IE) : TT := fun σ H Q => ∃ G ρ b ρ', ER K cA G σ H ρ ∧ ev C ir ρ = .ok (.d (.bl b)) ρ' ∧ ∀ H', ER K cA G σ H' ρ' → Step ρ σ H ρ' σ H' → Q b H'
def tR (es : List IE) : TA := fun σ H Q => ∃ G ρ rs ρ', ER K cA G σ H ρ ∧ evR C es ρ = .ok rs ρ' ∧ ∀ vs H', ER K cA G σ H' ρ' → RHs K cA G σ ρ' H' rs vs → Step ρ σ H ρ' σ H' → Q vs H'
end
section
variable {X : Cx} {cA : Nat → Addr} {C : Cn}
/-! ### names, constants -/
theorem s_var {i : Nat} {x : Str} {pos : Pos} (h : PE X (.Name x pos) (tVar i)) : PE X (.Name x pos) (tI X.K cA C (.var i)) := h.imp fun σ H Q ⟨G, ρ, r, ρ', er, e, q⟩ => by
  rw [ev] at e
  split at e <;> cases e
  rename_i d g
  obtain ⟨v, hv, rep⟩ := er.val i d g
  exact ⟨v, hv, q v H ⟨er, rep⟩ (Step.refl _ _ _)⟩
theorem s_peek {i : Nat} {x : Str} {pos : Pos} (h : PE X (.Name x pos) (tVar i)) : PE X (.Name x pos) (tI X.K cA C (.peek i)) := h.imp fun σ H Q ⟨G, ρ, r, ρ', er, e, q⟩ => by
  rw [ev] at e
  split at e <;> cases e
  rename_i m p l g
  obtain ⟨a, ha, _⟩ := er.own i m p l g
  exact ⟨_, ha, q _ H ⟨er, ha⟩ (Step.refl _ _ _)⟩
theorem gt_set {ρ : Env} {i j : Nat} {e : EV} (h : i < ρ.length) : gt (setE ρ i e) j = if j = i then e else gt ρ j := by
  simp only [gt_def, setE_def]
  by_cases q : j = i
  · subst q
    rw [if_pos rfl, List.getElem?_set_self h]
    rfl
  · rw [if_neg q, List.getElem?_set_ne (Ne.symm q)]
theorem gt_lt {ρ : Env} {i : Nat} {e : EV} (h : gt ρ i = e) (n : e ≠ .no) : i < ρ.length := by
  by_cases q : i < ρ.length
  · exact q
  · simp only [gt_def] at h
    rw [List.getElem?_eq_none (by omega)] at h
    exact absurd h.symm n
theorem setE_len (ρ : Env) (i : Nat) (e : EV) : (setE ρ i e).length = ρ.length := by rw [setE_def]; exact List.length_set
/-- a name of one's own no longer is -/
theorem ow_drop {ρ : Env} {σ : St} {i : Nat} {m : M} {p l : Bool} {e : EV} (g : gt ρ i = .own m p l) (ne : ∀ m p l, e ≠ .own m p l) {b : Addr} (h : Ow (setE ρ i e) σ b) : Ow ρ σ b ∧ ∃ j m p l, j ≠ i ∧ gt ρ j = .own m p l ∧ σ[j]? = some (some (.ref b)) := by
  obtain ⟨j, m', p', l', gj, hj⟩ := h
  rw [gt_set (gt_lt g (by intro z; cases z))] at gj
  split at gj
  · exact absurd gj (ne _ _ _)
  · rename_i n
    exact ⟨⟨j, m', p', l', gj, hj⟩, j, m', p', l', n, gj, hj⟩
theorem fre_drop {ρ : Env} {σ : St} {i : Nat} {m : M} {p l : Bool} {e : EV} (g : gt ρ i = .own m p l) (ne : ∀ m p l, e ≠ .own m p l) {b : Addr} (h : Fre (setE ρ i e) σ b) : Fre ρ σ b := by
  obtain ⟨j, m', p', gj, hj⟩ := h
  rw [gt_set (gt_lt g (by intro z; cases z))] at gj
  split at gj
  · exact absurd gj (ne _ _ _)
  · exact ⟨j, m', p', gj, hj⟩
theorem pinned_drop {ρ : Env} {i : Nat} {m : M} {l : Bool} {e : EV} (g : gt ρ i = .own m false l) {j : Nat} (h : pinned ρ j = true) : pinned (setE ρ i e) j = true := by
  have n : j ≠ i := fun z => by subst z; unfold pinned at h; rw [g] at h; cases h
  unfold pinned
  rw [gt_set (gt_lt g (by intro z; cases z)), if_neg n]
  exact h
theorem step_drop {ρ : Env} {σ : St} {H : Hp} {i : Nat} {m : M} {l : Bool} {e : EV} (g : gt ρ i = .own m false l) (ne : ∀ m p l, e ≠ .own m p l) : Step ρ σ H (setE ρ i e) σ H :=
  ⟨fun _ _ h _ => h, fun a h => .inl (ow_drop g ne h).1, fun a h => .inl (fre_drop g ne h), fun j h => ⟨pinned_drop g h, rfl⟩, fun _ h => h, fun j m' p' h => by
    rw [gt_set (gt_lt g (by intro z; cases z))] at h
    split at h
    · exact absurd h (ne _ _ _)
    · exact ⟨m', p', h, rfl⟩⟩
theorem s_take {i : Nat} {x : Str} {pos : Pos} (h : PE X (.Name x pos) (tVar i)) : PE X (.Name x pos) (tI X.K cA C (.take i)) := h.imp fun σ H Q ⟨G, ρ, r, ρ', er, e, q⟩ => by
  rw [ev] at e
  split at e <;> cases e
  rename_i m g
  obtain ⟨a, ha, nG, rm, nf⟩ := er.own i m false false g
  have ne : ∀ m p l, EV.no ≠ .own m p l := fun _ _ _ z => by cases z
  have lt := gt_lt g (by intro z; cases z)
  have nOw : ¬ Ow (setE ρ i .no) σ a := fun z => by
    obtain ⟨_, j, m', p', l', n, gj, hj⟩ := ow_drop g ne z
    exact n (er.dis j i a _ _ _ _ _ _ gj g hj ha)
  have sub : ∀ b, AvO (plus G a) (setE ρ i .no) σ b → AvO G ρ σ b := fun b z => by
    rcases z with (z | z) | z
    · exact .inl z
    · rw [z]; exact .inr ⟨i, m, false, false, g, ha⟩
    · exact .inr (ow_drop g ne z).1
  have t : Tr (AvO G ρ σ) (AvO (plus G a) (setE ρ i .no) σ) H H := fun b n _ => ⟨fun z => n (sub b z), .inl rfl⟩
  refine ⟨_, ha, q _ H ⟨a, rfl, ⟨(setE_len _ _ _).trans er.len, fun j d gj => ?_, fun j m' p' l' gj => ?_, fun j k b m1 p1 l1 m2 p2 l2 g1 g2 => ?_, fun b z => ?_⟩, rm.tr t (.inl rfl), nf rfl, ?_, .inl ⟨i, m, false, g, ha⟩⟩ (step_drop g ne)⟩
  · rw [gt_set lt] at gj
    split at gj
    · cases gj
    · obtain ⟨v, hv, rv⟩ := er.val j d gj
      exact ⟨v, hv, rv.tr t⟩
  · rw [gt_set lt] at gj
    split at gj
    · cases gj
    · rename_i n
      obtain ⟨b, hb, nb, rb, nfb⟩ := er.own j m' p' l' gj
      refine ⟨b, hb, fun z => ?_, rb.tr t (.inl rfl), nfb⟩
      rcases z with z | z
      · exact nb z
      · subst z
        exact n (er.dis j i b _ _ _ _ _ _ gj g hb ha)
  · rw [gt_set lt] at g1 g2
    split at g1 <;> first | (cases g1; done) | skip
    split at g2 <;> first | (cases g2; done) | skip
    exact er.dis j k b m1 p1 l1 m2 p2 l2 g1 g2
  · rcases z with z | z
    · exact er.gin b z
    · rw [z]; exact er.avin (.inr ⟨i, m, false, false, g, ha⟩)
  · rintro (z | z)
    · exact nG z
    · exact nOw z
theorem s_frz {i : Nat} {x : Str} {pos : Pos} (h : PE X (.Name x pos) (tVar i)) : PE X (.Name x pos) (tI X.K cA C (.frz i)) := h.imp fun σ H Q ⟨G, ρ, r, ρ', er, e, q⟩ => by
  rw [ev] at e
  split at e <;> cases e
  rename_i m g
  obtain ⟨a, ha, nG, rm, nf⟩ := er.own i m false false g
  have ne : ∀ m' p l, EV.val m.dat ≠ .own m' p l := fun _ _ _ z => by cases z
  have lt := gt_lt g (by intro z; cases z)
  have nOw : ¬ Ow (setE ρ i (.val m.dat)) σ a := fun z => by
    obtain ⟨_, j, m', p', l', n, gj, hj⟩ := ow_drop g ne z
    exact n (er.dis j i a _ _ _ _ _ _ gj g hj ha)
  have sub : ∀ b, AvO G (setE ρ i (.val m.dat)) σ b → AvO G ρ σ b := fun b z => by
    rcases z with z | z
    · exact .inl z
    · exact .inr (ow_drop g ne z).1
  have t : Tr (AvO G ρ σ) (AvO G (setE ρ i (.val m.dat)) σ) H H := fun b n _ => ⟨fun z => n (sub b z), .inl rfl⟩
  have ra : Rep X.K cA (AvO G (setE ρ i (.val m.dat)) σ) H m.dat (.ref a) := (rm.tr t (.inl rfl)).rep fun z => z.elim nG nOw
  refine ⟨_, ha, q _ H ⟨⟨(setE_len _ _ _).trans er.len, fun j d gj => ?_, fun j m' p' l' gj => ?_, fun j k b m1 p1 l1 m2 p2 l2 g1 g2 => ?_, er.gin⟩, ra⟩ (step_drop g ne)⟩
  · rw [gt_set lt] at gj
    split at gj
    · rename_i e
      subst e
      cases gj
      exact ⟨_, ha, ra⟩
    · obtain ⟨v, hv, rv⟩ := er.val j d gj
      exact ⟨v, hv, rv.tr t⟩
  · rw [gt_set lt] at gj
    split at gj
    · cases gj
    · obtain ⟨b, hb, nb, rb, nfb⟩ := er.own j m' p' l' gj
      exact ⟨b, hb, nb, rb.tr t (.inl rfl), nfb⟩
  · rw [gt_set lt] at g1 g2
    split at g1 <;> first | (cases g1; done) | skip
    split at g2 <;> first | (cases g2; done) | skip
    exact er.dis j k b m1 p1 l1 m2 p2 l2 g1 g2
theorem s_con {e : Expr} {d : D} {v : V} (h : PE X e (tC v)) (r : ∀ Av H, Rep X.K cA Av H d v) : PE X e (tI X.K cA C (.lit d)) := h.imp fun σ H Q ⟨G, ρ, r', ρ', er, e, q⟩ => by
  rw [ev] at e
  cases e
  exact q v H ⟨er, r _ _⟩ (Step.refl _ _ _)
/-! ### two operands -/
theorem s_two {a b : Expr} {ia ib : IE} {f : D → D → Option RV} {r : R2} {σ : St} {H : Hp} {Q : VK} {G : Addr → Prop} {ρ ρ' : Env} {z : RV} (er : ER X.K cA G σ H ρ)
    (e : ((ev C ia ρ).bind fun x ρ => (ev C ib ρ).bind fun y ρ => Out.of ρ ((look ρ x.hold).bind fun x => (look ρ y).bind fun y => f x y)) = .ok z ρ')
    (q : ∀ v H', RR X.K cA G ρ σ H ρ' H' z v → Step ρ σ H ρ' σ H' → Q v H')
    (hr : ∀ v u H2 x y, ER X.K cA G σ H2 ρ' → RepL X.K cA (AvO G ρ' σ) H2 x v → RepL X.K cA (AvO G ρ' σ) H2 y u → f x y = some z → Res1 X.K cA G ρ' σ H2 z Q → r v u H2 Q) :
    tI X.K cA C ia σ H fun v H1 => tI X.K cA C ib σ H1 fun u H2 => r v u H2 Q := by
  obtain ⟨x, ρ1, e1, e⟩ := Out.bind_inv e
  obtain ⟨y, ρ2, e2, e⟩ := Out.bind_inv e
  obtain ⟨e3, e4⟩ := Out.of_inv e
  subst e4
  obtain ⟨dx, lx, e5⟩ := Option.bind_eq_some_iff.mp e3
  obtain ⟨dy, ly, e6⟩ := Option.bind_eq_some_iff.mp e5
  refine ⟨G, ρ, x, ρ1, er, e1, fun v H1 rr st => ⟨G, ρ1, y, ρ2, rr.er, e2, fun u H2 rr2 st2 => ?_⟩⟩
  have hx := (rr.hold.later st2).look rr2.er lx
  have hy : RepL X.K cA (AvO G ρ2 σ) H2 dy u := by
    have q := rr2.hold
    cases y with
    | d d => exact q.look rr2.er ly
    | p i => exact q.look rr2.er ly
    | f m =>
      cases ly
      exact q.look rr2.er rfl
  refine hr v u H2 dx dy rr2.er hx hy e6 fun w H' rr3 st3 => ?_
  refine q w H' ?_ ((st.trans st2).trans st3)
  cases z with
  | d d => exact rr3
  | p i => exact rr3
  | f m =>
    obtain ⟨p, h1, h2, h3, h4, h5, h6⟩ := rr3
    refine ⟨p, h1, h2, h3, h4, h5, ?_⟩
    rcases h6 with h6 | h6
    · exact (st.trans st2).fre p h6
    · refine .inr ?_
      cases q : H p with
      | none => rfl
      | some o => exact absurd h6 ((st.trans st2).dom p (some_ne q))
theorem s_bin {a b : Expr} {ia ib : IE} {op : BOp} {pos : Pos} (ha : PE X a (tI X.K cA C ia)) (hb : PE X b (tI X.K cA C ib)) : PE X (.BinOp a (opS op) b pos) (tI X.K cA C (.bin op ia ib)) :=
  (pe_op (op_bin (cA := cA) op) ha hb).imp fun σ H Q ⟨G, ρ, r, ρ', er, e, q⟩ => by
    rw [ev] at e
    exact s_two (a := a) (b := b) er e q fun v u H2 x y er2 hx hy hf res => ⟨G, ρ', σ, x, y, r, er2, hx, hy, hf, res⟩
theorem s_idx {a b : Expr} {ia ib : IE} {pos : Pos} (hu : X.A.units + 66 < cLine) (ha : PE X a (tI X.K cA C ia)) (hb : PE X b (tI X.K cA C ib)) (hs : PlainIx b) : PE X (.Subscript a b pos) (tI X.K cA C (.idx ia ib)) :=
  (pe_ix (ix_any (cA := cA) hu) ha hb hs).imp fun σ H Q ⟨G, ρ, r, ρ', er, e, q⟩ => by
    rw [ev] at e
    refine s_two (a := a) (b := b) (f := fun x y => (idxE x y).map .d) er e q fun v u H2 x y er2 hx hy hf res => ?_
    obtain ⟨d, hd, rfl⟩ := Option.map_eq_some_iff.mp hf
    exact ⟨G, ρ', σ, x, y, d, er2, hx, hy, hd, res⟩
theorem s_cmp {a b : Expr} {ia ib : IE} {op : COp} {pos : Pos} (hu : X.A.units + 66 < cLine) (ha : PE X a (tI X.K cA C ia)) (hb : PE X b (tI X.K cA C ib)) (hm : behindInMarks (opC op) b = false) : PE X (.Compare a [opC op] [b] pos) (tI X.K cA C (.cmp op ia ib)) :=
  (pe_cmpR (op_cmp (cA := cA) hu op) ha hb hm).imp fun σ H Q ⟨G, ρ, r, ρ', er, e, q⟩ => by
    rw [ev] at e
    refine s_two (a := a) (b := b) (f := fun x y => (cmpE op x y).map fun b => .d (.bl b)) er e q fun v u H2 x y er2 hx hy hf res => ?_
    obtain ⟨d, hd, rfl⟩ := Option.map_eq_some_iff.mp hf
    exact ⟨G, ρ', σ, x, y, d, er2, hx, hy, hd, res.bl er2⟩
theorem s_cmpT {a b : Expr} {ia ib : IE} {op : COp} {pos : Pos} (hu : X.A.units + 66 < cLine) (ha : PE X a (tI X.K cA C ia)) (hb : PE X b (tI X.K cA C ib)) (hm : behindInMarks (opC op) b = false) : PT X (.Compare a [opC op] [b] pos) (tT X.K cA C (.cmp op ia ib)) :=
  (pt_cmpR (op_cmp (cA := cA) hu op) ha hb hm).imp fun σ H Q ⟨G, ρ, c, ρ', er, e, q⟩ => by
    rw [ev] at e
    refine s_two (a := a) (b := b) (Q := fun x H' => ∃ k, x = .bl k ∧ Q k H') (f := fun x y => (cmpE op x y).map fun b => .d (.bl b)) er e (fun v H' rr st => ?_) fun v u H2 x y er2 hx hy hf res => ?_
    · obtain ⟨er', rep⟩ := rr
      rw [Rep] at rep
      exact ⟨c, rep, q H' er' st⟩
    · obtain ⟨d, hd, hd2⟩ := Option.map_eq_some_iff.mp hf
      rw [← hd2] at res
      exact ⟨G, ρ', σ, x, y, d, er2, hx, hy, hd, res.bl er2⟩
end
end Ev
end
/-! Ey -/
section
set_option Elab.async false
set_option linter.all false
set_option maxRecDepth 100000
set_option maxHeartbeats 1000000
namespace Ev
open PySem L2
open SX (S)
theorem _root_.L2.PO.imp {X : Cx} {e : Option Expr} {t t' : TO} (h : PO X e t) (i : ∀ σ H Q, t' σ H Q → t σ H Q) : PO X e t' := ⟨fun pins s σ H Q I q => h.run pins s σ H Q I (i _ _ _ q)⟩
theorem _root_.L2.PW.imp {X : Cx} {e : Expr} {t t' : TT} (h : PW X e t) (i : ∀ σ H Q, t' σ H Q → t σ H Q) : PW X e t' := ⟨fun wh pins s σ H Q I q => h.run wh pins s σ H Q I (i _ _ _ q)⟩
section
variable {K : PySem.W.Frag} {cA : Nat → Addr} {C : Cn} {G : Addr → Prop} {ρ ρ1 ρ2 : Env} {σ : St} {H H1 : Hp}
theorem rr_back {z : RV} {w : V} {H' : Hp} (st : Step ρ σ H ρ1 σ H1) (rr : RR K cA G ρ1 σ H1 ρ2 H' z w) : RR K cA G ρ σ H ρ2 H' z w := by
  cases z with
  | d d => exact rr
  | p i => exact rr
  | f m =>
    obtain ⟨p, h1, h2, h3, h4, h5, h6⟩ := rr
    refine ⟨p, h1, h2, h3, h4, h5, ?_⟩
    rcases h6 with h6 | h6
    · exact st.fre p h6
    · refine .inr ?_
      cases q : H p with
      | none => rfl
      | some o => exact absurd h6 (st.dom p (some_ne q))
theorem res_of {z : RV} {Q : VK} (st : Step ρ σ H ρ1 σ H1) (q : ∀ v H', RR K cA G ρ σ H ρ1 H' z v → Step ρ σ H ρ1 σ H' → Q v H') : Res1 K cA G ρ1 σ H1 z Q := fun w H' rr st3 => q w H' (rr_back st rr) (st.trans st3)
theorem RHs.length : ∀ {rs : List RV} {vs : List V}, RHs K cA G σ ρ H rs vs → vs.length = rs.length
  | [], _, h => by rw [show _ = [] from h]; rfl
  | _ :: _, _, ⟨v, q, e, _, b⟩ => by rw [e, List.length_cons, List.length_cons, RHs.length b]
theorem datAll_reps : ∀ {rs : List RV} {ds : List D} {vs : List V}, datAll rs = some ds → RHs K cA G σ ρ H rs vs → Reps K cA (AvO G ρ σ) H ds vs
  | [], _, _, e, h => by cases e; rw [show _ = [] from h]; exact Reps.nil
  | .d x :: r, _, _, e, ⟨v, q, h, a, b⟩ => by
    simp only [datAll] at e
    obtain ⟨ds, e1, rfl⟩ := Option.map_eq_some_iff.mp e
    subst h
    exact Reps.cons a (datAll_reps e1 b)
  | .f _ :: _, _, _, e, _ => by cases e
  | .p _ :: _, _, _, e, _ => by cases e
theorem datAll_len : ∀ {rs : List RV} {ds : List D}, datAll rs = some ds → ds.length = rs.length
  | [], _, e => by cases e; rfl
  | .d x :: r, _, e => by
    simp only [datAll] at e
    obtain ⟨ds, e1, rfl⟩ := Option.map_eq_some_iff.mp e
    rw [List.length_cons, List.length_cons, datAll_len e1]
  | .f _ :: _, _, e => by cases e
  | .p _ :: _, _, e => by cases e
theorem evR_len : ∀ {es : List IE} {ρ ρ' : Env} {rs : List RV}, evR C es ρ = .ok rs ρ' → rs.length = es.length
  | [], _, _, _, e => by rw [evR] at e; cases e; rfl
  | i :: es, _, _, _, e => by
    rw [evR] at e
    obtain ⟨r, ρ1, e1, e⟩ := Out.bind_inv e
    obtain ⟨rs, ρ2, e2, e⟩ := Out.bind_inv e
    cases e
    rw [List.length_cons, List.length_cons, evR_len e2]
end
section
variable {X : Cx} {cA : Nat → Addr} {C : Cn}
theorem s_nil : PA X [] (tR X.K cA C []) := pa_nil.imp fun σ H Q ⟨G, ρ, rs, ρ', er, e, q⟩ => by
  rw [evR] at e
  cases e
  exact q [] H er rfl (Step.refl _ _ _)
theorem s_cons {e : Expr} {es : List Expr} {ia : IE} {ies : List IE} (ha : PE X e (tI X.K cA C ia)) (hr : PA X es (tR X.K cA C ies)) (hs : starEach (e :: es) X.env = (false, eval e X.env) :: starEach es X.env) : PA X (e :: es) (tR X.K cA C (ia :: ies)) :=
  (pa_cons ha hr hs).imp fun σ H Q ⟨G, ρ, rs, ρ', er, e, q⟩ => by
    rw [evR] at e
    obtain ⟨r, ρ1, e1, e⟩ := Out.bind_inv e
    obtain ⟨rs', ρ2, e2, e⟩ := Out.bind_inv e
    cases e
    exact ⟨G, ρ, r, ρ1, er, e1, fun v H1 rr st => ⟨G, ρ1, rs', _, rr.er, e2, fun vs H2 er2 rh st2 => q (v :: vs) H2 er2 ⟨v, vs, rfl, rr.hold.later st2, rh⟩ (st.trans st2)⟩⟩
theorem s_tup {es : List Expr} {ies : List IE} {k : Nat} {pos : Pos} (h : PA X es (tR X.K cA C ies)) (hl : ies.length ≤ 1000) : PE X (.Tuple es k pos) (tI X.K cA C (.tup ies)) :=
  (pe_tup h).imp fun σ H Q ⟨G, ρ, r, ρ', er, e, q⟩ => by
    rw [ev] at e
    obtain ⟨rs, ρ1, e1, e⟩ := Out.bind_inv e
    obtain ⟨e3, e4⟩ := Out.of_inv e
    subst e4
    obtain ⟨ds, e5, rfl⟩ := Option.map_eq_some_iff.mp e3
    refine ⟨G, ρ, rs, ρ1, er, e1, fun vs H1 er1 rh st => ⟨?_, fun p np => ?_⟩⟩
    · rw [rh.length, evR_len e1, ← SZ_line]; exact Nat.le_trans hl (by decide)
    · exact (res_of st q).tup er1 np (datAll_reps e5 rh) (by rw [datAll_len e5, evR_len e1]; exact Nat.le_trans hl (by decide))
theorem s_lst {es : List Expr} {ies : List IE} {pos : Pos} (h : PA X es (tR X.K cA C ies)) (hl : ies.length ≤ 1000) : PE X (.List es pos) (tI X.K cA C (.lst ies)) :=
  (pe_lst h).imp fun σ H Q ⟨G, ρ, r, ρ', er, e, q⟩ => by
    rw [ev] at e
    obtain ⟨rs, ρ1, e1, e⟩ := Out.bind_inv e
    obtain ⟨e3, e4⟩ := Out.of_inv e
    subst e4
    obtain ⟨ds, e5, rfl⟩ := Option.map_eq_some_iff.mp e3
    refine ⟨G, ρ, rs, ρ1, er, e1, fun vs H1 er1 rh st => ⟨?_, fun p np => ?_⟩⟩
    · rw [rh.length, evR_len e1, ← SZ_line]; exact Nat.le_trans hl (by decide)
    · exact (res_of st q).lst er1 np (datAll_reps e5 rh) (by rw [datAll_len e5, evR_len e1]; exact Nat.le_trans hl (by decide))
/-! ### tests -/
theorem blOf_inv {r : RV} {b : Bool} (h : blOf r = some b) : r = .d (.bl b) := by
  cases r with
  | d x => cases x <;> first | (cases h; done) | (cases h; rfl)
  | f m => cases h
  | p i => cases h
theorem rr_bl {K : PySem.W.Frag} {G : Addr → Prop} {ρ ρ' : Env} {σ : St} {H H' : Hp} {b : Bool} {v : V} (h : RR K cA G ρ σ H ρ' H' (.d (.bl b)) v) : ER K cA G σ H' ρ' ∧ v = .bl b := by
  obtain ⟨a, r⟩ := h
  rw [Rep] at r
  exact ⟨a, r⟩
theorem rr_int {K : PySem.W.Frag} {G : Addr → Prop} {ρ ρ' : Env} {σ : St} {H H' : Hp} {b : Int} {v : V} (h : RR K cA G ρ σ H ρ' H' (.d (.int b)) v) : ER K cA G σ H' ρ' ∧ v = .int b := by
  obtain ⟨a, r⟩ := h
  rw [Rep] at r
  exact ⟨a, r⟩
theorem mk_bl {K : PySem.W.Frag} {G : Addr → Prop} {ρ ρ' : Env} {σ : St} {H H' : Hp} {b : Bool} (h : ER K cA G σ H' ρ') : RR K cA G ρ σ H ρ' H' (.d (.bl b)) (.bl b) := ⟨h, by rw [Rep]⟩
theorem s_and {a b : Expr} {rest : List Expr} {ia ib : IE} {pos : Pos} (ha : PE X a (tI X.K cA C ia)) (hb : PE X (.BoolOp .And (b :: rest) pos) (tI X.K cA C ib)) : PE X (.BoolOp .And (a :: b :: rest) pos) (tI X.K cA C (.and ia ib)) :=
  (pe_and ha hb).imp fun σ H Q ⟨G, ρ, r, ρ', er, e, q⟩ => by
    rw [ev] at e
    obtain ⟨x, ρ1, e1, e⟩ := Out.bind_inv e
    refine ⟨G, ρ, x, ρ1, er, e1, fun v H1 rr st => ?_⟩
    split at e
    · rename_i hb
      cases blOf_inv hb
      obtain ⟨er1, rfl⟩ := rr_bl rr
      exact ⟨true, rfl, iteT ⟨G, ρ1, r, ρ', er1, e, fun w H2 rr2 st2 => q w H2 (rr_back st rr2) (st.trans st2)⟩⟩
    · rename_i hb
      cases blOf_inv hb
      cases e
      obtain ⟨er1, rfl⟩ := rr_bl rr
      exact ⟨false, rfl, iteF (q _ H1 (mk_bl er1) st)⟩
    · cases e
theorem s_or {a b : Expr} {rest : List Expr} {ia ib : IE} {pos : Pos} (ha : PE X a (tI X.K cA C ia)) (hb : PE X (.BoolOp .Or (b :: rest) pos) (tI X.K cA C ib)) : PE X (.BoolOp .Or (a :: b :: rest) pos) (tI X.K cA C (.or ia ib)) :=
  (pe_or ha hb).imp fun σ H Q ⟨G, ρ, r, ρ', er, e, q⟩ => by
    rw [ev] at e
    obtain ⟨x, ρ1, e1, e⟩ := Out.bind_inv e
    refine ⟨G, ρ, x, ρ1, er, e1, fun v H1 rr st => ?_⟩
    split at e
    · rename_i hb
      cases blOf_inv hb
      cases e
      obtain ⟨er1, rfl⟩ := rr_bl rr
      exact ⟨true, rfl, iteT (q _ H1 (mk_bl er1) st)⟩
    · rename_i hb
      cases blOf_inv hb
      obtain ⟨er1, rfl⟩ := rr_bl rr
      exact ⟨false, rfl, iteF ⟨G, ρ1, r, ρ', er1, e, fun w H2 rr2 st2 => q w H2 (rr_back st rr2) (st.trans st2)⟩⟩
    · cases e
theorem s_not {a : Expr} {ia : IE} {pos : Pos} (ha : PE X a (tI X.K cA C ia)) : PE X (.UnaryOp .Not a pos) (tI X.K cA C (.not ia)) :=
  (pe_not ha).imp fun σ H Q ⟨G, ρ, r, ρ', er, e, q⟩ => by
    rw [ev] at e
    obtain ⟨x, ρ1, e1, e⟩ := Out.bind_inv e
    refine ⟨G, ρ, x, ρ1, er, e1, fun v H1 rr st => ?_⟩
    split at e
    · rename_i hb
      cases blOf_inv hb
      cases e
      obtain ⟨er1, rfl⟩ := rr_bl rr
      exact ⟨_, rfl, q _ H1 (mk_bl er1) st⟩
    · cases e
theorem s_neg {a : Expr} {ia : IE} {pos : Pos} (ha : PE X a (tI X.K cA C ia)) : PE X (.UnaryOp .USub a pos) (tI X.K cA C (.neg ia)) :=
  (pe_un un_neg ha).imp fun σ H Q ⟨G, ρ, r, ρ', er, e, q⟩ => by
    rw [ev] at e
    obtain ⟨x, ρ1, e1, e⟩ := Out.bind_inv e
    refine ⟨G, ρ, x, ρ1, er, e1, fun v H1 rr st => ?_⟩
    split at e
    · cases e
      obtain ⟨er1, rfl⟩ := rr_int rr
      exact ⟨_, rfl, (res_of st q).int er1⟩
    · cases e
/-- a test that is a value of its own -/
theorem s_valT {a : Expr} {ia : IE} (ha : PE X a (tI X.K cA C ia)) (he : ∀ whole, isTrue a X.env whole = (do let v ← whole; standAt a.pos; holding [v] (truthy v))) : PT X a (tT X.K cA C ia) :=
  (pt_val ha he).imp fun σ H Q ⟨G, ρ, b, ρ', er, e, q⟩ => ⟨G, ρ, _, ρ', er, e, fun v H' rr st => by
    obtain ⟨er1, rfl⟩ := rr_bl rr
    exact ⟨b, rfl, q H' er1 st⟩⟩
theorem s_truT {a : Expr} {ia : IE} (ha : PE X a (tI X.K cA C ia)) (he : ∀ whole, isTrue a X.env whole = (do let v ← whole; standAt a.pos; holding [v] (truthy v))) : PT X a (tT X.K cA C (.tru ia)) := by
  refine ⟨fun pins s σ H Q I h => ?_⟩
  obtain ⟨G, ρ, b, ρ', er, e, q⟩ := h
  rw [ev] at e
  obtain ⟨x, ρ1, e1, e⟩ := Out.bind_inv e
  obtain ⟨e3, e4⟩ := Out.of_inv e
  subst e4
  obtain ⟨d, lx, e5⟩ := Option.bind_eq_some_iff.mp e3
  obtain ⟨c, tc, e6⟩ := Option.map_eq_some_iff.mp e5
  cases e6
  refine PyProof.Rows.isTrue_plain (thn (ha.run pins s σ H (fun v H1 => ER X.K cA G σ H1 ρ1 ∧ Step ρ σ H ρ1 σ H1 ∧ RepL X.K cA (AvO G ρ1 σ) H1 d v) I ⟨G, ρ, x, ρ1, er, e1, fun v H1 rr st => ⟨rr.er, st, ?_⟩⟩) fun v s1 ⟨w, H1, I1, r1, er1, st, rl⟩ => tru_any (cA := cA) pins s1 σ H1 w v Q I1 r1 ⟨_, d, b, rl, tc, q H1 er1 st⟩) (he _)
  have hh := rr.hold
  cases x with
  | d y => exact hh.look rr.er lx
  | p i => exact hh.look rr.er lx
  | f m =>
    cases lx
    exact hh.look rr.er rfl
theorem s_notT {a : Expr} {ia : IE} {pos : Pos} (ha : PT X a (tT X.K cA C ia)) : PT X (.UnaryOp .Not a pos) (tT X.K cA C (.not ia)) :=
  (pt_not ha).imp fun σ H Q ⟨G, ρ, r, ρ', er, e, q⟩ => by
    rw [ev] at e
    obtain ⟨x, ρ1, e1, e⟩ := Out.bind_inv e
    split at e
    · rename_i hb
      cases blOf_inv hb
      cases e
      exact ⟨G, ρ, _, _, er, e1, q⟩
    · cases e
theorem s_and1 {a : Expr} {ia : IE} {pos : Pos} (ha : PT X a (tT X.K cA C ia)) : PW X (.BoolOp .And [a] pos) (tT X.K cA C ia) := pw_and1 ha
theorem s_or1 {a : Expr} {ia : IE} {pos : Pos} (ha : PT X a (tT X.K cA C ia)) : PW X (.BoolOp .Or [a] pos) (tT X.K cA C ia) := pw_or1 ha
theorem s_andT {a b : Expr} {rest : List Expr} {ia ib : IE} {pos : Pos} (ha : PT X a (tT X.K cA C ia)) (hb : PW X (.BoolOp .And (b :: rest) pos) (tT X.K cA C ib)) : PW X (.BoolOp .And (a :: b :: rest) pos) (tT X.K cA C (.and ia ib)) :=
  (pw_and ha hb).imp fun σ H Q ⟨G, ρ, r, ρ', er, e, q⟩ => by
    rw [ev] at e
    obtain ⟨x, ρ1, e1, e⟩ := Out.bind_inv e
    split at e
    · rename_i hb
      cases blOf_inv hb
      exact ⟨G, ρ, _, ρ1, er, e1, fun H1 er1 st => iteT ⟨G, ρ1, r, ρ', er1, e, fun H2 er2 st2 => q H2 er2 (st.trans st2)⟩⟩
    · rename_i hb
      cases blOf_inv hb
      cases e
      exact ⟨G, ρ, _, _, er, e1, fun H1 er1 st => iteF (q H1 er1 st)⟩
    · cases e
theorem s_orT {a b : Expr} {rest : List Expr} {ia ib : IE} {pos : Pos} (ha : PT X a (tT X.K cA C ia)) (hb : PW X (.BoolOp .Or (b :: rest) pos) (tT X.K cA C ib)) : PW X (.BoolOp .Or (a :: b :: rest) pos) (tT X.K cA C (.or ia ib)) :=
  (pw_or ha hb).imp fun σ H Q ⟨G, ρ, r, ρ', er, e, q⟩ => by
    rw [ev] at e
    obtain ⟨x, ρ1, e1, e⟩ := Out.bind_inv e
    split at e
    · rename_i hb
      cases blOf_inv hb
      cases e
      exact ⟨G, ρ, _, _, er, e1, fun H1 er1 st => iteT (q H1 er1 st)⟩
    · rename_i hb
      cases blOf_inv hb
      exact ⟨G, ρ, _, ρ1, er, e1, fun H1 er1 st => iteF ⟨G, ρ1, r, ρ', er1, e, fun H2 er2 st2 => q H2 er2 (st.trans st2)⟩⟩
    · cases e
theorem s_ite {c a b : Expr} {ic ia ib : IE} {pos : Pos} (hc : PT X c (tT X.K cA C ic)) (ha : PE X a (tI X.K cA C ia)) (hb : PE X b (tI X.K cA C ib)) : PE X (.IfExp c a b pos) (tI X.K cA C (.ite ic ia ib)) :=
  (pe_ifExp hc ha hb).imp fun σ H Q ⟨G, ρ, r, ρ', er, e, q⟩ => by
    rw [ev] at e
    obtain ⟨x, ρ1, e1, e⟩ := Out.bind_inv e
    split at e
    · rename_i hb
      cases blOf_inv hb
      exact ⟨G, ρ, _, ρ1, er, e1, fun H1 er1 st => iteT ⟨G, ρ1, r, ρ', er1, e, fun w H2 rr2 st2 => q w H2 (rr_back st rr2) (st.trans st2)⟩⟩
    · rename_i hb
      cases blOf_inv hb
      exact ⟨G, ρ, _, ρ1, er, e1, fun H1 er1 st => iteF ⟨G, ρ1, r, ρ', er1, e, fun w H2 rr2 st2 => q w H2 (rr_back st rr2) (st.trans st2)⟩⟩
    · cases e
/-! ### slices -/
def tO (K : PySem.W.Frag) (cA : Nat → Addr) (C : Cn) (o : Option IE) : TO := fun σ H Q => ∃ G ρ l ρ' p, ER K cA G σ H ρ ∧ evO C o ρ = .ok l ρ' ∧ partE l = some p ∧ ∀ H', ER K cA G σ H' ρ' → Step ρ σ H ρ' σ H' → Q p H'
theorem s_ono : PO X none (tO X.K cA C none) := po_none.imp fun σ H Q ⟨G, ρ, l, ρ', p, er, e, hp, q⟩ => by
  rw [evO] at e
  cases e
  cases hp
  exact q H er (Step.refl _ _ _)
theorem s_osome {a : Expr} {ia : IE} (ha : PE X a (tI X.K cA C ia)) : PO X (some a) (tO X.K cA C (some ia)) := (po_some ha).imp fun σ H Q ⟨G, ρ, l, ρ', p, er, e, hp, q⟩ => by
  rw [evO] at e
  obtain ⟨x, ρ1, e1, e⟩ := Out.bind_inv e
  split at e
  · cases e
    rename_i d
    cases d <;> first | (cases hp; done) | skip
    cases hp
    exact ⟨G, ρ, _, _, er, e1, fun v H1 rr st => by
      obtain ⟨er1, rfl⟩ := rr_int rr
      exact ⟨_, rfl, q H1 er1 st⟩⟩
  · cases e
theorem s_slc {e : Expr} {lo hi : Option Expr} {ie : IE} {il ih : Option IE} {p2 pos : Pos} (he : PE X e (tI X.K cA C ie)) (hl : PO X lo (tO X.K cA C il)) (hh : PO X hi (tO X.K cA C ih)) : PE X (.Subscript e (.Slice lo hi none p2) pos) (tI X.K cA C (.slc ie il ih)) :=
  (pe_slice (sl_any (cA := cA)) he hl hh).imp fun σ H Q ⟨G, ρ, r, ρ', er, e, q⟩ => by
    rw [ev] at e
    obtain ⟨x, ρ1, e1, e⟩ := Out.bind_inv e
    obtain ⟨l, ρ2, e2, e⟩ := Out.bind_inv e
    obtain ⟨h, ρ3, e3, e⟩ := Out.bind_inv e
    obtain ⟨e4, e5⟩ := Out.of_inv e
    subst e5
    obtain ⟨d, lx, e6⟩ := Option.bind_eq_some_iff.mp e4
    obtain ⟨pl, hpl, e7⟩ := Option.bind_eq_some_iff.mp e6
    obtain ⟨ph, hph, e8⟩ := Option.bind_eq_some_iff.mp e7
    exact ⟨G, ρ, x, ρ1, er, e1, fun v H1 rr st => ⟨G, ρ1, l, ρ2, pl, rr.er, e2, hpl, fun H2 er2 st2 => ⟨G, ρ2, h, ρ3, ph, er2, e3, hph, fun H3 er3 st3 =>
      ⟨G, ρ3, σ, d, r, er3, ((rr.hold.later st2).later st3).look er3 lx, e8, res_of ((st.trans st2).trans st3) q⟩⟩⟩⟩
end
end Ev
end
/-! Ez -/
section
set_option Elab.async false
set_option linter.all false
set_option maxRecDepth 100000
set_option maxHeartbeats 1000000
namespace Ev
open PySem L2 PySem.Spec
open SX (S)
section
variable {α : Type} {le : α → α → Bool}
theorem insBy_perm (x : α) : ∀ l : List α, (insBy le x l).Perm (x :: l)
  | [] => .refl _
  | y :: r => by
    rw [insBy]
    split
    · exact .refl _
    · exact ((insBy_perm x r).cons y).trans (.swap x y r)
theorem sortBy_perm : ∀ l : List α, (sortBy le l).Perm l
  | [] => .refl _
  | x :: r => by
    rw [sortBy]
    exact (insBy_perm x _).trans ((sortBy_perm r).cons x)
theorem insBy_sorted (tot : ∀ a b, le a b = true ∨ le b a = true) (tr : ∀ a b c, le a b = true → le b c = true → le a c = true) (x : α) : ∀ {l : List α}, l.Pairwise (fun a b => le a b = true) → (insBy le x l).Pairwise (fun a b => le a b = true)
  | [], _ => List.pairwise_singleton _ _
  | y :: r, h => by
    obtain ⟨h1, h2⟩ := List.pairwise_cons.mp h
    rw [insBy]
    split
    · rename_i e
      refine List.pairwise_cons.mpr ⟨fun z hz => ?_, h⟩
      rcases List.mem_cons.mp hz with rfl | hz
      · exact e
      · exact tr _ _ _ e (h1 z hz)
    · rename_i e
      have e' : le y x = true := (tot x y).resolve_left e
      refine List.pairwise_cons.mpr ⟨fun z hz => ?_, insBy_sorted tot tr x h2⟩
      rcases List.mem_cons.mp ((insBy_perm x r).mem_iff.mp hz) with rfl | hz
      · exact e'
      · exact h1 z hz
theorem sortBy_sorted (tot : ∀ a b, le a b = true ∨ le b a = true) (tr : ∀ a b c, le a b = true → le b c = true → le a c = true) : ∀ l : List α, (sortBy le l).Pairwise (fun a b => le a b = true)
  | [] => .nil
  | x :: r => insBy_sorted tot tr x (sortBy_sorted tot tr r)
end
theorem sortI_of {ns ms : List Int} (p : ms.Perm ns) (s : ms.Pairwise (· ≤ ·)) : ms = sortI ns := by
  refine List.Perm.eq_of_pairwise (le := (· ≤ ·)) (fun a b _ _ h g => Int.le_antisymm h g) s ?_ (p.trans (sortBy_perm ns).symm)
  have := sortBy_sorted (le := leI) (fun a b => by unfold leI; simp; omega) (fun a b c => by unfold leI; simp; omega) ns
  exact this.imp fun h => of_decide_eq_true h
theorem leS_tot (a b : Cs) : leS a b = true ∨ leS b a = true := by
  unfold leS
  rcases List.le_total a b with h | h
  · exact .inl (decide_eq_true h)
  · exact .inr (decide_eq_true h)
theorem leS_tr (a b c : Cs) (h : leS a b = true) (g : leS b c = true) : leS a c = true := decide_eq_true (List.le_trans (of_decide_eq_true h) (of_decide_eq_true g))
theorem rising_pw : ∀ (l : List Cs) (p : Cs), PyProof.Rows.risingS (S p) (l.map S) = true → (p :: l).Pairwise fun a b => leS a b = true
  | [], p, _ => List.pairwise_singleton _ _
  | x :: r, p, h => by
    have h : (!ltCps (S x).cps.toList (S p).cps.toList && PyProof.Rows.risingS (S x) (r.map S)) = true := h
    rw [Bool.and_eq_true, Bool.not_eq_true'] at h
    have ih := rising_pw r x h.2
    have e : leS p x = true := by
      have h1 := h.1
      rw [PyProof.Rows.ltCps_eq] at h1
      exact decide_eq_true (List.not_lt.mp (of_decide_eq_false h1))
    refine List.pairwise_cons.mpr ⟨fun y hy => ?_, ih⟩
    rcases List.mem_cons.mp hy with rfl | hy
    · exact e
    · exact leS_tr _ _ _ e ((List.pairwise_cons.mp ih).1 y hy)
theorem sortS_of {ls : List Cs} {ys : List Str} (p : ys.Perm (ls.map S)) (s : PyProof.Rows.sortedS ys = true) : ys = (sortS ls).map S := by
  have e : ys = (ys.map fun y => y.cps.toList).map S := by
    rw [List.map_map]
    exact (List.map_id ys).symm.trans (List.map_congr_left fun y _ => (SX.S_tl y).symm)
  generalize ys.map (fun y => y.cps.toList) = ms at e
  subst e
  have p' : ms.Perm ls := by
    have := p.map fun y : Str => y.cps.toList
    rw [List.map_map, List.map_map] at this
    exact (List.map_id ms) ▸ (List.map_id ls) ▸ this
  have q : ms.Pairwise fun a b => leS a b = true := by
    cases ms with
    | nil => exact .nil
    | cons x r => exact rising_pw r x s
  rw [List.Perm.eq_of_pairwise (le := fun a b => leS a b = true) (fun a b _ _ h g => List.le_antisymm (of_decide_eq_true h) (of_decide_eq_true g)) q (sortBy_sorted leS_tot leS_tr ls) (p'.trans (sortBy_perm ls).symm)]
  rfl
theorem maxI_spec : ∀ {l : List Int}, l ≠ [] → maxI l ∈ l ∧ ∀ a ∈ l, a ≤ maxI l
  | [], h => absurd rfl h
  | [x], _ => by simp [maxI]
  | x :: y :: r, _ => by
    obtain ⟨h1, h2⟩ := maxI_spec (l := y :: r) (by simp)
    rw [maxI]
    by_cases c : x ≤ maxI (y :: r)
    · rw [Int.max_eq_right c]
      exact ⟨List.mem_cons_of_mem _ h1, fun a m => (List.mem_cons.mp m).elim (fun e => e ▸ c) (h2 a)⟩
    · have c' : maxI (y :: r) ≤ x := by omega
      rw [Int.max_eq_left c']
      exact ⟨List.mem_cons_self, fun a m => (List.mem_cons.mp m).elim (fun e => by omega) fun m => Int.le_trans (h2 a m) c'⟩
theorem minI_spec : ∀ {l : List Int}, l ≠ [] → minI l ∈ l ∧ ∀ a ∈ l, minI l ≤ a
  | [], h => absurd rfl h
  | [x], _ => by simp [minI]
  | x :: y :: r, _ => by
    obtain ⟨h1, h2⟩ := minI_spec (l := y :: r) (by simp)
    rw [minI]
    by_cases c : minI (y :: r) ≤ x
    · rw [Int.min_eq_right c]
      exact ⟨List.mem_cons_of_mem _ h1, fun a m => (List.mem_cons.mp m).elim (fun e => e ▸ c) (h2 a)⟩
    · have c' : x ≤ minI (y :: r) := by omega
      rw [Int.min_eq_left c']
      exact ⟨List.mem_cons_self, fun a m => (List.mem_cons.mp m).elim (fun e => by omega) fun m => Int.le_trans c' (h2 a m)⟩
section
variable {K : PySem.W.Frag} {cA : Nat → Addr} {Av : Addr → Prop} {H : Hp}
theorem reps_ints : ∀ {ds : List D} {vs : List V} {ns : List Int}, intsD ds = some ns → Reps K cA Av H ds vs → vs = ns.map V.int
  | [], _, _, e, h => by cases e; rw [Reps] at h; rw [h]; rfl
  | d :: ds, _, _, e, h => by
    cases d <;> simp only [intsD] at e <;> first | (cases e; done) | skip
    obtain ⟨ns, e1, rfl⟩ := Option.map_eq_some_iff.mp e
    rw [Reps] at h
    obtain ⟨v, r, rfl, h1, h2⟩ := h
    rw [Rep] at h1
    rw [h1, reps_ints e1 h2]; rfl
theorem ints_len : ∀ {ds : List D} {ns : List Int}, intsD ds = some ns → ns.length = ds.length
  | [], _, e => by cases e; rfl
  | d :: ds, _, e => by
    cases d <;> simp only [intsD] at e <;> first | (cases e; done) | skip
    obtain ⟨ns, e1, rfl⟩ := Option.map_eq_some_iff.mp e
    rw [List.length_cons, List.length_cons, ints_len e1]
theorem ints_reps : ∀ (ns : List Int), Reps K cA Av H (ns.map D.int) (ns.map V.int)
  | [] => Reps.nil
  | n :: ns => Reps.cons (by rw [Rep]) (ints_reps ns)
theorem reps_bools : ∀ {ds : List D} {vs : List V} {ns : List Bool}, boolsD ds = some ns → Reps K cA Av H ds vs → vs = ns.map V.bl
  | [], _, _, e, h => by cases e; rw [Reps] at h; rw [h]; rfl
  | d :: ds, _, _, e, h => by
    cases d <;> simp only [boolsD] at e <;> first | (cases e; done) | skip
    obtain ⟨ns, e1, rfl⟩ := Option.map_eq_some_iff.mp e
    rw [Reps] at h
    obtain ⟨v, r, rfl, h1, h2⟩ := h
    rw [Rep] at h1
    rw [h1, reps_bools e1 h2]; rfl
theorem reps_strs : ∀ {ds : List D} {vs : List V} {ns : List Cs}, strsD ds = some ns → Reps K cA Av H ds vs → vs = (ns.map S).map V.str ∧ ∀ l ∈ ns, okC l
  | [], _, _, e, h => by cases e; rw [Reps] at h; rw [h]; exact ⟨rfl, fun _ m => by cases m⟩
  | d :: ds, _, _, e, h => by
    cases d <;> simp only [strsD] at e <;> first | (cases e; done) | skip
    obtain ⟨ns, e1, rfl⟩ := Option.map_eq_some_iff.mp e
    rw [Reps] at h
    obtain ⟨v, r, rfl, h1, h2⟩ := h
    rw [Rep] at h1
    obtain ⟨e2, e3⟩ := reps_strs e1 h2
    refine ⟨by rw [h1.1, e2]; rfl, fun l m => ?_⟩
    rcases List.mem_cons.mp m with rfl | m
    · exact h1.2
    · exact e3 l m
theorem strs_len : ∀ {ds : List D} {ns : List Cs}, strsD ds = some ns → ns.length = ds.length
  | [], _, e => by cases e; rfl
  | d :: ds, _, e => by
    cases d <;> simp only [strsD] at e <;> first | (cases e; done) | skip
    obtain ⟨ns, e1, rfl⟩ := Option.map_eq_some_iff.mp e
    rw [List.length_cons, List.length_cons, strs_len e1]
theorem strs_reps : ∀ (ns : List Cs), (∀ l ∈ ns, okC l) → Reps K cA Av H (ns.map D.str) ((ns.map S).map V.str)
  | [], _ => Reps.nil
  | n :: ns, h => Reps.cons (by rw [Rep]; exact ⟨rfl, h n List.mem_cons_self⟩) (strs_reps ns fun l m => h l (List.mem_cons_of_mem _ m))
theorem repk_put {k : DK} {d : D} {v : V} (hd : Rep K cA Av H d v) : ∀ {kvs : List (DK × D)} {kv : List (Key × V)}, Repk K cA Av H kvs kv → Repk K cA Av H (putK kvs k d) (L2.putK kv (kK k) v) := by
  intro kvs kv h
  have hany : ∀ {kvs : List (DK × D)} {kv : List (Key × V)}, Repk K cA Av H kvs kv → (kv.any fun z => decide (z.1 = kK k)) = kvs.any fun z => decide (z.1 = k) := by
    intro kvs
    induction kvs with
    | nil => intro kv h; rw [Repk] at h; rw [h]; rfl
    | cons p r ih =>
      intro kv h
      obtain ⟨k', d'⟩ := p
      rw [Repk] at h
      obtain ⟨v', q, rfl, h1, h2⟩ := h
      rw [List.any_cons, List.any_cons, ih h2]
      congr 1
      by_cases e : k' = k
      · subst e; simp
      · have : ¬ kK k' = kK k := fun z => e (kK_inj z)
        simp [e, this]
  have hmap : ∀ {kvs : List (DK × D)} {kv : List (Key × V)}, Repk K cA Av H kvs kv → Repk K cA Av H (kvs.map fun z => if z.1 = k then (z.1, d) else z) (kv.map fun z => if z.1 = kK k then (z.1, v) else z) := by
    intro kvs
    induction kvs with
    | nil => intro kv h; rw [Repk] at h; subst h; rw [List.map_nil, Repk]; rfl
    | cons p r ih =>
      intro kv h
      obtain ⟨k', d'⟩ := p
      rw [Repk] at h
      obtain ⟨v', q, rfl, h1, h2⟩ := h
      rw [List.map_cons, List.map_cons]
      by_cases e : k' = k
      · subst e
        rw [if_pos rfl, if_pos rfl, Repk]
        exact ⟨v, _, rfl, hd, ih h2⟩
      · have : ¬ kK k' = kK k := fun z => e (kK_inj z)
        rw [if_neg e, if_neg this, Repk]
        exact ⟨v', _, rfl, h1, ih h2⟩
  have happ : ∀ {kvs : List (DK × D)} {kv : List (Key × V)}, Repk K cA Av H kvs kv → Repk K cA Av H (kvs ++ [(k, d)]) (kv ++ [(kK k, v)]) := by
    intro kvs
    induction kvs with
    | nil =>
      intro kv h; rw [Repk] at h; subst h
      rw [List.nil_append, Repk]
      exact ⟨v, [], rfl, hd, by rw [Repk]⟩
    | cons p r ih =>
      intro kv h
      obtain ⟨k', d'⟩ := p
      rw [Repk] at h
      obtain ⟨v', q, rfl, h1, h2⟩ := h
      rw [List.cons_append, Repk]
      exact ⟨v', _, rfl, h1, ih h2⟩
  unfold Ev.putK L2.putK
  rw [hany h]
  split
  · exact hmap h
  · exact happ h
theorem repk_merge : ∀ {more : List (DK × D)} {mv : List (Key × V)} {kvs : List (DK × D)} {kv : List (Key × V)}, Repk K cA Av H kvs kv → Repk K cA Av H more mv → Repk K cA Av H (Ev.mergeK kvs more) (L2.mergeK kv mv)
  | [], _, _, _, h, g => by rw [Repk] at g; subst g; exact h
  | (k, d) :: r, _, _, _, h, g => by
    rw [Repk] at g
    obtain ⟨v, q, rfl, h1, h2⟩ := g
    have := repk_merge (repk_put (k := k) h1 h) h2
    exact this
theorem Repk.length : ∀ {kvs : List (DK × D)} {kv : List (Key × V)}, Repk K cA Av H kvs kv → kv.length = kvs.length
  | [], _, h => by rw [Repk] at h; rw [h]; rfl
  | (k, d) :: r, _, h => by
    rw [Repk] at h
    obtain ⟨v, q, rfl, _, h2⟩ := h
    rw [List.length_cons, List.length_cons, Repk.length h2]
theorem pairs_rep : ∀ {ds : List D} {kvs : List (DK × D)} {vs : List V}, pairsOf ds = some kvs → Reps K cA Av H ds vs → ∃ (ps : List Addr) (kv : List (Key × V)), vs = ps.map V.ref ∧ Repk K cA Av H kvs kv ∧ Paired (fun p z => SqT K H p [kV z.1, z.2]) ps kv
  | [], _, _, e, h => by
    cases e
    rw [Reps] at h
    exact ⟨[], [], h, by rw [Repk], .nil⟩
  | d :: ds, _, _, e, h => by
    unfold pairsOf at e
    split at e
    · rename_i z
      exact absurd z (List.cons_ne_nil _ _)
    · rename_i k v r z
      cases z
      obtain ⟨k', hk, e1⟩ := Option.bind_eq_some_iff.mp e
      obtain ⟨kvs, e2, rfl⟩ := Option.map_eq_some_iff.mp e1
      rw [Reps] at h
      obtain ⟨w, q, rfl, h1, h2⟩ := h
      obtain ⟨ps, kv, rfl, a, b⟩ := pairs_rep e2 h2
      rw [Rep] at h1
      obtain ⟨p, xs, rfl, _, rt, rp⟩ := h1
      rw [Reps] at rp
      obtain ⟨x1, xr, rfl, p1, p2⟩ := rp
      rw [Reps] at p2
      obtain ⟨x2, xr2, rfl, p3, p4⟩ := p2
      rw [Reps] at p4
      subst p4
      have ek := rep_in hk p1.l
      subst ek
      exact ⟨p :: ps, (kK k', x2) :: kv, rfl, by rw [Repk]; exact ⟨x2, kv, rfl, p3, a⟩, .cons rt.sq b⟩
    · cases e
/-- several operands -/
def RLs (K : PySem.W.Frag) (cA : Nat → Addr) (Av : Addr → Prop) (H : Hp) : List D → List V → Prop
  | [], vs => vs = []
  | d :: ds, vs => ∃ v r, vs = v :: r ∧ RepL K cA Av H d v ∧ RLs K cA Av H ds r
theorem lookAll_rl {G : Addr → Prop} {ρ : Env} {σ : St} (er : ER K cA G σ H ρ) : ∀ {rs : List RV} {ds : List D} {vs : List V}, lookAll ρ rs = some ds → RHs K cA G σ ρ H rs vs → RLs K cA (AvO G ρ σ) H ds vs
  | [], _, _, e, h => by cases e; exact h
  | r :: rs, _, _, e, ⟨v, q, h, a, b⟩ => by
    simp only [lookAll] at e
    obtain ⟨x, e1, e2⟩ := Option.bind_eq_some_iff.mp e
    obtain ⟨ds, e3, rfl⟩ := Option.map_eq_some_iff.mp e2
    exact ⟨v, q, h, a.look er e1, lookAll_rl er e3 b⟩
theorem RLs.one {d : D} {vs : List V} (h : RLs K cA Av H [d] vs) : ∃ v, vs = [v] ∧ RepL K cA Av H d v := by
  obtain ⟨v, r, rfl, a, b⟩ := h
  rw [show r = [] from b]
  exact ⟨v, rfl, a⟩
theorem RLs.two {d e : D} {vs : List V} (h : RLs K cA Av H [d, e] vs) : ∃ v u, vs = [v, u] ∧ RepL K cA Av H d v ∧ RepL K cA Av H e u := by
  obtain ⟨v, r, rfl, a, b⟩ := h
  obtain ⟨u, rfl, c⟩ := b.one
  exact ⟨v, u, rfl, a, c⟩
theorem seq_of {d : D} {ds : List D} {v : V} (e : seqOf d = some ds) (h : RepL K cA Av H d v) : ∃ a vs, v = .ref a ∧ ds.length ≤ SZ ∧ Reps K cA Av H ds vs ∧ ((SqL K H a vs ∧ ∀ t, d ≠ .tup t) ∨ (SqT K H a vs ∧ d = .tup ds ∧ Rep K cA Av H d v)) := by
  cases d <;> simp only [seqOf] at e <;> cases e
  · obtain ⟨a, vs, rfl, l, r, q⟩ := h.tup
    exact ⟨a, vs, rfl, l, q, .inr ⟨r.sq, rfl, h⟩⟩
  · obtain ⟨a, vs, rfl, l, r, q⟩ := h.lst
    exact ⟨a, vs, rfl, l, q, .inl ⟨.inl r, fun _ z => by cases z⟩⟩
end
def biV : BI → Value
  | .len => .builtin "len" | .abs => .builtin "abs" | .int => .type "int" | .str => .type "str" | .max => .builtin "max" | .min => .builtin "min" | .list => .type "list" | .tuple => .type "tuple"
  | .any => .builtin "any" | .all => .builtin "all" | .sum => .builtin "sum" | .dict => .type "dict" | .sorted => .builtin "sorted" | .bool => .type "bool"
def rBi (K : PySem.W.Frag) (cA : Nat → Addr) (f : List D → Option RV) : List V → Hp → VK → Prop := fun vs H Q => ∃ G ρ σ ds r, ER K cA G σ H ρ ∧ RLs K cA (AvO G ρ σ) H ds vs ∧ f ds = some r ∧ Res1 K cA G ρ σ H r Q
theorem okC_int (i : Int) (h : (strOf i).length ≤ SZ) : okC (strOf i) := ⟨by
  unfold strOf
  have e : ((toString i : String) : Str) = ⟨((toString i : String).toList.map Char.toNat).toArray⟩ := Str.ofString_eq_toList _
  rw [e]
  simp only [List.all_eq_true, decide_eq_true_eq]
  intro x hx
  obtain ⟨c, _, rfl⟩ := List.mem_map.mp hx
  rcases c.valid with v | v
  · exact Nat.lt_trans v (by decide)
  · exact v.2, h⟩
section
variable {X : Cx} {cA : Nat → Addr}
theorem bi_ok (hc : X.calm = true) (hu : X.A.units + 66 < cLine) : ∀ f, CallR X (biV f) (rBi X.K cA (biE f)) := by
  intro f pins s σ H vs us Q I r h
  obtain ⟨G, ρ, σ0, ds, z, er, rl, hf, q⟩ := h
  unfold biE at hf
  split at hf
  · cases hf
    obtain ⟨v, rfl, h⟩ := rl.one
    obtain ⟨a, xs, rfl, l, rd, p⟩ := h.lst
    refine call_len_seq pins s σ H _ us Q I r ⟨a, xs, rfl, .inl (.inl rd), ?_⟩
    rw [p.length]
    exact q.int er
  · cases hf
    obtain ⟨v, rfl, h⟩ := rl.one
    obtain ⟨a, xs, rfl, l, rd, p⟩ := h.tup
    refine call_len_seq pins s σ H _ us Q I r ⟨a, xs, rfl, .inr rd.sq, ?_⟩
    rw [p.length]
    exact q.int er
  · cases hf
    obtain ⟨v, rfl, h⟩ := rl.one
    obtain ⟨rfl, o⟩ := h.str
    refine call_len_str pins s σ H _ us Q I r ⟨_, rfl, by rw [SX.S_len, ← SZ_line]; exact o.2, ?_⟩
    rw [SX.S_len]
    exact q.int er
  · cases hf
    obtain ⟨v, rfl, h⟩ := rl.one
    obtain ⟨a, kv, rfl, rd, p⟩ := h.dct
    obtain ⟨u, rfl, ru⟩ := vals1 r
    cases ru
    refine d_len I rd fun t s' I' => ⟨.int kv.length, H, I', ⟨t, rfl⟩, ?_⟩
    rw [p.length]
    exact q.int er
  · cases hf
    obtain ⟨v, rfl, h⟩ := rl.one
    obtain ⟨a, rfl, l, rd⟩ := h.scr
    refine call_len_seq pins s σ H _ us Q I r ⟨a, _, rfl, .inl rd, ?_⟩
    rw [List.length_map]
    exact q.int er
  · cases hf
    obtain ⟨v, rfl, h⟩ := rl.one
    cases h.int
    exact call_abs pins s σ H _ us Q I r ⟨_, rfl, q.int er⟩
  · cases hf
    obtain ⟨v, rfl, h⟩ := rl.one
    cases h.int
    exact call_int1 pins s σ H _ us Q I r (.inl ⟨_, rfl, q.int er⟩)
  · cases hf
    obtain ⟨v, rfl, h⟩ := rl.one
    cases h.bl
    exact call_int1 pins s σ H _ us Q I r (.inr ⟨_, rfl, q.int er⟩)
  · split at hf
    · rename_i hl
      obtain ⟨i, hi, hf⟩ := Option.map_eq_some_iff.mp hf
      cases hf
      obtain ⟨v, rfl, h⟩ := rl.one
      obtain ⟨rfl, o⟩ := h.str
      exact call_int_str pins s σ H _ us Q I r ⟨_, _, rfl, hi, by rw [SX.S_len]; exact hl, q.int er⟩
    · cases hf
  · cases hf
    obtain ⟨v, rfl, h⟩ := rl.one
    cases h.int
    exact call_bool1 pins s σ H _ us Q I r (.inl ⟨_, rfl, q.bl er⟩)
  · cases hf
    obtain ⟨v, rfl, h⟩ := rl.one
    cases h.bl
    exact call_bool1 pins s σ H _ us Q I r (.inr ⟨_, rfl, q.bl er⟩)
  · split at hf
    · rename_i hl
      cases hf
      obtain ⟨v, rfl, h⟩ := rl.one
      cases h.int
      refine call_str_int pins s σ H _ us Q I r ⟨_, rfl, hl.1, ?_⟩
      have := q.str er (okC_int _ hl.2)
      unfold strOf at this
      rw [SX.S_tl] at this
      exact this
    · cases hf
  · cases hf
    obtain ⟨v, u, rfl, h, h2⟩ := rl.two
    cases h.int
    cases h2.int
    exact call_max2 hc pins s σ H _ us Q I r ⟨_, _, rfl, q.int er⟩
  · cases hf
    obtain ⟨v, u, rfl, h, h2⟩ := rl.two
    cases h.int
    cases h2.int
    exact call_min2 hc pins s σ H _ us Q I r ⟨_, _, rfl, q.int er⟩
  · obtain ⟨ns, h1, h2⟩ := Option.bind_eq_some_iff.mp hf
    split at h2
    · cases h2
    · rename_i hn
      cases h2
      obtain ⟨v, rfl, h⟩ := rl.one
      obtain ⟨a, xs, rfl, l, rd, p⟩ := h.lst
      cases reps_ints h1 p
      have ne : ns ≠ [] := fun z => hn (by rw [z]; rfl)
      refine cr_max hc pins s σ H _ us Q I r ⟨a, ns, rfl, .inl rd, by omega, fun m hm hb => ?_⟩
      obtain ⟨s1, s2⟩ := maxI_spec ne
      have e : m = maxI ns := Int.le_antisymm (s2 m hm) (hb _ s1)
      rw [e]
      exact q.int er
  · obtain ⟨ns, h1, h2⟩ := Option.bind_eq_some_iff.mp hf
    split at h2
    · cases h2
    · rename_i hn
      cases h2
      obtain ⟨v, rfl, h⟩ := rl.one
      obtain ⟨a, xs, rfl, l, rd, p⟩ := h.lst
      cases reps_ints h1 p
      have ne : ns ≠ [] := fun z => hn (by rw [z]; rfl)
      refine cr_min hc pins s σ H _ us Q I r ⟨a, ns, rfl, .inl rd, by omega, fun m hm hb => ?_⟩
      obtain ⟨s1, s2⟩ := minI_spec ne
      have e : m = minI ns := Int.le_antisymm (hb _ s1) (s2 m hm)
      rw [e]
      exact q.int er
  · obtain ⟨ns, h1, rfl⟩ := Option.map_eq_some_iff.mp hf
    obtain ⟨v, rfl, h⟩ := rl.one
    obtain ⟨a, xs, rfl, l, rd, p⟩ := h.lst
    cases reps_ints h1 p
    exact cr_sum hc pins s σ H _ us Q I r ⟨a, ns, rfl, .inl rd, q.int er⟩
  · obtain ⟨ns, h1, rfl⟩ := Option.map_eq_some_iff.mp hf
    obtain ⟨v, rfl, h⟩ := rl.one
    obtain ⟨a, xs, rfl, l, rd, p⟩ := h.lst
    cases reps_bools h1 p
    exact cr_any hc pins s σ H _ us Q I r ⟨a, ns, rfl, .inl rd, q.bl er⟩
  · obtain ⟨ns, h1, rfl⟩ := Option.map_eq_some_iff.mp hf
    obtain ⟨v, rfl, h⟩ := rl.one
    obtain ⟨a, xs, rfl, l, rd, p⟩ := h.lst
    cases reps_bools h1 p
    exact cr_all hc pins s σ H _ us Q I r ⟨a, ns, rfl, .inl rd, q.bl er⟩
  · obtain ⟨es, h1, rfl⟩ := Option.map_eq_some_iff.mp hf
    obtain ⟨v, rfl, h⟩ := rl.one
    obtain ⟨a, xs, rfl, l, p, c⟩ := seq_of h1 h
    refine call_list_of pins s σ H _ us Q I r ⟨a, xs, rfl, c.elim (fun z => .inl z.1) fun z => .inr z.1, fun l' np => q.lst er np p l⟩
  · obtain ⟨es, h1, rfl⟩ := Option.map_eq_some_iff.mp hf
    obtain ⟨v, rfl, h⟩ := rl.one
    obtain ⟨a, xs, rfl, l, p, c⟩ := seq_of h1 h
    rcases c with ⟨c, _⟩ | ⟨c, e, rp⟩
    · exact call_tuple_of pins s σ H _ us Q I r ⟨a, xs, rfl, .inl ⟨c, fun l' np => q.tup er np p l⟩⟩
    · rw [e] at rp
      exact call_tuple_of pins s σ H _ us Q I r ⟨a, xs, rfl, .inr ⟨c, q.d er rp⟩⟩
  · obtain ⟨kvs, h1, rfl⟩ := Option.map_eq_some_iff.mp hf
    obtain ⟨v, rfl, h⟩ := rl.one
    obtain ⟨a, xs, rfl, l, rd, p⟩ := h.lst
    obtain ⟨ps, kv, rfl, hk, hp⟩ := pairs_rep h1 p
    exact call_dictP hc pins s σ H _ us Q I r ⟨a, ps, kv, rfl, .inl rd, hp, fun p' np => q.dct er np (repk_merge (by rw [Repk]) hk)⟩
  · cases hf
    obtain ⟨v, rfl, h⟩ := rl.one
    obtain ⟨a, kv, rfl, rd, p⟩ := h.dct
    exact call_dictD pins s σ H _ us Q I r ⟨a, kv, rfl, rd, fun p' np => q.dct er np p⟩
  · split at hf
    · rename_i hl
      split at hf
      · rename_i ns hn
        cases hf
        obtain ⟨v, rfl, h⟩ := rl.one
        obtain ⟨a, xs, rfl, l, rd, p⟩ := h.lst
        cases reps_ints hn p
        refine cr_sorted pins s σ H _ us Q I r ⟨a, ns, rfl, .inl rd, by rw [ints_len hn]; exact hl, fun ms p' pm so np => ?_⟩
        rw [sortI_of pm so]
        exact q.lst er np (ints_reps _) (by rw [List.length_map, show (sortI ns).length = ns.length from (sortBy_perm ns).length_eq, ints_len hn]; exact l)
      · split at hf
        · rename_i ls hn
          cases hf
          obtain ⟨v, rfl, h⟩ := rl.one
          obtain ⟨a, xs, rfl, l, rd, p⟩ := h.lst
          obtain ⟨e, o⟩ := reps_strs hn p
          subst e
          refine cr_sortedS pins s σ H _ us Q I r ⟨a, _, rfl, .inl rd, by rw [List.length_map, strs_len hn]; exact hl, fun ms p' pm so np => ?_⟩
          rw [sortS_of pm so]
          exact q.lst er np (strs_reps _ fun l' m => o l' ((sortBy_perm ls).mem_iff.mp m)) (by rw [List.length_map, show (sortS ls).length = ls.length from (sortBy_perm ls).length_eq, strs_len hn]; exact l)
        · cases hf
    · cases hf
  · cases hf
end
end Ev
end
/-! E0 -/
section
set_option Elab.async false
set_option linter.all false
set_option maxRecDepth 100000
set_option maxHeartbeats 1000000
/-! syntactic side conditions, by tests that the kernel computes -/
namespace Ev
open PySem L2
def nonStar : Expr → Bool
  | .Starred _ _ => false
  | _ => true
def nst (es : List Expr) : Bool := es.all nonStar
theorem star1 {e : Expr} {es : List Expr} {env : PySem.Env} (h : nonStar e = true) : starEach (e :: es) env = (false, eval e env) :: starEach es env := by
  cases e <;> first | rfl | cases h
theorem star_all : ∀ {es : List Expr} {env : PySem.Env}, nst es = true → ∀ x ∈ starEach es env, x.1 = false
  | [], _, _, x, m => by
    rw [starEach] at m; cases m
  | e :: es, env, h, x, m => by
    have h' : (nonStar e && nst es) = true := h
    rw [Bool.and_eq_true] at h'
    rw [star1 h'.1] at m
    rcases List.mem_cons.mp m with rfl | m
    · rfl
    · exact star_all h'.2 x m
theorem star_len : ∀ {es : List Expr} {env : PySem.Env}, nst es = true → (starEach es env).length = es.length
  | [], _, _ => by rw [starEach]; rfl
  | e :: es, env, h => by
    have h' : (nonStar e && nst es) = true := h
    rw [Bool.and_eq_true] at h'
    rw [star1 h'.1, List.length_cons, List.length_cons, star_len h'.2]
theorem back_any {pos : Pos} {l : List (Bool × Sem Value)} (h : ∀ x ∈ l, x.1 = false) : (backTo pos l).any (·.1) = false := by
  rw [List.any_eq_false]
  intro x m
  unfold backTo at m
  obtain ⟨y, hy, rfl⟩ := List.mem_map.mp m
  rw [h y hy]; decide
theorem back_all {pos : Pos} {l : List (Bool × Sem Value)} (h : ∀ x ∈ l, x.1 = false) : (backTo pos l).all (fun x => !x.1) = true := by
  rw [List.all_eq_true]
  intro x m
  unfold backTo at m
  obtain ⟨y, hy, rfl⟩ := List.mem_map.mp m
  rw [h y hy]; rfl
theorem few {es : List Expr} {env : PySem.Env} {pos : Pos} (h : nst es = true) (hl : es.length < 20) : ((backTo pos (starEach es env)).all (fun x => !x.1) && (backToKw pos (keywordEach [] env)).all (fun x => x.1.isSome)
      && decide (es.length + ([] : List Keyword).length + (if ([] : List Keyword).isEmpty then 0 else 1) < 30)) = true := by
  rw [back_all (star_all h)]
  have : es.length + ([] : List Keyword).length + (if ([] : List Keyword).isEmpty then 0 else 1) < 30 := by simp; omega
  rw [decide_eq_true this]
  rfl
/-- no call of super() as a receiver -/
def plainBase : Expr → Bool
  | .Call (.Name _ _) [] [] _ => false
  | _ => true
theorem base_of {o : Expr} {a : Str} {env : PySem.Env} (h : plainBase o = true) : attributeBase o a env (eval o env) = eval o env := by
  unfold attributeBase
  split
  · cases h
  · rfl
def nonComp : Expr → Bool
  | .ListComp .. | .SetComp .. | .DictComp .. => false
  | _ => true
theorem swaps_of {e : Expr} {t : Option Expr} {n : Nat} {env : PySem.Env} (h : nonComp e = true) : swapsWith e t n env = pure false := by
  unfold swapsWith
  split
  · rename_i hh
    cases e <;> first | (cases h; done) | (cases hh)
  · rfl
def nonSl : Expr → Bool
  | .Slice .. => false
  | _ => true
theorem plainIx_of {b : Expr} (h : nonSl b = true) : PlainIx b := by
  intro o i
  unfold subscripted
  split
  · cases h
  · rename_i z; cases z
  · rfl
/-- its test is its value's truth -/
def plainT : Expr → Bool
  | .UnaryOp .. | .BoolOp .. | .IfExp .. | .Compare .. => false
  | _ => true
theorem plainT_of {a : Expr} {env : PySem.Env} (h : plainT a = true) : ∀ whole, PySem.isTrue a env whole = (do let v ← whole; standAt a.pos; holding [v] (truthy v)) := by
  intro whole
  cases a <;> first | (cases h; done) | rfl
def nonSet : Expr → Bool
  | .Set .. => false
  | _ => true
theorem behind_of {b : Expr} {op : CmpOp} (h : nonSet b = true) : behindInMarks op b = false := by
  cases b <;> first | (cases h; done) | rfl
theorem folded_of {e : Expr} {env : PySem.Env} (h : nonSet e = true) : ∀ x, foldedSetIterable e env x = pure x := by
  intro x
  unfold foldedSetIterable
  split
  · cases h
  · rfl
end Ev
end
/-! E1 -/
section
set_option Elab.async false
set_option linter.all false
set_option maxRecDepth 100000
set_option maxHeartbeats 1000000
namespace Ev
open PySem L2
open SX (S)
section
variable {K : PySem.W.Frag} {cA : Nat → Addr} {G : Addr → Prop} {ρ : Env} {σ : St} {H : Hp}
theorem gt_ge {i : Nat} (h : ρ.length ≤ i) : gt ρ i = .no := by simp only [gt_def]; rw [List.getElem?_eq_none h]; rfl
theorem setE_ge {i : Nat} {e : EV} (h : ρ.length ≤ i) : setE ρ i e = ρ := by rw [setE_def]; exact List.set_eq_of_length_le h
theorem st_get {i j : Nat} {v : Option V} (h : i < σ.length) : (σ.set i v)[j]? = if j = i then some v else σ[j]? := by
  by_cases q : j = i
  · subst q; rw [if_pos rfl, List.getElem?_set_self h]
  · rw [if_neg q, List.getElem?_set_ne (Ne.symm q)]
/-- a name gets a value; what it held is let go -/
theorem ow_put {i : Nat} {e : EV} {v : Option V} (hl : i < ρ.length) (hs : i < σ.length) (ne : ∀ m p l, e ≠ .own m p l) {b : Addr} (h : Ow (setE ρ i e) (σ.set i v) b) : ∃ j m p l, j ≠ i ∧ gt ρ j = .own m p l ∧ σ[j]? = some (some (.ref b)) := by
  obtain ⟨j, m, p, l, g, q⟩ := h
  rw [gt_set hl] at g
  split at g
  · exact absurd g (ne _ _ _)
  · rename_i n
    rw [st_get hs, if_neg n] at q
    exact ⟨j, m, p, l, n, g, q⟩
theorem fre_put {i : Nat} {e : EV} {v : Option V} (hl : i < ρ.length) (hs : i < σ.length) (ne : ∀ m p l, e ≠ .own m p l) {b : Addr} (h : Fre (setE ρ i e) (σ.set i v) b) : Fre ρ σ b := by
  obtain ⟨j, m, p, g, q⟩ := h
  rw [gt_set hl] at g
  split at g
  · exact absurd g (ne _ _ _)
  · rename_i n
    rw [st_get hs, if_neg n] at q
    exact ⟨j, m, p, g, q⟩
theorem pinned_put {i : Nat} {e : EV} (hp : pinned ρ i = false) {j : Nat} (h : pinned ρ j = true) : j ≠ i ∧ pinned (setE ρ i e) j = true := by
  have n : j ≠ i := fun z => by subst z; rw [hp] at h; cases h
  refine ⟨n, ?_⟩
  by_cases hl : i < ρ.length
  · unfold pinned
    rw [gt_set hl, if_neg n]
    exact h
  · rw [setE_ge (by omega)]; exact h
theorem er_put {i : Nat} {d : D} {v : V} (er : ER K cA G σ H ρ) (hp : pinned ρ i = false) (r : Rep K cA (AvO G ρ σ) H d v) : ER K cA G (σ.set i (some v)) H (setE ρ i (.val d)) ∧ Step ρ σ H (setE ρ i (.val d)) (σ.set i (some v)) H := by
  by_cases hl : i < ρ.length
  · have hs : i < σ.length := by rw [← er.len]; exact hl
    have ne : ∀ m p l, EV.val d ≠ .own m p l := fun _ _ _ z => by cases z
    have sub : ∀ b, AvO G (setE ρ i (.val d)) (σ.set i (some v)) b → AvO G ρ σ b := fun b z => by
      rcases z with z | z
      · exact .inl z
      · obtain ⟨j, m, p, l, _, g, q⟩ := ow_put hl hs ne z
        exact .inr ⟨j, m, p, l, g, q⟩
    have t : Tr (AvO G ρ σ) (AvO G (setE ρ i (.val d)) (σ.set i (some v))) H H := fun b n _ => ⟨fun z => n (sub b z), .inl rfl⟩
    refine ⟨⟨by rw [setE_len, List.length_set]; exact er.len, fun j d' gj => ?_, fun j m p l gj => ?_, fun j k b m p l m' p' l' g1 g2 h1 h2 => ?_, er.gin⟩, ⟨fun b o h _ => h, fun b z => ?_, fun b z => .inl (fre_put hl hs ne z), fun j hj => ?_, fun b h => h, fun j m p h => ?_⟩⟩
    · rw [gt_set hl] at gj
      rw [st_get hs]
      split at gj
      · rename_i e; rw [if_pos e]; cases gj; exact ⟨v, rfl, r.tr t⟩
      · rename_i e
        rw [if_neg e]
        obtain ⟨w, hw, rw'⟩ := er.val j d' gj
        exact ⟨w, hw, rw'.tr t⟩
    · rw [gt_set hl] at gj
      split at gj
      · cases gj
      · rename_i e
        rw [st_get hs, if_neg e]
        obtain ⟨a, ha, ng, rm, nf⟩ := er.own j m p l gj
        exact ⟨a, ha, ng, rm.tr t (.inl rfl), nf⟩
    · rw [gt_set hl] at g1 g2
      split at g1 <;> first | (cases g1; done) | skip
      split at g2 <;> first | (cases g2; done) | skip
      rename_i n1 n2
      rw [st_get hs, if_neg n1] at h1
      rw [st_get hs, if_neg n2] at h2
      exact er.dis j k b m p l m' p' l' g1 g2 h1 h2
    · obtain ⟨j, m, p, l, _, g, q⟩ := ow_put hl hs ne z
      exact .inl ⟨j, m, p, l, g, q⟩
    · obtain ⟨n, e⟩ := pinned_put (e := .val d) hp hj
      exact ⟨e, by rw [st_get hs, if_neg n]⟩
    · rw [gt_set hl] at h
      split at h
      · cases h
      · rename_i n
        exact ⟨m, p, h, by rw [st_get hs, if_neg n]⟩
  · have e1 : setE ρ i (.val d) = ρ := setE_ge (by omega)
    have e2 : σ.set i (some v) = σ := List.set_eq_of_length_le (by rw [← er.len]; omega)
    rw [e1, e2]
    exact ⟨er, Step.refl _ _ _⟩
theorem er_putO {i : Nat} {m : M} {p : Addr} (er : ER K cA (plus G p) σ H ρ) (hp : pinned ρ i = false) (rm : RepM K cA (AvO (plus G p) ρ σ) H m p) (nf : ∀ o u, H p ≠ some (.frz o u)) (ng : ¬ G p) (hl : i < ρ.length) :
    ER K cA G (σ.set i (some (.ref p))) H (setE ρ i (.own m false false)) ∧ (∀ b, Ow (setE ρ i (.own m false false)) (σ.set i (some (.ref p))) b → Ow ρ σ b ∨ b = p) ∧ (∀ b, Fre (setE ρ i (.own m false false)) (σ.set i (some (.ref p))) b → Fre ρ σ b ∨ b = p) ∧
      (∀ j, pinned ρ j = true → pinned (setE ρ i (.own m false false)) j = true ∧ (σ.set i (some (.ref p)))[j]? = σ[j]?) ∧
      (∀ j m1 p1, gt (setE ρ i (.own m false false)) j = .own m1 p1 true → ∃ m0 p0, gt ρ j = .own m0 p0 true ∧ (σ.set i (some (.ref p)))[j]? = σ[j]?) := by
  have hs : i < σ.length := by rw [← er.len]; exact hl
  have hO : ∀ b, Ow (setE ρ i (.own m false false)) (σ.set i (some (.ref p))) b → Ow ρ σ b ∨ b = p := fun b ⟨j, m', p', l, g, q⟩ => by
    rw [gt_set hl] at g
    rw [st_get hs] at q
    split at g
    · rename_i e
      rw [if_pos e] at q
      cases q
      exact .inr rfl
    · rename_i e
      rw [if_neg e] at q
      exact .inl ⟨j, m', p', l, g, q⟩
  have hF : ∀ b, Fre (setE ρ i (.own m false false)) (σ.set i (some (.ref p))) b → Fre ρ σ b ∨ b = p := fun b ⟨j, m', p', g, q⟩ => by
    rw [gt_set hl] at g
    rw [st_get hs] at q
    split at g
    · rename_i e
      rw [if_pos e] at q
      cases q
      exact .inr rfl
    · rename_i e
      rw [if_neg e] at q
      exact .inl ⟨j, m', p', g, q⟩
  have sub : ∀ b, AvO G (setE ρ i (.own m false false)) (σ.set i (some (.ref p))) b → AvO (plus G p) ρ σ b := fun b z => by
    rcases z with z | z
    · exact .inl (.inl z)
    · rcases hO b z with z | z
      · exact .inr z
      · exact .inl (.inr z)
  have t : Tr (AvO (plus G p) ρ σ) (AvO G (setE ρ i (.own m false false)) (σ.set i (some (.ref p)))) H H := fun b n _ => ⟨fun z => n (sub b z), .inl rfl⟩
  refine ⟨⟨by rw [setE_len, List.length_set]; exact er.len, fun j d' gj => ?_, fun j m1 p1 l gj => ?_, fun j k b m1 p1 l m' p' l' g1 g2 h1 h2 => ?_, fun a h => er.gin a (.inl h)⟩, hO, hF, fun j hj => ?_, fun j m1 p1 h => ?_⟩
  · rw [gt_set hl] at gj
    rw [st_get hs]
    split at gj
    · cases gj
    · rename_i e
      rw [if_neg e]
      obtain ⟨w, hw, rw'⟩ := er.val j d' gj
      exact ⟨w, hw, rw'.tr t⟩
  · rw [gt_set hl] at gj
    rw [st_get hs]
    split at gj
    · rename_i e
      rw [if_pos e]
      cases gj
      exact ⟨p, rfl, ng, rm.tr t (.inl rfl), fun _ => nf⟩
    · rename_i e
      rw [if_neg e]
      obtain ⟨a, ha, ng', rm', nf'⟩ := er.own j m1 p1 l gj
      exact ⟨a, ha, fun z => ng' (.inl z), rm'.tr t (.inl rfl), nf'⟩
  · rw [gt_set hl] at g1 g2
    rw [st_get hs] at h1 h2
    split at g1
    · rename_i e1
      rw [if_pos e1] at h1
      cases h1
      split at g2
      · rename_i e2; rw [e1, e2]
      · rename_i e2
        rw [if_neg e2] at h2
        obtain ⟨a, ha, ng', _⟩ := er.own k m' p' l' g2
        rw [h2] at ha
        cases ha
        exact absurd (.inr rfl) ng'
    · rename_i e1
      rw [if_neg e1] at h1
      split at g2
      · rename_i e2
        rw [if_pos e2] at h2
        cases h2
        obtain ⟨a, ha, ng', _⟩ := er.own j m1 p1 l g1
        rw [h1] at ha
        cases ha
        exact absurd (.inr rfl) ng'
      · rename_i e2
        rw [if_neg e2] at h2
        exact er.dis j k b m1 p1 l m' p' l' g1 g2 h1 h2
  · obtain ⟨n, e⟩ := pinned_put (e := .own m false false) hp hj
    exact ⟨e, by rw [st_get hs, if_neg n]⟩
  · rw [gt_set hl] at h
    split at h
    · cases h
    · rename_i n
      exact ⟨m1, p1, h, by rw [st_get hs, if_neg n]⟩
theorem er_no {i : Nat} (er : ER K cA G σ H ρ) : ER K cA G (σ.set i none) H (setE ρ i .no) := by
  by_cases hl : i < ρ.length
  · have hs : i < σ.length := by rw [← er.len]; exact hl
    have ne : ∀ m p l, EV.no ≠ .own m p l := fun _ _ _ z => by cases z
    have sub : ∀ b, AvO G (setE ρ i .no) (σ.set i none) b → AvO G ρ σ b := fun b z => by
      rcases z with z | z
      · exact .inl z
      · obtain ⟨j, m, p, l, _, g, q⟩ := ow_put hl hs ne z
        exact .inr ⟨j, m, p, l, g, q⟩
    have t : Tr (AvO G ρ σ) (AvO G (setE ρ i .no) (σ.set i none)) H H := fun b n _ => ⟨fun z => n (sub b z), .inl rfl⟩
    refine ⟨by rw [setE_len, List.length_set]; exact er.len, fun j d' gj => ?_, fun j m p l gj => ?_, fun j k b m p l m' p' l' g1 g2 h1 h2 => ?_, er.gin⟩
    · rw [gt_set hl] at gj
      rw [st_get hs]
      split at gj
      · cases gj
      · rename_i e
        rw [if_neg e]
        obtain ⟨w, hw, rw'⟩ := er.val j d' gj
        exact ⟨w, hw, rw'.tr t⟩
    · rw [gt_set hl] at gj
      split at gj
      · cases gj
      · rename_i e
        rw [st_get hs, if_neg e]
        obtain ⟨a, ha, ng, rm, nf⟩ := er.own j m p l gj
        exact ⟨a, ha, ng, rm.tr t (.inl rfl), nf⟩
    · rw [gt_set hl] at g1 g2
      split at g1 <;> first | (cases g1; done) | skip
      split at g2 <;> first | (cases g2; done) | skip
      rename_i n1 n2
      rw [st_get hs, if_neg n1] at h1
      rw [st_get hs, if_neg n2] at h2
      exact er.dis j k b m p l m' p' l' g1 g2 h1 h2
  · rw [setE_ge (by omega), List.set_eq_of_length_le (by rw [← er.len]; omega)]
    exact er
theorem er_wipe : ∀ {own : List Nat}, ER K cA G σ H ρ → ER K cA G (wipe σ own) H (wipeE own ρ)
  | [], er => er
  | i :: r, er => er_no (er_wipe er)
theorem gt_wipe : ∀ {own : List Nat} {ρ : Env} {j : Nat}, gt (wipeE own ρ) j = if j ∈ own then .no else gt ρ j
  | [], ρ, j => by simp [wipeE]
  | i :: r, ρ, j => by
    rw [wipeE]
    by_cases hl : i < (wipeE r ρ).length
    · rw [gt_set hl, gt_wipe]
      by_cases e : j = i
      · subst e; simp
      · rw [if_neg e]; simp [e]
    · rw [setE_ge (by omega), gt_wipe]
      by_cases e : j = i
      · subst e
        have : gt (wipeE r ρ) j = .no := gt_ge (by omega)
        rw [gt_wipe] at this
        rw [this]; simp
      · simp [e]
theorem wipe_not {own : List Nat} {j : Nat} (h : j ∉ own) : (wipe σ own)[j]? = σ[j]? := by
  induction own with
  | nil => rfl
  | cons i r ih =>
    rw [wipe, List.getElem?_set_ne (fun e => h (by rw [e]; exact List.mem_cons_self))]
    exact ih fun m => h (List.mem_cons_of_mem _ m)
theorem step_wipe {ρ0 : Env} {σ0 : St} {H0 : Hp} {own : List Nat} (st : Step ρ0 σ0 H0 ρ σ H) (np : noPin own ρ0 = true) : Step ρ0 σ0 H0 (wipeE own ρ) (wipe σ own) H := by
  have hO : ∀ b, Ow (wipeE own ρ) (wipe σ own) b → Ow ρ σ b := fun b ⟨j, m, p, l, g, q⟩ => by
    rw [gt_wipe] at g
    split at g
    · cases g
    · rename_i n
      rw [wipe_not n] at q
      exact ⟨j, m, p, l, g, q⟩
  have hF : ∀ b, Fre (wipeE own ρ) (wipe σ own) b → Fre ρ σ b := fun b ⟨j, m, p, g, q⟩ => by
    rw [gt_wipe] at g
    split at g
    · cases g
    · rename_i n
      rw [wipe_not n] at q
      exact ⟨j, m, p, g, q⟩
  refine ⟨st.keep, fun b z => st.own b (hO b z), fun b z => st.fre b (hF b z), fun i h => ?_, st.dom, fun i m p g => ?_⟩
  · have n : i ∉ own := fun z => by
      have := List.all_eq_true.mp np i z
      rw [h] at this
      cases this
    obtain ⟨h1, h2⟩ := st.pin i h
    refine ⟨?_, (wipe_not n).trans h2⟩
    unfold pinned
    rw [gt_wipe, if_neg n]
    exact h1
  · rw [gt_wipe] at g
    split at g
    · cases g
    · rename_i n
      obtain ⟨m0, p0, g0, e⟩ := st.lkd i m p g
      exact ⟨m0, p0, g0, (wipe_not n).trans e⟩
/-- the wiped names back -/
theorem er_unwipe {own : List Nat} (er : ER K cA G (wipe σ own) H ρ) (hn : ∀ i ∈ own, gt ρ i = .no) : ER K cA G σ H ρ := by
  have sm : ∀ {i : Nat} {e : EV}, gt ρ i = e → e ≠ .no → (wipe σ own)[i]? = σ[i]? := fun {i e} g n => wipe_not fun m => n (by rw [← g]; exact hn i m)
  have av : ∀ b, AvO G ρ σ b → AvO G ρ (wipe σ own) b := fun b z => by
    rcases z with z | ⟨i, m, p, l, g, q⟩
    · exact .inl z
    · exact .inr ⟨i, m, p, l, g, (sm g (by intro z; cases z)).trans q⟩
  have t : Tr (AvO G ρ (wipe σ own)) (AvO G ρ σ) H H := fun b n _ => ⟨fun z => n (av b z), .inl rfl⟩
  refine ⟨by rw [er.len, wipe_length], fun i d g => ?_, fun i m p l g => ?_, fun i j b m p l m' p' l' g1 g2 h1 h2 => ?_, er.gin⟩
  · obtain ⟨v, hv, r⟩ := er.val i d g
    exact ⟨v, (sm g (by intro z; cases z)).symm.trans hv, r.tr t⟩
  · obtain ⟨a, ha, ng, r, nf⟩ := er.own i m p l g
    exact ⟨a, (sm g (by intro z; cases z)).symm.trans ha, ng, r.tr t (.inl rfl), nf⟩
  · exact er.dis i j b m p l m' p' l' g1 g2 ((sm g1 (by intro z; cases z)).trans h1) ((sm g2 (by intro z; cases z)).trans h2)
theorem step_unwipe {ρ0 : Env} {σ0 : St} {H0 : Hp} {own : List Nat} (st : Step ρ0 σ0 H0 ρ (wipe σ own) H) (hn : ∀ i ∈ own, gt ρ i = .no) : Step ρ0 σ0 H0 ρ σ H := by
  have sm : ∀ {i : Nat} {e : EV}, gt ρ i = e → e ≠ .no → (wipe σ own)[i]? = σ[i]? := fun {i e} g n => wipe_not fun m => n (by rw [← g]; exact hn i m)
  refine ⟨st.keep, fun b ⟨i, m, p, l, g, q⟩ => st.own b ⟨i, m, p, l, g, (sm g (by intro z; cases z)).trans q⟩, fun b ⟨i, m, p, g, q⟩ => st.fre b ⟨i, m, p, g, (sm g (by intro z; cases z)).trans q⟩, fun i h => ?_, st.dom, fun i m p g => ?_⟩
  · obtain ⟨h1, h2⟩ := st.pin i h
    refine ⟨h1, ?_⟩
    have n : i ∉ own := fun z => by
      unfold pinned at h1
      rw [hn i z] at h1
      cases h1
    exact (wipe_not n).symm.trans h2
  · obtain ⟨m0, p0, g0, e⟩ := st.lkd i m p g
    exact ⟨m0, p0, g0, (sm g (by intro z; cases z)).symm.trans e⟩
/-- an object that no name holds is changed -/
theorem er_updG {p : Addr} {o : HO} (er : ER K cA (plus G p) σ H ρ) : ER K cA (plus G p) σ (upd H p o) ρ := by
  have t : Tr (AvO (plus G p) ρ σ) (AvO (plus G p) ρ σ) H (upd H p o) := fun b n _ => ⟨n, .inl (upd_ne fun z => n (.inl (.inr z)))⟩
  refine ⟨er.len, fun i d g => ?_, fun i m q l g => ?_, er.dis, fun b z => upd_in (er.gin b z)⟩
  · obtain ⟨v, hv, r⟩ := er.val i d g
    exact ⟨v, hv, r.tr t⟩
  · obtain ⟨a, ha, ng, r, nf⟩ := er.own i m q l g
    have ne : a ≠ p := fun z => ng (.inr z)
    exact ⟨a, ha, ng, r.tr t (.inl (upd_ne ne)), fun z x u => by rw [upd_ne ne]; exact nf z x u⟩
theorem step_updX {ρ0 : Env} {σ0 : St} {H0 : Hp} {p : Addr} {o : HO} (st : Step ρ0 σ0 H0 ρ σ H) (np : H0 p = none) : Step ρ0 σ0 H0 ρ σ (upd H p o) :=
  ⟨fun b u h n => by rw [upd_ne (ne_of_none h np)]; exact st.keep b u h n, st.own, st.fre, st.pin, fun b h => upd_in (st.dom b h), st.lkd⟩
/-- locks -/
theorem lock_inv {i : Nat} {ρ' : Env} (h : lockE ρ (some i) = some ρ') : ∃ m pn, gt ρ i = .own m pn false ∧ ρ' = setE ρ i (.own m pn true) := by
  unfold lockE at h
  dsimp only at h
  split at h
  · rename_i m pn g; exact ⟨m, pn, g, (Option.some.inj h).symm⟩
  · cases h
theorem er_lock {lk : Option Nat} {ρ' : Env} (er : ER K cA G σ H ρ) (h : lockE ρ lk = some ρ') : ER K cA G σ H ρ' := by
  cases lk with
  | none => cases h; exact er
  | some i =>
    obtain ⟨m, pn, g, rfl⟩ := lock_inv h
    have hl := gt_lt g (by intro z; cases z)
    have av : ∀ b, AvO G (setE ρ i (.own m pn true)) σ b → AvO G ρ σ b := fun b z => by
      rcases z with z | ⟨j, m1, p1, l, gj, q⟩
      · exact .inl z
      · rw [gt_set hl] at gj
        split at gj
        · rename_i e; subst e; exact .inr ⟨j, m, pn, false, g, q⟩
        · exact .inr ⟨j, m1, p1, l, gj, q⟩
    have t : Tr (AvO G ρ σ) (AvO G (setE ρ i (.own m pn true)) σ) H H := fun b n _ => ⟨fun z => n (av b z), .inl rfl⟩
    have back : ∀ j m3 p3 l3, gt (setE ρ i (.own m pn true)) j = .own m3 p3 l3 → ∃ m4 p4 l4, gt ρ j = .own m4 p4 l4 := fun j m3 p3 l3 gk => by
      rw [gt_set hl] at gk
      split at gk
      · rename_i e; subst e; exact ⟨_, _, _, g⟩
      · exact ⟨_, _, _, gk⟩
    refine ⟨by rw [setE_len]; exact er.len, fun j d gj => ?_, fun j m1 p1 l gj => ?_, fun j k b m1 p1 l m2 p2 l2 g1 g2 h1 h2 => ?_, er.gin⟩
    · rw [gt_set hl] at gj
      split at gj
      · cases gj
      · obtain ⟨v, hv, r⟩ := er.val j d gj
        exact ⟨v, hv, r.tr t⟩
    · rw [gt_set hl] at gj
      split at gj
      · rename_i e
        subst e
        cases gj
        obtain ⟨a, ha, ng, r, nf⟩ := er.own j m pn false g
        exact ⟨a, ha, ng, r.tr t (.inl rfl), fun z => by cases z⟩
      · obtain ⟨a, ha, ng, r, nf⟩ := er.own j m1 p1 l gj
        exact ⟨a, ha, ng, r.tr t (.inl rfl), nf⟩
    · obtain ⟨_, _, _, q1⟩ := back _ _ _ _ g1
      obtain ⟨_, _, _, q2⟩ := back _ _ _ _ g2
      exact er.dis j k b _ _ _ _ _ _ q1 q2 h1 h2
theorem unlock_cases (ρ : Env) (i : Nat) : (∃ m p, gt ρ i = .own m p true ∧ unlockE ρ (some i) = setE ρ i (.own m p false)) ∨ (unlockE ρ (some i) = ρ ∧ ∀ m p, gt ρ i ≠ .own m p true) := by
  unfold unlockE
  dsimp only
  split
  · rename_i m p g; exact .inl ⟨m, p, g, rfl⟩
  · rename_i h; exact .inr ⟨rfl, fun m p g => h m p g⟩
theorem unlock_ow {lk : Option Nat} {b : Addr} : Ow (unlockE ρ lk) σ b ↔ Ow ρ σ b := by
  cases lk with
  | none => exact Iff.rfl
  | some i =>
    rcases unlock_cases ρ i with ⟨m, p, g, e⟩ | ⟨e, _⟩
    · rw [e]
      have hl := gt_lt g (by intro z; cases z)
      constructor
      · rintro ⟨j, m1, p1, l, gj, q⟩
        rw [gt_set hl] at gj
        split at gj
        · rename_i e; subst e; exact ⟨j, m, p, true, g, q⟩
        · exact ⟨j, m1, p1, l, gj, q⟩
      · rintro ⟨j, m1, p1, l, gj, q⟩
        by_cases e : j = i
        · subst e; exact ⟨j, m, p, false, by rw [gt_set hl, if_pos rfl], q⟩
        · exact ⟨j, m1, p1, l, by rw [gt_set hl, if_neg e]; exact gj, q⟩
    · rw [e]
theorem unlock_av {lk : Option Nat} {b : Addr} : AvO G (unlockE ρ lk) σ b ↔ AvO G ρ σ b := by
  unfold AvO
  rw [unlock_ow]
theorem unlock_step {lk : Option Nat} {ρL ρ2 : Env} {σ2 : St} {H2 : Hp} (h : lockE ρ lk = some ρL) (st : Step ρL σ H ρ2 σ2 H2) : Step ρ σ H (unlockE ρ2 lk) σ2 H2 := by
  cases lk with
  | none => cases h; exact st
  | some i =>
    obtain ⟨m, pn, g, rfl⟩ := lock_inv h
    have hl := gt_lt g (by intro z; cases z)
    have hF : ∀ b, Fre (setE ρ i (.own m pn true)) σ b → Fre ρ σ b := fun b ⟨j, m1, p1, gj, q⟩ => by
      rw [gt_set hl] at gj
      split at gj
      · cases gj
      · exact ⟨j, m1, p1, gj, q⟩
    have hO : ∀ b, Ow (setE ρ i (.own m pn true)) σ b → Ow ρ σ b := fun b ⟨j, m1, p1, l, gj, q⟩ => by
      rw [gt_set hl] at gj
      split at gj
      · rename_i e; subst e; exact ⟨j, m, pn, false, g, q⟩
      · exact ⟨j, m1, p1, l, gj, q⟩
    refine ⟨fun b u hb n => st.keep b u hb fun z => n (hF b z), fun b z => (st.own b (unlock_ow.mp z)).imp (hO b) id, fun b z => ?_, fun j hj => ?_, st.dom, fun j m1 p1 gj => ?_⟩
    · rcases unlock_cases ρ2 i with ⟨m2, p2, g2, e⟩ | ⟨e, _⟩
      · rw [e] at z
        obtain ⟨j, m1, p1, gj, q⟩ := z
        rw [gt_set (gt_lt g2 (by intro z; cases z))] at gj
        split at gj
        · rename_i ej
          subst ej
          obtain ⟨_, _, _, es⟩ := st.lkd j m2 p2 g2
          rw [es] at q
          exact .inl ⟨j, m, pn, g, q⟩
        · exact (st.fre b ⟨j, m1, p1, gj, q⟩).imp (hF b) id
      · rw [e] at z
        exact (st.fre b z).imp (hF b) id
    · have hp : pinned (setE ρ i (.own m pn true)) j = true := by
        unfold pinned at hj ⊢
        rw [gt_set hl]
        by_cases n : j = i
        · subst n
          rw [if_pos rfl]
          rw [g] at hj
          exact hj
        · rw [if_neg n]
          exact hj
      obtain ⟨h1, h2⟩ := st.pin j hp
      refine ⟨?_, h2⟩
      rcases unlock_cases ρ2 i with ⟨m2, p2, g2, e⟩ | ⟨e, _⟩
      · rw [e]
        unfold pinned at h1 ⊢
        rw [gt_set (gt_lt g2 (by intro z; cases z))]
        by_cases n : j = i
        · subst n
          rw [if_pos rfl]
          rw [g2] at h1
          exact h1
        · rw [if_neg n]
          exact h1
      · rw [e]; exact h1
    · have key : gt ρ2 j = .own m1 p1 true ∧ j ≠ i := by
        rcases unlock_cases ρ2 i with ⟨m2, p2, g2, e⟩ | ⟨e, nn⟩
        · rw [e, gt_set (gt_lt g2 (by intro z; cases z))] at gj
          split at gj
          · cases gj
          · rename_i n; exact ⟨gj, n⟩
        · rw [e] at gj
          exact ⟨gj, fun z => by subst z; exact nn _ _ gj⟩
      obtain ⟨m0, p0, g0, e⟩ := st.lkd j m1 p1 key.1
      rw [gt_set hl, if_neg key.2] at g0
      exact ⟨m0, p0, g0, e⟩
theorem er_unlock {lk : Option Nat} {ρL ρ2 : Env} {σ2 : St} {H2 : Hp} {G2 : Addr → Prop} (er : ER K cA G σ H ρ) (h : lockE ρ lk = some ρL) (st : Step ρL σ H ρ2 σ2 H2) (er2 : ER K cA G2 σ2 H2 ρ2) : ER K cA G2 σ2 H2 (unlockE ρ2 lk) := by
  cases lk with
  | none => exact er2
  | some i =>
    obtain ⟨m, pn, g, rfl⟩ := lock_inv h
    have hl := gt_lt g (by intro z; cases z)
    rcases unlock_cases ρ2 i with ⟨m2, p2, g2, e⟩ | ⟨e, _⟩
    · have hl2 := gt_lt g2 (by intro z; cases z)
      have av : ∀ b, AvO G2 (unlockE ρ2 (some i)) σ2 b → AvO G2 ρ2 σ2 b := fun b z => unlock_av.mp z
      have t : Tr (AvO G2 ρ2 σ2) (AvO G2 (unlockE ρ2 (some i)) σ2) H2 H2 := fun b n _ => ⟨fun z => n (av b z), .inl rfl⟩
      rw [e] at t ⊢
      have back : ∀ j m3 p3 l3, gt (setE ρ2 i (.own m2 p2 false)) j = .own m3 p3 l3 → ∃ m4 p4 l4, gt ρ2 j = .own m4 p4 l4 := fun j m3 p3 l3 gk => by
        rw [gt_set hl2] at gk
        split at gk
        · rename_i e; subst e; exact ⟨_, _, _, g2⟩
        · exact ⟨_, _, _, gk⟩
      refine ⟨by rw [setE_len]; exact er2.len, fun j d gj => ?_, fun j m1 p1 l gj => ?_, fun j k b m1 p1 l m2 p2 l2 g1 g2 h1 h2 => ?_, er2.gin⟩
      · rw [gt_set hl2] at gj
        split at gj
        · cases gj
        · obtain ⟨v, hv, r⟩ := er2.val j d gj
          exact ⟨v, hv, r.tr t⟩
      · rw [gt_set hl2] at gj
        split at gj
        · rename_i ej
          subst ej
          cases gj
          obtain ⟨a, ha, ng, r, _⟩ := er2.own j m2 p2 true g2
          refine ⟨a, ha, ng, r.tr t (.inl rfl), fun _ x u z => ?_⟩
          obtain ⟨_, _, _, es⟩ := st.lkd j m2 p2 g2
          rw [es] at ha
          obtain ⟨a0, ha0, _, _, nf⟩ := er.own j m pn false g
          rw [ha] at ha0
          cases ha0
          have hin := er.avin (.inr ⟨j, m, pn, false, g, ha⟩)
          cases q : H a with
          | none => exact hin q
          | some o =>
            have nF : ¬ Fre (setE ρ j (.own m pn true)) σ a := fun ⟨k, m3, p3, gk, qk⟩ => by
              rw [gt_set hl] at gk
              split at gk
              · cases gk
              · rename_i n
                exact n (er.dis k j a _ _ _ _ _ _ gk g qk ha)
            have := st.keep a o q nF
            rw [this] at z
            cases z
            exact nf rfl x u q
        · obtain ⟨a, ha, ng, r, nf⟩ := er2.own j m1 p1 l gj
          exact ⟨a, ha, ng, r.tr t (.inl rfl), nf⟩
      · obtain ⟨_, _, _, q1⟩ := back _ _ _ _ g1
        obtain ⟨_, _, _, q2⟩ := back _ _ _ _ g2
        exact er2.dis j k b _ _ _ _ _ _ q1 q2 h1 h2
    · rw [e]; exact er2
/-- the object of a name of one's own is changed -/
theorem own_upd {i : Nat} {m m' : M} {p : Bool} {a : Addr} {o : HO} (er : ER K cA G σ H ρ) (g : gt ρ i = .own m p false) (ha : σ[i]? = some (some (.ref a))) (nf : ∀ x u, o ≠ .frz x u) (rm : RepM K cA (AvO G ρ σ) (upd H a o) m' a) :
    ER K cA G σ (upd H a o) (setE ρ i (.own m' p false)) ∧ Step ρ σ H (setE ρ i (.own m' p false)) σ (upd H a o) := by
  have hl := gt_lt g (by intro z; cases z)
  have hO : ∀ b, Ow (setE ρ i (.own m' p false)) σ b → Ow ρ σ b := fun b ⟨j, m1, p1, l, gj, q⟩ => by
    rw [gt_set hl] at gj
    split at gj
    · rename_i e; subst e; exact ⟨j, m, p, false, g, q⟩
    · exact ⟨j, m1, p1, l, gj, q⟩
  have hF : ∀ b, Fre (setE ρ i (.own m' p false)) σ b → Fre ρ σ b := fun b ⟨j, m1, p1, gj, q⟩ => by
    rw [gt_set hl] at gj
    split at gj
    · rename_i e; subst e; exact ⟨j, m, p, g, q⟩
    · exact ⟨j, m1, p1, gj, q⟩
  have sub : ∀ b, AvO G (setE ρ i (.own m' p false)) σ b → AvO G ρ σ b := fun b z => z.elim .inl fun z => .inr (hO b z)
  have aOw : Ow ρ σ a := ⟨i, m, p, false, g, ha⟩
  have aF : Fre ρ σ a := ⟨i, m, p, g, ha⟩
  have t : Tr (AvO G ρ σ) (AvO G (setE ρ i (.own m' p false)) σ) H (upd H a o) := fun b n h => ⟨fun z => n (sub b z), .inl (upd_ne fun z => n (by rw [z]; exact .inr aOw))⟩
  have t2 : Tr (AvO G ρ σ) (AvO G (setE ρ i (.own m' p false)) σ) (upd H a o) (upd H a o) := fun b n h => ⟨fun z => n (sub b z), .inl rfl⟩
  refine ⟨⟨by rw [setE_len]; exact er.len, fun j d gj => ?_, fun j m1 p1 l gj => ?_, fun j k b m1 p1 l m2 p2 l2 g1 g2 h1 h2 => ?_, fun b h => upd_in (er.gin b h)⟩, ⟨fun b u h n => ?_, fun b z => .inl (hO b z), fun b z => .inl (hF b z), fun j hj => ⟨?_, rfl⟩, fun b h => upd_in h, fun j m1 p1 h => ?_⟩⟩
  · rw [gt_set hl] at gj
    split at gj
    · cases gj
    · obtain ⟨w, hw, r⟩ := er.val j d gj
      exact ⟨w, hw, r.tr t⟩
  · rw [gt_set hl] at gj
    split at gj
    · rename_i e
      subst e
      cases gj
      obtain ⟨b, hb, ng, _, _⟩ := er.own j m p false g
      rw [ha] at hb
      cases hb
      exact ⟨a, ha, ng, rm.tr t2 (.inl rfl), fun _ x u => by rw [upd_same]; intro z; exact nf x u (Option.some.inj z)⟩
    · rename_i e
      obtain ⟨b, hb, ng, r, f⟩ := er.own j m1 p1 l gj
      have ne : b ≠ a := fun z => by subst z; exact e (er.dis j i b _ _ _ _ _ _ gj g hb ha)
      exact ⟨b, hb, ng, r.tr t (.inl (upd_ne ne)), fun z x u => by rw [upd_ne ne]; exact f z x u⟩
  · have back : ∀ k m3 p3 l3, gt (setE ρ i (.own m' p false)) k = .own m3 p3 l3 → ∃ m4 p4 l4, gt ρ k = .own m4 p4 l4 := fun k m3 p3 l3 gk => by
      rw [gt_set hl] at gk
      split at gk
      · rename_i e; subst e; exact ⟨_, _, _, g⟩
      · exact ⟨_, _, _, gk⟩
    obtain ⟨_, _, _, q1⟩ := back _ _ _ _ g1
    obtain ⟨_, _, _, q2⟩ := back _ _ _ _ g2
    exact er.dis j k b _ _ _ _ _ _ q1 q2 h1 h2
  · rw [upd_ne (fun z => n (by rw [z]; exact aF))]; exact h
  · unfold pinned at *
    rw [gt_set hl]
    by_cases e : j = i
    · subst e; rw [if_pos rfl]; rw [g] at hj; exact hj
    · rw [if_neg e]; exact hj
  · rw [gt_set hl] at h
    split at h
    · cases h
    · exact ⟨m1, p1, h, rfl⟩
/-- what stands elsewhere, behind the change -/
theorem tr_own {i : Nat} {m : M} {p l : Bool} {a : Addr} {o : HO} (g : gt ρ i = .own m p l) (ha : σ[i]? = some (some (.ref a))) : Tr (AvO G ρ σ) (AvO G ρ σ) H (upd H a o) := fun b n h => ⟨n, .inl (upd_ne fun z => n (by rw [z]; exact .inr ⟨i, m, p, l, g, ha⟩))⟩
theorem own_lst {i : Nat} {ds : List D} {p : Bool} (er : ER K cA G σ H ρ) (g : gt ρ i = .own (.lst ds) p false) : ∃ a vs, σ[i]? = some (some (.ref a)) ∧ ds.length ≤ SZ ∧ H a = some (.lst vs) ∧ Reps K cA (AvO G ρ σ) H ds vs := by
  obtain ⟨a, ha, _, ⟨vs, l, r, q⟩, nf⟩ := er.own i _ _ _ g
  rcases r with r | ⟨o, r⟩
  · exact ⟨a, vs, ha, l, r, q⟩
  · exact absurd r (nf rfl _ _)
theorem own_dct {i : Nat} {ds : List (DK × D)} {p : Bool} (er : ER K cA G σ H ρ) (g : gt ρ i = .own (.dct ds) p false) : ∃ a vs, σ[i]? = some (some (.ref a)) ∧ H a = some (.dK vs) ∧ Repk K cA (AvO G ρ σ) H ds vs := by
  obtain ⟨a, ha, _, ⟨vs, r, q⟩, nf⟩ := er.own i _ _ _ g
  rcases r with r | ⟨o, r⟩
  · exact ⟨a, vs, ha, r, q⟩
  · exact absurd r (nf rfl _ _)
/-- a list of one's own gets other items -/
theorem upd_lst {i : Nat} {ds es : List D} {us : List V} {p : Bool} {a : Addr} (er : ER K cA G σ H ρ) (g : gt ρ i = .own (.lst ds) p false) (ha : σ[i]? = some (some (.ref a))) (r : Reps K cA (AvO G ρ σ) H es us) (l : es.length ≤ SZ) :
    ER K cA G σ (upd H a (.lst us)) (setE ρ i (.own (.lst es) p false)) ∧ Step ρ σ H (setE ρ i (.own (.lst es) p false)) σ (upd H a (.lst us)) :=
  own_upd er g ha (fun _ _ z => by cases z) ⟨us, l, .inl upd_same, Reps.tr (tr_own g ha) _ _ r⟩
theorem upd_dct {i : Nat} {ds es : List (DK × D)} {us : List (Key × V)} {p : Bool} {a : Addr} (er : ER K cA G σ H ρ) (g : gt ρ i = .own (.dct ds) p false) (ha : σ[i]? = some (some (.ref a))) (r : Repk K cA (AvO G ρ σ) H es us) :
    ER K cA G σ (upd H a (.dK us)) (setE ρ i (.own (.dct es) p false)) ∧ Step ρ σ H (setE ρ i (.own (.dct es) p false)) σ (upd H a (.dK us)) :=
  own_upd er g ha (fun _ _ z => by cases z) ⟨us, .inl upd_same, Repk.tr (tr_own g ha) _ _ r⟩
theorem step_rep {ρ' : Env} {H' : Hp} {d : D} {v : V} (st : Step ρ σ H ρ' σ H') (r : Rep K cA (AvO G ρ σ) H d v) : Rep K cA (AvO G ρ' σ) H' d v := r.tr st.tr
end
section
variable {X : Cx} {cA : Nat → Addr} {C : Cn}
theorem s_pop {i : Nat} {x : Str} {p apos cpos : Pos} (h : PE X (.Name x p) (tVar i)) (hb : attributeBase (.Name x p) "pop" X.env (eval (.Name x p) X.env) = eval (.Name x p) X.env) (hl : (apos.endLine == cpos.line) = true) : PE X (.Call (.Attribute (.Name x p) "pop" apos) [] [] cpos) (tI X.K cA C (.pop i)) :=
  (pe_bm0 PySem.F.plainAttrs_list PySem.F.slot_list_pop PySem.F.type_list_pop mt_pop h hb hl).imp fun σ H Q ⟨G, ρ, r, ρ', er, e, q⟩ => by
    rw [ev] at e
    split at e <;> first | (cases e; done) | skip
    rename_i ds pin g
    split at e <;> first | (cases e; done) | skip
    rename_i d hd
    cases e
    obtain ⟨a, vs, ha, l, hH, rp⟩ := own_lst er g
    obtain ⟨v, hv, rv⟩ := rp.get hd
    obtain ⟨er2, st2⟩ := upd_lst er g ha rp.dropLast (by rw [List.length_dropLast]; omega)
    exact ⟨_, ha, .inl ⟨rfl, _, SqL.of hH⟩, a, vs, v, rfl, rfl, hH, by rw [rp.length]; exact hv, q v _ ⟨er2, step_rep st2 rv⟩ st2⟩
/-- a method of a built-in type, its receiver by its own reading -/
theorem m_bm {o e : Expr} {es : List Expr} {to : TE} {t : TA} {name : Str} {apos cpos : Pos} {T id : String} {r : V → List V → Hp → VK → Prop} (pa : PlainAttrs T) (slot : Slot T name id) (hty : typeOf (.builtin id) = pure (.type "method_descriptor")) (hm : MtR X id r) (ho : PE X o to) (ha : PA X (e :: es) t)
    (hb : plainBase o = true) (hn : nst (e :: es) = true) (hf : (e :: es).length < 20) (hl : (apos.endLine == cpos.line) = true) : PE X (.Call (.Attribute o name apos) (e :: es) [] cpos) (tBM X.K T r to t) := by
  have h' : (nonStar e && nst es) = true := hn
  rw [Bool.and_eq_true] at h'
  exact pe_bm pa slot hty hm ho ha (base_of hb) (few hn hf) hl (star1 h'.1) (back_any (star_all h'.2))
theorem isL_inv {ρ : Env} {i : Nat} (h : isL ρ i = true) : ∃ ds p l, gt ρ i = .own (.lst ds) p l := by
  unfold isL at h
  split at h
  · rename_i ds p l g; exact ⟨ds, p, l, g⟩
  · cases h
theorem isDc_inv {ρ : Env} {i : Nat} (h : isDc ρ i = true) : ∃ ds p, gt ρ i = .own (.dct ds) p false := by
  unfold isDc at h
  split at h
  · rename_i ds p g; exact ⟨ds, p, g⟩
  · cases h
theorem s_popAt {i : Nat} {x : Str} {ia : IE} {a0 : Expr} {p apos cpos : Pos} (h : PE X (.Name x p) (tVar i)) (ha0 : PE X a0 (tI X.K cA C ia)) (hn : nonStar a0 = true) (hl : (apos.endLine == cpos.line) = true) : PE X (.Call (.Attribute (.Name x p) "pop" apos) [a0] [] cpos) (tI X.K cA C (.popAt i ia)) :=
  (m_bm PySem.F.plainAttrs_list PySem.F.slot_list_pop PySem.F.type_list_pop mt_popAt h (pa_cons ha0 pa_nil (star1 hn)) rfl (by unfold nst; simp [hn]) (by decide : (1 : Nat) < 20) hl).imp fun σ H Q ⟨G, ρ, r, ρ', er, e, q⟩ => by
    rw [ev] at e
    split at e <;> first | (cases e; done) | skip
    rename_i hL
    obtain ⟨ds0, p0, l0, g0⟩ := isL_inv hL
    obtain ⟨a, ha, _, ⟨vs0, _, r0, _⟩, _⟩ := er.own i _ _ _ g0
    obtain ⟨z, ρ1, e1, e⟩ := Out.bind_inv e
    split at e <;> first | (cases e; done) | skip
    rename_i ds pin k g
    split at e <;> first | (cases e; done) | skip
    rename_i j hj
    split at e <;> first | (cases e; done) | skip
    rename_i d hd
    cases e
    refine ⟨_, ha, .inl ⟨rfl, _, .inl r0⟩, G, ρ, _, ρ1, er, e1, fun v H1 rr st => ?_⟩
    obtain ⟨er1, rfl⟩ := rr_int rr
    obtain ⟨a1, vs, ha1, l, hH, rp⟩ := own_lst er1 g
    rw [ha] at ha1
    cases ha1
    obtain ⟨w, hw, rw'⟩ := rp.get hd
    obtain ⟨er2, st2⟩ := upd_lst er1 g ha (rp.erase j) (Nat.le_trans (len_erase _ _) l)
    obtain ⟨q1, q2, q3, q4⟩ := ixN_seq hj
    have hz : ds.length < 2 ^ 63 := Nat.lt_of_le_of_lt l (by decide)
    have hz' : (ds.length : Int) < 2 ^ 63 := by exact_mod_cast hz
    exact ⟨a, vs, k, j, w, rfl, rfl, hH, by omega, by omega, by rw [rp.length]; exact q1, hw, q w _ ⟨er2, step_rep st2 rw'⟩ (st.trans st2)⟩
end
end Ev
end
/-! E2 -/
section
set_option Elab.async false
set_option linter.all false
set_option maxRecDepth 100000
set_option maxHeartbeats 1000000
namespace Ev
open PySem L2
open SX (S)
/-- the arguments behind a call -/
def putM : List Ar → Option M → List Ar
  | [], _ => []
  | .m _ :: r, some m => .m m :: putM r (some m)
  | a :: r, o => a :: putM r o
/-- what a def of one's own promises -/
def spF (K : PySem.W.Frag) (cA : Nat → Addr) (cl : List Ar → Res) : Sp := fun vs H Q _ => ∃ G as r back, ER K cA G (vs.map some) H (as.map arEV) ∧ cl as = .ok r back ∧ rvOk r = true ∧
  ∀ v H', RR K cA G (as.map arEV) (vs.map some) H ((putM as back).map arEV) H' r v → Step (as.map arEV) (vs.map some) H ((putM as back).map arEV) (vs.map some) H' → Q v H'
theorem gt_map {f : Ar → EV} {as : List Ar} {i : Nat} {e : EV} (h : gt (as.map f) i = e) (n : e ≠ .no) : ∃ a, as[i]? = some a ∧ f a = e := by
  simp only [gt_def] at h
  rw [List.getElem?_map] at h
  cases q : as[i]? with
  | none => rw [q] at h; exact absurd h.symm n
  | some a => rw [q] at h; exact ⟨a, rfl, h⟩
theorem map_get {vs : List V} {i : Nat} {v : V} (h : vs[i]? = some v) : (vs.map some)[i]? = some (some v) := by rw [List.getElem?_map, h]; rfl
theorem get_map {vs : List V} {i : Nat} {v : V} (h : (vs.map some)[i]? = some (some v)) : vs[i]? = some v := by
  rw [List.getElem?_map] at h
  cases q : vs[i]? with
  | none => rw [q] at h; cases h
  | some a => rw [q] at h; cases h; rfl
theorem putM_d (ds : List D) (o : Option M) : putM (ds.map .d) o = ds.map .d := by
  induction ds with
  | nil => rfl
  | cons d ds ih =>
    rw [List.map_cons]
    cases o <;> (rw [putM]; rw [ih]) <;> (intros; rename_i z; exact absurd z (by intro q; cases q))
section
variable {K : PySem.W.Frag} {cA : Nat → Addr} {G : Addr → Prop} {ρ : Env} {σ : St} {H : Hp}
/-- values alone -/
theorem er_vals {Av : Addr → Prop} (gin : ∀ a, Av a → H a ≠ none) : ∀ {ds : List D} {vs : List V}, Reps K cA Av H ds vs → ER K cA Av (vs.map some) H ((ds.map Ar.d).map arEV) := by
  intro ds vs h
  have nOw : ∀ b, ¬ Ow ((ds.map Ar.d).map arEV) (vs.map some) b := fun b ⟨i, m, p, l, g, _⟩ => by
    rw [List.map_map] at g
    simp only [gt_def] at g
    rw [List.getElem?_map] at g
    cases q : ds[i]? <;> rw [q] at g <;> cases g
  have av : ∀ b, AvO Av ((ds.map Ar.d).map arEV) (vs.map some) b → Av b := fun b z => z.elim id fun z => absurd z (nOw b)
  refine ⟨by rw [List.length_map, List.length_map, List.length_map, h.length], fun i d g => ?_, fun i m p l g => ?_, fun i j a m p l m' p' l' g => ?_, gin⟩
  · obtain ⟨a, ha, e⟩ := gt_map g (by intro z; cases z)
    rw [List.getElem?_map] at ha
    cases q : ds[i]? with
    | none => rw [q] at ha; cases ha
    | some x =>
      rw [q] at ha
      cases ha
      cases e
      obtain ⟨v, hv, r⟩ := h.get q
      exact ⟨v, map_get hv, r.tr fun b n _ => ⟨fun z => n (av b z), .inl rfl⟩⟩
  · rw [List.map_map] at g
    simp only [gt_def] at g
    rw [List.getElem?_map] at g
    cases q : ds[i]? <;> rw [q] at g <;> cases g
  · rw [List.map_map] at g
    simp only [gt_def] at g
    rw [List.getElem?_map] at g
    cases q : ds[i]? <;> rw [q] at g <;> cases g
theorem nOw_d {ds : List D} {σ' : St} {b : Addr} : ¬ Ow ((ds.map Ar.d).map arEV) σ' b := fun ⟨i, m, p, l, g, _⟩ => by
  rw [List.map_map] at g
  simp only [gt_def] at g
  rw [List.getElem?_map] at g
  cases q : ds[i]? <;> rw [q] at g <;> cases g
/-- behind a call with values alone: all stands as it stood -/
theorem step_vals {ds : List D} {σ0 : St} {H' : Hp} (st : Step ((ds.map Ar.d).map arEV) σ0 H ((ds.map Ar.d).map arEV) σ0 H') : Step ρ σ H ρ σ H' :=
  ⟨fun b o h _ => st.keep b o h fun z => nOw_d z.ow, fun _ h => .inl h, fun _ h => .inl h, fun _ h => ⟨h, rfl⟩, st.dom, fun _ _ _ h => ⟨_, _, h, rfl⟩⟩
theorem er_step {H' : Hp} (er : ER K cA G σ H ρ) (keep : ∀ b o, H b = some o → H' b = some o) : ER K cA G σ H' ρ := by
  have t : Tr (AvO G ρ σ) (AvO G ρ σ) H H' := fun b n h => ⟨n, .inl (by
    cases q : H b with
    | none => exact absurd q h
    | some o => exact keep b o q)⟩
  refine ⟨er.len, fun i d g => ?_, fun i m p l g => ?_, er.dis, fun a h => ?_⟩
  · obtain ⟨v, hv, r⟩ := er.val i d g
    exact ⟨v, hv, r.tr t⟩
  · obtain ⟨a, ha, ng, r, nf⟩ := er.own i m p l g
    have hin := er.avin (.inr ⟨i, m, p, l, g, ha⟩)
    cases q : H a with
    | none => exact absurd q hin
    | some o =>
      have e := keep a o q
      exact ⟨a, ha, ng, r.tr t (.inl (by rw [q]; exact e)), fun z x u => by rw [e, ← q]; exact nf z x u⟩
  · cases q : H a with
    | none => exact absurd q (er.gin a h)
    | some o => exact some_ne (keep a o q)
theorem rr_vals {ds : List D} {σ0 : St} {H' : Hp} {r : RV} {v : V} (er : ER K cA G σ H ρ) (ok : rvOk r = true) (st : Step ((ds.map Ar.d).map arEV) σ0 H ((ds.map Ar.d).map arEV) σ0 H')
    (rr : RR K cA (AvO G ρ σ) ((ds.map Ar.d).map arEV) σ0 H ((ds.map Ar.d).map arEV) H' r v) : RR K cA G ρ σ H ρ H' r v := by
  have keep : ∀ b o, H b = some o → H' b = some o := fun b o h => st.keep b o h fun z => nOw_d z.ow
  have er' : ER K cA G σ H' ρ := er_step er keep
  cases r with
  | p i => cases ok
  | d d =>
    exact ⟨er', rr.2.tr fun b n _ => ⟨fun z => n (.inl z), .inl rfl⟩⟩
  | f m =>
    obtain ⟨p, rfl, e1, rm, nf, na, nw⟩ := rr
    have np : H p = none := nw.elim (fun z => absurd z.ow nOw_d) id
    have hp : H' p ≠ none := e1.gin p (.inr rfl)
    have nAv : ¬ AvO G ρ σ p := fun z => na (.inl z)
    have tp : Tr (AvO G ρ σ) (AvO (plus G p) ρ σ) H H' := fun b n h => by
      refine ⟨fun z => ?_, .inl (by cases q : H b with | none => exact absurd q h | some o => exact keep b o q)⟩
      rcases avO_plus.mp z with z | z
      · exact n z
      · rw [z] at h; exact h np
    refine ⟨p, rfl, ⟨er.len, fun i d g => ?_, fun i m p1 l g => ?_, er.dis, fun a h => ?_⟩, rm.tr (fun b n _ => ⟨fun z => n ?_, .inl rfl⟩) (.inl rfl), nf, nAv, .inr np⟩
    · obtain ⟨w, hw, r⟩ := er.val i d g
      exact ⟨w, hw, r.tr tp⟩
    · obtain ⟨a, ha, ng, r, nfa⟩ := er.own i m p1 l g
      have hin := er.avin (.inr ⟨i, m, p1, l, g, ha⟩)
      have ne : a ≠ p := fun z => hin (by rw [z]; exact np)
      cases q : H a with
      | none => exact absurd q hin
      | some o =>
        have e := keep a o q
        exact ⟨a, ha, fun z => z.elim ng ne, r.tr tp (.inl (by rw [q]; exact e)), fun z x u => by rw [e, ← q]; exact nfa z x u⟩
    · rcases h with h | h
      · cases q : H a with
        | none => exact absurd q (er.gin a h)
        | some o => exact some_ne (keep a o q)
      · rw [h]; exact hp
    · rcases avO_plus.mp z with z | z
      · exact .inl (.inl z)
      · exact .inl (.inr z)
/-! ### one argument that is changed -/
theorem argsAt_inv {m : M} : ∀ {rs : List RV} {j : Nat} {as : List Ar}, argsAt rs j m = some as → ∃ (ds1 ds2 : List D) (k : Nat), rs = ds1.map RV.d ++ RV.p k :: ds2.map RV.d ∧ j = ds1.length ∧ as = ds1.map Ar.d ++ Ar.m m :: ds2.map Ar.d
  | [], _, _, h => by cases h
  | .d x :: r, 0, _, h => by cases h
  | .f x :: r, _, _, h => by cases h
  | .p k :: r, j + 1, _, h => by cases h
  | .p k :: r, 0, _, h => by
    simp only [argsAt] at h
    obtain ⟨ds, h1, rfl⟩ := Option.map_eq_some_iff.mp h
    refine ⟨[], ds, k, ?_, rfl, rfl⟩
    have : ∀ {r : List RV} {ds : List D}, datAll r = some ds → r = ds.map RV.d := by
      intro r
      induction r with
      | nil => intro ds h; cases h; rfl
      | cons x r ih =>
        intro ds h
        cases x <;> simp only [datAll] at h <;> first | (cases h; done) | skip
        obtain ⟨es, h1, rfl⟩ := Option.map_eq_some_iff.mp h
        rw [ih h1]; rfl
    rw [this h1]; rfl
  | .d x :: r, j + 1, _, h => by
    simp only [argsAt] at h
    obtain ⟨as, h1, rfl⟩ := Option.map_eq_some_iff.mp h
    obtain ⟨ds1, ds2, k, rfl, rfl, rfl⟩ := argsAt_inv h1
    exact ⟨x :: ds1, ds2, k, rfl, rfl, rfl⟩
theorem gt_one {ds1 ds2 : List D} {m : M} {i : Nat} : gt ((ds1.map Ar.d ++ Ar.m m :: ds2.map Ar.d).map arEV) i = if i < ds1.length then (match ds1[i]? with | some d => .val d | none => .no) else if i = ds1.length then .own m true false else (match ds2[i - ds1.length - 1]? with | some d => .val d | none => .no) := by
  simp only [gt_def]
  rw [List.getElem?_map]
  by_cases h : i < ds1.length
  · rw [if_pos h, List.getElem?_append_left (by rw [List.length_map]; exact h), List.getElem?_map]
    cases ds1[i]? <;> rfl
  · rw [if_neg h, List.getElem?_append_right (by rw [List.length_map]; omega), List.length_map]
    by_cases e : i = ds1.length
    · rw [if_pos e, e, Nat.sub_self]; rfl
    · rw [if_neg e]
      obtain ⟨n, hn⟩ : ∃ n, i - ds1.length = n + 1 := ⟨i - ds1.length - 1, by omega⟩
      rw [hn, List.getElem?_cons_succ, List.getElem?_map]
      show _ = match ds2[n + 1 - 1]? with | some d => EV.val d | none => EV.no
      rw [Nat.add_sub_cancel]
      cases ds2[n]? <;> rfl
theorem own_one {ds1 ds2 : List D} {m m' : M} {i : Nat} {p l : Bool} (g : gt ((ds1.map Ar.d ++ Ar.m m :: ds2.map Ar.d).map arEV) i = .own m' p l) : i = ds1.length ∧ m' = m ∧ p = true ∧ l = false := by
  rw [gt_one] at g
  split at g
  · split at g <;> cases g
  · split at g
    · rename_i e; cases g; exact ⟨e, rfl, rfl, rfl⟩
    · split at g <;> cases g
theorem putM_one {ds1 ds2 : List D} {m m' : M} : putM (ds1.map Ar.d ++ Ar.m m :: ds2.map Ar.d) (some m') = ds1.map Ar.d ++ Ar.m m' :: ds2.map Ar.d := by
  induction ds1 with
  | nil =>
    show putM (Ar.m m :: ds2.map Ar.d) (some m') = _
    rw [putM, putM_d]; rfl
  | cons d ds ih =>
    rw [List.map_cons, List.cons_append, putM, ih]
    · rfl
    · intros; rename_i z; exact absurd z (by intro q; cases q)
/-- where the arguments stand -/
structure OneAt (K : PySem.W.Frag) (cA : Nat → Addr) (G : Addr → Prop) (ρ : Env) (σ : St) (H : Hp) (ds1 ds2 : List D) (vs1 vs2 : List V) (k : Nat) (m : M) (pin : Bool) (a : Addr) : Prop where
  g : gt ρ k = .own m pin false
  ha : σ[k]? = some (some (.ref a))
  r1 : Reps K cA (AvO G ρ σ) H ds1 vs1
  r2 : Reps K cA (AvO G ρ σ) H ds2 vs2
theorem ow_one {ds1 ds2 : List D} {vs1 vs2 : List V} {m : M} {a b : Addr} (hl : vs1.length = ds1.length) : Ow ((ds1.map Ar.d ++ Ar.m m :: ds2.map Ar.d).map arEV) ((vs1 ++ V.ref a :: vs2).map some) b ↔ b = a := by
  have hj : ((vs1 ++ V.ref a :: vs2).map some)[ds1.length]? = some (some (V.ref a)) := by
    refine map_get ?_
    rw [List.getElem?_append_right (by omega), hl, Nat.sub_self]; rfl
  constructor
  · rintro ⟨i, m', p, l, g, h⟩
    obtain ⟨rfl, _⟩ := own_one g
    rw [hj] at h
    cases h
    rfl
  · rintro rfl
    refine ⟨ds1.length, m, true, false, ?_, hj⟩
    rw [gt_one, if_neg (by omega), if_pos rfl]
theorem fre_one {ds1 ds2 : List D} {vs1 vs2 : List V} {m : M} {a b : Addr} (hl : vs1.length = ds1.length) (h : Fre ((ds1.map Ar.d ++ Ar.m m :: ds2.map Ar.d).map arEV) ((vs1 ++ V.ref a :: vs2).map some) b) : b = a := (ow_one hl).mp h.ow
def Gone (G : Addr → Prop) (ρ : Env) (σ : St) (a : Addr) : Addr → Prop := fun b => AvO G ρ σ b ∧ b ≠ a
theorem av_one {ds1 ds2 : List D} {vs1 vs2 : List V} {m : M} {a b : Addr} (hl : vs1.length = ds1.length) (ha : AvO G ρ σ a) : AvO (Gone G ρ σ a) ((ds1.map Ar.d ++ Ar.m m :: ds2.map Ar.d).map arEV) ((vs1 ++ V.ref a :: vs2).map some) b ↔ AvO G ρ σ b := by
  constructor
  · rintro (z | z)
    · exact z.1
    · rw [(ow_one hl).mp z]; exact ha
  · intro z
    by_cases e : b = a
    · exact .inr ((ow_one hl).mpr e)
    · exact .inl ⟨z, e⟩
theorem er_one {ds1 ds2 : List D} {vs1 vs2 : List V} {k : Nat} {m : M} {pin : Bool} {a : Addr} (er : ER K cA G σ H ρ) (o : OneAt K cA G ρ σ H ds1 ds2 vs1 vs2 k m pin a) :
    ER K cA (Gone G ρ σ a) ((vs1 ++ V.ref a :: vs2).map some) H ((ds1.map Ar.d ++ Ar.m m :: ds2.map Ar.d).map arEV) := by
  have hl := o.r1.length
  have hl2 := o.r2.length
  have aAv : AvO G ρ σ a := .inr ⟨k, m, pin, false, o.g, o.ha⟩
  have t : Tr (AvO G ρ σ) (AvO (Gone G ρ σ a) ((ds1.map Ar.d ++ Ar.m m :: ds2.map Ar.d).map arEV) ((vs1 ++ V.ref a :: vs2).map some)) H H := fun b n _ => ⟨fun z => n ((av_one hl aAv).mp z), .inl rfl⟩
  obtain ⟨a', ha', ng, rm, nf⟩ := er.own k m pin false o.g
  rw [o.ha] at ha'
  cases ha'
  refine ⟨by simp [hl, hl2], fun i d g => ?_, fun i m' p l g => ?_, fun i j b m1 p1 l1 m2 p2 l2 g1 g2 _ _ => ?_, fun b z => er.avin z.1⟩
  · rw [gt_one] at g
    split at g
    · rename_i h
      split at g <;> cases g
      rename_i d hd
      obtain ⟨v, hv, r⟩ := o.r1.get hd
      exact ⟨v, map_get (by rw [List.getElem?_append_left (by omega)]; exact hv), r.tr t⟩
    · split at g
      · cases g
      · rename_i h1 h2
        split at g <;> cases g
        rename_i d hd
        obtain ⟨v, hv, r⟩ := o.r2.get hd
        refine ⟨v, map_get ?_, r.tr t⟩
        rw [List.getElem?_append_right (by omega), hl]
        obtain ⟨n, hn⟩ : ∃ n, i - ds1.length = n + 1 := ⟨i - ds1.length - 1, by omega⟩
        rw [hn, List.getElem?_cons_succ]
        rw [hn, Nat.add_sub_cancel] at hv
        exact hv
  · obtain ⟨rfl, rfl, rfl, rfl⟩ := own_one g
    refine ⟨a, map_get ?_, fun z => z.2 rfl, rm.tr t (.inl rfl), nf⟩
    rw [List.getElem?_append_right (by omega), hl, Nat.sub_self]; rfl
  · obtain ⟨rfl, _⟩ := own_one g1
    obtain ⟨rfl, _⟩ := own_one g2
    rfl
theorem av_set {k : Nat} {m m' : M} {pin : Bool} (g : gt ρ k = .own m pin false) {b : Addr} : AvO G (setE ρ k (.own m' pin false)) σ b ↔ AvO G ρ σ b := by
  have hl := gt_lt g (by intro z; cases z)
  constructor
  · rintro (z | ⟨j, m1, p1, l, gj, q⟩)
    · exact .inl z
    · rw [gt_set hl] at gj
      split at gj
      · rename_i e; subst e; exact .inr ⟨j, m, pin, false, g, q⟩
      · exact .inr ⟨j, m1, p1, l, gj, q⟩
  · rintro (z | ⟨j, m1, p1, l, gj, q⟩)
    · exact .inl z
    · by_cases e : j = k
      · subst e
        exact .inr ⟨j, m', pin, false, by rw [gt_set hl, if_pos rfl], q⟩
      · exact .inr ⟨j, m1, p1, l, by rw [gt_set hl, if_neg e]; exact gj, q⟩
theorem back_one {ds1 ds2 : List D} {vs1 vs2 : List V} {k : Nat} {m m' : M} {pin : Bool} {a : Addr} {H' : Hp} {G' : Addr → Prop} (er : ER K cA G σ H ρ) (o : OneAt K cA G ρ σ H ds1 ds2 vs1 vs2 k m pin a)
    (hG : ∀ b, G' b → (G b ∨ H b = none)) (hG2 : ∀ b, G b → G' b) (hG3 : ∀ b, G' b → H' b ≠ none)
    (st : Step ((ds1.map Ar.d ++ Ar.m m :: ds2.map Ar.d).map arEV) ((vs1 ++ V.ref a :: vs2).map some) H ((ds1.map Ar.d ++ Ar.m m' :: ds2.map Ar.d).map arEV) ((vs1 ++ V.ref a :: vs2).map some) H')
    (er' : ER K cA (fun b => Gone G ρ σ a b ∨ G' b) ((vs1 ++ V.ref a :: vs2).map some) H' ((ds1.map Ar.d ++ Ar.m m' :: ds2.map Ar.d).map arEV)) : ER K cA G' σ H' (setE ρ k (.own m' pin false)) := by
  have hl := o.r1.length
  have hk := gt_lt o.g (by intro z; cases z)
  have aAv : AvO G ρ σ a := .inr ⟨k, m, pin, false, o.g, o.ha⟩
  have nG' : ∀ b, H b ≠ none → ¬ AvO G ρ σ b → ¬ AvO G' (setE ρ k (.own m' pin false)) σ b := fun b hb n z => by
    rcases z with z | z
    · rcases hG b z with z | z
      · exact n (.inl z)
      · exact hb z
    · exact n ((av_set (m' := m') o.g).mp (.inr z))
  have keep : ∀ b u, b ≠ a → H b = some u → H' b = some u := fun b u n h => st.keep b u h fun z => n (fre_one hl z)
  have ag : ∀ b, b ≠ a → H b ≠ none → Ag H H' b := fun b n h => .inl (by
    cases q : H b with
    | none => exact absurd q h
    | some u => exact keep b u n q)
  have t : Tr (AvO G ρ σ) (AvO G' (setE ρ k (.own m' pin false)) σ) H H' := fun b n h => ⟨nG' b h n, ag b (fun z => n (by rw [z]; exact aAv)) h⟩
  refine ⟨by rw [setE_len]; exact er.len, fun i d g => ?_, fun i m1 p1 l g => ?_, fun i j b m1 p1 l m2 p2 l2 g1 g2 h1 h2 => ?_, hG3⟩
  · rw [gt_set hk] at g
    split at g
    · cases g
    · obtain ⟨w, hw, r⟩ := er.val i d g
      exact ⟨w, hw, r.tr t⟩
  · rw [gt_set hk] at g
    split at g
    · rename_i e
      subst e
      cases g
      obtain ⟨b, hb, ng, rm, nf⟩ := er'.own ds1.length m' true false (by rw [gt_one, if_neg (by omega), if_pos rfl])
      have hb' := get_map hb
      rw [List.getElem?_append_right (by omega), hl, Nat.sub_self] at hb'
      cases hb'
      refine ⟨a, o.ha, fun z => ng (.inr z), rm.tr (fun b n _ => ⟨fun z => n ?_, .inl rfl⟩) (.inl rfl), nf⟩
      rcases z with z | z
      · exact .inl (.inr z)
      · have := (av_set (G := G) (m' := m') o.g).mp (.inr z)
        by_cases e : b = a
        · exact .inr ((ow_one hl).mpr e)
        · exact .inl (.inl ⟨this, e⟩)
    · rename_i e
      obtain ⟨b, hb, ng, r, nf⟩ := er.own i m1 p1 l g
      have hin := er.avin (.inr ⟨i, m1, p1, l, g, hb⟩)
      have ne : b ≠ a := fun z => by subst z; exact e (er.dis i k b _ _ _ _ _ _ g o.g hb o.ha)
      refine ⟨b, hb, fun z => ?_, r.tr t (ag b ne hin), fun z x u q => ?_⟩
      · rcases hG b z with z | z
        · exact ng z
        · exact hin z
      · cases qq : H b with
        | none => exact hin qq
        | some w =>
          have := keep b w ne qq
          rw [this] at q
          cases q
          exact nf z x u qq
  · have back : ∀ i m3 p3 l3, gt (setE ρ k (.own m' pin false)) i = .own m3 p3 l3 → ∃ m4 p4 l4, gt ρ i = .own m4 p4 l4 := fun i m3 p3 l3 gk => by
      rw [gt_set hk] at gk
      split at gk
      · rename_i e; subst e; exact ⟨_, _, _, o.g⟩
      · exact ⟨_, _, _, gk⟩
    obtain ⟨_, _, _, q1⟩ := back _ _ _ _ g1
    obtain ⟨_, _, _, q2⟩ := back _ _ _ _ g2
    exact er.dis i j b _ _ _ _ _ _ q1 q2 h1 h2
end
section
variable {K : PySem.W.Frag} {cA : Nat → Addr} {G : Addr → Prop} {ρ : Env} {σ : St} {H : Hp}
theorem datAll_map : ∀ {rs : List RV} {ds : List D}, datAll rs = some ds → rs = ds.map RV.d
  | [], _, h => by cases h; rfl
  | .d x :: r, _, h => by
    simp only [datAll] at h
    obtain ⟨es, h1, rfl⟩ := Option.map_eq_some_iff.mp h
    rw [datAll_map h1]; rfl
  | .f _ :: _, _, h => by cases h
  | .p _ :: _, _, h => by cases h
theorem rhs_split : ∀ {ds1 : List D} {rs : List RV} {vs : List V}, RHs K cA G σ ρ H (ds1.map RV.d ++ rs) vs → ∃ vs1 vs2, vs = vs1 ++ vs2 ∧ Reps K cA (AvO G ρ σ) H ds1 vs1 ∧ RHs K cA G σ ρ H rs vs2
  | [], _, vs, h => ⟨[], vs, rfl, Reps.nil, h⟩
  | d :: ds, _, _, ⟨v, q, e, a, b⟩ => by
    obtain ⟨vs1, vs2, rfl, r1, r2⟩ := rhs_split b
    exact ⟨v :: vs1, vs2, e, Reps.cons a r1, r2⟩
theorem rhs_d {ds : List D} {vs : List V} (h : RHs K cA G σ ρ H (ds.map RV.d) vs) : Reps K cA (AvO G ρ σ) H ds vs := by
  obtain ⟨vs1, vs2, rfl, r1, r2⟩ := rhs_split (rs := []) (by rw [List.append_nil]; exact h)
  rw [show vs2 = [] from r2, List.append_nil]
  exact r1
/-- the end of a call by which one's own object is changed -/
theorem rr_one {ds1 ds2 : List D} {vs1 vs2 : List V} {k : Nat} {m m' : M} {pin : Bool} {a : Addr} {H' : Hp} {r : RV} {v : V} (er : ER K cA G σ H ρ) (o : OneAt K cA G ρ σ H ds1 ds2 vs1 vs2 k m pin a) (ok : rvOk r = true)
    (rr : RR K cA (Gone G ρ σ a) ((ds1.map Ar.d ++ Ar.m m :: ds2.map Ar.d).map arEV) ((vs1 ++ V.ref a :: vs2).map some) H ((ds1.map Ar.d ++ Ar.m m' :: ds2.map Ar.d).map arEV) H' r v)
    (st : Step ((ds1.map Ar.d ++ Ar.m m :: ds2.map Ar.d).map arEV) ((vs1 ++ V.ref a :: vs2).map some) H ((ds1.map Ar.d ++ Ar.m m' :: ds2.map Ar.d).map arEV) ((vs1 ++ V.ref a :: vs2).map some) H') :
    RR K cA G ρ σ H (setE ρ k (.own m' pin false)) H' r v ∧ Step ρ σ H (setE ρ k (.own m' pin false)) σ H' := by
  have hl := o.r1.length
  have hk := gt_lt o.g (by intro z; cases z)
  have aAv : AvO G ρ σ a := .inr ⟨k, m, pin, false, o.g, o.ha⟩
  have aF : Fre ρ σ a := ⟨k, m, pin, o.g, o.ha⟩
  have sub : ∀ b, AvO G (setE ρ k (.own m' pin false)) σ b → AvO (Gone G ρ σ a) ((ds1.map Ar.d ++ Ar.m m' :: ds2.map Ar.d).map arEV) ((vs1 ++ V.ref a :: vs2).map some) b := fun b z => by
    have z' := (av_set o.g).mp z
    by_cases e : b = a
    · exact .inr ((ow_one hl).mpr e)
    · exact .inl ⟨z', e⟩
  have stp : Step ρ σ H (setE ρ k (.own m' pin false)) σ H' := by
    refine ⟨fun b u h n => st.keep b u h fun z => n (by rw [fre_one hl z]; exact aF), fun b z => ?_, fun b ⟨j, m1, p1, gj, q⟩ => ?_, fun j hj => ⟨?_, rfl⟩, st.dom, fun j m1 p1 h => ?_⟩
    · rcases (av_set (G := fun _ => False) o.g).mp (.inr z) with z | z
      · exact z.elim
      · exact .inl z
    · rw [gt_set hk] at gj
      split at gj
      · rename_i e; subst e; exact .inl ⟨j, m, pin, o.g, q⟩
      · exact .inl ⟨j, m1, p1, gj, q⟩
    · unfold pinned at *
      rw [gt_set hk]
      by_cases e : j = k
      · subst e; rw [if_pos rfl]; rw [o.g] at hj; exact hj
      · rw [if_neg e]; exact hj
    · rw [gt_set hk] at h
      split at h
      · cases h
      · exact ⟨m1, p1, h, rfl⟩
  refine ⟨?_, stp⟩
  cases r with
  | p i => cases ok
  | d d =>
    obtain ⟨e1, rp⟩ := rr
    refine ⟨back_one er o (fun b z => .inl z) (fun b z => z) (fun b z => st.dom b (er.gin b z)) st ?_, rp.tr fun b n _ => ⟨fun z => n (sub b z), .inl rfl⟩⟩
    refine ⟨e1.len, fun i d g => ?_, fun i m1 p1 l g => ?_, e1.dis, fun b z => ?_⟩
    · obtain ⟨w, hw, r⟩ := e1.val i d g
      refine ⟨w, hw, r.tr fun b n h => ⟨fun z => n ?_, .inl rfl⟩⟩
      rcases z with (z | z) | z
      · exact .inl z
      · by_cases e : b = a
        · exact .inr ((ow_one hl).mpr e)
        · exact .inl ⟨.inl z, e⟩
      · exact .inr z
    · obtain ⟨b, hb, ng, rm, nf⟩ := e1.own i m1 p1 l g
      obtain ⟨rfl, _⟩ := own_one g
      have hb' := get_map hb
      rw [List.getElem?_append_right (by omega), hl, Nat.sub_self] at hb'
      cases hb'
      obtain ⟨a2, ha2, ng2, _⟩ := er.own k m pin false o.g
      rw [o.ha] at ha2
      cases ha2
      refine ⟨a, hb, fun z => z.elim ng ng2, rm.tr (fun b n h => ⟨fun z => n ?_, .inl rfl⟩) (.inl rfl), nf⟩
      rcases z with (z | z) | z
      · exact .inl z
      · by_cases e : b = a
        · exact .inr ((ow_one hl).mpr e)
        · exact .inl ⟨.inl z, e⟩
      · exact .inr z
    · rcases z with z | z
      · exact e1.gin b z
      · exact st.dom b (er.gin b z)
  | f mm =>
    obtain ⟨p, rfl, e1, rm, nf, na, nw⟩ := rr
    have np : H p = none := by
      rcases nw with z | z
      · exact absurd (.inr ((ow_one hl).mpr (fre_one hl z))) na
      · exact z
    have hp : H' p ≠ none := e1.gin p (.inr rfl)
    have nAv : ¬ AvO G (setE ρ k (.own m' pin false)) σ p := fun z => er.avin ((av_set o.g).mp z) np
    refine ⟨p, rfl, back_one er o (fun b z => ?_) (fun b z => .inl z) (fun b z => ?_) st ?_, rm.tr (fun b n _ => ⟨fun z => n ?_, .inl rfl⟩) (.inl rfl), nf, nAv, .inr np⟩
    · rcases z with z | z
      · exact .inl z
      · rw [z]; exact .inr np
    · rcases z with z | z
      · exact st.dom b (er.gin b z)
      · rw [z]; exact hp
    · refine ⟨e1.len, fun i d g => ?_, fun i m1 p1 l g => ?_, e1.dis, fun b z => ?_⟩
      · obtain ⟨w, hw, r⟩ := e1.val i d g
        refine ⟨w, hw, r.tr fun b n h => ⟨fun z => n ?_, .inl rfl⟩⟩
        rcases z with (z | z | z) | z
        · exact .inl (.inl z)
        · by_cases e : b = a
          · exact .inr ((ow_one hl).mpr e)
          · exact .inl (.inl ⟨.inl z, e⟩)
        · exact .inl (.inr z)
        · exact .inr z
      · obtain ⟨b, hb, ng, rm, nf⟩ := e1.own i m1 p1 l g
        obtain ⟨rfl, _⟩ := own_one g
        have hb' := get_map hb
        rw [List.getElem?_append_right (by omega), hl, Nat.sub_self] at hb'
        cases hb'
        obtain ⟨a2, ha2, ng2, _⟩ := er.own k m pin false o.g
        rw [o.ha] at ha2
        cases ha2
        refine ⟨a, hb, fun z => ?_, rm.tr (fun b n h => ⟨fun z => n ?_, .inl rfl⟩) (.inl rfl), nf⟩
        · rcases z with z | z | z
          · exact ng (.inl z)
          · exact ng2 z
          · exact ng (.inr z)
        · rcases z with (z | z | z) | z
          · exact .inl (.inl z)
          · by_cases e : b = a
            · exact .inr ((ow_one hl).mpr e)
            · exact .inl (.inl ⟨.inl z, e⟩)
          · exact .inl (.inr z)
          · exact .inr z
      · rcases z with z | z | z
        · exact e1.gin b (.inl z)
        · exact st.dom b (er.gin b z)
        · exact e1.gin b (.inr z)
    · rcases avO_plus.mp z with z | z
      · rcases sub b z with z | z
        · exact .inl (.inl z)
        · exact .inr z
      · exact .inl (.inr z)
end
section
variable {X : Cx} {cA : Nat → Addr} {C : Cn}
/-- what is asked ahead of a call -/
theorem sp_call {f : Nat} {rf : Option Nat} {es : List IE} {σ : St} {H : Hp} {Q : VK} {E : XK} {K : PySem.W.Frag} (h : tI K cA C (.call f rf es) σ H Q) : tR K cA C es σ H fun vs H1 => spF K cA (C.call f) vs H1 Q E := by
  obtain ⟨G, ρ, r, ρ', er, e, q⟩ := h
  cases rf with
  | none =>
    rw [ev] at e
    obtain ⟨rs, ρ1, e1, e⟩ := Out.bind_inv e
    refine ⟨G, ρ, rs, ρ1, er, e1, fun vs H1 er1 rh st => ?_⟩
    split at e <;> first | (cases e; done) | skip
    rename_i ds hd
    split at e <;> first | (cases e; done) | skip
    rename_i r0 hc
    split at e <;> first | (cases e; done) | skip
    rename_i ok
    cases e
    rw [datAll_map hd] at rh
    refine ⟨AvO G _ σ, ds.map .d, r, none, er_vals (fun a z => er1.avin z) (rhs_d rh), hc, ok, fun v H' rr st2 => ?_⟩
    rw [putM_d] at rr st2
    exact q v H' (rr_back st (rr_vals er1 ok st2 rr)) (st.trans (step_vals st2))
  | some j =>
    rw [ev] at e
    obtain ⟨rs, ρ1, e1, e⟩ := Out.bind_inv e
    refine ⟨G, ρ, rs, ρ1, er, e1, fun vs H1 er1 rh st => ?_⟩
    split at e <;> first | (cases e; done) | skip
    rename_i k hk
    split at e <;> first | (cases e; done) | skip
    rename_i m pin g
    split at e <;> first | (cases e; done) | skip
    rename_i as ha
    split at e <;> first | (cases e; done) | skip
    rename_i r0 m' hc
    split at e <;> first | (cases e; done) | skip
    rename_i ok
    cases e
    obtain ⟨ds1, ds2, k', rfl, rfl, rfl⟩ := argsAt_inv ha
    have hk' : k' = k := by
      rw [List.getElem?_append_right (by rw [List.length_map]; exact Nat.le_refl _), List.length_map, Nat.sub_self] at hk
      cases hk; rfl
    subst hk'
    obtain ⟨vs1, vs2, rfl, r1, r2⟩ := rhs_split rh
    obtain ⟨v, vs3, rfl, r3, r4⟩ := r2
    obtain ⟨a, hva, ng, rm, nf⟩ := er1.own k' m pin false g
    have r3' : σ[k']? = some (some v) := r3
    rw [hva] at r3'
    cases r3'
    have o : OneAt K cA G ρ1 σ H1 ds1 ds2 vs1 vs3 k' m pin a := ⟨g, hva, r1, rhs_d r4⟩
    refine ⟨Gone G ρ1 σ a, ds1.map .d ++ .m m :: ds2.map .d, r, some m', er_one er1 o, hc, ok, fun v H' rr st2 => ?_⟩
    rw [putM_one] at rr st2
    obtain ⟨rr', st'⟩ := rr_one er1 o ok rr st2
    exact q v H' (rr_back st rr') (st.trans st')
end
end Ev
end
/-! En -/
section
set_option Elab.async false
set_option linter.all false
set_option maxRecDepth 100000
set_option maxHeartbeats 2000000
/-! enumerate of a tuple; of a list or a tuple. -/
namespace En
open PySem PySem.Spec PyProof.Rows L2
theorem new_meets (l : Addr) (items : Array Value) (ol : Obj) (n : Nat) (hc : ol.cls = .type "tuple") (hd : ol.data = .seq items n) :
    Meets (Builtin.«enumerate.__new__» ⟨[.type "enumerate", .ref l], []⟩) (fun _ R s => s.heap.get? l = some ol ∧
      R (.ok (.ret (.ref (s.heap.push { cls := .type "tuple_iterator", data := .fields #[.ref l, .int 0 0] }).objs.size)))
        { s with heap := (s.heap.push { cls := .type "tuple_iterator", data := .fields #[.ref l, .int 0 0] }).push { cls := .type "enumerate", data := .fields #[.none, .bool false, .ref s.heap.objs.size, rawInt 0, .none, .none] } }) :=
  .of_wp fun prog w A R s h => by
    obtain ⟨hp, g, d, tk, os⟩ := s
    obtain ⟨gl, r⟩ := h
    have hsub := sub_enumerate
    have hT : Heap.IsTuple (Shared.heap ⟨hp, g, d, tk, os⟩) l items := ⟨_, gl, hc, n, hd⟩
    obtain ⟨oc, od, oda, osl⟩ := ol
    dsimp only at hc hd
    subst hc hd
    wp_walk using AutoSeq1.wpAny_loadPart' gl
    refine wpAny_stack_any fun st => wpAny_pure ?_
    split
    · rename_i c _ _ _ _ _
      cases (c == Value.type "enumerate") <;> · wp_walk using AutoSeq1.wpAny_loadPart' gl, wpAny_pyIter_tuple hT
                                                exact ⟨_, rfl, r⟩
    · wp_walk using AutoSeq1.wpAny_loadPart' gl, wpAny_pyIter_tuple hT
      exact ⟨_, rfl, r⟩
section
variable {prog : Program} {w : World} {A : Around} {E : Value → Shared → Prop} {s : Shared}
theorem call_enum {l : Addr} {items : Array Value} {Q : Value → Shared → Prop} (hT : s.heap.IsTuple l items)
    (q : ∀ g, IsEnum g (s.heap.objs.size + 1) s.heap.objs.size 0 .none → g.IsTupleIter s.heap.objs.size l 0 → (∀ b o, s.heap.get? b = some o → g.get? b = some o) → Q (.ref (s.heap.objs.size + 1)) { s with heap := g }) :
    wpAny (model prog w) A (call (.type "enumerate") [.ref l]) Q E s := by
  obtain ⟨ol, gl, hc, n, hd⟩ := id hT
  refine callType_new F.called_enumerate (by decide) (F.typeCall_enumerate_1 _) (F.newCall_enumerate_1 _) (fun ob => F.args_object_init_2 ob _) F.entry_enumerate_new (new_meets l items ol n hc hd) ⟨gl, ?_⟩
  have z1 : (s.heap.push { cls := .type "tuple_iterator", data := .fields #[.ref l, .int 0 0] }).objs.size = s.heap.objs.size + 1 := Heap.size_push ..
  have e1 : ((s.heap.push { cls := .type "tuple_iterator", data := .fields #[.ref l, .int 0 0] }).push { cls := .type "enumerate", data := .fields #[.none, .bool false, .ref s.heap.objs.size, rawInt 0, .none, .none] }).get? (s.heap.push { cls := .type "tuple_iterator", data := .fields #[.ref l, .int 0 0] }).objs.size = some { cls := .type "enumerate", data := .fields #[.none, .bool false, .ref s.heap.objs.size, rawInt 0, .none, .none] } := Heap.get?_push_size _ rfl
  rw [z1] at e1
  show _ ∧ _
  rw [z1]
  exact ⟨⟨_, e1, rfl⟩, q _ e1 ⟨_, Heap.get?_push_of_some _ (Heap.get?_push_size _ rfl), rfl, rfl⟩ fun b o e => Heap.get?_push_of_some _ (Heap.get?_push_of_some _ e)⟩
end
section
variable {prog : Program} {w : World} {A : Around} {E : Value → Shared → Prop} {s : Shared}
theorem next_end {e it l : Addr} {k : Nat} {i : Int} {items : Array Value} {old : Value} {Q : Option Value → Shared → Prop} (hA : A.in1.handled = none) (g1 : IsEnum s.heap e it i old) (g2 : s.heap.IsTupleIter it l k) (g3 : s.heap.IsTuple l items) (ex : items[k]? = none)
    (q : ∀ g, Heap.ExtBut it s.heap g → Q none { s with heap := g }) : wpAny (model prog w) A (pyNext (.ref e)) Q E s := by
  have ty : s.TypeIs (.ref e) "enumerate" := ⟨_, g1, rfl⟩
  unfold pyNext
  refine wpAny_bind (wpAny_attempt (wpAny_callSpecial?_slot (name := Str.ofString "__next__") ty F.slot_enumerate_next (wpAny_call_entry F.slot_enumerate_next ty F.entry_enumerate_next ?_ (F.args_enumerate_next_1 _))))
  show wpAny _ _ (field (.ref e) 2 >>= _) _ _ _
  refine wpAny_bind (wpAny_field g1 rfl (x := .ref it) rfl ?_)
  refine wpAny_bind (RZ.nextOf_tuple_end hA g2 g3 ex fun g v eb hv => ?_)
  obtain ⟨o, ho, hc⟩ := hv
  exact wpAny_bind (wpAny_isInstance (T := "StopIteration") (b := true) ⟨o, ho, hc⟩ isSubtype_stop (wpAny_pure (q g eb)))
end
/-- the tuple at a, each item in a new pair with its place -/
def Itt (K : PySem.W.Frag) (a : Addr) : L2.It :=
  ⟨fun i H => ∃ (xs : List V) (x : V), SqT K H a xs ∧ xs[i]? = some x, fun i H v H' => ∃ T x, v = .ref T ∧ H T = none ∧ H' = upd H T (.tup [.int (i : Nat), x]) ∧ ∀ xs, SqT K H a xs → xs[i]? = some x, fun i H => ∃ xs : List V, SqT K H a xs ∧ xs.length ≤ i⟩
theorem turn {P : Program} {w : World} {K : PySem.W.Frag} {elts : List Expr} {kk : Nat} {tpos : Pos} (a e it : Addr) :
    L2.Turn P w K (.Tuple elts kk tpos) (Itt K a) [e, it] e (fun i h => (∃ old, IsEnum h e it ((i : Nat) : Int) old) ∧ h.IsTupleIter it a i ∧ e ≠ it ∧ a ≠ it ∧ a ≠ e) where
  mem := by simp
  obj := fun i h st b hb => by
    obtain ⟨⟨old, g1⟩, ⟨o, g2, _, g3⟩, _⟩ := st
    have : b = e ∨ b = it := by simpa using hb
    rcases this with z | z
    · rw [z]; exact ⟨_, g1, fun v q => nomatch q⟩
    · rw [z]; exact ⟨o, g2, fun v q => by rw [g3] at q; cases q⟩
  keep := fun i h g st k => by
    obtain ⟨⟨old, g1⟩, g2, n⟩ := st
    exact ⟨⟨old, k e (by simp) _ g1⟩, g2.at fun o q => k it (by simp) o q, n⟩
  item := by
    intro X hP hw hK hc i pins s σ H E I hf st hg
    subst hP hw hK
    obtain ⟨⟨old, g1⟩, g2, ne, na, nae⟩ := st
    obtain ⟨xs, x, hq, hx⟩ := hg
    obtain ⟨its, rv, p, hz⟩ := I.tuple hq
    obtain ⟨u, hu, ru⟩ := rv.get hx
    have hit : i < its.toArray.size := by
      have := (List.getElem?_eq_some_iff.mp hu).1
      simpa using this
    have el : e < s.heap.objs.size := Heap.lt_size g1
    have il : it < s.heap.objs.size := by obtain ⟨_, q, _⟩ := g2; exact Heap.lt_size q
    refine wpAny_pyNext_enum_itemD (Draws.tuple (show X.A.in1.handled = none from I.ok.hd hc) it a na its.toArray) g1 ⟨g2, p⟩ hit ne (by simp [ne, nae.symm]) fun y g tk hy b1 b2 b3 b4 b5 => ?_
    have ey : y = u := by
      have hy : its.toArray[i]? = some y := hy
      have : its[i]? = some y := by simpa using hy
      rw [hu] at this
      exact (Option.some.inj this).symm
    subst ey
    refine ⟨_, rfl, wpAny_letOwnedTupleGo_enum (s := { s with heap := g, toks := tk + 1 }) b1 fun g' b1' sb => ?_⟩
    have kp : ∀ b ob, b ∉ [e, it] → s.heap.get? b = some ob → g'.get? b = some ob := fun b ob nb q => (sb.2 b (fun z => nb (by simp [z]))).trans (b5 b ob (fun z => nb (by simp [z])) (fun z => nb (by simp [z])) q)
    have hT2 : g'.get? s.heap.objs.size = some { cls := .type "tuple", data := .seq #[.int i tk, y] } := (sb.2 _ (Nat.ne_of_gt el)).trans b3
    have new : ObjOk X.prog X.w (upd H s.heap.objs.size (.tup [.int (i : Nat), x])) g' s.heap.objs.size (.tup [.int (i : Nat), x]) :=
      ⟨by show 2 ≤ sizeLine; decide, [.int i tk, y], .cons ⟨_, rfl⟩ (.cons ru .nil), ⟨_, hT2, rfl, _, rfl⟩⟩
    have I1 : Inv X pins σ (upd H s.heap.objs.size (.tup [.int (i : Nat), x])) { s with heap := g', toks := tk + 1 } := I.turnedNew (ch := [e, it]) kp hf (Nat.le_refl _) new
    refine ⟨.ref s.heap.objs.size, _, I1, rfl, ⟨_, x, rfl, I.hok.fresh (Nat.le_refl _), rfl, fun ys hy => by rw [I.tuple_inj hy hq]; exact hx⟩, ⟨⟨y, ?_⟩, b2.1.at fun o q => (sb.2 it (Ne.symm ne)).trans q, ne, na, nae⟩, fun b hb => ?_⟩
    · rw [show ((i + 1 : Nat) : Int) = (i : Int) + 1 by omega]
      exact b1'
    · have lb : b < s.heap.objs.size := by
        have : b = e ∨ b = it := by simpa using hb
        rcases this with z | z
        · exact z ▸ el
        · exact z ▸ il
      rw [upd_ne (Nat.ne_of_lt lb)]
      exact (hf b hb).1
  done := by
    intro X hP hw hK hc i pins s σ H E I hf st hg
    subst hP hw hK
    obtain ⟨⟨old, g1⟩, g2, ne, na, nae⟩ := st
    obtain ⟨xs, hq, hx⟩ := hg
    obtain ⟨its, rv, p, hz⟩ := I.tuple hq
    obtain ⟨f0, f1, f2, f3, f4, f5⟩ := hf it (by simp)
    have hl := rv.length
    exact next_end (I.ok.hd hc) g1 g2 p (by simp; omega) fun g eb => ⟨rfl, I.turned (t' := s.toks) (fun b o hb q => eb b o hb q) f0 f1 f3 f4 f5⟩
  self := fun A i s Q E st q => let ⟨⟨_, g1⟩, _⟩ := st; wpAny_pyIter_enum g1 q
def EnA (K : PySem.W.Frag) (a : Addr) (xs : List V) (R : L2.It → Hp → Prop) (H : Hp) : Prop := (SqL K H a xs ∧ R (Ite K a) H) ∨ (SqT K H a xs ∧ R (Itt K a) H)
def iEnumA (K : PySem.W.Frag) (ta : TA) : TI := fun σ H R => ta σ H fun vs H1 => ∃ a xs, vs = [.ref a] ∧ EnA K a xs R H1
theorem pi_enumA {X : Cx} {e : Expr} {ta : TA} {p pos tpos : Pos} {elts : List Expr} {kk : Nat} (hg : Gl X "enumerate") (hm : X.mg "enumerate" = none) (ha : PA X [e] ta) (hs : starEach [e] X.env = [(false, eval e X.env)] := by rfl) :
    PI X (.Tuple elts kk tpos) (.Call (.Name "enumerate" p) [e] [] pos) (iEnumA X.K ta) := by
  refine ⟨fun pins s σ H R I h => ?_⟩
  refine Call_ (ld_blt I hg hm boot_enumerate (PyProof.Rows.callWith_type1 (thn (ha.run pos pins s σ H _ I h) fun us s1 ⟨vs, H1, I1, r1, q1⟩ => ?_) hs rfl))
  obtain ⟨a, xs, rfl, q⟩ := q1
  obtain ⟨u, rfl, r⟩ := vals1 r1
  cases r
  have fresh : ∀ b, b ∈ [s1.heap.objs.size + 1, s1.heap.objs.size] → FpOk X pins H1 b := fun b hb => by
    have le : s1.heap.objs.size ≤ b := by
      have : b = s1.heap.objs.size + 1 ∨ b = s1.heap.objs.size := by simpa using hb
      rcases this with z | z <;> rw [z]
      · exact Nat.le_add_right _ _
      · exact Nat.le_refl _
    exact I1.fpOk le (I1.hok.fresh le)
  rcases q with ⟨hq, q⟩ | ⟨hq, q⟩
  · obtain ⟨its, rv, p', hz⟩ := I1.list hq
    refine call_enumerate_list p'.isList fun g g1 g2 _ kp => wpAny_pyIter_enum g1 ?_
    exact ⟨s1.heap.objs.size + 1, [s1.heap.objs.size + 1, s1.heap.objs.size], _, _, H1, rfl, I1.kept (t' := s1.toks) kp, turn_enum a (s1.heap.objs.size + 1) s1.heap.objs.size, ⟨⟨.none, g1⟩, g2, Nat.succ_ne_self _⟩, fresh, q⟩
  · obtain ⟨its, rv, p', hz⟩ := I1.tuple hq
    have la : a < s1.heap.objs.size := let ⟨_, e, _⟩ := p'; Heap.lt_size e
    refine call_enum p' fun g g1 g2 kp => wpAny_pyIter_enum g1 ?_
    exact ⟨s1.heap.objs.size + 1, [s1.heap.objs.size + 1, s1.heap.objs.size], _, _, H1, rfl, I1.kept (t' := s1.toks) kp, turn a (s1.heap.objs.size + 1) s1.heap.objs.size, ⟨⟨.none, g1⟩, g2, Nat.succ_ne_self _, Nat.ne_of_lt la, Nat.ne_of_lt (Nat.lt_succ_of_lt la)⟩, fresh, q⟩
theorem walk_enumT {K : PySem.W.Frag} {a : Addr} {xs : List V} : Walk (Itt K a) xs.length (fun H => SqT K H a xs) (YPair (fun i => some (.int (i : Nat))) (fun i => xs[i]?)) := by
  refine ⟨fun i _ hi q => ⟨xs, xs[i], q, by simp [hi]⟩, fun _ q => ⟨xs, q, Nat.le_refl _⟩, fun i H v H' _ q y => ?_⟩
  obtain ⟨T, x, h1, h2, h3, h4⟩ := y
  exact ⟨T, .int (i : Nat), x, h1, h2, h3, rfl, h4 xs q⟩
end En
end
/-! E3 -/
section
set_option Elab.async false
set_option linter.all false
set_option maxRecDepth 100000
set_option maxHeartbeats 1000000
namespace Ev
open PySem L2
open SX (S)
theorem _root_.L2.PG.imp {X : Cx} {e : Expr} {t t' : TG} (h : PG X e t) (i : ∀ v σ H Q, t' v σ H Q → t v σ H Q) : PG X e t' := ⟨fun pins s σ H v u Q I r q => h.run pins s σ H v u Q I r (i _ _ _ _ q)⟩
theorem _root_.L2.PI.imp {X : Cx} {tg e : Expr} {t t' : TI} (h : PI X tg e t) (i : ∀ σ H R, t' σ H R → t σ H R) : PI X tg e t' := ⟨fun pins s σ H R I q => h.run pins s σ H R I (i _ _ _ q)⟩
/-! ### targets -/
section
variable (K : PySem.W.Frag) (cA : Nat → Addr)
def tGt (tg : Tg) : TG := fun v σ H Q => ∃ G ρ d ρ', ER K cA G σ H ρ ∧ Rep K cA (AvO G ρ σ) H d v ∧ bindT tg d ρ = some ρ' ∧ ∀ σ', ER K cA G σ' H ρ' → Step ρ σ H ρ' σ' H → (∀ j, j ∉ tgS tg → σ'[j]? = σ[j]?) → Q σ' H
def tGs (tg : List Tg) : TGs := fun vs σ H Q => ∃ G ρ ds ρ', ER K cA G σ H ρ ∧ Reps K cA (AvO G ρ σ) H ds vs ∧ bindTs tg ds ρ = some ρ' ∧ ∀ σ', ER K cA G σ' H ρ' → Step ρ σ H ρ' σ' H → (∀ j, j ∉ tgS.tgSs tg → σ'[j]? = σ[j]?) → Q σ' H
end
section
variable {X : Cx} {cA : Nat → Addr} {C : Cn}
theorem g_name {i : Nat} {x : Str} {pos : Pos} (h : PG X (.Name x pos) (gName i)) : PG X (.Name x pos) (tGt X.K cA (.n i)) := h.imp fun v σ H Q ⟨G, ρ, d, ρ', er, r, e, q⟩ => by
  rw [bindT] at e
  split at e <;> cases e
  rename_i hp
  obtain ⟨a, b⟩ := er_put er (by simpa using hp) r
  exact q _ a b fun j hj => List.getElem?_set_ne fun z => hj (by rw [tgS, z]; exact List.mem_cons_self)
theorem bindTs_len : ∀ {ts : List Tg} {ds : List D} {ρ ρ' : Env}, bindTs ts ds ρ = some ρ' → ds.length = ts.length
  | [], [], _, _, _ => rfl
  | [], _ :: _, _, _, h => by rw [bindTs] at h <;> first | (cases h; done) | skip; all_goals (intros; rename_i z1 z2; first | cases z1 | cases z2)
  | _ :: _, [], _, _, h => by rw [bindTs] at h <;> first | (cases h; done) | skip; all_goals (intros; rename_i z1 z2; first | cases z1 | cases z2)
  | t :: ts, d :: ds, ρ, _, h => by
    rw [bindTs] at h
    obtain ⟨ρ1, h1, h2⟩ := Option.bind_eq_some_iff.mp h
    rw [List.length_cons, List.length_cons, bindTs_len h2]
theorem pg_or {e : Expr} {t1 t2 : TG} (h1 : PG X e t1) (h2 : PG X e t2) : PG X e (fun v σ H Q => t1 v σ H Q ∨ t2 v σ H Q) := ⟨fun pins s σ H v u Q I r h => h.elim (h1.run pins s σ H v u Q I r) (h2.run pins s σ H v u Q I r)⟩
theorem g_tup {es : List Expr} {ts : List Tg} {k : Nat} {pos : Pos} (hc : X.calm = true) (h : PGs X es (tGs X.K cA ts)) (hn : (assignEach es X.env).length = ts.length) (hst : (assignEach es X.env).findIdx? (·.1) = none) : PG X (.Tuple es k pos) (tGt X.K cA (.t ts)) :=
  (pg_or (pg_tup hc h hn hst) (pg_lst hc h hn hst)).imp fun v σ H Q ⟨G, ρ, d, ρ', er, r, e, q⟩ => by
    cases d <;> simp only [bindT] at e <;> first | (cases e; done) | skip
    · rename_i ds
      rw [Rep] at r
      obtain ⟨a, vs, rfl, l, rt, rp⟩ := r
      exact .inl ⟨a, vs, rfl, rt.sq, by rw [rp.length]; exact bindTs_len e, G, ρ, ds, ρ', er, rp, e, fun σ' er' st' h => q σ' er' st' fun j hj => h j (by rw [tgS] at hj; exact hj)⟩
    · rename_i ds
      rw [Rep] at r
      obtain ⟨a, vs, rfl, l, na, rd, rp⟩ := r
      exact .inr ⟨a, vs, rfl, (.inl rd), by rw [rp.length]; exact bindTs_len e, G, ρ, ds, ρ', er, rp, e, fun σ' er' st' h => q σ' er' st' fun j hj => h j (by rw [tgS] at hj; exact hj)⟩
theorem g_nil : PGs X [] (tGs X.K cA []) := ⟨fun pins s σ H vs us Q I r h => pgs_nil.run pins s σ H vs us Q I r (by
  obtain ⟨G, ρ, ds, ρ', er, rp, e, q⟩ := h
  have hl := bindTs_len e
  have : ds = [] := List.eq_nil_of_length_eq_zero hl
  subst this
  rw [bindTs] at e
  cases e
  rw [Reps] at rp
  exact ⟨rp, q σ er (Step.refl _ _ _) fun _ _ => rfl⟩)⟩
theorem g_cons {e : Expr} {es : List Expr} {t : Tg} {ts : List Tg} (h1 : PG X e (tGt X.K cA t)) (h2 : PGs X es (tGs X.K cA ts)) (hs : (assignEach (e :: es) X.env).map (·.2) = assign e X.env :: (assignEach es X.env).map (·.2)) : PGs X (e :: es) (tGs X.K cA (t :: ts)) :=
  ⟨fun pins s σ H vs us Q I r h => (pgs_cons h1 h2 hs).run pins s σ H vs us Q I r (by
    obtain ⟨G, ρ, ds, ρ', er, rp, e, q⟩ := h
    have hl := bindTs_len e
    cases ds with
    | nil => cases hl
    | cons d ds =>
      rw [bindTs] at e
      obtain ⟨ρ1, e1, e2⟩ := Option.bind_eq_some_iff.mp e
      rw [Reps] at rp
      obtain ⟨v, q', rfl, r1, r2⟩ := rp
      exact ⟨v, q', rfl, G, ρ, d, ρ1, er, r1, e1, fun σ1 er1 st1 h1 => ⟨G, ρ1, ds, ρ', er1, Reps.tr st1.tr _ _ r2, e2, fun σ2 er2 st2 h2 => q σ2 er2 (st1.trans st2) fun j hj => by
        rw [tgS.tgSs, List.mem_append, not_or] at hj
        exact (h2 j hj.2).trans (h1 j hj.1)⟩⟩)⟩
end
/-! ### what is walked -/
structure Wk (K : PySem.W.Frag) (cA : Nat → Addr) (G : Addr → Prop) (ρ : Env) (σ : St) (H : Hp) (J : It) (ds : List D) (Good : (Addr → Prop) → Env → St → Hp → Prop) : Prop where
  start : Good G ρ σ H
  size : ds.length ≤ SZ
  on : ∀ G G' ρ σ H ρ' σ' H', Good G ρ σ H → Step ρ σ H ρ' σ' H' → (∀ b, G' b → G b ∨ H b = none) → Good G' ρ' σ' H'
  go : ∀ i G ρ σ H, Good G ρ σ H → i < ds.length → J.go i H
  stop : ∀ i G ρ σ H, Good G ρ σ H → ds.length ≤ i → J.stop i H
  yld : ∀ i G ρ σ H x H', i < ds.length → Good G ρ σ H → J.yld i H x H' → ∃ d, ds[i]? = some d ∧ ((H' = H ∧ Rep K cA (AvO G ρ σ) H d x) ∨ ∃ T ys es, H T = none ∧ x = .ref T ∧ H' = upd H T (.tup ys) ∧ d = .tup es ∧ Reps K cA (AvO G ρ σ) H es ys ∧ es.length ≤ SZ)
theorem Step.trG {G G' : Addr → Prop} {ρ ρ' : Env} {σ σ' : St} {H H' : Hp} (s : Step ρ σ H ρ' σ' H') (h : ∀ b, G' b → G b ∨ H b = none) : Tr (AvO G ρ σ) (AvO G' ρ' σ') H H' := fun b n hb => by
  obtain ⟨x, y⟩ := (s.tr (G := G)) b n hb
  refine ⟨fun z => ?_, y⟩
  rcases z with z | z
  · rcases h b z with z | z
    · exact n (.inl z)
    · exact hb z
  · exact x (.inr z)
def tP (K : PySem.W.Frag) (cA : Nat → Addr) (C : Cn) (ir : IE) : TI := fun σ H R => ∃ G ρ x ρ' ds, ER K cA G σ H ρ ∧ ev C ir ρ = .ok x ρ' ∧ walk ρ' x = some ds ∧ ∀ J H' Good, ER K cA G σ H' ρ' → Step ρ σ H ρ' σ H' → Wk K cA G ρ' σ H' J ds Good → R J H'
section
variable {K : PySem.W.Frag} {cA : Nat → Addr} {G : Addr → Prop} {ρ ρ' : Env} {σ : St} {H H' : Hp}
/-- what is walked stays: it is no name's own, or locked -/
theorem walk_at {x : RV} {v : V} {d : D} (rr : RR K cA G ρ σ H ρ' H' x v) (w : walkD ρ' x = some d) (nS : ∀ es, d ≠ .scr es) : RepL K cA (AvO G ρ' σ) H' d v ∧ ((∃ es, d = .tup es) ∨ ∀ a, v = .ref a → ¬ Fre ρ' σ a) := by
  cases x with
  | d d0 =>
    cases w
    refine ⟨rr.2.l, ?_⟩
    have r := rr.2
    cases d <;> rw [Rep] at r
    · exact .inr fun a e => by subst e; cases r
    · exact .inr fun a e => by subst e; cases r
    · exact .inr fun a e => by subst e; cases r
    · exact .inr fun a e => by subst e; cases r.1
    · exact .inl ⟨_, rfl⟩
    · obtain ⟨b, vs, rfl, l, n, _⟩ := r
      exact .inr fun a e z => by cases e; exact n (.inr z.ow)
    · obtain ⟨b, vs, rfl, n, _⟩ := r
      exact .inr fun a e z => by cases e; exact n (.inr z.ow)
    · obtain ⟨b, dx, vs, rfl, n, _⟩ := r
      exact .inr fun a e z => by cases e; exact n (.inr z.ow)
    · exact absurd rfl (nS _)
  | f m =>
    obtain ⟨p, rfl, e1, rm, _, na, _⟩ := rr
    have t : Tr (AvO (plus G p) ρ' σ) (AvO G ρ' σ) H' H' := fun b n h => ⟨fun z => n (avO_plus.mpr (.inl z)), .inl rfl⟩
    cases w
    exact ⟨(rm.tr t (.inl rfl)).l, .inr fun a e z => by cases e; exact na (.inr z.ow)⟩
  | p i =>
    obtain ⟨er, h⟩ := rr
    unfold walkD at w
    dsimp only at w
    split at w <;> first | (cases w; done) | skip
    rename_i m p g
    cases w
    obtain ⟨a, ha, _, rm, _⟩ := er.own i m p true g
    rw [h] at ha
    cases ha
    refine ⟨rm.l, .inr fun b e z => ?_⟩
    cases e
    obtain ⟨j, m1, p1, g1, q⟩ := z
    have := er.dis i j _ _ _ _ _ _ _ g g1 h q
    subst this
    rw [g] at g1
    cases g1
/-- a list, a tuple -/
theorem wk_list {a : Addr} {ds : List D} {vs : List V} (nF : ¬ Fre ρ σ a) (r : Rd H a (.lst vs)) (rp : Reps K cA (AvO G ρ σ) H ds vs) (hin : H a ≠ none) (nO : ¬ Fre ρ σ a) (sz : ds.length ≤ SZ) : Wk K cA G ρ σ H (Itl K a) ds (fun G ρ σ H => ¬ Fre ρ σ a ∧ H a ≠ none ∧ Rd H a (.lst vs) ∧ Reps K cA (AvO G ρ σ) H ds vs) where
  start := ⟨nF, hin, r, rp⟩
  size := sz
  on := fun G G' ρ σ H ρ' σ' H' ⟨n, hi, r, rp⟩ st hG => by
    refine ⟨fun z => ?_, st.dom a hi, ?_, Reps.tr (st.trG hG) _ _ rp⟩
    · rcases st.fre a z with z | z
      · exact n z
      · exact hi z
    · rcases r with r | ⟨o, r⟩
      · exact .inl (st.keep a _ r n)
      · exact .inr ⟨o, st.keep a _ r n⟩
  go := fun i G ρ σ H ⟨n, hi, r, rp⟩ hl => by
    obtain ⟨v, hv⟩ : ∃ v, vs[i]? = some v := ⟨_, List.getElem?_eq_getElem (by rw [rp.length]; exact hl)⟩
    exact ⟨vs, v, .inl r, hv⟩
  stop := fun i G ρ σ H ⟨n, hi, r, rp⟩ hl => ⟨vs, .inl r, by rw [rp.length]; exact hl⟩
  yld := fun i G ρ σ H x H' _ ⟨n, hi, r, rp⟩ ⟨e, h⟩ => by
    obtain ⟨d, hd, rd⟩ := rp.getV (h vs (.inl r))
    exact ⟨d, hd, .inl ⟨e, rd⟩⟩
theorem wk_tup {a : Addr} {ds : List D} {vs : List V} (r : RTup K (AvO G ρ σ) H a vs) (rp : Reps K cA (AvO G ρ σ) H ds vs) (sz : ds.length ≤ SZ) : Wk K cA G ρ σ H (Itt K a) ds (fun G ρ σ H => RTup K (AvO G ρ σ) H a vs ∧ Reps K cA (AvO G ρ σ) H ds vs) where
  start := ⟨r, rp⟩
  size := sz
  on := fun G G' ρ σ H ρ' σ' H' ⟨r, rp⟩ st hG => ⟨r.tr (st.trG hG), Reps.tr (st.trG hG) _ _ rp⟩
  go := fun i G ρ σ H ⟨r, rp⟩ hl => by
    obtain ⟨v, hv⟩ : ∃ v, vs[i]? = some v := ⟨_, List.getElem?_eq_getElem (by rw [rp.length]; exact hl)⟩
    exact ⟨vs, v, r.sq, hv⟩
  stop := fun i G ρ σ H ⟨r, rp⟩ hl => ⟨vs, r.sq, by rw [rp.length]; exact hl⟩
  yld := fun i G ρ σ H x H' _ ⟨r, rp⟩ ⟨e, h⟩ => by
    obtain ⟨d, hd, rd⟩ := rp.getV (h vs r.sq)
    exact ⟨d, hd, .inl ⟨e, rd⟩⟩
theorem wk_str {l : Cs} (o : okC l) : Wk K cA G ρ σ H (Its (S l)) (l.map fun c => .str [c]) (fun _ _ _ _ => True) where
  start := trivial
  size := by rw [List.length_map]; exact o.2
  on := fun _ _ _ _ _ _ _ _ _ _ _ => trivial
  go := fun i G ρ σ H _ hl => by
    rw [List.length_map] at hl
    show i < (S l).cps.size
    simpa using hl
  stop := fun i G ρ σ H _ hl => by
    rw [List.length_map] at hl
    show (S l).cps.size ≤ i
    simpa using hl
  yld := fun i G ρ σ H x H' _ _ ⟨e, c, hc, hx⟩ => by
    have hc' : l[i]? = some c := by simpa using hc
    refine ⟨.str [c], by rw [List.getElem?_map, hc']; rfl, .inl ⟨e, ?_⟩⟩
    rw [Rep]
    refine ⟨hx, ?_, (by decide : (1 : Nat) ≤ SZ)⟩
    have := List.all_eq_true.mp o.1 c (List.mem_of_getElem? hc')
    simp only [List.all_cons, List.all_nil, Bool.and_true]
    exact this
theorem irange_get {lo : Int} {n i : Nat} : (irange lo n)[i]? = if i < n then some (.int (lo + (i : Nat))) else none := by
  unfold irange
  rw [List.getElem?_map]
  by_cases h : i < n
  · rw [if_pos h, List.getElem?_range h]; rfl
  · rw [if_neg h, List.getElem?_eq_none (by rw [List.length_range]; omega)]; rfl
theorem irange_len {lo : Int} {n : Nat} : (irange lo n).length = n := by unfold irange; rw [List.length_map, List.length_range]
theorem wk_rng {lo : Int} {n : Nat} (sz : n ≤ SZ) : Wk K cA G ρ σ H (Itr lo n) (irange lo n) (fun _ _ _ _ => True) where
  start := trivial
  size := by rw [irange_len]; exact sz
  on := fun _ _ _ _ _ _ _ _ _ _ _ => trivial
  go := fun i G ρ σ H _ hl => by rw [irange_len] at hl; exact hl
  stop := fun i G ρ σ H _ hl => by rw [irange_len] at hl; exact hl
  yld := fun i G ρ σ H x H' hi _ y => by
    rw [irange_len] at hi
    obtain ⟨e, hx⟩ := y
    exact ⟨_, by rw [irange_get, if_pos hi], .inl ⟨e, by rw [Rep]; exact hx⟩⟩
theorem enm_get : ∀ {ds : List D} {n i : Nat}, (enmFrom n ds)[i]? = (ds[i]?).map fun d => .tup [.int ((n + i : Nat) : Int), d]
  | [], n, i => by simp [enmFrom]
  | d :: ds, n, 0 => by simp [enmFrom]
  | d :: ds, n, i + 1 => by
    rw [enmFrom, List.getElem?_cons_succ, List.getElem?_cons_succ, enm_get]
    congr 1
    funext d
    congr 3
    omega
theorem enm_len : ∀ {ds : List D} {n : Nat}, (enmFrom n ds).length = ds.length
  | [], n => rfl
  | d :: ds, n => by rw [enmFrom, List.length_cons, List.length_cons, enm_len]
theorem wk_enmL {a : Addr} {ds : List D} {vs : List V} (nF : ¬ Fre ρ σ a) (r : Rd H a (.lst vs)) (rp : Reps K cA (AvO G ρ σ) H ds vs) (hin : H a ≠ none) (sz : ds.length ≤ SZ) : Wk K cA G ρ σ H (Ite K a) (enmFrom 0 ds) (fun G ρ σ H => ¬ Fre ρ σ a ∧ H a ≠ none ∧ Rd H a (.lst vs) ∧ Reps K cA (AvO G ρ σ) H ds vs) where
  start := ⟨nF, hin, r, rp⟩
  size := by rw [enm_len]; exact sz
  on := (wk_list nF r rp hin nF sz).on
  go := fun i G ρ σ H ⟨n, hi, r, rp⟩ hl => by
    rw [enm_len] at hl
    obtain ⟨v, hv⟩ : ∃ v, vs[i]? = some v := ⟨_, List.getElem?_eq_getElem (by rw [rp.length]; exact hl)⟩
    exact ⟨vs, v, .inl r, hv⟩
  stop := fun i G ρ σ H ⟨n, hi, r, rp⟩ hl => ⟨vs, .inl r, by rw [enm_len] at hl; rw [rp.length]; exact hl⟩
  yld := fun i G ρ σ H v H' _ ⟨n, hi, r, rp⟩ ⟨T, x, e1, nT, e2, h⟩ => by
    obtain ⟨d, hd, rd⟩ := rp.getV (h vs (.inl r))
    refine ⟨.tup [.int (i : Nat), d], by rw [enm_get, hd]; simp, .inr ⟨T, _, _, nT, e1, e2, rfl, Reps.cons (by rw [Rep]) (Reps.cons rd Reps.nil), (by decide : (2 : Nat) ≤ SZ)⟩⟩
theorem wk_enmT {a : Addr} {ds : List D} {vs : List V} (r : RTup K (AvO G ρ σ) H a vs) (rp : Reps K cA (AvO G ρ σ) H ds vs) (sz : ds.length ≤ SZ) : Wk K cA G ρ σ H (En.Itt K a) (enmFrom 0 ds) (fun G ρ σ H => RTup K (AvO G ρ σ) H a vs ∧ Reps K cA (AvO G ρ σ) H ds vs) where
  start := ⟨r, rp⟩
  size := by rw [enm_len]; exact sz
  on := (wk_tup r rp sz).on
  go := fun i G ρ σ H ⟨r, rp⟩ hl => by
    rw [enm_len] at hl
    obtain ⟨v, hv⟩ : ∃ v, vs[i]? = some v := ⟨_, List.getElem?_eq_getElem (by rw [rp.length]; exact hl)⟩
    exact ⟨vs, v, r.sq, hv⟩
  stop := fun i G ρ σ H ⟨r, rp⟩ hl => ⟨vs, r.sq, by rw [enm_len] at hl; rw [rp.length]; exact hl⟩
  yld := fun i G ρ σ H v H' _ ⟨r, rp⟩ ⟨T, x, e1, nT, e2, h⟩ => by
    obtain ⟨d, hd, rd⟩ := rp.getV (h vs r.sq)
    refine ⟨.tup [.int (i : Nat), d], by rw [enm_get, hd]; simp, .inr ⟨T, _, _, nT, e1, e2, rfl, Reps.cons (by rw [Rep]) (Reps.cons rd Reps.nil), (by decide : (2 : Nat) ≤ SZ)⟩⟩
end
section
variable {X : Cx} {cA : Nat → Addr} {C : Cn}
theorem i_seq {tg e : Expr} {ir : IE} (he : PE X e (tI X.K cA C ir)) : PI X tg e (tP X.K cA C ir) := by
  refine ⟨fun pins s σ H R I h => ?_⟩
  obtain ⟨G, ρ, x, ρ', ds, er, e1, w, q⟩ := h
  obtain ⟨dd, hd, hi⟩ := Option.bind_eq_some_iff.mp w
  have key : ∀ v H', RR X.K cA G ρ σ H ρ' H' x v → RepL X.K cA (AvO G ρ' σ) H' dd v ∧ ((∃ es, dd = .tup es) ∨ ∀ a, v = .ref a → ¬ Fre ρ' σ a) := fun v H' rr => walk_at rr hd fun es z => by rw [z] at hi; cases hi
  cases dd <;> simp only [items] at hi <;> first | (cases hi; done) | skip
  · cases hi
    refine (pi_str he).run pins s σ H R I ⟨G, ρ, x, ρ', er, e1, fun v H' rr st => ?_⟩
    obtain ⟨h2, h3⟩ := key v H' rr
    obtain ⟨rfl, o⟩ := h2.str
    exact ⟨_, rfl, q _ H' _ rr.er st (wk_str o)⟩
  · cases hi
    refine (pi_tup he).run pins s σ H R I ⟨G, ρ, x, ρ', er, e1, fun v H' rr st => ?_⟩
    obtain ⟨h2, h3⟩ := key v H' rr
    obtain ⟨a, vs, rfl, l, r, rp⟩ := h2.tup
    exact ⟨a, rfl, ⟨vs, r.sq⟩, q _ H' _ rr.er st (wk_tup r rp l)⟩
  · cases hi
    refine (pi_list he).run pins s σ H R I ⟨G, ρ, x, ρ', er, e1, fun v H' rr st => ?_⟩
    obtain ⟨h2, h3⟩ := key v H' rr
    obtain ⟨a, vs, rfl, l, r, rp⟩ := h2.lst
    have nF : ¬ Fre ρ' σ a := h3.elim (fun ⟨_, z⟩ => by cases z) fun z => z a rfl
    exact ⟨a, rfl, ⟨vs, .inl r⟩, q _ H' _ rr.er st (wk_list nF r rp (rd_some r) nF l)⟩
theorem i_rng1 {tg a : Expr} {ia : IE} {p pos : Pos} (hg : Gl X "range") (hm : X.mg "range" = none) (ha : PE X a (tI X.K cA C ia)) (hn : nonStar a = true) : PI X tg (.Call (.Name "range" p) [a] [] pos) (tP X.K cA C (.rng1 ia)) :=
  (pi_range1 hg hm (pa_cons ha pa_nil (star1 hn)) (by rw [star1 hn]; rfl)).imp fun σ H R ⟨G, ρ, x, ρ', ds, er, e, w, q⟩ => by
    rw [ev] at e
    obtain ⟨z, ρ1, e1, e⟩ := Out.bind_inv e
    split at e <;> first | (cases e; done) | skip
    rename_i j
    obtain ⟨e2, e3⟩ := Out.of_inv e
    subst e3
    obtain ⟨es, e4, rfl⟩ := Option.map_eq_some_iff.mp e2
    cases w
    unfold rngE at e4
    have hb : -(2 ^ 62) ≤ (0 : Int) ∧ (0 : Int) < 2 ^ 62 ∧ -(2 ^ 62) ≤ j ∧ j < 2 ^ 62 ∧ (j - 0).toNat ≤ SZ := by
      split at e4
      · assumption
      · cases e4
    rw [if_pos hb] at e4
    cases e4
    refine ⟨G, ρ, _, ρ1, er, e1, fun v H' rr st => ?_⟩
    obtain ⟨er1, rfl⟩ := rr_int rr
    have wk := wk_rng (K := X.K) (cA := cA) (G := G) (ρ := ρ1) (σ := σ) (H := H') (lo := 0) (n := (j - 0).toNat) hb.2.2.2.2
    have q' := q _ H' _ er1 st wk
    rw [show (j - 0).toNat = j.toNat by omega] at q'
    exact ⟨j, rfl, hb.2.2.1, hb.2.2.2.1, q'⟩
theorem i_rng2 {tg a b : Expr} {ia ib : IE} {p pos : Pos} (hg : Gl X "range") (hm : X.mg "range" = none) (ha : PE X a (tI X.K cA C ia)) (hb : PE X b (tI X.K cA C ib)) (hn : nonStar a = true) (hn2 : nonStar b = true) : PI X tg (.Call (.Name "range" p) [a, b] [] pos) (tP X.K cA C (.rng2 ia ib)) :=
  (pi_range2 hg hm (pa_cons ha (pa_cons hb pa_nil (star1 hn2)) (star1 hn)) (by rw [star1 hn, star1 hn2]; rfl) (by rw [star1 hn2]; rfl)).imp fun σ H R ⟨G, ρ, x, ρ', ds, er, e, w, q⟩ => by
    rw [ev] at e
    obtain ⟨z, ρ1, e1, e⟩ := Out.bind_inv e
    obtain ⟨y, ρ2, e2, e⟩ := Out.bind_inv e
    have hxy : ∃ i j, z = .d (.int i) ∧ y = .d (.int j) := by
      split at e
      · exact ⟨_, _, rfl, rfl⟩
      · cases e
    obtain ⟨i, j, rfl, rfl⟩ := hxy
    dsimp only at e
    obtain ⟨e3, e4⟩ := Out.of_inv e
    subst e4
    obtain ⟨es, e5, rfl⟩ := Option.map_eq_some_iff.mp e3
    cases w
    unfold rngE at e5
    have hb : -(2 ^ 62) ≤ i ∧ i < 2 ^ 62 ∧ -(2 ^ 62) ≤ j ∧ j < 2 ^ 62 ∧ (j - i).toNat ≤ SZ := by
      split at e5
      · assumption
      · cases e5
    rw [if_pos hb] at e5
    cases e5
    refine ⟨G, ρ, _, ρ1, er, e1, fun v H1 rr st => ⟨G, ρ1, _, ρ2, rr.er, e2, fun u H2 rr2 st2 => ?_⟩⟩
    obtain ⟨_, rfl⟩ := rr_int rr
    obtain ⟨er2, rfl⟩ := rr_int rr2
    exact ⟨i, j, rfl, ⟨hb.1, hb.2.1, hb.2.2.1, hb.2.2.2.1⟩, q _ H2 _ er2 (st.trans st2) (wk_rng hb.2.2.2.2)⟩
theorem i_enm {a : Expr} {ia : IE} {p pos tpos : Pos} {elts : List Expr} {kk : Nat} (hg : Gl X "enumerate") (hm : X.mg "enumerate" = none) (ha : PE X a (tI X.K cA C ia)) (hn : nonStar a = true) : PI X (.Tuple elts kk tpos) (.Call (.Name "enumerate" p) [a] [] pos) (tP X.K cA C (.enm ia)) :=
  (En.pi_enumA hg hm (pa_cons ha pa_nil (star1 hn)) (by rw [star1 hn]; rfl)).imp fun σ H R ⟨G, ρ, x, ρ', ds, er, e, w, q⟩ => by
    rw [ev] at e
    obtain ⟨z, ρ1, e1, e⟩ := Out.bind_inv e
    obtain ⟨e2, e3⟩ := Out.of_inv e
    subst e3
    obtain ⟨dd, hd, e4⟩ := Option.bind_eq_some_iff.mp e2
    obtain ⟨es, e5, rfl⟩ := Option.map_eq_some_iff.mp e4
    cases w
    refine ⟨G, ρ, z, ρ1, er, e1, fun v H' rr st => ?_⟩
    obtain ⟨h2, h3⟩ := walk_at rr hd fun es z => by rw [z] at e5; cases e5
    cases dd <;> simp only [seqOf] at e5 <;> cases e5
    · obtain ⟨a, vs, rfl, l, r, rp⟩ := h2.tup
      exact ⟨a, vs, rfl, .inr ⟨r.sq, q _ H' _ rr.er st (wk_enmT r rp l)⟩⟩
    · obtain ⟨a, vs, rfl, l, r, rp⟩ := h2.lst
      have nF : ¬ Fre ρ1 σ a := h3.elim (fun ⟨_, z⟩ => by cases z) fun z => z a rfl
      exact ⟨a, vs, rfl, .inl ⟨.inl r, q _ H' _ rr.er st (wk_enmL nF r rp (rd_some r) l)⟩⟩
end
end Ev
end
/-! E4 -/
section
set_option Elab.async false
set_option linter.all false
set_option maxRecDepth 100000
set_option maxHeartbeats 1000000
namespace Ev
open PySem L2
open SX (S)
theorem _root_.L2.PTs.imp {X : Cx} {e : List Expr} {t t' : TT} (h : PTs X e t) (i : ∀ σ H Q, t' σ H Q → t σ H Q) : PTs X e t' := ⟨fun pins s σ H Q I q => h.run pins s σ H Q I (i _ _ _ q)⟩
def tCs (K : PySem.W.Frag) (cA : Nat → Addr) (C : Cn) (cs : List IE) : TT := fun σ H Q => ∃ G ρ b ρ', ER K cA G σ H ρ ∧ evC C cs ρ = .ok b ρ' ∧ ∀ H', ER K cA G σ H' ρ' → Step ρ σ H ρ' σ H' → Q b H'
section
variable {X : Cx} {cA : Nat → Addr} {C : Cn}
theorem c_nil : PTs X [] (tCs X.K cA C []) := pts_nil.imp fun σ H Q ⟨G, ρ, b, ρ', er, e, q⟩ => by
  rw [evC] at e
  cases e
  exact q H er (Step.refl _ _ _)
theorem c_one {c : Expr} {ic : IE} (h : PT X c (tT X.K cA C ic)) : PTs X [c] (tCs X.K cA C [ic]) := (pts_one h).imp fun σ H Q ⟨G, ρ, b, ρ', er, e, q⟩ => by
  rw [evC] at e
  obtain ⟨x, ρ1, e1, e⟩ := Out.bind_inv e
  split at e
  · rename_i hb
    cases blOf_inv hb
    rw [evC] at e
    cases e
    exact ⟨G, ρ, _, _, er, e1, q⟩
  · rename_i hb
    cases blOf_inv hb
    cases e
    exact ⟨G, ρ, _, _, er, e1, q⟩
  · cases e
theorem mem_own {tg : Tg} {own : List Nat} (h : (tgS tg).all (fun i => own.contains i) = true) {j : Nat} (n : j ∉ own) : j ∉ tgS tg := fun m => by
  have := List.all_eq_true.mp h j m
  exact n (by simpa using this)
theorem wipe_eq {own : List Nat} : ∀ {σ σ2 : St}, σ2.length = σ.length → (∀ j, j ∉ own → σ2[j]? = σ[j]?) → wipe σ2 own = wipe σ own := fun {σ σ2} hl h => by
  apply List.ext_getElem?
  intro j
  by_cases m : j ∈ own
  · have key : ∀ (own : List Nat) (σ : St), j ∈ own → (wipe σ own)[j]? = if j < σ.length then some none else none := fun own σ => by
      induction own with
      | nil => intro m; cases m
      | cons i r ih =>
        intro m
        rw [wipe]
        by_cases e : i = j
        · subst e
          by_cases hj : i < σ.length
          · rw [if_pos hj, List.getElem?_set_self (by rw [wipe_length]; exact hj)]
          · rw [if_neg hj, List.getElem?_eq_none (by rw [List.length_set, wipe_length]; omega)]
        · rw [List.getElem?_set_ne e]
          exact ih ((List.mem_cons.mp m).resolve_left fun z => e z.symm)
    rw [key own σ2 m, key own σ m, hl]
  · rw [wipe_not m, wipe_not m, h j m]
theorem set_len {ρ : Env} {i : Nat} {e : EV} : (setE ρ i e).length = ρ.length := by rw [setE_def]; exact List.length_set
mutual
theorem bindT_len : ∀ {tg : Tg} {d : D} {ρ ρ' : Env}, bindT tg d ρ = some ρ' → ρ.length = ρ'.length
  | .n i, d, ρ, ρ', h => by
    rw [bindT] at h
    split at h <;> cases h
    exact set_len.symm
  | .t ts, d, ρ, ρ', h => by
    cases d <;> simp only [bindT] at h <;> first | (cases h; done) | exact bindTs_eqlen h
theorem bindTs_eqlen : ∀ {ts : List Tg} {ds : List D} {ρ ρ' : Env}, bindTs ts ds ρ = some ρ' → ρ.length = ρ'.length
  | [], ds, ρ, ρ', h => by
    cases ds <;> simp only [bindTs] at h <;> cases h
    rfl
  | t :: ts, ds, ρ, ρ', h => by
    cases ds with
    | nil => simp only [bindTs] at h; cases h
    | cons d ds =>
      rw [bindTs] at h
      obtain ⟨ρ1, h1, h2⟩ := Option.bind_eq_some_iff.mp h
      exact (bindT_len h1).trans (bindTs_eqlen h2)
end
theorem noPin_of {K : PySem.W.Frag} {G : Addr → Prop} {σ : St} {H : Hp} {ρ : Env} {own : List Nat} (er : ER K cA G σ H ρ) (hno : ∀ j ∈ own, gt ρ j = .no) : noPin own ρ = true := by
  refine List.all_eq_true.mpr fun j hj => ?_
  unfold pinned
  rw [hno j hj]
  rfl
theorem tr_wipe {G : Addr → Prop} {ρ : Env} {σ : St} {H : Hp} {own : List Nat} : Tr (AvO G ρ σ) (AvO G (wipeE own ρ) (wipe σ own)) H H := fun b n _ => by
  refine ⟨fun z => n ?_, .inl rfl⟩
  rcases z with z | ⟨j, m, p, l, g, q⟩
  · exact .inl z
  · rw [gt_wipe] at g
    split at g
    · cases g
    · rename_i nj
      rw [wipe_not nj] at q
      exact .inr ⟨j, m, p, l, g, q⟩
/-- one turn of a list comprehension -/
def turnL (C : Cn) (tg : Tg) (cs : List IE) (e : IE) (d : D) (ρ : Env) : Out (Option D) := (Out.of ρ (bindT tg d ρ)).bind fun ρ' _ => (evC C cs ρ').bind fun b ρ => if b then (ev C e ρ).bind fun r ρ => Out.of ρ (r.dat?.map some) else .ok none ρ
/-- the end of a comprehension over what a plain term gives -/
theorem lc_fin {K : PySem.W.Frag} {cA : Nat → Addr} {G : Addr → Prop} {ρ ρL ρ1 ρf : Env} {σ : St} {H H1 H2 : Hp} {lk : Option Nat} {Dn : Addr} {m : M} (er : ER K cA G σ H ρ) (hL : lockE ρ lk = some ρL) (st1 : Step ρL σ H ρ1 σ H1) (nD : H1 Dn = none) (er2 : ER K cA (plus G Dn) σ H2 ρf) (st2 : Step ρ1 σ H1 ρf σ H2)
    (rm : RepM K cA (AvO (plus G Dn) ρf σ) H2 m Dn) (nf : ∀ o u, H2 Dn ≠ some (.frz o u)) (gin : ∀ a, G a → H1 a ≠ none) : RR K cA G ρ σ H (unlockE ρf lk) H2 (.f m) (.ref Dn) ∧ Step ρ σ H (unlockE ρf lk) σ H2 := by
  have stu := st1.trans st2
  refine ⟨⟨Dn, rfl, er_unlock er hL stu er2, ?_, nf, fun z => ?_, ?_⟩, unlock_step hL stu⟩
  · exact rm.tr (fun b n _ => ⟨fun z => n (unlock_av.mp z), .inl rfl⟩) (.inl rfl)
  · rcases unlock_av.mp z with z | ⟨j, m1, p1, l, g, q⟩
    · exact gin Dn z nD
    · obtain ⟨a, ha, ng, _⟩ := er2.own j m1 p1 l g
      rw [q] at ha
      cases ha
      exact ng (.inr rfl)
  · refine .inr ?_
    cases q : H Dn with
    | none => rfl
    | some o => exact absurd nD (st1.dom Dn (some_ne q))
theorem tP_mono {K : PySem.W.Frag} {ir : IE} {σ : St} {H : Hp} {R R' : It → Hp → Prop} (m : ∀ J H', R J H' → R' J H') (h : tP K cA C ir σ H R) : tP K cA C ir σ H R' := by
  obtain ⟨G, ρ, x, ρ', ds, a, b, c, q⟩ := h
  exact ⟨G, ρ, x, ρ', ds, a, b, c, fun J H' Good er st wk => m _ _ (q J H' Good er st wk)⟩
theorem s_lc_core {elt tg iter : Expr} {ifs : List Expr} {scope : Scope} {own : List (Str × Nat)} {pos : Pos} {itg : Tg} {wi : TI} {cs : List IE} {ie : IE} (hm : ∀ {σ : St} {H : Hp} {R R' : It → Hp → Prop}, (∀ J H', R J H' → R' J H') → wi σ H R → wi σ H R') (hc : X.calm = true) (hN : X.N.Nodup) (ok : BlkOk X.N X.env.scope scope own)
    (hg : ∀ (s : Shared) (H : Hp) (Ca : Addr) (cl : List (Str × Addr)) (fp : List Addr), PG (X.blk s H scope (compEnvC scope cl Ca X.env) fp) tg (tGt X.K cA itg))
    (ht : ∀ (s : Shared) (H : Hp) (Ca : Addr) (cl : List (Str × Addr)) (fp : List Addr), PTs (X.blk s H scope (compEnvC scope cl Ca X.env) fp) ifs (tCs X.K cA C cs))
    (he : ∀ (s : Shared) (H : Hp) (Ca : Addr) (cl : List (Str × Addr)) (fp : List Addr), PE (X.blk s H scope (compEnvC scope cl Ca X.env) fp) elt (tI X.K cA C ie))
    (hs : ∀ x, foldedSetIterable iter X.env x = pure x) (ho : (tgS itg).all (fun i => (own.map (·.2)).contains i) = true) :
    ∀ (σ : St) (H : Hp) (Q : VK), wi σ H (fun J H1 => ∃ G ρ1 ds Good res ρf, ER X.K cA G σ H1 ρ1 ∧ Wk X.K cA G ρ1 σ H1 J ds Good ∧ noPin (own.map (·.2)) ρ1 = true ∧ evLc (turnL C itg cs ie) (wipeE (own.map (·.2))) ds (wipeE (own.map (·.2)) ρ1) [] = .ok res ρf ∧
      ∀ Dn H2 vacc, H1 Dn = none → ER X.K cA (plus G Dn) σ H2 ρf → Step ρ1 σ H1 ρf σ H2 → H2 Dn = some (.lst vacc) → Reps X.K cA (AvO (plus G Dn) ρf σ) H2 res vacc → res.length ≤ SZ → Q (.ref Dn) H2) → tLc wi (tGt X.K cA itg) (tCs X.K cA C cs) (tI X.K cA C ie) (own.map (·.2)) σ H Q := by
  intro σ H Q h
  generalize hown : own.map (·.2) = ow at *
  refine hm (fun J H1 hh => ?_) h
  obtain ⟨G, ρ1, ds, Good, res, ρf, er1, wk, np, e2, q⟩ := hh
  intro Dn nD
  -- the invariant
  have GD : ∀ b, plus G Dn b → G b ∨ H1 b = none := fun b z => z.elim .inl fun z => .inr (by rw [z]; exact nD)
  refine ⟨fun i m H' => ∃ ρi acc vacc, m + i = ds.length ∧ ER X.K cA (plus G Dn) (wipe σ ow) H' ρi ∧ Step ρ1 σ H1 ρi (wipe σ ow) H' ∧ (∀ j ∈ ow, gt ρi j = .no) ∧ H' Dn = some (.lst vacc) ∧ Reps X.K cA (AvO (plus G Dn) ρi (wipe σ ow)) H' acc vacc ∧ acc.length ≤ i ∧
      evLc (turnL C itg cs ie) (wipeE ow) (ds.drop i) ρi acc = .ok res ρf, ⟨ds.length, ?_⟩, ?_⟩
  · refine ⟨wipeE ow ρ1, [], [], rfl, er_wipe (er1.new nD), step_updX (step_wipe (Step.refl _ _ _) np) nD, fun j hj => by rw [gt_wipe, if_pos hj], upd_same, Reps.nil, Nat.le_refl _, ?_⟩
    rw [List.drop_zero]
    exact e2
  · rintro i m H2 ⟨ρi, acc, vacc, hm, eri, sti, hno, hD, rp, la, run⟩
    have good : Good (plus G Dn) ρi (wipe σ ow) H2 := wk.on _ _ _ _ _ _ _ _ wk.start sti GD
    by_cases hi : i < ds.length
    · right
      have hdrop : ds.drop i = ds[i] :: ds.drop (i + 1) := List.drop_eq_getElem_cons hi
      rw [hdrop, evLc] at run
      obtain ⟨o, ρa, ea, run⟩ := Out.bind_inv run
      refine ⟨wk.go i _ _ _ _ good hi, fun H' => ∃ m', m' < m ∧ ∃ ρi acc vacc, m' + (i + 1) = ds.length ∧ ER X.K cA (plus G Dn) (wipe σ ow) H' ρi ∧ Step ρ1 σ H1 ρi (wipe σ ow) H' ∧ (∀ j ∈ ow, gt ρi j = .no) ∧ H' Dn = some (.lst vacc) ∧ Reps X.K cA (AvO (plus G Dn) ρi (wipe σ ow)) H' acc vacc ∧ acc.length ≤ i + 1 ∧
        evLc (turnL C itg cs ie) (wipeE ow) (ds.drop (i + 1)) ρi acc = .ok res ρf, fun H' h => h, fun w H3 hy => ?_⟩
      obtain ⟨d, hd, hcase⟩ := wk.yld i _ _ _ _ w H3 hi good hy
      have hd' : d = ds[i] := by rw [List.getElem?_eq_getElem hi] at hd; exact (Option.some.inj hd).symm
      unfold turnL at ea
      obtain ⟨ρb, ρb', eb, ea⟩ := Out.bind_inv ea
      obtain ⟨eb1, eb2⟩ := Out.of_inv eb
      obtain ⟨b, ρc, ec, ea⟩ := Out.bind_inv ea
      -- the item, in the heap at hand
      have item : ER X.K cA (plus G Dn) (wipe σ ow) H3 ρi ∧ Step ρi (wipe σ ow) H2 ρi (wipe σ ow) H3 ∧ H3 Dn = some (.lst vacc) ∧ Rep X.K cA (AvO (plus G Dn) ρi (wipe σ ow)) H3 d w := by
        rcases hcase with ⟨rfl, rd⟩ | ⟨T, ys, es, nT, rfl, rfl, rfl, res, l⟩
        · exact ⟨eri, Step.refl _ _ _, hD, rd⟩
        · refine ⟨eri.grow nT, Step.upd nT, by rw [upd_ne (ne_of_none hD nT)]; exact hD, ?_⟩
          rw [Rep]
          exact ⟨T, ys, rfl, l, .inl ⟨eri.nav nT, .inl upd_same⟩, Reps.tr (tr_upd nT) _ _ res⟩
      obtain ⟨er3, st3, hD3, rd⟩ := item
      rw [hd'] at rd
      refine ⟨plus G Dn, ρi, _, ρb, er3, rd, eb1, fun σ2 er4 st4 hsl => ?_⟩
      have hwp : wipe σ2 ow = wipe σ ow := by
        refine wipe_eq ?_ fun j hj => ?_
        · rw [← er4.len, ← bindT_len eb1, er3.len, wipe_length]
        · rw [hsl j (mem_own ho hj), wipe_not hj]
      refine ⟨hwp, plus G Dn, ρb, b, ρc, er4, ec, fun H5 er5 st5 => ?_⟩
      have st25 := (st3.trans st4).trans st5
      -- D stays through the turn
      have keepD : ∀ {ρx : Env} {σx : St} {Hx : Hp}, Step ρi (wipe σ ow) H2 ρx σx Hx → Hx Dn = some (.lst vacc) := fun st => st.keep Dn _ hD fun z => by
        obtain ⟨j, m1, p1, g, q⟩ := z
        obtain ⟨a, ha, ng, _⟩ := eri.own j m1 p1 false g
        rw [q] at ha
        cases ha
        exact ng (.inr rfl)
      cases b with
      | false =>
        rw [if_neg Bool.false_ne_true] at ea
        cases ea
        refine iteF ⟨m - 1, by omega, wipeE ow _, acc, vacc, by omega, ?_, ?_, fun j hj => by rw [gt_wipe, if_pos hj], keepD st25, ?_, by omega, run⟩
        · rw [← hwp]; exact er_wipe er5
        · rw [← hwp]; exact step_wipe (sti.trans st25) np
        · rw [← hwp]
          exact Reps.tr tr_wipe _ _ (Reps.tr st25.tr _ _ rp)
      | true =>
        rw [if_pos rfl] at ea
        obtain ⟨r, ρd, ed, ea⟩ := Out.bind_inv ea
        obtain ⟨ea1, ea2⟩ := Out.of_inv ea
        subst ea2
        obtain ⟨y, hy1, hy2⟩ := Option.map_eq_some_iff.mp ea1
        subst hy2
        refine iteT ⟨plus G Dn, ρc, r, ρd, er5, ed, fun yv H6 rr6 st6 => ?_⟩
        have st26 := st25.trans st6
        have hD6 := keepD st26
        have hl6 : acc.length < SZ := Nat.lt_of_le_of_lt la (Nat.lt_of_lt_of_le hi wk.size)
        refine ⟨vacc, hD6, by rw [rp.length, ← SZ_line]; exact hl6, m - 1, by omega, wipeE ow ρd, acc ++ [y], vacc ++ [yv], by omega, ?_, ?_, fun j hj => by rw [gt_wipe, if_pos hj], upd_same, ?_, by rw [List.length_append]; exact Nat.succ_le_succ la, run⟩
        · rw [← hwp]; exact er_wipe (er_updG rr6.er)
        · rw [← hwp]; exact step_wipe (step_updX (sti.trans st26) nD) np
        · rw [← hwp]
          have t3 : Tr (AvO (plus G Dn) (wipeE ow ρd) (wipe σ2 ow)) (AvO (plus G Dn) (wipeE ow ρd) (wipe σ2 ow)) H6 (upd H6 Dn (.lst (vacc ++ [yv]))) := fun b n h => ⟨n, .inl (upd_ne fun z => n (.inl (.inr z)))⟩
          exact Reps.append (Reps.tr t3 _ _ (Reps.tr tr_wipe _ _ (Reps.tr st26.tr _ _ rp))) (Reps.cons (((rr6.dat hy1).tr tr_wipe).tr t3) Reps.nil)
    · left
      have hdrop : ds.drop i = [] := List.drop_eq_nil_of_le (by omega)
      rw [hdrop, evLc] at run
      cases run
      have t : Tr (AvO (plus G Dn) ρf (wipe σ ow)) (AvO (plus G Dn) ρf σ) H2 H2 := fun b n _ => by
        refine ⟨fun z => n ?_, .inl rfl⟩
        rcases z with z | ⟨j, m1, p1, l, g, q⟩
        · exact .inl z
        · exact .inr ⟨j, m1, p1, l, g, (wipe_not fun hj => by rw [hno j hj] at g; cases g).trans q⟩
      exact ⟨wk.stop i _ _ _ _ good (by omega), q Dn H2 vacc nD (er_unwipe eri hno) (step_unwipe sti hno) hD (Reps.tr t _ _ rp) (Nat.le_trans la (Nat.le_trans (by omega) wk.size))⟩
theorem s_lc {elt tg iter : Expr} {ifs : List Expr} {scope : Scope} {own : List (Str × Nat)} {pos : Pos} {itg : Tg} {iit : IE} {lk : Option Nat} {cs : List IE} {ie : IE} (hc : X.calm = true) (hN : X.N.Nodup) (hi : PI X tg iter (tP X.K cA C iit)) (ok : BlkOk X.N X.env.scope scope own)
    (hg : ∀ (s : Shared) (H : Hp) (Ca : Addr) (cl : List (Str × Addr)) (fp : List Addr), PG (X.blk s H scope (compEnvC scope cl Ca X.env) fp) tg (tGt X.K cA itg))
    (ht : ∀ (s : Shared) (H : Hp) (Ca : Addr) (cl : List (Str × Addr)) (fp : List Addr), PTs (X.blk s H scope (compEnvC scope cl Ca X.env) fp) ifs (tCs X.K cA C cs))
    (he : ∀ (s : Shared) (H : Hp) (Ca : Addr) (cl : List (Str × Addr)) (fp : List Addr), PE (X.blk s H scope (compEnvC scope cl Ca X.env) fp) elt (tI X.K cA C ie))
    (hs : ∀ x, foldedSetIterable iter X.env x = pure x) (ho : (tgS itg).all (fun i => (own.map (·.2)).contains i) = true) :
    ∀ (σ : St) (H : Hp) (Q : VK), tI X.K cA C (.lc (own.map (·.2)) itg iit lk cs ie) σ H Q → tLc (tP X.K cA C iit) (tGt X.K cA itg) (tCs X.K cA C cs) (tI X.K cA C ie) (own.map (·.2)) σ H Q := by
  intro σ H Q ⟨G, ρ, z, ρ', er, e, q⟩
  rw [ev] at e
  split at e <;> first | (cases e; done) | skip
  rename_i ρL hL
  obtain ⟨x, ρ1, e1, e⟩ := Out.bind_inv e
  split at e <;> first | (cases e; done) | skip
  rename_i ds hw
  split at e <;> first | (cases e; done) | skip
  rename_i np
  obtain ⟨res, ρf, e2, e⟩ := Out.bind_inv e
  cases e
  have erL := er_lock er hL
  refine s_lc_core (pos := pos) (wi := tP X.K cA C iit) (fun m h => tP_mono m h) hc hN ok hg ht he hs ho σ H Q ⟨G, ρL, x, ρ1, ds, erL, e1, hw, fun J H1 Good er1 st1 wk => ⟨G, ρ1, ds, Good, res, ρf, er1, wk, np, e2, fun Dn H2 vacc nD er2 st2 hD rp sz => ?_⟩⟩
  obtain ⟨a, b⟩ := lc_fin (m := .lst res) er hL st1 nD er2 st2 ⟨vacc, sz, .inl hD, rp⟩ (fun o u z => by rw [hD] at z; cases z) er1.gin
  exact q _ H2 a b
end
end Ev
end
/-! Sx -/
section
set_option Elab.async false
set_option linter.all false
set_option maxRecDepth 100000
set_option maxHeartbeats 2000000
/-! Sets of texts over the layer: made by a comprehension, sorted. -/
namespace Sx
open PySem PySem.Spec PyProof.Rows L2

def elName (e : Int × Value) : Str := strOf e.2
def ElOk (w : World) (e : Int × Value) : Prop := ∃ x tk, e.2 = Value.str x tk ∧ e.1 = hashStr w x
theorem kdIs (P : Program) (w : World) (x : Str) (tk : Tok) : (strKind P w).is x (.str x tk) = true := by
  show Value.isStrOf x (.str x tk) = true
  simp [Value.isStrOf]
/-- the texts ks stand in the set at a (at most n places are taken) -/
def TSet (w : World) (h : Heap) (a : Addr) (ks : List Str) (n : Nat) : Prop := ∃ (o : Obj) (es : Array (Int × Value)) (ep : Nat) (t : SetTable),
  (h.get? a = some o ∧ o.ExactSet ∧ o.data = .set es ep t) ∧ (∀ e ∈ es.toList, ElOk w e) ∧ (es.toList.map elName).Nodup ∧ (∀ x, x ∈ ks ↔ x ∈ es.toList.map elName) ∧
  (es.size ≤ n ∧ n < scanBound) ∧ t.fits es.size = true ∧ Ris t.place.toList ∧ (w.params.followText "set-order" = true ∨ t.led = true)
section
variable {P : Program} {w : World} {h h' : Heap} {a : Addr} {ks : List Str} {n : Nat}
theorem TSet.stay (R : TSet w h a ks n) (k : ∀ o, h.get? a = some o → h'.get? a = some o) : TSet w h' a ks n :=
  let ⟨o, es, ep, t, ⟨h1, h2⟩, r⟩ := R
  ⟨o, es, ep, t, ⟨k o h1, h2⟩, r⟩
theorem elemsOk {l : List (Int × Value)} (g : ∀ e ∈ l, ElOk w e) : ElemsOf (strKind P w) l := fun e he =>
  let ⟨x, tk, p, q⟩ := g e he
  ⟨⟨x, (by rw [p]; exact kdIs P w x tk), q⟩, by rw [p] <;> rfl⟩
theorem elIs {e : Int × Value} (g : ElOk w e) (x : Str) : (strKind P w).is x e.2 = true ↔ elName e = x := by
  obtain ⟨y, tk, p, _⟩ := g
  unfold elName
  rw [p]
  constructor
  · intro z
    obtain ⟨t, q⟩ := Value.isStrOf_shape (show Value.isStrOf x (.str y tk) = true from z)
    injection q
  · rintro rfl
    exact kdIs P w y tk
theorem elMem {l : List (Int × Value)} (g : ∀ e ∈ l, ElOk w e) (x : Str) : x ∈ l.map elName ↔ ∃ e ∈ l, (strKind P w).is x e.2 = true := by
  rw [List.mem_map]
  exact ⟨fun ⟨e, he, q⟩ => ⟨e, he, (elIs (g e he) x).2 q⟩, fun ⟨e, he, q⟩ => ⟨e, he, (elIs (g e he) x).1 q⟩⟩
theorem TSet.setOf (R : TSet w h a ks n) : ∃ S m, h.SetOf (strKind P w) a S m := by
  obtain ⟨o, es, ep, t, ⟨h1, h2, h3⟩, g, nd, hm, hb, hf, _⟩ := R
  exact ⟨fun x => decide (x ∈ ks), es.size, o, es, ep, t, h1, h2, h3, elemsOk g, fun x => (by rw [decide_eq_true_eq]; exact (hm x).trans (elMem g x)), Nat.lt_of_le_of_lt hb.1 hb.2, hf, rfl⟩
end

section
variable {P : Program} {w : World} {A : Around} {E : Value → Shared → Prop} {s : Shared} {a : Addr} {ks : List Str} {n : Nat}
/-- behind the store of a new element -/
theorem addTail {gv : Bool → Sem Unit} (hg : ∀ (b : Bool) (s₁ : Shared) (Q' : Unit → Shared → Prop), Q' () s₁ → wpAny (model P w) A (gv b) Q' E s₁)
    {o : Obj} {es es1 : Array (Int × Value)} {ep : Nat} {t t2 : SetTable} {wd : Bool} {kk : List Str} {m : Nat} {R : Option Bool → Shared → Prop} (ob : s.heap.get? a = some o ∧ o.ExactSet ∧ o.data = .set es ep t)
    (g1 : ∀ e ∈ es1.toList, ElOk w e) (nd1 : (es1.toList.map elName).Nodup) (m1 : ∀ x, x ∈ kk ↔ x ∈ es1.toList.map elName) (hb : es1.size ≤ m ∧ m < scanBound)
    (hf : t2.fits es1.size = true) (hr : Ris t2.place.toList) (hl : w.params.followText "set-order" = true ∨ t2.led = true)
    (hR : ∀ h', Heap.SameBut a s.heap h' → TSet w h' a kk m → R (some true) { s with heap := h' }) :
    wpAny (model P w) A (do
      storeSet a es1 t2
      if (!wd && t2.tooFull) = true then do
        gv (relayAll t2 es1 (SetTable.grown es1.size)).2.2; storeSet a (relayAll t2 es1 (SetTable.grown es1.size)).1 (relayAll t2 es1 (SetTable.grown es1.size)).2.1; pure (some true)
      else pure (some true)) R E s := by
  obtain ⟨ho, hex, hd⟩ := ob
  have lt1 : es1.size < scanBound := Nat.lt_of_le_of_lt hb.1 hb.2
  have o1 := store_at (es' := es1) (t' := t2) ho hd
  have b1 := Heap.SameBut.update s.heap a (Obj.putSet es1 t2)
  refine wpAny_bind (wpAny_storeSet_of ho hd ?_ (fits_of_scanBound lt1))
  split
  · have pm := relayAll_perm t2 es1 (SetTable.grown es1.size); have f3 := relayAll_fits t2 es1 (SetTable.grown es1.size); have r3 := relayAll_ris t2 es1 (SetTable.grown es1.size); have l3 := relayAll_led t2 es1 (SetTable.grown es1.size)
    generalize relayAll t2 es1 (SetTable.grown es1.size) = Z at pm f3 r3 l3 ⊢
    obtain ⟨es2, t3, gave⟩ := Z
    dsimp only at pm f3 r3 l3 ⊢
    have sz2 : es2.size = es1.size := by rw [← Array.length_toList, pm.length_eq, Array.length_toList]
    refine wpAny_bind (hg _ _ _ (wpAny_bind (wpAny_storeSet_of o1 rfl ?_ (fits_of_scanBound (by rw [sz2]; exact lt1)))))
    refine wpAny_pure (hR _ (b1.trans (Heap.SameBut.update _ a _)) ⟨_, es2, _, t3, ⟨store_at (es' := es2) (t' := t3) o1 rfl, hex, rfl⟩, fun e he => g1 e (pm.mem_iff.mp he), ?_, ?_, ?_, f3, r3, ?_⟩)
    · exact (pm.map elName).nodup_iff.mpr nd1
    · exact fun x => (m1 x).trans (pm.map elName).mem_iff.symm
    · rw [sz2]; exact hb
    · exact hl.imp id fun z => (by rw [l3]; exact z)
  · exact wpAny_pure (hR _ b1 ⟨_, es1, _, t2, ⟨o1, hex, rfl⟩, g1, nd1, m1, hb, hf, hr, hl⟩)
theorem addHashed {x : Str} {tk : Tok} {Q : Bool → Shared → Prop} (R : TSet w s.heap a ks n) (room : n + 1 < scanBound)
    (hQ : ∀ b h', Heap.SameBut a s.heap h' → TSet w h' a (ks ++ [x]) (n + 1) → Q b { s with heap := h' }) : wpAny (model P w) A (setAddHashed a (.str x tk) ((strKind P w).hash x)) Q E s := by
  obtain ⟨o, es, ep, t, ⟨ho, hex, hd⟩, g, nd, hm, ⟨hb, hbn⟩, hf, hr, hl⟩ := R
  have lt0 : es.size < scanBound := Nat.lt_of_le_of_lt hb hbn
  have el : ElemsOf (strKind P w) es.toList := elemsOk g
  have hsc : (Value.str x tk).scannable = true := rfl
  unfold setAddHashed setAddHashedIn
  refine wpAny_holding (wpAny_bind (wpAny_setState_of ho hd hf ?_))
  dsimp only
  rw [byScan_of hsc lt0 el]
  simp only [↓reduceIte]
  unfold setAddByScan
  refine wpAny_bind (wpAny_bind (wpAny_rule (wpAny_bind (wpAny_setScan_of (kdIs P w x tk) ho hd hf el ?_))))
  cases fi : List.findIdx? (fun e => (strKind P w).is x e.2) es.toList with
  | some j =>
    dsimp only
    obtain ⟨hj, pj, _⟩ := List.findIdx?_eq_some_iff_getElem.mp fi
    have xin : x ∈ ks := (hm x).2 ((elMem (P := P) (w := w) g x).2 ⟨es.toList[j], List.getElem_mem hj, pj⟩)
    refine wpAny_pure (wpAny_pure (hQ _ s.heap (Heap.SameBut.refl a s.heap) ⟨o, es, ep, t, ⟨ho, hex, hd⟩, g, nd, fun y => ?_, ⟨Nat.le_succ_of_le hb, room⟩, hf, hr, hl⟩))
    rw [List.mem_append, List.mem_singleton, ← hm y]
    exact ⟨fun z => z.elim id fun e => e ▸ xin, .inl⟩
  | none =>
    dsimp only
    have xout : x ∉ es.toList.map elName := fun z => by
      obtain ⟨e, he, q⟩ := (elMem (P := P) (w := w) g x).1 z
      exact absurd q (by rw [List.findIdx?_eq_none_iff.mp fi e he]; exact Bool.false_ne_true)
    have way : ∀ (b : Bool) {s₁ : Shared} {Q' : Unit → Shared → Prop}, Q' () s₁ → wpAny (model P w) A (match b with | true => rule "set.scan.the-table-gave-way" | false => pure ()) Q' E s₁ := fun b s₁ Q' q => by
      cases b
      · exact wpAny_pure q
      · exact wpAny_rule q
    have pm := layNew_perm t es ((strKind P w).hash x) (.str x tk); have f1 := layNew_fits t es ((strKind P w).hash x) (.str x tk); have r1 := layNew_ris t es ((strKind P w).hash x) (.str x tk) hr; have l1 := layNew_led t es ((strKind P w).hash x) (.str x tk)
    generalize layNew t es ((strKind P w).hash x) (.str x tk) = Z at pm f1 r1 l1 ⊢
    obtain ⟨es1, t1, wd, gave⟩ := Z
    dsimp only at pm f1 r1 l1 ⊢
    rw [Array.toList_push] at pm
    have pc : es1.toList.Perm (((strKind P w).hash x, Value.str x tk) :: es.toList) := pm.trans (List.perm_append_singleton _ _)
    have pk : (es1.toList.map elName).Perm (x :: es.toList.map elName) := pc.map elName
    have g1 : ∀ e ∈ es1.toList, ElOk w e := fun e he => (List.mem_cons.mp (pc.mem_iff.mp he)).elim (fun z => z ▸ ⟨x, tk, rfl, rfl⟩) (g e)
    have nd1 : (es1.toList.map elName).Nodup := pk.nodup_iff.mpr (List.nodup_cons.mpr ⟨xout, nd⟩)
    have m1 : ∀ y, y ∈ ks ++ [x] ↔ y ∈ es1.toList.map elName := fun y => by rw [List.mem_append, List.mem_singleton, hm y, pk.mem_iff, List.mem_cons]; exact Or.comm
    have sz1 : es1.size ≤ n + 1 := by rw [← Array.length_toList, pc.length_eq, List.length_cons, Array.length_toList]; exact Nat.succ_le_succ hb
    have led1 : w.params.followText "set-order" = true ∨ t1.led = true := hl.imp id fun z => (by rw [l1]; exact z)
    have gw : ∀ (b : Bool) (s₁ : Shared) (Q' : Unit → Shared → Prop), Q' () s₁ → wpAny (model P w) A ((fun b : Bool => (match b with | true => rule "set.scan.the-table-gave-way" | false => pure () : Sem Unit)) b) Q' E s₁ := fun b s₁ Q' q => way b q
    refine wpAny_bind (way _ ?_)
    split
    · refine wpAny_bind ?_
      rw [hashByValue_scannable 8 hsc]
      refine wpAny_pure (addTail gw ⟨ho, hex, hd⟩ g1 nd1 m1 ⟨sz1, room⟩ ?_ ?_ ?_ fun h' sb r => ?_)
      · first | (split <;> first | exact f1 | exact SetTable.fits_plain_off f1) | exact f1
      · first | (split <;> exact r1) | exact r1
      · first | (split <;> exact led1) | exact led1
      · dsimp only; exact wpAny_pure (hQ _ h' sb r)
    · refine wpAny_bind (wpAny_pure ?_)
      simp only [↓reduceIte]
      refine addTail gw ⟨ho, hex, hd⟩ g1 nd1 m1 ⟨sz1, room⟩ f1 r1 led1 fun h' sb r => ?_
      dsimp only; exact wpAny_pure (hQ _ h' sb r)
/-- set.add of a text -/
theorem addText {x : Str} {tk : Tok} {Q : Value → Shared → Prop} (R : TSet w s.heap a ks n) (room : n + 1 < scanBound)
    (hQ : ∀ h', Heap.SameBut a s.heap h' → TSet w h' a (ks ++ [x]) (n + 1) → Q .none { s with heap := h', toks := s.toks + 1 }) : wpAny (model P w) A (call (.builtin "set.add") [.ref a, .str x tk]) Q E s := by
  obtain ⟨S, m, hS⟩ := TSet.setOf (P := P) R
  refine wpAny_call_entry F.slot_set_add hS.typeIs F.entry_set_add ?_ (F.args_set_add_2 _ _)
  unfold Builtin.«set.add» Builtin.Frozenset.oneOther; simp only [List.isEmpty_nil, bind_assoc]; unfold Builtin.Frozenset.addrOf setAdd
  refine wpAny_bind (wpAny_pure ?_); try dsimp only
  refine wpAny_bind (wpAny_pure ?_); try dsimp only
  refine wpAny_bind (wpAny_holding (wpAny_bind ((strKind P w).pyHash (kdIs P w x tk) ?_)))
  refine addHashed (s := { s with toks := s.toks + 1 }) R room fun b h' sb r => ?_
  exact wpAny_pure ⟨_, rfl, hQ h' sb r⟩
theorem emptySet (w : World) (h : Heap) : TSet w (h.push { cls := .type "set", dict := none, data := .set #[] 0 (.fresh 0 0 (!w.params.followText "set-order")) }) h.objs.size [] 0 := by
  refine ⟨_, #[], 0, _, ⟨Heap.get?_push_size _ rfl, ⟨rfl, rfl, rfl⟩, rfl⟩, fun e he => by simp at he, by simp, fun x => by simp, ⟨Nat.le_refl _, by decide⟩, by rfl, List.Pairwise.nil, ?_⟩
  show _ ∨ (!w.params.followText "set-order") = true
  cases w.params.followText "set-order"
  · exact .inr rfl
  · exact .inl rfl
/-- sorted(set of fewer than 64 texts): a new list -/
theorem sortedSet {Q : Value → Shared → Prop} (R : TSet w s.heap a ks n) (hh : A.handled = none) (few : n < 64)
    (hQ : ∀ s' p (out : Array Value) (c : Nat) (ys : List Str), (∀ b o, s.heap.get? b = some o → s'.heap.get? b = some o) → s'.gens = s.gens → s'.os = s.os → s.heap.objs.size ≤ p →
      s'.heap.get? p = some (seqObj "list" out c) → StrsAre out.toList ys → sortedS ys = true → ys.Nodup → (∀ x, x ∈ ys ↔ x ∈ ks) → ys.length ≤ n → Q (.ref p) s') : wpAny (model P w) A (call (.builtin "sorted") [.ref a]) Q E s := by
  obtain ⟨o, es, ep, t, ⟨ho, hex, hd⟩, g, nd, hm, ⟨hb, hbn⟩, hf, hr, hl⟩ := R
  refine Calls.call_function_entry kind_sorted plain_sorted entry_sorted (args_sorted1 _) ?_
  unfold Builtin.«sorted»
  refine wpAny_bind (m := checkCount "sorted" 1 1 _) (wpAny_pure (wpAny_bind (collect_set (A := A.in1) hh ⟨o, ho, hex.1, hd⟩ hf (Nat.lt_of_le_of_lt hb hbn) hr hl fun s1 vs k1 hz g1 o1 pm => ?_)))
  have lv : vs.length ≤ n := by rw [pm.length_eq, List.length_map, Array.length_toList]; exact hb
  have hS : StrsAre vs (vs.map strOf) := strsAre_map vs fun v hv => by
    obtain ⟨e, he, q⟩ := List.mem_map.mp (pm.mem_iff.mp hv)
    obtain ⟨x, tk, z, _⟩ := g e he
    exact ⟨x, tk, by rw [← q]; exact z⟩
  have pk : (vs.map strOf).Perm (es.toList.map elName) := by
    have q := pm.map strOf
    rw [List.map_map] at q
    exact q
  refine wpAny_bind (wpAny_newList ?_ (by rw [sizeLine_eq]; omega))
  have hoL : (s1.heap.push (seqObj "list" vs.toArray 0)).get? s1.heap.objs.size = some (seqObj "list" vs.toArray 0) := Heap.get?_push_size _ rfl
  refine wpAny_bind (wpAny_holding (wpAny_call_entry slot_list_sort ⟨_, hoL, rfl⟩ entry_list_sort (list_sort_treeK strKind_oneLt hoL hS.keysOf (fun v₁ v₂ rest e => keyKind_strs (by rw [← e]; exact hS)) (by omega) fun st' a1 a2 => ⟨_, rfl, ?_⟩) (args_list_sort _)))
  obtain ⟨ys, y1, y2, y3⟩ := sorted_out_str hS a1 a2
  obtain ⟨c, hc⟩ := sortedHeap_at (vs := vs) (out := (arrOf st').map (·.2)) hoL
  have py : ys.Perm (es.toList.map elName) := y2.trans pk
  refine wpAny_pure ⟨_, rfl, hQ _ s1.heap.objs.size _ c ys (fun b u e => ?_) g1 o1 hz hc y1 y3 (py.nodup_iff.mpr nd) (fun x => by rw [py.mem_iff, ← hm x]) ?_⟩
  · have q := k1 b u e
    have lt := Heap.lt_size q
    show (sortedHeap (s1.heap.push (seqObj "list" vs.toArray 0)) s1.heap.objs.size vs _).get? b = some u
    rw [sortedHeap_old (Nat.ne_of_lt lt) (by rw [size_push']; exact Nat.lt_succ_of_lt lt)]; exact Heap.get?_push_of_some _ q
  · rw [py.length_eq, List.length_map, Array.length_toList]; exact hb
end

/-! ### over the layer -/
def TxS (w : World) (a : Addr) (ks : List Str) (n : Nat) : HO := .ext fun h => TSet w h a ks n
theorem to_ok {w : World} {P : Program} {H : Hp} {h : Heap} {a : Addr} {ks : List Str} {n : Nat} (R : TSet w h a ks n) : ObjOk P w H h a (TxS w a ks n) :=
  let ⟨o, _, _, _, ⟨ho, _⟩, _⟩ := R
  ⟨R, ⟨o, ho⟩, fun h1 h2 p k => TSet.stay p k⟩
section
variable {X : Cx}
theorem to_get {pins : List (Addr × Obj)} {σ : L2.St} {H : Hp} {s : Shared} {a : Addr} {ks : List Str} {n : Nat} (I : Inv X pins σ H s) (ha : H a = some (TxS X.w a ks n)) : TSet X.w s.heap a ks n := (I.hok a _ ha).1
theorem to_add {pins : List (Addr × Obj)} {σ : L2.St} {H : Hp} {s : Shared} {E : Value → Shared → Prop} {D : Addr} {ks : List Str} {n : Nat} {x : Str} {tk : Tok} {Q : Value → Shared → Prop} (I : Inv X pins σ H s) (hD : H D = some (TxS X.w D ks n)) (room : n + 1 < scanBound)
    (h : ∀ s', Inv X pins σ (upd H D (TxS X.w D (ks ++ [x]) (n + 1))) s' → Q .none s') : wpAny (model X.prog X.w) X.A (call (.builtin "set.add") [.ref D, .str x tk]) Q E s := by
  refine addText (to_get I hD) room fun h' sb new => h _ ?_
  have he : ∃ u, h'.get? D = some u := let ⟨o, _, _, _, ⟨ho, _⟩, _⟩ := new; ⟨o, ho⟩
  exact I.write (e := D) (t' := s.toks + 1) (by rw [hD]; trivial) (.inl rfl) (fun b u hb hu => (sb.2 b hb).trans hu) he (to_ok new)
/-- sorted(s), s a set of texts -/
def rSortTO (w : World) : List V → Hp → VK → Prop := fun vs H Q => ∃ (a : Addr) (ks : List Str) (n : Nat), vs = [V.ref a] ∧ H a = some (TxS w a ks n) ∧ n < 64 ∧
  ∀ (ys : List Str) (p : Addr), sortedS ys = true → ys.Nodup → (∀ x, x ∈ ys ↔ x ∈ ks) → ys.length ≤ n → H p = none → Q (.ref p) (upd H p (.lst (ys.map V.str)))
theorem cr_sortTO (hc : X.calm = true) : CallR X (.builtin "sorted") (rSortTO X.w) := by
  intro pins s σ H vs us Q I r h
  obtain ⟨a, ks, n, rfl, ha, few, q⟩ := h
  rw [Vals.ref1 r]
  refine sortedSet (to_get I ha) (I.ok.hd hc) few fun s' p out c ys k g o hp hg hi h1 h2 h3 h4 => ?_
  have lz : (ys.map V.str).length ≤ sizeLine := by rw [List.length_map, sizeLine_eq]; omega
  have hn : H p = none := I.hok.fresh hp
  have J : Inv X pins σ (upd H p (.lst (ys.map V.str))) { s with heap := s'.heap, gens := s'.gens, drawn := s'.drawn, toks := s'.toks } :=
    I.call (ch := []) (Un.laid k hp hn) (I.hok.laid k hp ⟨lz, out.toList, c, vals_of_strs hi, hg⟩) (by rw [g]; exact I.bare) (fun _ z => nomatch z)
  have e : s' = { s with heap := s'.heap, gens := s'.gens, drawn := s'.drawn, toks := s'.toks } := by cases s'; cases s; cases o; rfl
  rw [e]
  exact ⟨.ref p, _, J, rfl, q ys p h1 h2 h3 h4 hn⟩
end
end Sx
end
/-! Sc -/
section
set_option Elab.async false
set_option linter.all false
set_option maxRecDepth 100000
set_option maxHeartbeats 2000000
/-! {e for .. in .. if ..} of texts. -/
namespace Sx
open PySem PySem.Spec PyProof.Rows L2
section
variable {X : Cx}
/-- what a turn does with the member that it made -/
def kAdd (w : World) (D : Addr) (Nx : Hp → Prop) : VK := fun y H => ∃ (z : Str) (ks : List Str) (n : Nat), y = .str z ∧ H D = some (TxS w D ks n) ∧ n + 1 < scanBound ∧ Nx (upd H D (TxS w D (ks ++ [z]) (n + 1)))
def turnOf (w : World) (g : TG) (tt : TT) (te : TE) (vs : List Nat) (σ : L2.St) (D : Addr) (Nx : Hp → Prop) : V → Hp → Prop := fun x H => g x (wipe σ vs) H fun σ2 H2 => wipe σ2 vs = wipe σ vs ∧ tt σ2 H2 fun b H3 => if b = true then te σ2 H3 (kAdd w D Nx) else Nx H3
def tSs (w : World) (wi : TI) (g : TG) (tt : TT) (te : TE) (vs : List Nat) : TE := fun σ H Q => wi σ H fun J H1 => ∀ D, H1 D = none → ∃ W : Nat → Nat → Hp → Prop, (∃ m, W 0 m (upd H1 D (TxS w D [] 0))) ∧
  ∀ i m H, W i m H → (J.stop i H ∧ Q (.ref D) H) ∨ (J.go i H ∧ ∃ Nx : Hp → Prop, (∀ H', Nx H' → ∃ m', m' < m ∧ W (i + 1) m' H') ∧ ∀ x H', J.yld i H x H' → turnOf w g tt te vs σ D Nx x H')
theorem pe_ss {elt tg iter : Expr} {ifs : List Expr} {scope : Scope} {own : List (PySem.Str × Nat)} {pos : Pos} {wi : TI} {g : TG} {tt : TT} {te : TE} (hc : X.calm = true) (hN : X.N.Nodup) (hi : PI X tg iter wi) (ok : BlkOk X.N X.env.scope scope own)
    (hg : ∀ (s : Shared) (H : Hp) (C : Addr) (cl : List (PySem.Str × Addr)) (fp : List Addr), PG (X.blk s H scope (compEnvC scope cl C X.env) fp) tg g)
    (ht : ∀ (s : Shared) (H : Hp) (C : Addr) (cl : List (PySem.Str × Addr)) (fp : List Addr), PTs (X.blk s H scope (compEnvC scope cl C X.env) fp) ifs tt)
    (he : ∀ (s : Shared) (H : Hp) (C : Addr) (cl : List (PySem.Str × Addr)) (fp : List Addr), PE (X.blk s H scope (compEnvC scope cl C X.env) fp) elt te)
    (hs : ∀ x, foldedSetIterable iter X.env x = pure x := by intro _; rfl) : PE X (.SetComp elt [⟨tg, iter, ifs, 0⟩] scope pos) (tSs X.w wi g tt te (own.map (·.2))) := by
  refine ⟨fun pins s σ H Q I h => ?_⟩
  rw [PpSet.eval_SetComp]
  have frees : ∀ y ∈ scope.names, y.2 = .free → ∃ c, X.env.cells.lookup y.1 = some c := fun y hy e => I.ok.has _ ((ok.free y hy e).imp id id)
  refine wpAny_comprehension_free rfl hs (closure_ok frees) ok.kind (fun y hy e => by rw [ok.uniq y hy, e]) (thn (hi.run pins s σ H _ I h) fun xv s1 hx => thn hx fun itv s2 h2 => ?_)
  obtain ⟨it, fp, tn, J, H2, rfl, I2, T, st2, f2, q⟩ := h2
  refine PpSet.newSet_ok (newEnv_comp ?_)
  generalize hD : s2.heap.objs.size = D
  generalize ho : ({ cls := .type "set", dict := none, data := .set #[] 0 (.fresh 0 0 (!X.w.params.followText "set-order")) } : Obj) = oD
  obtain ⟨W, ⟨m0, w0⟩, turn⟩ := q D (I2.hok.fresh (Nat.le_of_eq hD))
  generalize hs3 : ({ s2 with heap := s2.heap.push oD } : Shared) = s3
  have e3 : s3.heap = s2.heap.push oD := by rw [← hs3]
  have I3 : Inv X pins σ (upd H2 D (TxS X.w D [] 0)) s3 := by
    rw [← hs3]
    refine I2.laid (t' := s2.toks) (fun b o e => Heap.get?_push_of_some _ e) (Nat.le_of_eq hD) (to_ok ?_)
    rw [← hD, ← ho]; exact emptySet X.w s2.heap
  have lt : ∀ b ∈ fp, b < s2.heap.objs.size := fun b hb => let ⟨o, e, _⟩ := T.obj _ _ st2 b hb; Heap.lt_size e
  have f3 : ∀ b ∈ fp, FpOk X pins (upd H2 D (TxS X.w D [] 0)) b ∧ b < s3.heap.objs.size := fun b hb => by
    refine ⟨⟨(upd_ne (by rw [← hD]; exact Nat.ne_of_lt (lt b hb))).trans (f2 b hb).1, (f2 b hb).2⟩, ?_⟩
    rw [e3, Heap.size_push]; exact Nat.lt_succ_of_lt (lt b hb)
  have st3 : tn 0 s3.heap := T.keep _ _ _ st2 fun b _ o e => by rw [e3]; exact Heap.get?_push_of_some _ e
  have I4 := block_start I3 ok hN f3
  generalize hcl : cellsFrom (s3.heap.objs.size + 1) scope.names (cloFrom X.env.cells scope.names []) = cl at I4 ⊢
  have pg := hg s3 (upd H2 D (TxS X.w D [] 0)) s3.heap.objs.size cl fp
  have pt := ht s3 (upd H2 D (TxS X.w D [] 0)) s3.heap.objs.size cl fp
  have pe := he s3 (upd H2 D (TxS X.w D [] 0)) s3.heap.objs.size cl fp
  show codeAny _ _ (.compStart (.SetComp elt [⟨tg, iter, ifs, 0⟩] scope pos) 0 (.ref it) (.ref D) (compEnvC scope cl s3.heap.objs.size X.env)) (compPost (model X.prog X.w) X.A X.xe none (EP X pins σ Q) (.ref D) s3.heap.objs.size)
    { s3 with heap := pushCells (s3.heap.push { cls := .type "dict", data := .dict #[] }) scope.names }
  generalize hce : compEnvC scope cl s3.heap.objs.size X.env = ce at I4 pg pt pe ⊢
  have loc : ce.locals = s3.heap.objs.size := by subst hce; rfl
  generalize hH3 : upd H2 D (TxS X.w D [] 0) = H3 at I3 I4 pg pt pe w0 f3
  generalize hs4 : ({ s3 with heap := pushCells (s3.heap.push { cls := .type "dict", data := .dict #[] }) scope.names } : Shared) = s4 at I4 ⊢
  have st4 : tn 0 s4.heap := T.keep _ _ _ st3 fun b _ o e => by rw [← hs4]; exact pushCells_keeps _ _ _ _ (Heap.get?_push_of_some _ e)
  generalize hY : X.blk s3 H3 scope ce fp = Y at I4 pg pt pe
  have yA : Y.A = X.A := by subst hY; rfl
  have still : ∀ {σ' : L2.St} {H' : Hp} {s' : Shared}, Inv Y [] σ' H' s' → (∀ b ∈ fp, H' b = none) → ∀ b ∈ fp, FpOk Y [] H' b := fun {σ' H' s'} I' hn b hb => by
    subst hY
    exact ⟨hn b hb, (I'.ok.exf b hb).1, I'.ok.exfs b hb, .inl hb, fun x c e => (I'.ok.exf b hb).2 x c e, fun p hp => absurd (show p ∈ ([] : List (Addr × Obj)) ++ [] from hp) (by simp)⟩
  have loop : codeAny (model X.prog X.w) X.A (.compLoop (.SetComp elt [⟨tg, iter, ifs, 0⟩] scope pos) 0 (.ref it) (.ref D) ce) (compPost (model X.prog X.w) X.A X.xe none (EP X pins σ Q) (.ref D) s3.heap.objs.size) s4 := by
    refine PpSet.compLoopS_any (fun n s' => ∃ i H', Inv Y [] (wipe σ (own.map (·.2))) H' s' ∧ tn i s'.heap ∧ (∀ b ∈ fp, H' b = none) ∧ W i n H') ?_ m0 ⟨0, H3, I4, st4, fun b hb => (f3 b hb).1.1, w0⟩
    rintro n s5 ⟨i, H5, I5, st5, n5, w5⟩
    rcases turn i n H5 w5 with ⟨stop, qq⟩ | ⟨go, Nx, hNx, step⟩
    · have td := T.done Y (by subst hY; rfl) (by subst hY; rfl) (by subst hY; rfl) (by subst hY; exact hc) i [] s5 _ H5 (fun _ _ => False) I5 (still I5 n5) st5 stop
      rw [yA] at td
      subst hY
      refine thnF td fun r s6 ⟨hr, I6⟩ => ?_
      subst hr
      have I7 : Inv X pins σ H5 s6 := I3.call' (ch := fp) I6.os I6.base I6.hok I6.bare fun b hb => let z := (f3 b hb).1.2; ⟨z.2.2.1, z.1, z.2.2.2.1, z.2.2.2.2⟩
      have nC : H5 s3.heap.objs.size = none := by rw [← loc]; exact I6.free
      obtain ⟨m, hn, _⟩ := I6.loc
      have hn : s6.heap.Ns ce.locals m := hn
      rw [loc] at hn
      refine ⟨m, hn, fun h'' sb => ?_⟩
      obtain ⟨f0, f1, f2, f3, f4, f5⟩ := I3.fpOk (Nat.le_refl _) nC
      exact ⟨.ref D, H5, I7.turned (t' := s6.toks) (fun b o hb e => (sb.2 b hb).trans e) f0 f1 f3 f4 f5, rfl, qq⟩
    · have ti := T.item Y (by subst hY; rfl) (by subst hY; rfl) (by subst hY; rfl) (by subst hY; exact hc) i [] s5 _ H5 (fun _ _ => False) I5 (still I5 n5) st5 go
      rw [yA] at ti
      subst hY
      refine thnF ti fun r s6 ⟨u, hr, h6⟩ => ?_
      subst hr
      refine thnF h6 fun _ s7 ⟨x, H7, I7, r7, y7, st7, n7⟩ => ?_
      have I8 := I7.pinned (still I7 n7) (T.obj _ _ st7)
      refine thnF (pg.run _ s7 _ H7 x u _ I8 r7 (step x H7 y7)) fun _ s8 ⟨σ8, H8, I9, hw8, q8⟩ => ?_
      refine thnF (pt.run _ s8 σ8 H8 _ I9 q8) fun b s9 ⟨H9, I10, q9⟩ => ?_
      have nxt : ∀ {s' : Shared} {H' : Hp}, Inv (X.blk s3 H3 scope ce fp) ([] ++ pinsAt fp s7.heap) σ8 H' s' → Nx H' → ∃ m, m < n ∧ ∃ i H', Inv (X.blk s3 H3 scope ce fp) [] (wipe σ (own.map (·.2))) H' s' ∧ tn i s'.heap ∧ (∀ b ∈ fp, H' b = none) ∧ W i m H' := fun {s' H'} I' nx => by
        obtain ⟨m', hm, w'⟩ := hNx H' nx
        have pinned : ∀ b ∈ fp, ∀ o, s7.heap.get? b = some o → s'.heap.get? b = some o ∧ H' b = none := fun b hb o e => by
          have z := I'.pin (b, o) (List.mem_append_right _ (List.mem_append_right _ (mem_pinsAt hb e)))
          exact ⟨z.1, z.2.1⟩
        have hl : (wipe σ (own.map (·.2))).length = σ8.length := by rw [← hw8, wipe_length]
        have wk := (I'.unpinned (pins := [])).weak hl fun j v e => by rw [← hw8] at e; exact (wipe_some e).1
        refine ⟨m', hm, i + 1, H', wk, T.keep _ _ _ st7 fun b hb o e => (pinned b hb o e).1, fun b hb => ?_, w'⟩
        obtain ⟨o, e, _⟩ := T.obj _ _ st7 b hb
        exact (pinned b hb o e).2
      cases b with
      | false => simp only [Bool.false_eq_true, if_false] at q9 ⊢; exact nxt I10 q9
      | true =>
        simp only [if_true] at q9 ⊢
        refine thnF (pe.run _ s9 σ8 H9 _ I10 q9) fun z s10 ⟨yv, H10, I11, r10, zt, ks, n0, ey, hD10, room, nx⟩ => ?_
        subst ey
        obtain ⟨tk, rfl⟩ := (show ∃ t, z = Value.str zt t from r10)
        exact to_add (X := X.blk s3 H3 scope ce fp) I11 hD10 room fun s11 I12 => nxt I12 nx
  exact PpSet.codeAny_compStart_set loop (T.self X.A 0 _ _ _ st4 loop)
end
/-- over a tuple that the block leaves as it is: the invariant Pv i says what stands when i items are gone through -/
theorem ss_tup {w : World} {K : PySem.W.Frag} {a : Addr} {xs : List V} {g : TG} {tt : TT} {te : TE} {vs : List Nat} {σ : L2.St} {H1 : Hp} {D : Addr} {Qd : Hp → Prop} (Pv : Nat → Hp → Prop)
    (h0 : Pv 0 (upd H1 D (TxS w D [] 0))) (hl : ∀ i H, i ≤ xs.length → Pv i H → SqT K H a xs) (hs : ∀ i x H, xs[i]? = some x → Pv i H → turnOf w g tt te vs σ D (Pv (i + 1)) x H) (hd : ∀ H, Pv xs.length H → Qd H) :
    ∃ W : Nat → Nat → Hp → Prop, (∃ m, W 0 m (upd H1 D (TxS w D [] 0))) ∧ ∀ i m H, W i m H → ((Itt K a).stop i H ∧ Qd H) ∨
      ((Itt K a).go i H ∧ ∃ Nx : Hp → Prop, (∀ H', Nx H' → ∃ m', m' < m ∧ W (i + 1) m' H') ∧ ∀ x H', (Itt K a).yld i H x H' → turnOf w g tt te vs σ D Nx x H') := by
  refine ⟨fun i m H => (m = xs.length - i ∧ i ≤ xs.length) ∧ Pv i H, ⟨xs.length, ⟨by simp, Nat.zero_le _⟩, h0⟩, ?_⟩
  rintro i m H ⟨⟨rfl, hi⟩, p⟩
  have q := hl i H hi p
  by_cases lt : i < xs.length
  · refine .inr ⟨⟨xs, xs[i], q, by simp [lt]⟩, Pv (i + 1), fun H' p' => ⟨xs.length - (i + 1), by omega, ⟨rfl, lt⟩, p'⟩, ?_⟩
    rintro x H' ⟨rfl, y⟩
    exact hs i x _ (y xs q) p
  · obtain rfl : i = xs.length := by omega
    exact .inl ⟨⟨xs, q, Nat.le_refl _⟩, hd H p⟩
end Sx
end
/-! Dl -/
section
set_option Elab.async false
set_option linter.all false
set_option maxRecDepth 100000
set_option maxHeartbeats 2000000
/-! del xs[a:] -/
namespace Sx
open PySem PySem.Spec PyProof.Rows L2
/-- what is left when the places from k on are taken out -/
theorem keep_front (p : Nat → Bool) (k : Nat) : ∀ (xs : List Value) (i : Nat), (∀ j, j < i + xs.length → (p j = true ↔ i + k ≤ j) ∨ j < i) →
    ((xs.zipIdx i).filterMap fun x => if p x.2 = true then none else some x.1) = xs.take k
  | [], i, _ => by simp
  | x :: xs, i, h => by
    rw [List.zipIdx_cons, List.filterMap_cons]
    have h0 := (h i (by simp)).resolve_right (Nat.lt_irrefl _)
    cases k with
    | zero =>
      have hp : p i = true := h0.2 (by omega)
      simp only [hp, if_true, List.take_zero]
      refine (keep_front p 0 xs (i + 1) fun j hj => ?_).trans (by simp)
      rcases h j (by simp only [List.length_cons]; omega) with z | z
      · by_cases c : j < i + 1
        · exact .inr c
        · refine .inl (z.trans ?_); omega
      · exact .inr (by omega)
    | succ k =>
      have hp : p i = false := by
        cases q : p i with
        | false => rfl
        | true => have := h0.1 q; omega
      simp only [hp, Bool.false_eq_true, if_false, List.take_succ_cons]
      congr 1
      refine keep_front p k xs (i + 1) fun j hj => ?_
      rcases h j (by simp only [List.length_cons]; omega) with z | z
      · by_cases c : j < i + 1
        · exact .inr c
        · refine .inl (z.trans ?_); omega
      · exact .inr (by omega)
def back (a c : Int) (j : Nat) : Bool := decide (c < (j : Int)) && decide ((j : Int) ≤ a) && (a - (j : Int)) % (-1) == 0
def gone (a c : Int) (j : Nat) : Bool := if (1 : Int) > 0 then decide (a ≤ (j : Int)) && decide ((j : Int) < c) && ((j : Int) - a) % 1 == 0 else back a c j
section
variable {prog : Program} {w : World} {A : Around} {E : Value → Shared → Prop} {s : Shared}
theorem delItem_tail {l sl : Addr} {items : Array Value} {n : Nat} {vl : Value} {lo : Option Int} {Q : Unit → Shared → Prop} (e : s.heap.get? l = some { cls := .type "list", data := .seq items n })
    (hs : s.heap.IsSliceOf sl vl .none .none) (pl : IsPart vl lo) (hsz : items.size ≤ sizeLine)
    (h : ∀ f : Array Value → Array Value, f items = (items.toList.take (HT.sIx items.size 0 lo)).toArray → Q () { s with heap := s.heap.update l (Obj.mapSeq f) }) : wpAny (model prog w) A (delItem (.ref l) (.ref sl)) Q E s := by
  have hl : s.heap.IsList l items := PySem.IsL.isList e
  obtain ⟨os, hos, hcs, hds⟩ := id hs
  have hTs : s.TypeIs (.ref sl) "slice" := ⟨os, hos, hcs⟩
  refine wpAny_delItem_slot hl.typeIs (by decide) F.slot_list_delitem (wpAny_call_entry F.slot_list_delitem hl.typeIs F.entry_list_delitem ?_ (F.args_list_delitem_2 _ _))
  obtain ⟨b1, b2, b3⟩ := slice_bounds lo none items.size
  have hle : HT.sIx items.size 0 lo ≤ items.size := HT.sIx_le _ _ (Nat.zero_le _) _
  have hend : HT.sIx items.size items.size none = items.size := rfl
  rw [hend] at b2
  generalize hk : HT.sIx items.size 0 lo = k at b1 hle h
  have hb : sliceBounds lo none none items.size = ((k : Int), (items.size : Int), 1) := by
    rw [← b1, ← b2, ← b3]
  show wpAny _ _ (Builtin.List.listSubscript? (.ref sl) >>= _) _ _ s
  refine wpAny_bind ?_
  unfold Builtin.List.listSubscript?; refine wpAny_bind (wpAny_specialOf hTs slice_no_index ?_)
  simp only [Option.isNone_none, if_true]; refine wpAny_pure ?_
  show wpAny _ _ (typeOf (.ref sl) >>= _) _ _ s
  refine wpAny_bind (wpAny_typeOf hTs ?_)
  first | rw [if_neg (by decide)] | refine PySem.W.KFB.if_not (by decide) ?_
  rw [listSliceParts_eq]
  refine wpAny_bind (wpAny_bind (wpAny_field hos hds (x := .none) rfl (wpAny_bind (wpAny_listPart .none ?_))))
  rw [if_neg (show ¬ ((rawPart none == rawInt 0) = true) from Bool.false_ne_true)]
  refine wpAny_bind (wpAny_field hos hds (x := vl) rfl (wpAny_bind (wpAny_listPart pl ?_)))
  refine wpAny_bind (wpAny_field hos hds (x := .none) rfl (wpAny_bind (wpAny_listPart .none (wpAny_pure ?_))))
  unfold Builtin.List.listItems
  refine wpAny_bind (wpAny_bind (wpAny_seqItems e rfl (wpAny_pure ?_)))
  refine wpAny_bind (wpAny_of_eq ((sliceIndices_raw lo none none items.size (by simp)).trans (congrArg (pure : Int × Int × Int → Sem (Int × Int × Int)) hb)) ?_)
  refine wpAny_bind (wpAny_rule ?_)
  have hf : ∀ p : Nat → Bool, (∀ j, j < items.size → (p j = true ↔ k ≤ j)) → (items.toList.zipIdx.filterMap fun x => if p x.2 = true then none else some x.1).toArray = (items.toList.take k).toArray := fun p hp => by
    rw [keep_front p k items.toList 0 fun j hj => .inl ((hp j (by simpa using hj)).trans (by omega))]
  have sel : ∀ (start stop step : Int) (b : Nat → Bool), step = 1 → start = (k : Int) → stop = (items.size : Int) → ∀ j, j < items.size → (((if step > 0 then decide (start ≤ (j : Int)) && decide ((j : Int) < stop) && ((j : Int) - start) % step == 0 else b j) = true) ↔ k ≤ j) := by
    rintro _ _ _ b rfl rfl rfl j hj
    have e1 : ((j : Int) - (k : Int)) % 1 = 0 := Int.emod_one _
    rw [if_pos (by decide), e1]
    simp only [Bool.and_eq_true, decide_eq_true_eq, beq_self_eq_true, and_true]
    omega
  have len : ∀ p : Nat → Bool, (∀ j, j < items.size → (p j = true ↔ k ≤ j)) → (items.toList.zipIdx.filterMap fun x => if p x.2 = true then none else some x.1).toArray.size ≤ sizeLine + 1 := fun p hp => by
    rw [hf p hp, List.size_toArray, List.length_take, Array.length_toList]
    omega
  refine wpAny_bind (wpAny_updateSeq (hz := hsz) (_hz' := ?_) e rfl (wpAny_bind (wpAny_letGo (wpAny_pure ⟨_, rfl, h _ ?_⟩))))
  · exact hf (gone (k : Int) (items.size : Int)) fun j hj => sel _ _ _ (back (k : Int) (items.size : Int)) rfl rfl rfl j hj
  · exact len (gone (k : Int) (items.size : Int)) fun j hj => sel _ _ _ (back (k : Int) (items.size : Int)) rfl rfl rfl j hj
end
section
variable {X : Cx}
/-- del o[lo:] of a list -/
def tDelT (to : TE) (tl : TO) : TS := fun D σ H => to σ H fun x H1 => tl σ H1 fun lo H2 => ∃ (l : Addr) (xs : List V), x = .ref l ∧ H2 l = some (.lst xs) ∧ D.nx σ (upd H2 l (.lst (xs.take (HT.sIx xs.length 0 lo))))
theorem ps_delT {o : Expr} {lo : Option Expr} {to : TE} {tl : TO} {tpos p2 pos : Pos} (ho : PE X o to) (hl : PO X lo tl) : PS X (.Delete [.Subscript o (.Slice lo none none p2) tpos] pos) (tDelT to tl) := by
  refine ⟨fun pins s σ H D I h => ?_⟩
  refine wpAny_Delete (wpAny_deleteEach_cons (wpAny_delete_Subscript (thn (ho.run pins s σ H _ I h) fun u s1 ⟨x, H1, I1, rx, q1⟩ => ?_)))
  refine wpAny_Slice (thn (hl.run pins s1 σ H1 _ I1 q1) fun vl s2 ⟨lo', H2, I2, pl, q2⟩ => ?_)
  refine wpAny_evalPart_none (wpAny_evalPart_none ?_)
  obtain ⟨l, xs, rfl, hH, q⟩ := q2
  cases (show u = Value.ref l from rx)
  have I4 : Inv X pins σ H2 { s2 with heap := s2.heap.push { cls := .type "slice", data := .fields #[vl, .none, .none] } } := I2.kept (t' := s2.toks) fun b ob q => Heap.get?_push_of_some _ q
  obtain ⟨z, its, n, r, hlen, e⟩ := I4.lstM hH
  refine delItem_tail e ⟨_, Heap.get?_push_size _ rfl, rfl, rfl⟩ pl (by rw [List.size_toArray]; omega) fun f hf => wpAny_deleteEach_nil ⟨σ, _, ?_, q⟩
  refine I4.lset (its' := its.take (HT.sIx xs.length 0 lo')) (t' := s2.toks) hH e ?_ (r.take _) ?_
  · rw [hf, List.size_toArray, ← hlen]
  · rw [List.length_take]; omega
end
end Sx
end
/-! Rl -/
section
set_option Elab.async false
set_option linter.all false
set_option maxRecDepth 100000
set_option maxHeartbeats 2000000
/-! A few rules more: xs[i] op= e, a written dict of texts asked. -/
namespace Sx
open PySem PySem.Spec PyProof.Rows L2
/-- the written dict at p: its texts and values, in order -/
def KD (K : PySem.W.Frag) (w : World) (p : Addr) (kvs : List (Str × V)) : Prop := ∃ es n, K.lookup p = some ⟨.type "dict", none, .dict es n, #[]⟩ ∧ PySem.W.KeysLit w.params es.toList ∧ (p == sysModules) = false ∧
  Paired (fun (kv : Str × V) (e : DictEntry) => (∃ t, e.key = .str kv.1 t) ∧ RelV kv.2 e.val) kvs es.toList
def lookD (kvs : List (Str × V)) (z : Str) : Option V := (kvs.find? fun kv => decide (kv.1 = z)).map (·.2)
theorem kd_find (z : Str) : ∀ {kvs : List (Str × V)} {es : List DictEntry}, Paired (fun (kv : Str × V) (e : DictEntry) => (∃ t, e.key = .str kv.1 t) ∧ RelV kv.2 e.val) kvs es →
    RelO (lookD kvs z) ((es.find? fun e => Value.isStrOf z e.key).map (·.val))
  | _, _, .nil => True.intro
  | kv :: kvs, e :: es, .cons ⟨⟨t, h1⟩, h2⟩ r => by
    have ih := kd_find z r
    have q : Value.isStrOf z e.key = decide (kv.1 = z) := by
      rw [h1]
      by_cases c : kv.1 = z
      · rw [decide_eq_true c, ← c]; simp [Value.isStrOf]
      · rw [decide_eq_false c]
        cases d : Value.isStrOf z (.str kv.1 t) with
        | false => rfl
        | true => obtain ⟨u, d⟩ := Value.isStrOf_shape d; injection d with d; exact absurd d c
    unfold lookD at ih ⊢
    rw [List.find?_cons, List.find?_cons, q]
    cases decide (kv.1 = z) with
    | true => exact h2
    | false => exact ih
def rInKD (K : PySem.W.Frag) (w : World) : R2 := fun x y H Q => ∃ (p : Addr) (z : Str) (kvs : List (Str × V)), y = .ref p ∧ x = .str z ∧ KD K w p kvs ∧ Q (.bl (lookD kvs z).isSome) H
def rIxKD (K : PySem.W.Frag) (w : World) : R2 := fun x y H Q => ∃ (p : Addr) (z : Str) (kvs : List (Str × V)) (v : V), x = .ref p ∧ y = .str z ∧ KD K w p kvs ∧ lookD kvs z = some v ∧ Q v H
section
variable {X : Cx}
theorem op_inKD : OpR X (compareOp .In) (rInKD X.K X.w) := by
  intro pins s σ H x y v u Q I rx ry h
  obtain ⟨p, z, kvs, rfl, rfl, ⟨es, n, hl, hk, low, hp⟩, q⟩ := h
  obtain rfl : u = Value.ref p := ry
  obtain ⟨t, rfl⟩ := rx
  have hm := PySem.W.mapOf_K (prog := X.prog) (w := X.w) I.kIn hl hk
  have f := kd_find z hp
  refine wpAny_in_of (strKind_is X.prog X.w z t) low hm ⟨.bl _, H, I.tok _, rfl, ?_⟩
  have e : (findBy Value.isStrOf es z).isSome = (lookD kvs z).isSome := by
    obtain ⟨l⟩ := es
    unfold findBy
    rw [List.find?_toArray]
    cases a : lookD kvs z with
    | none => rw [a] at f; cases b : (l.find? fun e => Value.isStrOf z e.key).map (·.val) with | none => rfl | some r => rw [b] at f; exact f.elim
    | some r => rw [a] at f; cases b : (l.find? fun e => Value.isStrOf z e.key).map (·.val) with | none => rw [b] at f; exact f.elim | some r => rfl
  rw [e]; exact q
theorem ix_KD : IxR X (rIxKD X.K X.w) := by
  intro value slice pins s σ H x y v u Q I rx ry h hs
  obtain ⟨p, z, kvs, r, rfl, rfl, ⟨es, n, hl, hk, low, hp⟩, e, q⟩ := h
  obtain rfl : v = Value.ref p := rx
  obtain ⟨t, rfl⟩ := ry
  have hm := PySem.W.mapOf_K (prog := X.prog) (w := X.w) I.kIn hl hk
  have f := kd_find z hp
  rw [e] at f
  cases b : (es.toList.find? fun e => Value.isStrOf z e.key).map (·.val) with
  | none => rw [b] at f; exact f.elim
  | some u0 =>
    rw [b] at f
    have g : findBy Value.isStrOf es z = some u0 := by obtain ⟨l⟩ := es; unfold findBy; rw [List.find?_toArray]; exact b
    exact tail_any hm.typeIs slot_dict_getitem.lookup (wpAny_getItem_of (strKind_is X.prog X.w z t) hm g ⟨r, H, I.tok _, f, q⟩) hs
/-- the read of xs[i] op= e -/
theorem pget_list : PGet X (rIxL X.K) := by
  intro pins s σ H o i ov iv Q I ro ri h
  obtain ⟨p, xs, k, z, rfl, rfl, hq, he, q⟩ := h
  cases ro
  obtain ⟨t, rfl⟩ := ri
  obtain ⟨its, r, pl, hz⟩ := I.list hq
  obtain ⟨j, h1, h2, h3, h4, h5⟩ := atI_get he
  obtain ⟨w, ew, rw'⟩ := r.get h2
  have hl := r.length
  have hn := line63
  have fin : EP X pins σ Q w s := ⟨z, H, I, rw', q⟩
  by_cases h0 : 0 ≤ k
  · rw [seqIndex_of h0 h5] at h1
    exact wpAny_getItem_list pl.isList h0 (by omega) (by rw [Option.some.inj h1]; simpa using ew) fin
  · rw [seqIndex_neg (by omega) h4] at h1
    have e : (k + (its.toArray.size : Int)).toNat = j := by rw [List.size_toArray, ← hl]; exact Option.some.inj h1
    exact wpAny_getItem_list_neg pl.isList (by omega) (by rw [List.size_toArray] <;> omega) (by omega) (by rw [e]; simpa using ew) fin
end
end Sx
end
/-! E5 -/
section
set_option Elab.async false
set_option linter.all false
set_option maxRecDepth 100000
set_option maxHeartbeats 1000000
namespace Ev
open PySem L2
open SX (S)
theorem _root_.L2.PS.imp {X : Cx} {e : Stmt} {t t' : TS} (h : PS X e t) (i : ∀ D σ H, t' D σ H → t D σ H) : PS X e t' := ⟨fun pins s σ H D I q => h.run pins s σ H D I (i _ _ _ q)⟩
theorem _root_.L2.PSs.imp {X : Cx} {e : List Stmt} {t t' : TS} (h : PSs X e t) (i : ∀ D σ H, t' D σ H → t D σ H) : PSs X e t' := ⟨fun pins s σ H D I q => h.run pins s σ H D I (i _ _ _ q)⟩
/-- a result at the end of statements -/
def RQ (K : PySem.W.Frag) (cA : Nat → Addr) (G : Addr → Prop) (ρ : Env) (σ : St) (H : Hp) (ρ' : Env) (σ' : St) (H' : Hp) (r : RV) (v : V) : Prop := match r with
  | .d d => ER K cA G σ' H' ρ' ∧ Rep K cA (AvO G ρ' σ') H' d v
  | .f m => ∃ p, v = .ref p ∧ ER K cA (plus G p) σ' H' ρ' ∧ RepM K cA (AvO (plus G p) ρ' σ') H' m p ∧ (∀ o u, H' p ≠ some (.frz o u)) ∧ ¬ AvO G ρ' σ' p ∧ (Fre ρ σ p ∨ H p = none)
  | .p _ => False
def GoF (K : PySem.W.Frag) (cA : Nat → Addr) (G : Addr → Prop) (ρ : Env) (σ : St) (H : Hp) (f : Flow) (ρ' : Env) (D : Ends) : Prop := match f with
  | .nx => ∀ σ' H', ER K cA G σ' H' ρ' → Step ρ σ H ρ' σ' H' → D.nx σ' H'
  | .bk => ∀ σ' H', ER K cA G σ' H' ρ' → Step ρ σ H ρ' σ' H' → D.bk σ' H'
  | .ct => ∀ σ' H', ER K cA G σ' H' ρ' → Step ρ σ H ρ' σ' H' → D.ct σ' H'
  | .rt r => ∀ v σ' H', RQ K cA G ρ σ H ρ' σ' H' r v → Step ρ σ H ρ' σ' H' → D.rt v H'
def tS (K : PySem.W.Frag) (cA : Nat → Addr) (C : Cn) (s : IS) : TS := fun D σ H => ∃ G ρ f ρ', ER K cA G σ H ρ ∧ evS C s ρ = .ok f ρ' ∧ GoF K cA G ρ σ H f ρ' D
def tB (K : PySem.W.Frag) (cA : Nat → Addr) (C : Cn) (b : List IS) : TS := fun D σ H => ∃ G ρ f ρ', ER K cA G σ H ρ ∧ evB C b ρ = .ok f ρ' ∧ GoF K cA G ρ σ H f ρ' D
section
variable {K : PySem.W.Frag} {cA : Nat → Addr} {G : Addr → Prop} {ρ ρ1 ρ2 : Env} {σ σ1 σ2 : St} {H H1 H2 : Hp}
theorem rq_back {r : RV} {v : V} (st : Step ρ σ H ρ1 σ1 H1) (h : RQ K cA G ρ1 σ1 H1 ρ2 σ2 H2 r v) : RQ K cA G ρ σ H ρ2 σ2 H2 r v := by
  cases r with
  | d d => exact h
  | p i => exact h
  | f m =>
    obtain ⟨p, h1, h2, h3, h4, h5, h6⟩ := h
    refine ⟨p, h1, h2, h3, h4, h5, ?_⟩
    rcases h6 with h6 | h6
    · exact st.fre p h6
    · refine .inr ?_
      cases q : H p with
      | none => rfl
      | some o => exact absurd h6 (st.dom p (some_ne q))
theorem rq_of {r : RV} {v : V} (ok : rvOk r = true) (h : RR K cA G ρ σ H ρ1 H1 r v) : RQ K cA G ρ σ H ρ1 σ H1 r v := by
  cases r with
  | d d => exact h
  | p i => cases ok
  | f m => exact h
theorem go_back {f : Flow} {D : Ends} (st : Step ρ σ H ρ1 σ1 H1) (h : GoF K cA G ρ σ H f ρ2 D) : GoF K cA G ρ1 σ1 H1 f ρ2 D := by
  cases f with
  | nx => exact fun σ' H' e s => h σ' H' e (st.trans s)
  | bk => exact fun σ' H' e s => h σ' H' e (st.trans s)
  | ct => exact fun σ' H' e s => h σ' H' e (st.trans s)
  | rt r => exact fun v σ' H' e s => h v σ' H' (rq_back st e) (st.trans s)
/-- a value comes into a name -/
theorem put_name {i : Nat} {r : RV} {v : V} {ρ' : Env} (rr : RR K cA G ρ σ H ρ1 H1 r v) (st : Step ρ σ H ρ1 σ H1) (e : putE ρ1 i r = some ρ') : ER K cA G (σ.set i (some v)) H1 ρ' ∧ Step ρ σ H ρ' (σ.set i (some v)) H1 := by
  have hh := rr.hold
  cases r with
  | d d =>
    simp only [putE] at e
    split at e <;> cases e
    rename_i hp
    obtain ⟨a, b⟩ := er_put rr.er (by simpa using hp) hh
    exact ⟨a, st.trans b⟩
  | f m =>
    simp only [putE] at e
    split at e <;> cases e
    rename_i hp
    obtain ⟨a, b⟩ := er_put rr.er (by simpa using hp) hh
    exact ⟨a, st.trans b⟩
  | p i => cases e
theorem put_own {i : Nat} {r : RV} {v : V} {ρ' : Env} (rr : RR K cA G ρ σ H ρ1 H1 r v) (st : Step ρ σ H ρ1 σ H1) (e : putO ρ1 i r = some ρ') : ER K cA G (σ.set i (some v)) H1 ρ' ∧ Step ρ σ H ρ' (σ.set i (some v)) H1 := by
  cases r with
  | d d => cases e
  | p i => cases e
  | f m =>
    simp only [putO] at e
    split at e <;> cases e
    rename_i hp
    obtain ⟨p, rfl, er, rm, nf, na, nw⟩ := rr
    by_cases hl : i < ρ1.length
    · obtain ⟨h1, h2, h3, h4, h5⟩ := er_putO er (by simpa using hp) rm nf (fun z => na (.inl z)) hl
      refine ⟨h1, ⟨st.keep, fun b z => ?_, fun b z => ?_, fun j hj => ?_, st.dom, fun j m1 p1 g => ?_⟩⟩
      · rcases h2 b z with z | z
        · exact st.own b z
        · rw [z]; exact nw.imp (fun z => z.ow) id
      · rcases h3 b z with z | z
        · exact st.fre b z
        · rw [z]; exact nw
      · obtain ⟨a1, a2⟩ := st.pin j hj
        obtain ⟨b1, b2⟩ := h4 j a1
        exact ⟨b1, b2.trans a2⟩
      · obtain ⟨m0, p0, g0, e0⟩ := h5 j m1 p1 g
        obtain ⟨m2, p2, g2, e2⟩ := st.lkd j m0 p0 g0
        exact ⟨m2, p2, g2, e0.trans e2⟩
    · have e1 : setE ρ1 i (.own m false false) = ρ1 := setE_ge (by omega)
      have e2 : σ.set i (some (V.ref p)) = σ := List.set_eq_of_length_le (by have := er.len; omega)
      rw [e1, e2]
      exact ⟨er.less, st⟩
end
section
variable {X : Cx} {cA : Nat → Addr} {C : Cn}
theorem b_nil : PSs X [] (tB X.K cA C []) := pss_nil.imp fun D σ H ⟨G, ρ, f, ρ', er, e, q⟩ => by
  rw [evB] at e
  cases e
  exact q σ H er (Step.refl _ _ _)
theorem b_cons {s : Stmt} {ss : List Stmt} {is : IS} {iss : List IS} (h1 : PS X s (tS X.K cA C is)) (h2 : PSs X ss (tB X.K cA C iss)) : PSs X (s :: ss) (tB X.K cA C (is :: iss)) := (pss_cons h1 h2).imp fun D σ H ⟨G, ρ, f, ρ', er, e, q⟩ => by
  rw [evB] at e
  obtain ⟨f1, ρ1, e1, e⟩ := Out.bind_inv e
  refine ⟨G, ρ, f1, ρ1, er, e1, ?_⟩
  cases f1 with
  | nx =>
    intro σ1 H1 er1 st
    exact ⟨G, ρ1, f, ρ', er1, e, go_back st q⟩
  | bk =>
    cases e
    exact q
  | ct =>
    cases e
    exact q
  | rt r =>
    cases e
    exact q
theorem st_asg {s : Stmt} {i : Nat} {ie : IE} {te : TE} (h : PS X s (tAsg te (gName i))) (ht : ∀ σ H Q, tI X.K cA C ie σ H Q → te σ H Q) : PS X s (tS X.K cA C (.asg i ie)) := h.imp fun D σ H ⟨G, ρ, f, ρ', er, e, q⟩ => by
  rw [evS] at e
  obtain ⟨r, ρ1, e1, e⟩ := Out.bind_inv e
  obtain ⟨ρ2, ρ3, e2, e⟩ := Out.bind_inv e
  obtain ⟨e3, e4⟩ := Out.of_inv e2
  cases e
  exact ht _ _ _ ⟨G, ρ, r, ρ1, er, e1, fun v H1 rr st => by
    obtain ⟨a, b⟩ := put_name rr st e3
    exact q _ H1 a b⟩
theorem st_asgO {s : Stmt} {i : Nat} {ie : IE} {te : TE} (h : PS X s (tAsg te (gName i))) (ht : ∀ σ H Q, tI X.K cA C ie σ H Q → te σ H Q) : PS X s (tS X.K cA C (.asgO i ie)) := h.imp fun D σ H ⟨G, ρ, f, ρ', er, e, q⟩ => by
  rw [evS] at e
  obtain ⟨r, ρ1, e1, e⟩ := Out.bind_inv e
  obtain ⟨ρ2, ρ3, e2, e⟩ := Out.bind_inv e
  obtain ⟨e3, e4⟩ := Out.of_inv e2
  cases e
  exact ht _ _ _ ⟨G, ρ, r, ρ1, er, e1, fun v H1 rr st => by
    obtain ⟨a, b⟩ := put_own rr st e3
    exact q _ H1 a b⟩
theorem st_unp {s : Stmt} {tg : Tg} {ie : IE} (h : PS X s (tAsg (tI X.K cA C ie) (tGt X.K cA tg))) : PS X s (tS X.K cA C (.unp tg ie)) := h.imp fun D σ H ⟨G, ρ, f, ρ', er, e, q⟩ => by
  rw [evS] at e
  obtain ⟨r, ρ1, e1, e⟩ := Out.bind_inv e
  obtain ⟨ρ2, ρ3, e2, e⟩ := Out.bind_inv e
  obtain ⟨e3, e4⟩ := Out.of_inv e2
  cases e
  obtain ⟨d, hd, hb⟩ := Option.bind_eq_some_iff.mp e3
  exact ⟨G, ρ, r, ρ1, er, e1, fun v H1 rr st => ⟨G, ρ1, d, _, rr.er, rr.dat hd, hb, fun σ' er' st' _ => q σ' H1 er' (st.trans st')⟩⟩
theorem st_ex {e : Expr} {ie : IE} {pos : Pos} (h : PE X e (tI X.K cA C ie)) (hs : swapsWith e none pos.line X.env = pure false) : PS X (.Expr e pos) (tS X.K cA C (.ex ie)) := (ps_expr h hs).imp fun D σ H ⟨G, ρ, f, ρ', er, e, q⟩ => by
  rw [evS] at e
  obtain ⟨r, ρ1, e1, e⟩ := Out.bind_inv e
  cases e
  exact ⟨G, ρ, r, _, er, e1, fun v H1 rr st => q σ H1 rr.er st⟩
theorem st_ret {e : Expr} {ie : IE} {pos : Pos} (h : PE X e (tI X.K cA C ie)) : PS X (.Return (some e) pos) (tS X.K cA C (.ret ie)) := (ps_ret h).imp fun D σ H ⟨G, ρ, f, ρ', er, e, q⟩ => by
  rw [evS] at e
  obtain ⟨r, ρ1, e1, e⟩ := Out.bind_inv e
  split at e <;> cases e
  rename_i ok
  exact ⟨G, ρ, r, _, er, e1, fun v H1 rr st => q v σ H1 (rq_of ok rr) st⟩
theorem st_retN {pos : Pos} : PS X (.Return none pos) (tS X.K cA C .retN) := ps_retN.imp fun D σ H ⟨G, ρ, f, ρ', er, e, q⟩ => by
  rw [evS] at e
  cases e
  exact q .non σ H ⟨er, by rw [Rep]⟩ (Step.refl _ _ _)
theorem st_cont {pos : Pos} : PS X (.Continue pos) (tS X.K cA C .cont) := ps_continue.imp fun D σ H ⟨G, ρ, f, ρ', er, e, q⟩ => by
  rw [evS] at e
  cases e
  exact q σ H er (Step.refl _ _ _)
theorem st_brk {pos : Pos} : PS X (.Break pos) (tS X.K cA C .brk) := ps_break.imp fun D σ H ⟨G, ρ, f, ρ', er, e, q⟩ => by
  rw [evS] at e
  cases e
  exact q σ H er (Step.refl _ _ _)
theorem st_pass {s : Stmt} (h : PS X s tNext) : PS X s (tS X.K cA C .pass) := h.imp fun D σ H ⟨G, ρ, f, ρ', er, e, q⟩ => by
  rw [evS] at e
  cases e
  exact q σ H er (Step.refl _ _ _)
theorem st_iff {c : Expr} {a b : List Stmt} {ic : IE} {ia ib : List IS} {pos : Pos} (hc : PT X c (tT X.K cA C ic)) (ha : PSs X a (tB X.K cA C ia)) (hb : PSs X b (tB X.K cA C ib)) : PS X (.If c a b pos) (tS X.K cA C (.iff ic ia ib)) := (ps_if hc ha hb).imp fun D σ H ⟨G, ρ, f, ρ', er, e, q⟩ => by
  rw [evS] at e
  obtain ⟨x, ρ1, e1, e⟩ := Out.bind_inv e
  split at e
  · rename_i hb
    cases blOf_inv hb
    exact ⟨G, ρ, _, ρ1, er, e1, fun H1 er1 st => iteT ⟨G, ρ1, f, ρ', er1, e, go_back st q⟩⟩
  · rename_i hb
    cases blOf_inv hb
    exact ⟨G, ρ, _, ρ1, er, e1, fun H1 er1 st => iteF ⟨G, ρ1, f, ρ', er1, e, go_back st q⟩⟩
  · cases e
/-! ### loops -/
theorem st_whl {c : Expr} {body : List Stmt} {ic : IE} {ib : List IS} {pos : Pos} (hp : PassesOwn (model X.prog X.w) X.A X.env X.xe) (hc : PT X c (tT X.K cA C ic)) (hb : PSs X body (tB X.K cA C ib)) : PS X (.While c body [] pos) (tS X.K cA C (.whl ic ib)) := (ps_while hp hc hb).imp fun D σ H ⟨G, ρ, f, ρ', er, e, q⟩ => by
  rw [evS] at e
  refine ⟨fun m σ' H' => ∃ ρi, ER X.K cA G σ' H' ρi ∧ evWhl (ev C ic) (evB C ib) m ρi = .ok f ρ' ∧ GoF X.K cA G ρi σ' H' f ρ' D, ⟨C.W, ρ, er, e, q⟩, ?_⟩
  rintro m σ1 H1 ⟨ρi, eri, run, qi⟩
  cases m with
  | zero => cases run
  | succ m =>
    rw [evWhl] at run
    obtain ⟨x, ρ1, e1, run⟩ := Out.bind_inv run
    split at run
    · rename_i hb
      cases blOf_inv hb
      obtain ⟨f1, ρ2, e2, run⟩ := Out.bind_inv run
      refine ⟨G, ρi, _, ρ1, eri, e1, fun H2 er2 st => iteT ⟨fun σ' H' => ∃ m', m' < m + 1 ∧ ∃ ρi, ER X.K cA G σ' H' ρi ∧ evWhl (ev C ic) (evB C ib) m' ρi = .ok f ρ' ∧ GoF X.K cA G ρi σ' H' f ρ' D, fun _ _ h => h, G, ρ1, f1, ρ2, er2, e2, ?_⟩⟩
      have q1 := go_back st qi
      cases f1 with
      | nx => exact fun σ3 H3 er3 st3 => ⟨m, Nat.lt_succ_self _, ρ2, er3, run, go_back st3 q1⟩
      | ct => exact fun σ3 H3 er3 st3 => ⟨m, Nat.lt_succ_self _, ρ2, er3, run, go_back st3 q1⟩
      | bk =>
        cases run
        exact q1
      | rt r =>
        cases run
        exact q1
    · rename_i hb
      cases blOf_inv hb
      cases run
      exact ⟨G, ρi, _, _, eri, e1, fun H2 er2 st => iteF (qi σ1 H2 er2 st)⟩
    · cases run
/-- a loop over whatever walks -/
def tForG (K : PySem.W.Frag) (cA : Nat → Addr) (C : Cn) (itg : Tg) (ib : List IS) (wi : TI) : TS := fun D σ H => wi σ H fun J H1 => ∃ G ρ1 ds Good f ρ2, ER K cA G σ H1 ρ1 ∧ Wk K cA G ρ1 σ H1 J ds Good ∧
  evFor (fun d ρ => (Out.of ρ (bindT itg d ρ)).bind fun ρ _ => evB C ib ρ) ds ρ1 = .ok f ρ2 ∧ GoF K cA G ρ1 σ H1 f ρ2 D
theorem _root_.L2.PI.mono' {X : Cx} {tg e : Expr} {t : TI} (h : PI X tg e t) : PI X tg e t := h
theorem st_for_core {tg iter : Expr} {body : List Stmt} {itg : Tg} {wi : TI} {ib : List IS} {pos : Pos} (hp : PassesOwn (model X.prog X.w) X.A X.env X.xe) (hc : X.calm = true) (hm : ∀ {σ : St} {H : Hp} {R R' : It → Hp → Prop}, (∀ J H', R J H' → R' J H') → wi σ H R → wi σ H R') (hi : PI X tg iter wi) (hg : PG X tg (tGt X.K cA itg)) (hb : PSs X body (tB X.K cA C ib))
    (hs : ∀ x, foldedSetIterable iter X.env x = pure x) : PS X (.For tg iter body [] pos) (tForG X.K cA C itg ib wi) := (ps_for hp hc hi hg hb hs).imp fun D σ H h => hm (fun J H1 ⟨G, ρ1, ds, Good, f, ρ2, er1, wk, e2, fin1⟩ => by
    refine ⟨fun i m σ' H' => m + i = ds.length ∧ ∃ ρi, ER X.K cA G σ' H' ρi ∧ Good G ρi σ' H' ∧ evFor (fun d ρ => (Out.of ρ (bindT itg d ρ)).bind fun ρ _ => evB C ib ρ) (ds.drop i) ρi = .ok f ρ2 ∧ GoF X.K cA G ρi σ' H' f ρ2 D, ⟨ds.length, rfl, ρ1, er1, wk.start, by rw [List.drop_zero]; exact e2, fin1⟩, ?_⟩
    rintro i m σ1 H2 ⟨hm, ρi, eri, good, run, qi⟩
    by_cases hi : i < ds.length
    · right
      have hdrop : ds.drop i = ds[i] :: ds.drop (i + 1) := List.drop_eq_getElem_cons hi
      rw [hdrop, evFor] at run
      obtain ⟨f3, ρ3, e3, run⟩ := Out.bind_inv run
      obtain ⟨ρb, ρb', eb, e4⟩ := Out.bind_inv e3
      obtain ⟨eb1, eb2⟩ := Out.of_inv eb
      refine ⟨wk.go i _ _ _ _ good hi, fun σ' H' => ∃ m', m' < m ∧ (m' + (i + 1) = ds.length ∧ ∃ ρi, ER X.K cA G σ' H' ρi ∧ Good G ρi σ' H' ∧ evFor (fun d ρ => (Out.of ρ (bindT itg d ρ)).bind fun ρ _ => evB C ib ρ) (ds.drop (i + 1)) ρi = .ok f ρ2 ∧ GoF X.K cA G ρi σ' H' f ρ2 D), fun _ _ h => h, fun w H3 hy => ?_⟩
      obtain ⟨d, hd, hcase⟩ := wk.yld i _ _ _ _ w H3 hi good hy
      have hd' : d = ds[i] := by rw [List.getElem?_eq_getElem hi] at hd; exact (Option.some.inj hd).symm
      have item : ER X.K cA G σ1 H3 ρi ∧ Step ρi σ1 H2 ρi σ1 H3 ∧ Rep X.K cA (AvO G ρi σ1) H3 d w := by
        rcases hcase with ⟨rfl, rd⟩ | ⟨T, ys, es, nT, rfl, rfl, rfl, res, l⟩
        · exact ⟨eri, Step.refl _ _ _, rd⟩
        · refine ⟨eri.grow nT, Step.upd nT, ?_⟩
          rw [Rep]
          exact ⟨T, ys, rfl, l, .inl ⟨eri.nav nT, .inl upd_same⟩, Reps.tr (tr_upd nT) _ _ res⟩
      obtain ⟨er3, st3, rd⟩ := item
      rw [hd'] at rd
      refine ⟨G, ρi, _, ρb, er3, rd, eb1, fun σ2 er4 st4 _ => ⟨G, ρb, f3, ρ3, er4, e4, ?_⟩⟩
      have st24 := st3.trans st4
      have q4 := go_back st24 qi
      have next : ∀ σ5 H5, ER X.K cA G σ5 H5 ρ3 → Step ρb σ2 H3 ρ3 σ5 H5 → evFor (fun d ρ => (Out.of ρ (bindT itg d ρ)).bind fun ρ _ => evB C ib ρ) (ds.drop (i + 1)) ρ3 = .ok f ρ2 → ∃ m', m' < m ∧ (m' + (i + 1) = ds.length ∧ ∃ ρi, ER X.K cA G σ5 H5 ρi ∧ Good G ρi σ5 H5 ∧ evFor (fun d ρ => (Out.of ρ (bindT itg d ρ)).bind fun ρ _ => evB C ib ρ) (ds.drop (i + 1)) ρi = .ok f ρ2 ∧ GoF X.K cA G ρi σ5 H5 f ρ2 D) := fun σ5 H5 er5 st5 run' =>
        ⟨m - 1, by omega, by omega, ρ3, er5, wk.on _ _ _ _ _ _ _ _ good (st24.trans st5) fun b z => .inl z, run', go_back st5 q4⟩
      cases f3 with
      | nx => exact fun σ5 H5 er5 st5 => next σ5 H5 er5 st5 run
      | ct => exact fun σ5 H5 er5 st5 => next σ5 H5 er5 st5 run
      | bk =>
        cases run
        exact q4
      | rt r =>
        cases run
        exact q4
    · left
      have hdrop : ds.drop i = [] := List.drop_eq_nil_of_le (by omega)
      rw [hdrop, evFor] at run
      cases run
      exact ⟨wk.stop i _ _ _ _ good (by omega), qi σ1 H2 eri (Step.refl _ _ _)⟩) h
/-- what is wanted, ahead of the lock's end -/
theorem go_unlk {K : PySem.W.Frag} {G : Addr → Prop} {ρ ρL ρ2 : Env} {σ : St} {H : Hp} {lk : Option Nat} {f : Flow} {D : Ends} (er : ER K cA G σ H ρ) (hL : lockE ρ lk = some ρL) (q : GoF K cA G ρ σ H f (unlockE ρ2 lk) D) : GoF K cA G ρL σ H f ρ2 D := by
  cases f with
  | nx => exact fun σ' H' e s => q σ' H' (er_unlock er hL s e) (unlock_step hL s)
  | bk => exact fun σ' H' e s => q σ' H' (er_unlock er hL s e) (unlock_step hL s)
  | ct => exact fun σ' H' e s => q σ' H' (er_unlock er hL s e) (unlock_step hL s)
  | rt r =>
    refine fun v σ' H' rq s => q v σ' H' ?_ (unlock_step hL s)
    have t : ∀ {G : Addr → Prop}, Tr (AvO G ρ2 σ') (AvO G (unlockE ρ2 lk) σ') H' H' := fun {G} b n _ => ⟨fun z => n (unlock_av.mp z), .inl rfl⟩
    cases r with
    | d d => exact ⟨er_unlock er hL s rq.1, rq.2.tr t⟩
    | p i => exact rq.elim
    | f m =>
      obtain ⟨p, h1, h2, h3, h4, h5, h6⟩ := rq
      refine ⟨p, h1, er_unlock er hL s h2, h3.tr t (.inl rfl), h4, fun z => h5 (unlock_av.mp z), ?_⟩
      rcases h6 with h6 | h6
      · refine .inl ?_
        cases lk with
        | none => cases hL; exact h6
        | some i =>
          obtain ⟨m0, pn, g, rfl⟩ := lock_inv hL
          obtain ⟨j, m1, p1, gj, qj⟩ := h6
          rw [gt_set (gt_lt g (by intro z; cases z))] at gj
          split at gj
          · cases gj
          · exact ⟨j, m1, p1, gj, qj⟩
      · exact .inr h6
theorem st_for {tg iter : Expr} {body : List Stmt} {itg : Tg} {iit : IE} {lk : Option Nat} {ib : List IS} {pos : Pos} (hp : PassesOwn (model X.prog X.w) X.A X.env X.xe) (hc : X.calm = true) (hi : PI X tg iter (tP X.K cA C iit)) (hg : PG X tg (tGt X.K cA itg)) (hb : PSs X body (tB X.K cA C ib))
    (hs : ∀ x, foldedSetIterable iter X.env x = pure x) : PS X (.For tg iter body [] pos) (tS X.K cA C (.for_ itg iit lk ib)) := (st_for_core (wi := tP X.K cA C iit) (C := C) hp hc (fun m h => tP_mono m h) hi hg hb hs).imp fun D σ H ⟨G, ρ, f, ρ', er, e, q⟩ => by
  rw [evS] at e
  split at e <;> first | (cases e; done) | skip
  rename_i ρL hL
  obtain ⟨x, ρ1, e1, e⟩ := Out.bind_inv e
  split at e <;> first | (cases e; done) | skip
  rename_i ds hw
  obtain ⟨f2, ρ2, e2, e⟩ := Out.bind_inv e
  cases e
  have erL := er_lock er hL
  refine ⟨G, ρL, x, ρ1, ds, erL, e1, hw, fun J H1 Good er1 st1 wk => ?_⟩
  have fin : GoF X.K cA G ρL σ H f ρ2 D := go_unlk er hL q
  have fin1 := go_back st1 fin
  exact ⟨G, ρ1, ds, Good, f, ρ2, er1, wk, e2, fin1⟩
end
end Ev
end
/-! E6 -/
section
set_option Elab.async false
set_option linter.all false
set_option maxRecDepth 100000
set_option maxHeartbeats 1000000
namespace Ev
open PySem L2
open SX (S)
section
variable {X : Cx} {cA : Nat → Addr} {C : Cn}
theorem isL_own {i : Nat} {K : PySem.W.Frag} {G : Addr → Prop} {ρ : Env} {σ : St} {H : Hp} (er : ER K cA G σ H ρ) (h : isL ρ i = true) : ∃ a vs, σ[i]? = some (some (.ref a)) ∧ Rd H a (.lst vs) := by
  obtain ⟨ds, p, l, g⟩ := isL_inv h
  obtain ⟨a, ha, _, ⟨vs, _, r, _⟩, _⟩ := er.own i _ _ _ g
  exact ⟨a, vs, ha, r⟩
theorem isO_own {i : Nat} {K : PySem.W.Frag} {G : Addr → Prop} {ρ : Env} {σ : St} {H : Hp} (er : ER K cA G σ H ρ) (h : isO ρ i = true) : ∃ a, σ[i]? = some (some (.ref a)) := by
  unfold isO at h
  split at h
  · rename_i m p l g
    obtain ⟨a, ha, _⟩ := er.own i m p l g
    exact ⟨a, ha⟩
  · cases h
theorem st_app {i : Nat} {x : Str} {ie : IE} {a0 : Expr} {p apos cpos pos : Pos} (h : PE X (.Name x p) (tVar i)) (ha0 : PE X a0 (tI X.K cA C ie)) (hn : nonStar a0 = true) (hl : (apos.endLine == cpos.line) = true) :
    PS X (.Expr (.Call (.Attribute (.Name x p) "append" apos) [a0] [] cpos) pos) (tS X.K cA C (.app i ie)) :=
  (ps_expr (m_bm PySem.F.plainAttrs_list PySem.F.slot_list_append PySem.F.type_list_append mt_append h (pa_cons ha0 pa_nil (star1 hn)) rfl (by unfold nst; simp [hn]) (by decide : (1 : Nat) < 20) hl) (swaps_of rfl)).imp fun D σ H ⟨G, ρ, f, ρ', er, e, q⟩ => by
    rw [evS] at e
    split at e <;> first | (cases e; done) | skip
    rename_i hL
    obtain ⟨a, vs0, ha, r0⟩ := isL_own er hL
    obtain ⟨r, ρ1, e1, e⟩ := Out.bind_inv e
    split at e <;> first | (cases e; done) | skip
    rename_i d ds pin hd g
    split at e <;> cases e
    rename_i hz
    refine ⟨_, ha, .inl ⟨rfl, _, .inl r0⟩, G, ρ, r, ρ1, er, e1, fun v H1 rr st => ?_⟩
    obtain ⟨a1, vs, ha1, l, hH, rp⟩ := own_lst rr.er g
    rw [ha] at ha1
    cases ha1
    obtain ⟨er2, st2⟩ := upd_lst rr.er g ha (rp.append (Reps.cons (rr.dat hd) Reps.nil)) (by rw [List.length_append]; exact hz)
    exact ⟨a, vs, v, rfl, rfl, hH, by rw [rp.length, ← SZ_line]; exact hz, q σ _ er2 (st.trans st2)⟩
def rExtR : V → List V → Hp → VK → Prop := fun x vs H Q => ∃ l b xs zs, x = .ref l ∧ vs = [.ref b] ∧ H l = some (.lst xs) ∧ Rd H b (.lst zs) ∧ xs.length + zs.length ≤ sizeLine ∧ Q .non (upd H l (.lst (xs ++ zs)))
theorem mt_extR : MtM X "list.extend" rExtR := by
  intro pins s σ H x vs v us Q I rx rv h
  obtain ⟨l, b, xs, zs, rfl, rfl, hH, hB, hz, q⟩ := h
  cases rx
  obtain ⟨u, rfl, ru⟩ := rv.one
  cases ru
  obtain ⟨z, its, n, r, hl, e⟩ := I.lstM hH
  obtain ⟨its2, n2, r2, e2, z2⟩ := rd_list I hB
  have hl2 := r2.length
  have hsz : its.toArray.size + its2.toArray.size ≤ sizeLine := by rw [List.size_toArray, List.size_toArray]; omega
  have hlong : ¬ (!its.toArray.isEmpty && Builtin.List.listTooLong (its.toArray.size + its2.toArray.size)) = true := by
    rw [notLongL hsz, Bool.and_false]
    exact Bool.false_ne_true
  refine call_meets F.slot_list_extend ⟨_, e, rfl⟩ F.entry_list_extend (F.args_list_extend_2 _ _)
    (AutoSeq1.list_extend_list_list_0 l its.toArray n b its2.toArray n2 hlong (by rw [List.size_toArray]; omega) (by omega)) ⟨e, e2, ?_⟩
  refine ⟨.non, _, I.lset (its' := its ++ its2) hH e (by simp) (r.append r2) ?_, rfl, q⟩
  rw [List.length_append]
  omega
theorem st_ext {i : Nat} {x : Str} {ie : IE} {a0 : Expr} {p apos cpos pos : Pos} (h : PE X (.Name x p) (tVar i)) (ha0 : PE X a0 (tI X.K cA C ie)) (hn : nonStar a0 = true) (hl : (apos.endLine == cpos.line) = true) :
    PS X (.Expr (.Call (.Attribute (.Name x p) "extend" apos) [a0] [] cpos) pos) (tS X.K cA C (.ext i ie)) :=
  (ps_expr (m_bm PySem.F.plainAttrs_list PySem.F.slot_list_extend PySem.F.type_list_extend mt_extR h (pa_cons ha0 pa_nil (star1 hn)) rfl (by unfold nst; simp [hn]) (by decide : (1 : Nat) < 20) hl) (swaps_of rfl)).imp fun D σ H ⟨G, ρ, f, ρ', er, e, q⟩ => by
    rw [evS] at e
    split at e <;> first | (cases e; done) | skip
    rename_i hL
    obtain ⟨a, vs0, ha, r0⟩ := isL_own er hL
    obtain ⟨r, ρ1, e1, e⟩ := Out.bind_inv e
    split at e <;> first | (cases e; done) | skip
    rename_i xs ds pin hd g
    split at e <;> cases e
    rename_i hz
    refine ⟨_, ha, .inl ⟨rfl, _, .inl r0⟩, G, ρ, r, ρ1, er, e1, fun v H1 rr st => ?_⟩
    obtain ⟨a1, vs, ha1, l, hH, rp⟩ := own_lst rr.er g
    rw [ha] at ha1
    cases ha1
    have rd := rr.dat hd
    rw [Rep] at rd
    obtain ⟨b, zs, rfl, l2, nb, rb, rq⟩ := rd
    obtain ⟨er2, st2⟩ := upd_lst rr.er g ha (rp.append rq) (by rw [List.length_append]; exact hz)
    exact ⟨a, b, vs, zs, rfl, rfl, hH, rb, by rw [rp.length, rq.length, ← SZ_line]; exact hz, q σ _ er2 (st.trans st2)⟩
def rUpdR : V → List V → Hp → VK → Prop := fun x vs H Q => ∃ (d o : Addr) (ks ms : List (Key × V)), x = .ref d ∧ vs = [.ref o] ∧ d ≠ o ∧ H d = some (.dK ks) ∧ Rd H o (.dK ms) ∧ ks.length + ms.length ≤ sizeLine ∧ Q .non (upd H d (.dK (L2.mergeK ks ms)))
theorem mt_updR : MtM X "dict.update" rUpdR := by
  intro pins s σ H x vs v us Q I rx rv h
  obtain ⟨d, o, ks, ms, rfl, rfl, hdo, hd, ho, hz, q⟩ := h
  cases rx
  obtain ⟨u, rfl, ru⟩ := rv.one
  cases ru
  obtain ⟨z, hs, vs, rel, dd⟩ := dk_of I.hok hd
  obtain ⟨z2, hs2, vs2, rel2, dd2⟩ := dk_rd I.hok ho
  refine call_meetsIn PySem.F.slot_dict_update dd.typeIs PySem.F.entry_dict_update (PySem.F.args_dict_update_2 _ _) (meets_dict_update (mixKind X.prog X.w) d o hdo hs2) ⟨vs, vs2, dd, dd2, by rw [← rel.length, ← rel2.length]; exact hz, fun h' dd' _ sb => ?_⟩
  have he : ∃ q, h'.get? d = some q := let ⟨q, _, _, hq, _⟩ := dd'; ⟨q, hq⟩
  exact ⟨.non, _, d_write (t' := s.toks) I (by rw [hd]; exact True.intro) sb he (dk_new (Nat.le_trans (length_mergeK ms ks) hz) hs (KV.merge rel2 rel) dd'), rfl, q⟩
theorem st_upd {i : Nat} {x : Str} {ie : IE} {a0 : Expr} {p apos cpos pos : Pos} (h : PE X (.Name x p) (tVar i)) (ha0 : PE X a0 (tI X.K cA C ie)) (hn : nonStar a0 = true) (hl : (apos.endLine == cpos.line) = true) :
    PS X (.Expr (.Call (.Attribute (.Name x p) "update" apos) [a0] [] cpos) pos) (tS X.K cA C (.upd i ie)) :=
  (ps_expr (m_bm PySem.F.plainAttrs_dict PySem.F.slot_dict_update PySem.F.type_dict_update mt_updR h (pa_cons ha0 pa_nil (star1 hn)) rfl (by unfold nst; simp [hn]) (by decide : (1 : Nat) < 20) hl) (swaps_of rfl)).imp fun D σ H ⟨G, ρ, f, ρ', er, e, q⟩ => by
    rw [evS] at e
    split at e <;> first | (cases e; done) | skip
    rename_i hL
    obtain ⟨r, ρ1, e1, e⟩ := Out.bind_inv e
    split at e <;> first | (cases e; done) | skip
    rename_i xs ds pin hd g
    split at e <;> cases e
    rename_i hz
    obtain ⟨ds0, p0, g0⟩ := isDc_inv hL
    obtain ⟨a, vs0, ha, hH0, _⟩ := own_dct er g0
    refine ⟨_, ha, .inr (.inr (.inl ⟨rfl, .inl ⟨_, hH0⟩⟩)), G, ρ, r, ρ1, er, e1, fun v H1 rr st => ?_⟩
    obtain ⟨a1, vs, ha1, hH, rp⟩ := own_dct rr.er g
    rw [ha] at ha1
    cases ha1
    have rd := rr.dat hd
    rw [Rep] at rd
    obtain ⟨b, zs, rfl, nb, rb, rq⟩ := rd
    have ne : a ≠ b := fun z => nb (by rw [← z]; exact .inr ⟨i, _, _, _, g, ha⟩)
    obtain ⟨er2, st2⟩ := upd_dct rr.er g ha (repk_merge rp rq)
    exact ⟨a, b, vs, zs, rfl, rfl, ne, hH, rb, by rw [Repk.length rp, Repk.length rq, ← SZ_line]; exact hz, q σ _ er2 (st.trans st2)⟩
/-! ### stores to a place -/
def rSetA (K : PySem.W.Frag) (cA : Nat → Addr) : V → V → V → Hp → (Hp → Prop) → Prop := fun o k v H Q =>
  (rSetL o k v H Q) ∨ ∃ a H', o = .ref a ∧ DPut H a k v H' ∧ Q H'
theorem set_any (hu : X.A.units + 66 < cLine) : PSet X (rSetA X.K cA) := by
  intro pins s σ H o i v ov iv u Q I ro ri rv h
  rcases h with h | ⟨a, H', rfl, g, q⟩
  · exact set_list pins s σ H o i v ov iv u Q I ro ri rv h
  · cases ro
    exact d_setItem (by omega) I g ri rv fun s4 I4 => ⟨H', I4, q⟩
theorem assign_sub {o k : Expr} {p' : Pos} {env : PySem.Env} (hn : nonSl k = true) : ∀ v, assign (.Subscript o k p') env v = (do let ov ← holding [v] (eval o env); let iv ← holding [v, ov] (eval k env); standAt p'; holding [v, ov, iv] (setItem ov iv v); release [v, ov, iv] []) := fun v => by
  cases k <;> first | (cases hn; done) | rfl
theorem st_setI {i : Nat} {x : Str} {ik ie : IE} {k e : Expr} {p p' pos : Pos} (hu : X.A.units + 66 < cLine) (h : PE X (.Name x p) (tVar i)) (hk : PE X k (tI X.K cA C ik)) (he : PE X e (tI X.K cA C ie))
    (hs : swapsWithSole [.Subscript (.Name x p) k p'] e pos.line X.env = pure false) (hw : swappedStores [.Subscript (.Name x p) k p'] e X.env = pure none) (h1 : (assignEach [.Subscript (.Name x p) k p'] X.env).map (·.2) = [assign (.Subscript (.Name x p) k p') X.env]) (hn : nonSl k = true) :
    PS X (.Assign [.Subscript (.Name x p) k p'] e pos) (tS X.K cA C (.setI i ik ie)) :=
  (ps_asg he (pg_sub h hk (set_any (cA := cA) hu) (assign_sub hn)) hs hw h1).imp fun D σ H ⟨G, ρ, f, ρ', er, e, q⟩ => by
    rw [evS] at e
    obtain ⟨r, ρ1, e1, e⟩ := Out.bind_inv e
    split at e <;> first | (cases e; done) | skip
    rename_i hO
    obtain ⟨y, ρ2, e2, e⟩ := Out.bind_inv e
    refine ⟨G, ρ, r, ρ1, er, e1, fun v H1 rr st => ?_⟩
    obtain ⟨a, ha⟩ := isO_own rr.er hO
    refine ⟨_, ha, G, ρ1, y, ρ2, rr.er, e2, fun w H2 rr2 st2 => ?_⟩
    split at e
    · rename_i d j ds pin hd g
      split at e <;> first | (cases e; done) | skip
      rename_i n hn
      cases e
      obtain ⟨er2, rfl⟩ := rr_int rr2
      obtain ⟨a1, vs, ha1, l, hH, rp⟩ := own_lst er2 g
      rw [ha] at ha1
      cases ha1
      obtain ⟨er3, st3⟩ := upd_lst er2 g ha (rp.set (step_rep st2 (rr.dat hd)) n) (by rw [List.length_set]; exact l)
      exact .inl ⟨a, vs, j, n, rfl, rfl, hH, by rw [rp.length]; exact hn, q σ _ er3 ((st.trans st2).trans st3)⟩
    · rename_i d xx kvs pin _ hd g
      split at e <;> first | (cases e; done) | skip
      rename_i kk hkk
      split at e <;> first | (cases e; done) | skip
      rename_i hz
      cases e
      obtain ⟨a1, vs, ha1, hH, rp⟩ := own_dct rr2.er g
      rw [ha] at ha1
      cases ha1
      cases rep_in hkk rr2.2.l
      obtain ⟨er3, st3⟩ := upd_dct rr2.er g ha (repk_put (k := kk) (step_rep st2 (rr.dat hd)) rp)
      exact .inr ⟨a, _, rfl, DPut.k hH (by rw [Repk.length rp, ← SZ_line]; exact hz), q σ _ er3 ((st.trans st2).trans st3)⟩
    · cases e
theorem st_aug {i : Nat} {x : Str} {neg : Bool} {ie : IE} {e : Expr} {p pos : Pos} (hN : X.N.Nodup) (hi : X.N[i]? = some x) (hx : Loc X.env.scope x) (he : PE X e (tI X.K cA C ie)) (hf : X.fn x = true ∨ X.env.scope.names.lookup x = some .local) :
    PS X (.AugAssign (.Name x p) (if neg then .Sub else .Add) e pos) (tS X.K cA C (.aug neg i ie)) := by
  have key : PS X (.AugAssign (.Name x p) (if neg then .Sub else .Add) e pos) (tAug i (tI X.K cA C ie) (ipI fun a b => if neg then a - b else a + b)) := by
    cases neg with
    | true => exact ps_aug hN hi hx he ip_sub hf
    | false => exact ps_aug hN hi hx he ip_add hf
  refine key.imp fun D σ H ⟨G, ρ, f, ρ', er, e, q⟩ => ?_
  rw [evS] at e
  split at e <;> first | (cases e; done) | skip
  rename_i a g
  obtain ⟨v, hv, rv⟩ := er.val i _ g
  rw [Rep] at rv
  subst rv
  obtain ⟨r, ρ1, e1, e⟩ := Out.bind_inv e
  split at e <;> first | (cases e; done) | skip
  split at e <;> first | (cases e; done) | skip
  rename_i b hp
  cases e
  refine ⟨_, hv, G, ρ, _, ρ1, er, e1, fun v H1 rr st => ?_⟩
  obtain ⟨er1, rfl⟩ := rr_int rr
  obtain ⟨er2, st2⟩ := er_put (i := i) er1 (by simpa using hp) (d := .int (if neg then a - b else a + b)) (v := .int (if neg then a - b else a + b)) (by rw [Rep])
  exact ⟨a, b, rfl, rfl, q _ _ er2 (st.trans st2)⟩
theorem st_augI {i : Nat} {x : Str} {ik ie : IE} {k e : Expr} {p p' pos : Pos} (h : PE X (.Name x p) (tVar i)) (hk : PE X k (tI X.K cA C ik)) (he : PE X e (tI X.K cA C ie)) (ha : ∀ ov iv new, augStore k ov iv new = (do holding [new, ov, iv] (setItem ov iv new); release [new, ov, iv] []; pure .next)) :
    PS X (.AugAssign (.Subscript (.Name x p) k p') .Add e pos) (tS X.K cA C (.augI i ik ie)) :=
  (ps_augS h hk Sx.pget_list he ip_add set_list ha).imp fun D σ H ⟨G, ρ, f, ρ', er, e, q⟩ => by
    rw [evS] at e
    split at e <;> first | (cases e; done) | skip
    rename_i hO
    obtain ⟨a, ha⟩ := isO_own er hO
    obtain ⟨y, ρ1, e1, e⟩ := Out.bind_inv e
    split at e <;> first | (cases e; done) | skip
    rename_i ds pin j g
    split at e <;> first | (cases e; done) | skip
    rename_i c hc
    obtain ⟨z, ρ2, e2, e⟩ := Out.bind_inv e
    split at e <;> first | (cases e; done) | skip
    rename_i d ds2 pin2 g2
    split at e <;> first | (cases e; done) | skip
    rename_i n hn
    cases e
    refine ⟨_, ha, G, ρ, _, ρ1, er, e1, fun w H1 rr st => ?_⟩
    obtain ⟨er1, rfl⟩ := rr_int rr
    obtain ⟨a1, vs, ha1, l, hH, rp⟩ := own_lst er1 g
    rw [ha] at ha1
    cases ha1
    obtain ⟨u, hu1, hu2⟩ := rp.atI hc
    rw [Rep] at hu2
    subst hu2
    refine ⟨a, vs, j, _, rfl, rfl, SqL.of hH, hu1, G, ρ1, _, ρ2, er1, e2, fun w2 H2 rr2 st2 => ?_⟩
    obtain ⟨er2, rfl⟩ := rr_int rr2
    obtain ⟨a2, vs2, ha2, l2, hH2, rp2⟩ := own_lst er2 g2
    rw [ha] at ha2
    cases ha2
    obtain ⟨er3, st3⟩ := upd_lst er2 g2 ha (rp2.set (d := .int (c + d)) (v := .int (c + d)) (by rw [Rep]) n) (by rw [List.length_set]; exact l2)
    exact ⟨c, d, rfl, rfl, a, vs2, j, n, rfl, rfl, hH2, by rw [rp2.length]; exact hn, q σ _ er3 ((st.trans st2).trans st3)⟩
theorem st_delS {i : Nat} {x : Str} {ie : IE} {e : Expr} {p tpos p2 pos : Pos} (h : PE X (.Name x p) (tVar i)) (he : PE X e (tI X.K cA C ie)) : PS X (.Delete [.Subscript (.Name x p) (.Slice (some e) none none p2) tpos] pos) (tS X.K cA C (.delS i ie)) :=
  (Sx.ps_delT h (po_some he)).imp fun D σ H ⟨G, ρ, f, ρ', er, e, q⟩ => by
    rw [evS] at e
    split at e <;> first | (cases e; done) | skip
    rename_i hO
    obtain ⟨a, ha⟩ := isO_own er hO
    obtain ⟨y, ρ1, e1, e⟩ := Out.bind_inv e
    split at e <;> first | (cases e; done) | skip
    rename_i k ds pin g
    cases e
    refine ⟨_, ha, G, ρ, _, ρ1, er, e1, fun w H1 rr st => ?_⟩
    obtain ⟨er1, rfl⟩ := rr_int rr
    obtain ⟨a1, vs, ha1, l, hH, rp⟩ := own_lst er1 g
    rw [ha] at ha1
    cases ha1
    obtain ⟨er3, st3⟩ := upd_lst er1 g ha (rp.take (HT.sIx ds.length 0 (some k))) (by rw [List.length_take]; omega)
    refine ⟨k, rfl, a, vs, rfl, hH, ?_⟩
    rw [rp.length]
    exact q σ _ er3 (st.trans st3)
end
end Ev
end
/-! E7 -/
section
set_option Elab.async false
set_option linter.all false
set_option maxRecDepth 100000
set_option maxHeartbeats 2000000
namespace Ev
open PySem L2
open SX (S)
/-! ### the tests: is this term the one of that text? -/
/-- the names of what the numbers stand for: defs, globals, methods, properties, what makes an instance -/
structure Nms where
  fnm : Nat → Option Str
  gnm : Nat → Option Str
  mnm : Nat → Option (Nat × Cs)
  pnm : Nat → Option (Nat × Cs)
  inm : Nat → Option (Nat × Str)
structure Ck extends Nms where
  N : List Str
  sc : Scope
  tp : Bool
structure Ok3 where
  v : Bool
  t : Bool
  i : Bool
def dNo (x : Str) : Bool := decide (¬ (x == ("__debug__" : Str)) = true) && decide (¬ (x == ("__classdict__" : Str)) = true)
def okName (k : Ck) (i : Nat) (x : Str) : Bool := decide (k.N[i]? = some x) && (decide (k.sc.names.lookup x = some .local) || decide (k.sc.names.lookup x = some .cell) || decide (k.sc.names.lookup x = some .free)) && dNo x
/-- a name that is stored -/
def okStore (k : Ck) (i : Nat) (x : Str) : Bool := decide (k.N[i]? = some x) && (decide (k.sc.names.lookup x = some .local) || (k.tp && decide (k.sc.names.lookup x = some .cell)))
def okGlob (k : Ck) (x : Str) : Bool := decide (k.sc.names.lookup x = some .globalImplicit) && dNo x
def biN : BI → Str
  | .len => "len" | .abs => "abs" | .int => "int" | .str => "str" | .max => "max" | .min => "min" | .list => "list" | .tuple => "tuple"
  | .any => "any" | .all => "all" | .sum => "sum" | .dict => "dict" | .sorted => "sorted" | .bool => "bool"
def relS (scope sc : Scope) : Scope := { scope with names := scope.names.map fun (n, k) => if (k == .free && sc.kind == .function && sc.names.lookup n == some .cell) then (n, .cell) else (n, k) }
mutual
def chkG (k : Ck) : Tg → Expr → Bool
  | .n i, .Name x _ => okStore k i x
  | .t ts, .Tuple es _ _ => nst es && chkGs k ts es
  | _, _ => false
def chkGs (k : Ck) : List Tg → List Expr → Bool
  | [], [] => true
  | t :: ts, e :: es => chkG k t e && chkGs k ts es
  | _, _ => false
end
def isTup : Expr → Bool
  | .Tuple .. => true
  | _ => false
def isEnm : IE → Bool
  | .enm _ => true
  | .itmF _ => true
  | _ => false
def mk3 (e : Expr) (v : Bool) : Ok3 := ⟨v, plainT e && v, nonSet e && v⟩
def no3 : Ok3 := ⟨false, false, false⟩
def bk (k : Ck) (scope : Scope) : Ck := { k with sc := relS scope k.sc, tp := false }
def nameC (k : Ck) (ie : IE) (x : Str) : Bool := match ie with
  | .var i => okName k i x
  | .peek i => okName k i x
  | _ => false
/-- d.items(), d.values(), d a plain name -/
def chkD (k : Ck) (it : IE) (iter t : Expr) : Bool := match iter with
  | .Call (.Attribute (.Name x _) a apos) [] [] cpos => match it with
    | .itms ie => decide (a = "items") && (apos.endLine == cpos.line) && isTup t && nameC k ie x
    | .vals ie => decide (a = "values") && (apos.endLine == cpos.line) && nameC k ie x
    | _ => false
  | .Name x _ => match it with
    | .keys ie => nameC k ie x
    | _ => false
  | _ => false
def m0N : M0 → Str
  | .ascii => "isascii" | .alpha => "isalpha" | .lower => "islower" | .digit => "isdigit" | .alnum => "isalnum"
def tyOk (k : Ck) (i : Nat) (e : Expr) : Bool := match e with
  | .Name x _ => decide (x = Str.ofString (tyI i)) && okGlob k x
  | _ => false
def tysOk (k : Ck) : List Nat → List Expr → Bool
  | [], [] => true
  | i :: is, e :: es => tyOk k i e && tysOk k is es
  | _, _ => false
def isLitS : Expr → Bool
  | .Constant (.str _) _ _ => true
  | _ => false
def isLitI : IE → Bool
  | .lit (.str _) => true
  | _ => false
mutual
def chkM (k : Ck) : IE → Expr → Ok3
  | .var i, e => match e with
    | .Name x _ => mk3 e (okName k i x)
    | _ => no3
  | .peek i, e => match e with
    | .Name x _ => mk3 e (okName k i x)
    | _ => no3
  | .take i, e => match e with
    | .Name x _ => mk3 e (okName k i x)
    | _ => no3
  | .frz i, e => match e with
    | .Name x _ => mk3 e (okName k i x)
    | _ => no3
  | .lit d, e => match d, e with
    | .non, .Constant .none _ _ => mk3 e true
    | .bl b, .Constant (.bool c) _ _ => mk3 e (b == c)
    | .int i, .Constant (.int j) _ _ => mk3 e (decide (i = j))
    | .str l, .Constant (.str x) _ _ => mk3 e (decide (x = S l) && l.all (fun c => decide (c < 0x110000)) && decide (l.length ≤ 1000))
    | _, _ => no3
  | .glob g, e => match e with
    | .Name x _ => mk3 e (decide (k.gnm g = some x) && okGlob k x)
    | _ => no3
  | .tup es, e => match e with
    | .Tuple as _ _ => mk3 e (nst as && decide (es.length ≤ 1000) && chkEs k es as)
    | _ => no3
  | .lst es, e => match e with
    | .List as _ => mk3 e (nst as && decide (es.length ≤ 1000) && chkEs k es as)
    | _ => no3
  | .bin op a b, e => match e with
    | .BinOp l o r _ => mk3 e (decide (opS op = o) && (chkM k a l).v && (chkM k b r).v)
    | _ => no3
  | .neg a, e => match e with
    | .UnaryOp .USub x _ => mk3 e (chkM k a x).v
    | _ => no3
  | .not a, e => match e with
    | .UnaryOp .Not x _ => ⟨(chkM k a x).v, (chkM k a x).t, false⟩
    | _ => no3
  | .cmp op a b, e => match e with
    | .Compare l [o] [r] _ => let v := decide (opC op = o) && nonSet r && (chkM k a l).v && (chkM k b r).v; ⟨v, v, false⟩
    | _ => no3
  | .and a b, e => match e with
    | .BoolOp .And (x :: y :: r) pos => match r with
      | [] => ⟨(chkM k a x).v && (chkM k b y).v, (chkM k a x).t && (chkM k b y).t, false⟩
      | _ :: _ => ⟨(chkM k a x).v && (chkM k b (.BoolOp .And (y :: r) pos)).v, (chkM k a x).t && (chkM k b (.BoolOp .And (y :: r) pos)).t, false⟩
    | _ => no3
  | .or a b, e => match e with
    | .BoolOp .Or (x :: y :: r) pos => match r with
      | [] => ⟨(chkM k a x).v && (chkM k b y).v, (chkM k a x).t && (chkM k b y).t, false⟩
      | _ :: _ => ⟨(chkM k a x).v && (chkM k b (.BoolOp .Or (y :: r) pos)).v, (chkM k a x).t && (chkM k b (.BoolOp .Or (y :: r) pos)).t, false⟩
    | _ => no3
  | .tru a, e => ⟨false, plainT e && (chkM k a e).v, false⟩
  | .ite c a b, e => match e with
    | .IfExp t x y _ => ⟨(chkM k c t).t && (chkM k a x).v && (chkM k b y).v, false, (chkM k c t).t && (chkM k a x).v && (chkM k b y).v⟩
    | _ => no3
  | .idx a b, e => match e with
    | .Subscript x y _ => mk3 e (nonSl y && (chkM k a x).v && (chkM k b y).v)
    | _ => no3
  | .slc a lo hi, e => match e with
    | .Subscript x (.Slice l h none _) _ => mk3 e ((chkM k a x).v && chkO k lo l && chkO k hi h)
    | _ => no3
  | .bi f es, e => match e with
    | .Call (.Name x _) (a :: as) [] _ => mk3 e (decide (biN f = x) && okGlob k x && nst (a :: as) && chkEs k es (a :: as))
    | _ => no3
  | .call f _ es, e => match e with
    | .Call (.Name x _) (a :: as) [] _ => mk3 e (decide (k.fnm f = some x) && okGlob k x && nst (a :: as) && chkEs k es (a :: as))
    | _ => no3
  | .pop i, e => match e with
    | .Call (.Attribute (.Name x _) m apos) [] [] cpos => mk3 e (decide (m = "pop") && okName k i x && (apos.endLine == cpos.line))
    | _ => no3
  | .popAt i a, e => match e with
    | .Call (.Attribute (.Name x _) m apos) [y] [] cpos => mk3 e (decide (m = "pop") && okName k i x && (apos.endLine == cpos.line) && nonStar y && (chkM k a y).v)
    | _ => no3
  | .lc own tg it _ cs ie, e => match e with
    | .ListComp elt [⟨t, iter, ifs, 0⟩] scope _ =>
      let nm := own.filterMap fun i => (k.N[i]?).map fun x => (x, i)
      mk3 e ((((chkM k it iter).i && (!isEnm it || isTup t)) || chkD k it iter t) && nonSet iter && decide (nm.map (·.2) = own) && blkC k.N k.sc scope nm && chkG (bk k scope) tg t && (tgS tg).all (fun i => own.contains i) && chkCs (bk k scope) cs ifs && (chkM (bk k scope) ie elt).v)
    | _ => no3
  | .dc own tg it _ cs ik ie, e => match e with
    | .DictComp kx vx [⟨t, iter, ifs, 0⟩] scope _ =>
      let nm := own.filterMap fun i => (k.N[i]?).map fun x => (x, i)
      mk3 e ((((chkM k it iter).i && (!isEnm it || isTup t)) || chkD k it iter t) && nonSet iter && decide (nm.map (·.2) = own) && blkC k.N k.sc scope nm && chkG (bk k scope) tg t && (tgS tg).all (fun i => own.contains i) && chkCs (bk k scope) cs ifs && (chkM (bk k scope) ik kx).v && (chkM (bk k scope) ie vx).v)
    | _ => no3
  | .dsp kvs, e => match e with
    | .Dict keys values _ => mk3 e (decide (values.length ≤ 15) && chkPs k kvs keys values)
    | _ => no3
  | .mt m o es, e => match e with
    | .Call (.Attribute x a apos) [y] [] cpos => match m, es with
      | .join, [i] => mk3 e (decide (a = "join") && plainBase x && (apos.endLine == cpos.line) && nonStar y && (chkM k o x).v && (chkM k i y).v)
      | .get1, [i] => mk3 e (decide (a = "get") && plainBase x && (apos.endLine == cpos.line) && nonStar y && (chkM k o x).v && (chkM k i y).v)
      | _, _ => no3
    | .Call (.Attribute x a apos) [y, z] [] cpos => match m, es with
      | .get2, [i, j] => mk3 e (decide (a = "get") && plainBase x && (apos.endLine == cpos.line) && nonStar y && nonStar z && (chkM k o x).v && (chkM k i y).v && (chkM k j z).v)
      | _, _ => no3
    | _ => no3
  | .fx f es, e => match f with
    | .m0 m => match es, e with
      | [i], .Call (.Attribute x a apos) [] [] cpos => mk3 e (decide (a = m0N m) && plainBase x && (apos.endLine == cpos.line) && (chkM k i x).v)
      | _, _ => no3
    | .sw3 => match es, e with
      | [i, j, l], .Call (.Attribute x a apos) [y, z] [] cpos => mk3 e (decide (a = "startswith") && plainBase x && (apos.endLine == cpos.line) && nonStar y && nonStar z && (chkM k i x).v && (chkM k j y).v && (chkM k l z).v)
      | _, _ => no3
    | .parti => match es, e with
      | [i, j], .Call (.Attribute x a apos) [y] [] cpos => mk3 e (decide (a = "partition") && plainBase x && (apos.endLine == cpos.line) && nonStar y && (chkM k i x).v && (chkM k j y).v)
      | _, _ => no3
    | .isi ts => match es, ts, e with
      | [i], [t], .Call (.Name n _) [x, T] [] _ => mk3 e (decide (n = "isinstance") && okGlob k "isinstance" && nonStar x && nonStar T && tyOk k t T && (chkM k i x).v)
      | _, _, _ => no3
    | .isiT ts => match es, e with
      | [i], .Call (.Name n _) [x, .Tuple Ts _ _] [] _ => mk3 e (decide (n = "isinstance") && okGlob k "isinstance" && nonStar x && nst Ts && tysOk k ts Ts && decide (ts.length ≤ 10) && (chkM k i x).v)
      | _, _ => no3
    | .tupI => match es, e with
      | [i], .Call (.Name n _) [.Call (.Attribute x a apos) [] [] cpos] [] _ => mk3 e (decide (n = "tuple") && okGlob k "tuple" && decide (a = "items") && plainBase x && (apos.endLine == cpos.line) && (chkM k i x).v)
      | _, _ => no3
    | .lstV => match es, e with
      | [i], .Call (.Name n _) [.Call (.Attribute x a apos) [] [] cpos] [] _ => mk3 e (decide (n = "list") && okGlob k "list" && decide (a = "values") && plainBase x && (apos.endLine == cpos.line) && (chkM k i x).v)
      | _, _ => no3
    | .lset => match es, e with
      | [i], .Call (.Name n _) [.Call (.Name m _) [x] [] _] [] _ => mk3 e (decide (n = "len") && okGlob k "len" && decide (m = "set") && okGlob k "set" && nonStar x && (chkM k i x).v)
      | _, _ => no3
  | .fstr es, e => match e with
    | .JoinedStr (v1 :: v2 :: rest) _ => mk3 e (chkFs k es (v1 :: v2 :: rest))
    | _ => no3
  | .att i a, e => match e with
    | .Attribute x f _ => mk3 e (decide (f = S a) && plainBase x && (chkM k i x).v)
    | _ => no3
  | .prop c f i, e => match e with
    | .Attribute x fn _ => match k.pnm f with
      | some (c', m) => mk3 e (decide (c' = c) && decide (fn = S m) && plainBase x && (chkM k i x).v)
      | none => no3
    | _ => no3
  | .meth c f m i is, e => match e with
    | .Call (.Attribute x a apos) as [] cpos => mk3 e (decide (k.mnm f = some (c, m)) && decide (a = S m) && plainBase x && (apos.endLine == cpos.line) && nst as && decide (as.length < 20) && (chkM k i x).v && chkEs k is as)
    | _ => no3
  | .mk c f is, e => match e with
    | .Call (.Name x _) (a :: as) [] _ => mk3 e (decide (k.inm f = some (c, x)) && okGlob k x && nst (a :: as) && chkEs k is (a :: as))
    | _ => no3
  | .inKD g neg i, e => match e with
    | .Compare a [.In] [.Name x _] _ => let v := !neg && decide (k.gnm g = some x) && okGlob k x && (chkM k i a).v; ⟨v, v, false⟩
    | _ => no3
  | .ixKD g i, e => match e with
    | .Subscript (.Name x _) a _ => mk3 e (decide (k.gnm g = some x) && okGlob k x && nonSl a && (chkM k i a).v)
    | _ => no3
  | .tupS is, e => match e with
    | .Tuple as _ _ => mk3 e (chkSp k is as)
    | _ => no3
  | .lstS is, e => match e with
    | .List as _ => mk3 e (chkSp k is as)
    | _ => no3
  | .lc2 own tg it cs own1 tg1 it1 cs1 ie, e => match e with
    | .ListComp elt [⟨t, iter, ifs, 0⟩, ⟨t1, iter1, ifs1, 0⟩] scope _ =>
      let nm := own.filterMap fun i => (k.N[i]?).map fun x => (x, i)
      mk3 e ((chkM k it iter).i && (!isEnm it || isTup t) && nonSet iter && nonSet iter1 && decide (nm.map (·.2) = own) && blkC k.N k.sc scope nm && chkG (bk k scope) tg t && chkG (bk k scope) tg1 t1 && (tgS tg).all (fun i => own.contains i) && own1.all (fun i => own.contains i) && (tgS tg1).all (fun i => own1.contains i) && chkCs (bk k scope) cs ifs && chkCs (bk k scope) cs1 ifs1 && (chkM (bk k scope) it1 iter1).v && (chkM (bk k scope) ie elt).v)
    | _ => no3
  | .scs own tg it _ cs ie, e => match e with
    | .Call (.Name n _) [.SetComp elt [⟨t, iter, ifs, 0⟩] scope _] [] _ =>
      let nm := own.filterMap fun i => (k.N[i]?).map fun x => (x, i)
      mk3 e (decide (n = "sorted") && okGlob k "sorted" && (chkM k it iter).i && (!isEnm it || isTup t) && nonSet iter && decide (nm.map (·.2) = own) && blkC k.N k.sc scope nm && chkG (bk k scope) tg t && (tgS tg).all (fun i => own.contains i) && chkCs (bk k scope) cs ifs && (chkM (bk k scope) ie elt).v)
    | _ => no3
  | .dspS i es, e => match e with
    | .Dict (none :: keys) (v :: values) _ => mk3 e ((chkM k i v).v && decide (values.length ≤ 15) && !keys.isEmpty && chkPs k es keys values)
    | _ => no3
  | .rng1 a, e => match e with
    | .Call (.Name x _) [y] [] _ => ⟨false, false, decide (x = "range") && okGlob k x && nonStar y && (chkM k a y).v⟩
    | _ => no3
  | .rng2 a b, e => match e with
    | .Call (.Name x _) [y, z] [] _ => ⟨false, false, decide (x = "range") && okGlob k x && nonStar y && nonStar z && (chkM k a y).v && (chkM k b z).v⟩
    | _ => no3
  | .itmF a, e => match e with
    | .Call (.Attribute x m apos) [] [] cpos => ⟨false, false, decide (m = "items") && plainBase x && (apos.endLine == cpos.line) && (chkM k a x).v⟩
    | _ => no3
  | .enm a, e => match e with
    | .Call (.Name x _) [y] [] _ => ⟨false, false, decide (x = "enumerate") && okGlob k x && nonStar y && (chkM k a y).v⟩
    | _ => no3
  | _, _ => no3
def chkEs (k : Ck) : List IE → List Expr → Bool
  | [], [] => true
  | a :: as, e :: es => (chkM k a e).v && chkEs k as es
  | _, _ => false
def chkFs (k : Ck) : List IE → List Expr → Bool
  | [], [] => true
  | i :: is, x :: xs => (match x with
    | .FormattedValue y c none _ => decide (c = -1) && (chkM k i y).v
    | x => isLitS x && isLitI i && (chkM k i x).v) && chkFs k is xs
  | _, _ => false
def chkSp (k : Ck) : List IE → List Expr → Bool
  | [], [] => true
  | .star i :: is, .Starred x _ :: xs => (chkM k i x).v && chkSp k is xs
  | i :: is, x :: xs => nonStar x && (chkM k i x).v && chkSp k is xs
  | _, _ => false
def chkPs (k : Ck) : List IE → List (Option Expr) → List Expr → Bool
  | [], [], [] => true
  | a :: b :: r, some x :: xs, y :: ys => (chkM k a x).v && (chkM k b y).v && chkPs k r xs ys
  | _, _, _ => false
def chkO (k : Ck) : Option IE → Option Expr → Bool
  | none, none => true
  | some a, some e => (chkM k a e).v
  | _, _ => false
def chkCs (k : Ck) : List IE → List Expr → Bool
  | [], [] => true
  | [a], [e] => (chkM k a e).t
  | _, _ => false
end
/-- assignments to a name: which of the two roads -/
def swB (sc : Scope) (t : Str) (pos : Pos) : Expr → Bool
  | .DictComp _ _ _ s p => (if sc.kind.isAnnotationScope then ScopeKind.function else sc.kind) == .function && sc.names.lookup t == some .local && pos.line == p.line && !(s.names.any fun (n, k) => n == t && (k == .local || k == .cell))
  | .ListComp _ _ s p => (if sc.kind.isAnnotationScope then ScopeKind.function else sc.kind) == .function && sc.names.lookup t == some .local && pos.line == p.line && !(s.names.any fun (n, k) => n == t && (k == .local || k == .cell))
  | _ => false
def isDcE : Expr → Bool
  | .DictComp .. => true
  | _ => false
def isLc : Expr → Bool
  | .ListComp _ [_] _ _ => true
  | _ => false
def nonTup : Expr → Bool
  | .Tuple .. => false
  | _ => true
def isDoc : Stmt → Bool
  | .Expr (.Constant (.str _) _ _) _ => true
  | .Pass _ => true
  | _ => false
/-- names that are stored side by side -/
def okN (k : Ck) (i : Nat) (e : Expr) : Bool := match e with
  | .Name x _ => okStore k i x
  | _ => false
def parN (k : Ck) : List (Nat × Bool) → List Expr → Bool
  | [], [] => true
  | t :: ts, e :: es => okN k t.1 e && parN k ts es
  | _, _ => false
def blkF (sc : Scope) : Bool := (if sc.kind.isAnnotationScope then ScopeKind.function else sc.kind) == .function
def locS (sc : Scope) (l : Nat) (e : Expr) : Bool := match e with
  | .Name x p => (sc.names.lookup x == some .local) && (p.line == l)
  | _ => false
/-- the two roads: stores that are swapped, a tuple that is taken apart -/
def swY (sc : Scope) : List Expr → List Expr → Bool
  | [.Name x p, .Name y q], [a, b] => blkF sc && nst [a, b] && locS sc p.line (.Name x p) && locS sc p.line (.Name y q) && !(x == y) && ![a, b].all (foldedForSure 8) && ![a, b].all (constantsAlone 8)
  | [.Name x p, .Name y q, .Name z r], [a, b, c] => blkF sc && nst [a, b, c] && locS sc p.line (.Name x p) && locS sc p.line (.Name y q) && locS sc p.line (.Name z r) && !(x == y) && !(x == z) && !(y == z) && ![a, b, c].all (foldedForSure 8) && ![a, b, c].all (constantsAlone 8)
  | _, _ => false
def notL (sc : Scope) (e : Expr) : Bool := match e with
  | .Name x _ => !(sc.names.lookup x == some .local)
  | _ => true
def swN (sc : Scope) (tes ves : List Expr) : Bool := !(tes.length == 2 || tes.length == 3) || ves.all (foldedForSure 8) || tes.any (notL sc)
def chkFor (k : Ck) (tg : Tg) (it : IE) (b : List IS) (s : Stmt) (f : List Stmt → Bool) : Bool := match s with
    | .For t iter body [] _ => (((chkM k it iter).i && (!isEnm it || isTup t)) || chkD k it iter t) && nonSet iter && chkG k tg t && f body
    | _ => false
mutual
def chkS (k : Ck) : IS → Stmt → Bool
  | .asg i ie, s => match s with
    | .Assign [.Name x p] e pos => okStore k i x && (nonComp e || isLc e || isDcE e) && (chkM k ie e).v
    | _ => false
  | .asgO i ie, s => match s with
    | .Assign [.Name x p] e pos => okStore k i x && (nonComp e || isLc e || isDcE e) && (chkM k ie e).v
    | _ => false
  | .unp tg ie, s => match s with
    | .Assign [t] e pos => isTup t && nonTup e && nonComp e && chkG k tg t && (chkM k ie e).v
    | _ => false
  | .par _ ts es, s => match s with
    | .Assign [.Tuple tes _ _] (.Tuple ves _ _) pos => parN k ts tes && nst ves && chkEs k es ves && decide (es.length ≤ 1000) && (swY k.sc tes ves || swN k.sc tes ves)
    | _ => false
  | .setI i ik ie, s => match s with
    | .Assign [.Subscript (.Name x p) y p'] e pos => okName k i x && nonSl y && nonComp e && (chkM k ik y).v && (chkM k ie e).v
    | _ => false
  | .aug neg i ie, s => match s with
    | .AugAssign (.Name x p) op e pos => decide (op = if neg then .Sub else .Add) && okStore k i x && (chkM k ie e).v
    | _ => false
  | .augI i ik ie, s => match s with
    | .AugAssign (.Subscript (.Name x p) y p') op e pos => decide (op = .Add) && okName k i x && nonSl y && (chkM k ik y).v && (chkM k ie e).v
    | _ => false
  | .app i ie, s => match s with
    | .Expr (.Call (.Attribute (.Name x _) m apos) [y] [] cpos) _ => decide (m = "append") && okName k i x && (apos.endLine == cpos.line) && nonStar y && (chkM k ie y).v
    | _ => false
  | .ext i ie, s => match s with
    | .Expr (.Call (.Attribute (.Name x _) m apos) [y] [] cpos) _ => decide (m = "extend") && okName k i x && (apos.endLine == cpos.line) && nonStar y && (chkM k ie y).v
    | _ => false
  | .upd i ie, s => match s with
    | .Expr (.Call (.Attribute (.Name x _) m apos) [y] [] cpos) _ => decide (m = "update") && okName k i x && (apos.endLine == cpos.line) && nonStar y && (chkM k ie y).v
    | _ => false
  | .delS i ie, s => match s with
    | .Delete [.Subscript (.Name x _) (.Slice (some y) none none _) _] _ => okName k i x && (chkM k ie y).v
    | _ => false
  | .ex ie, s => match s with
    | .Expr e _ => nonComp e && (chkM k ie e).v
    | _ => false
  | .iff c a b, s => match s with
    | .If t x y _ => (chkM k c t).t && chkB k a x && chkB k b y
    | _ => false
  | .for_ tg (.itmD i) none b, s => match s with
    | .For (.Tuple elts n tp) (.Call (.Attribute x m apos) [] [] cpos) body [] _ => decide (m = "items") && plainBase x && (apos.endLine == cpos.line) && (chkM k i x).v && chkG k tg (.Tuple elts n tp) && chkB k b body
    | _ => false
  | .for_ tg it _ b, s => chkFor k tg it b s (chkB k b)
  | .whl c b, s => match s with
    | .While t body [] _ => (chkM k c t).t && chkB k b body
    | _ => false
  | .ret ie, s => match s with
    | .Return (some e) _ => (chkM k ie e).v
    | _ => false
  | .retN, s => match s with
    | .Return none _ => true
    | _ => false
  | .cont, s => match s with
    | .Continue _ => true
    | _ => false
  | .brk, s => match s with
    | .Break _ => true
    | _ => false
  | .hide _ _ _, _ => false
  | .pass, s => isDoc s
  | .raise, s => match s with
    | .Raise _ _ _ => true
    | _ => false
  | .setA i a ie, s => match s with
    | .Assign [.Attribute (.Name x _) f _] e _ => decide (f = S a) && okName k i x && nonComp e && (chkM k ie e).v
    | _ => false
def chkB (k : Ck) : List IS → List Stmt → Bool
  | [], ss => ss.isEmpty
  | .hide ks ws b :: is, ss => is.isEmpty && (ks.all fun j => !ws.contains j) && chkB k b ss
  | i :: is, s :: ss => chkS k i s && chkB k is ss
  | _ :: _, [] => false
end
end Ev
end
/-! E8 -/
section
set_option Elab.async false
set_option linter.all false
set_option maxRecDepth 100000
set_option maxHeartbeats 4000000
namespace Ev
open PySem L2
open SX (S)
def bnames : List Str := ["len", "abs", "int", "str", "max", "min", "list", "tuple", "any", "all", "sum", "dict", "sorted", "bool", "range", "enumerate", "isinstance", "zip", "repr", "set", "reversed"]
structure Fa (k : Ck) (C : Cn) (cA : Nat → Addr) (X : Cx) (lev : Nat) : Prop where
  N : k.N = X.N
  sc : k.sc = X.env.scope
  calm : X.calm = true
  nd : X.N.Nodup
  room : Room lev X.A
  xe : X.xe = fun _ _ => False
  fn : k.tp = true → ∀ x, X.fn x = true
  bn : ∀ x ∈ bnames, X.mg x = none
  glb : ∀ g x, k.gnm g = some x → ∀ d, C.glob g = some d → ∃ u v, X.mg x = some u ∧ RelV v u ∧ ∀ Av H, Rep X.K cA Av H d v
  fld : ∀ c a, C.fld c a = true → Cls X.K (cA c) ∧ NoAttr X.K (cA c) (S a)
  kd : ∀ g x kvs, k.gnm g = some x → C.gdic g = some kvs → ∃ p kv, X.mg x = some (.ref p) ∧ Sx.KD X.K X.w p kv ∧ Paired (fun (a : Cs × D) (b : Str × V) => b.1 = S a.1 ∧ ∀ Av H, Rep X.K cA Av H a.2 b.2) kvs kv
  mth : ∀ f c m, k.mnm f = some (c, m) → ∃ fa fd ps, FnOk X.prog X.w X.K X.mg X.base CX0 lev fa fd ps (spF X.K cA (C.call f)) ∧ Cls X.K (cA c) ∧ Meth X.K (cA c) (S m) fa ∧ Binds X.K fd ps []
  prp : ∀ f c m, k.pnm f = some (c, m) → (∃ as r b, C.cmk f as = .ok r b) → ∃ l p fa fd ps, lev = l + 1 ∧ FnOk X.prog X.w X.K X.mg X.base CX0 l fa fd ps (spF X.K cA (C.cmk f)) ∧ Cls X.K (cA c) ∧ PropOf X.K (cA c) (S m) p fa ∧ Binds X.K fd ps []
  mkr : ∀ f c x, k.inm f = some (c, x) → (∃ as r b, C.cmk f as = .ok r b) → ∃ l fa fd ps, lev = l + 1 ∧ FnOk X.prog X.w X.K X.mg X.base CX0 l fa fd ps (spF X.K cA (C.cmk f)) ∧ Mk X.K (cA c) fa ∧ X.mg x = some (.ref (cA c)) ∧ Binds X.K fd ps []
  fun_ : ∀ f x, k.fnm f = some x → ∃ fa fd ps, FnOk X.prog X.w X.K X.mg X.base CX0 lev fa fd ps (spF X.K cA (C.call f)) ∧ X.mg x = some (.ref fa) ∧ PySem.W.keepIn X.K (.ref fa) = true ∧ Binds X.K fd ps []
def isBO : Expr → Bool
  | .BoolOp .. => true
  | _ => false
/-- what a test of the three kinds gives -/
structure S3 (X : Cx) (cA : Nat → Addr) (C : Cn) (ir : IE) (e : Expr) (o : Ok3) : Prop where
  v : o.v = true → PE X e (tI X.K cA C ir)
  t : o.t = true → PT X e (tT X.K cA C ir) ∧ (isBO e = true → PW X e (tT X.K cA C ir))
  i : o.i = true → ∀ tg, (isEnm ir = true → isTup tg = true) → PI X tg e (tP X.K cA C ir)
section
variable {X : Cx} {cA : Nat → Addr} {C : Cn} {k : Ck} {lev : Nat}
theorem s3_no {ir : IE} {e : Expr} : S3 X cA C ir e no3 := ⟨fun h => (by cases h), fun h => (by cases h), fun h => (by cases h)⟩
theorem s3_mk {ir : IE} {e : Expr} {v : Bool} (h : v = true → PE X e (tI X.K cA C ir)) : S3 X cA C ir e (mk3 e v) := by
  refine ⟨h, fun z => ?_, fun z tg _ => ?_⟩
  · have z' : (plainT e && v) = true := z
    rw [Bool.and_eq_true] at z'
    exact ⟨s_valT (h z'.2) (plainT_of z'.1), fun b => by cases e <;> first | (cases b; done) | (cases z'.1)⟩
  · have z' : (nonSet e && v) = true := z
    rw [Bool.and_eq_true] at z'
    exact i_seq (h z'.2)
theorem okName_of (fa : Fa k C cA X lev) {i : Nat} {x : Str} {pos : Pos} (h : okName k i x = true) : PE X (.Name x pos) (tVar i) := by
  unfold okName dNo at h
  simp only [Bool.and_eq_true, Bool.or_eq_true, decide_eq_true_eq] at h
  obtain ⟨⟨h1, h2⟩, h3, h4⟩ := h
  refine pe_var (by rw [← fa.N]; exact h1) ?_ (by simpa using h3) (by simpa using h4)
  unfold Vis
  rw [← fa.sc]
  rcases h2 with (h2 | h2) | h2
  · exact .inl h2
  · exact .inr (.inl h2)
  · exact .inr (.inr h2)
theorem okStore_of (fa : Fa k C cA X lev) {i : Nat} {x : Str} (h : okStore k i x = true) : X.N[i]? = some x ∧ Loc X.env.scope x ∧ (X.fn x = true ∨ X.env.scope.names.lookup x = some .local) := by
  unfold okStore at h
  simp only [Bool.and_eq_true, Bool.or_eq_true, decide_eq_true_eq] at h
  obtain ⟨h1, h2⟩ := h
  rw [fa.sc] at h2
  refine ⟨by rw [← fa.N]; exact h1, ?_, ?_⟩
  · rcases h2 with h2 | ⟨_, h2⟩
    · exact .inl h2
    · exact .inr h2
  · rcases h2 with h2 | ⟨h3, _⟩
    · exact .inr h2
    · exact .inl (fa.fn h3 x)
theorem okGlob_of (fa : Fa k C cA X lev) {x : Str} (h : okGlob k x = true) : Gl X x ∧ (x == ("__debug__" : Str)) = false := by
  unfold okGlob dNo at h
  simp only [Bool.and_eq_true, decide_eq_true_eq] at h
  exact ⟨by rw [fa.sc] at h; exact h.1, by simpa using h.2.1⟩
theorem units_of (fa : Fa k C cA X lev) : X.A.units + 66 < cLine := Nat.lt_of_le_of_lt (by have := fa.room.un; omega) fa.room.un
theorem bi_boot : ∀ f : BI, bootBuiltins (biN f) = some (biV f) := by
  intro f
  cases f <;> decide +kernel
theorem bi_ne : ∀ f : BI, biN f ≠ "__name__" := by
  intro f
  cases f <;> decide +kernel
theorem bi_db : ∀ f : BI, (biN f == ("__debug__" : Str)) = false := by
  intro f
  cases f <;> decide +kernel
theorem bi_mem : ∀ f : BI, biN f ∈ bnames := by
  intro f
  cases f <;> decide +kernel
theorem nst_cons {e : Expr} {es : List Expr} (h : nst (e :: es) = true) : nonStar e = true ∧ nst es = true := by
  have h' : (nonStar e && nst es) = true := h
  rwa [Bool.and_eq_true] at h'
theorem s_bi (fa : Fa k C cA X lev) {f : BI} {p pos : Pos} {a : Expr} {as : List Expr} {ies : List IE} (hg : okGlob k (biN f) = true) (hn : nst (a :: as) = true) (ha : PA X (a :: as) (tR X.K cA C ies)) : PE X (.Call (.Name (biN f) p) (a :: as) [] pos) (tI X.K cA C (.bi f ies)) := by
  obtain ⟨g1, g2⟩ := okGlob_of fa hg
  obtain ⟨n1, n2⟩ := nst_cons hn
  have key : PE X (.Call (.Name (biN f) p) (a :: as) [] pos) (tCB (rBi X.K cA (biE f)) (tR X.K cA C ies)) := by
    have hb := bi_ok (X := X) (cA := cA) fa.calm (units_of fa) f
    have hm := fa.bn _ (bi_mem f)
    have hv := bi_boot f
    have he := star1 (es := as) (env := X.env) n1
    have hp := back_any (pos := pos) (star_all (env := X.env) n2)
    cases f <;> first
      | exact pe_callB hb g1 hm hv ha (bi_ne _) g2 he hp
      | exact pe_callTy hb g1 hm hv ha (bi_ne _) g2 he hp
  refine key.imp fun σ H Q ⟨G, ρ, r, ρ', er, e, q⟩ => ?_
  rw [ev] at e
  obtain ⟨rs, ρ1, e1, e⟩ := Out.bind_inv e
  obtain ⟨e2, e3⟩ := Out.of_inv e
  subst e3
  obtain ⟨ds, e4, e5⟩ := Option.bind_eq_some_iff.mp e2
  exact ⟨G, ρ, rs, ρ1, er, e1, fun vs H1 er1 rh st => ⟨G, ρ1, σ, ds, r, er1, lookAll_rl er1 e4 rh, e5, res_of st q⟩⟩
theorem s_call (fa : Fa k C cA X lev) {f : Nat} {x : Str} {rf : Option Nat} {p pos : Pos} {a : Expr} {as : List Expr} {ies : List IE} (hf : k.fnm f = some x) (hg : okGlob k x = true) (hn : nst (a :: as) = true) (ha : PA X (a :: as) (tR X.K cA C ies)) : PE X (.Call (.Name x p) (a :: as) [] pos) (tI X.K cA C (.call f rf ies)) := by
  obtain ⟨g1, g2⟩ := okGlob_of fa hg
  obtain ⟨n1, n2⟩ := nst_cons hn
  obtain ⟨fa', fd, ps, F, hm, kp, b⟩ := fa.fun_ f x hf
  refine (pe_call F fa.room g1 hm kp b .nil pass0 ha g2 (star1 n1) (back_any (star_all n2))).imp fun σ H Q h => ?_
  have := sp_call (E := E0) h
  obtain ⟨G, ρ, rs, ρ', er, e, q⟩ := this
  exact ⟨G, ρ, rs, ρ', er, e, fun vs H1 er1 rh st => by
    show spF X.K cA (C.call f) (vs ++ []) H1 Q E0
    rw [List.append_nil]; exact q vs H1 er1 rh st⟩
theorem s_glob (fa : Fa k C cA X lev) {g : Nat} {x : Str} {p : Pos} (hf : k.gnm g = some x) (hg : okGlob k x = true) : PE X (.Name x p) (tI X.K cA C (.glob g)) := by
  obtain ⟨g1, g2⟩ := okGlob_of fa hg
  cases hd : C.glob g with
  | none =>
    refine ⟨fun pins s σ H Q I ⟨G, ρ, r, ρ', er, e, q⟩ => ?_⟩
    rw [ev, hd] at e
    cases e
  | some d =>
    obtain ⟨u, v, hm, hr, rep⟩ := fa.glb g x hf d hd
    refine (pe_glob g1 hm hr g2).imp fun σ H Q ⟨G, ρ, r, ρ', er, e, q⟩ => ?_
    rw [ev, hd] at e
    cases e
    exact q v H ⟨er, rep _ _⟩ (Step.refl _ _ _)
theorem own_map {N : List Str} {own : List Nat} (h : (own.filterMap fun i => (N[i]?).map fun x => (x, i)).map (·.2) = own) : True := trivial
theorem blk_fa (fa : Fa k C cA X lev) {scope : Scope} {s : Shared} {H : Hp} {Ca : Addr} {cl : List (Str × Addr)} {fp : List Addr} : Fa (bk k scope) C cA (X.blk s H scope (compEnvC scope cl Ca X.env) fp) lev := by
  refine ⟨fa.N, ?_, fa.calm, fa.nd, fa.room, rfl, fun h => Bool.noConfusion (show false = true from h), fa.bn, fa.glb, fa.fld, fa.kd, fa.mth, fa.prp, fa.mkr, fa.fun_⟩
  show relS scope k.sc = relabel scope X.env
  rw [fa.sc]
  rfl
theorem g_of (fa : Fa k C cA X lev) (hc : X.calm = true) : True := trivial
theorem assign_map {e : Expr} {es : List Expr} {env : PySem.Env} (h : nonStar e = true) : (assignEach (e :: es) env).map (·.2) = assign e env :: (assignEach es env).map (·.2) ∧ (assignEach (e :: es) env).map (·.1) = false :: (assignEach es env).map (·.1) := by
  cases e <;> first | (cases h; done) | exact ⟨rfl, rfl⟩
theorem assign_len : ∀ {es : List Expr} {env : PySem.Env}, nst es = true → (assignEach es env).length = es.length ∧ (assignEach es env).map (·.1) = List.replicate es.length false
  | [], _, _ => ⟨rfl, rfl⟩
  | e :: es, env, h => by
    obtain ⟨h1, h2⟩ := nst_cons h
    obtain ⟨a, b⟩ := assign_map (es := es) (env := env) h1
    obtain ⟨c, d⟩ := assign_len (env := env) h2
    constructor
    · have := congrArg List.length a
      rw [List.length_map, List.length_cons, List.length_map] at this
      rw [this, c, List.length_cons]
    · rw [b, d, List.length_cons, List.replicate_succ]
theorem find_none {es : List Expr} {env : PySem.Env} (h : nst es = true) : (assignEach es env).findIdx? (·.1) = none := by
  rw [List.findIdx?_eq_none_iff]
  intro x m
  have := List.mem_map_of_mem (f := (·.1)) m
  rw [(assign_len h).2] at this
  exact List.eq_of_mem_replicate this
mutual
theorem chkG_of (fa : Fa k C cA X lev) : ∀ (tg : Tg) (e : Expr), chkG k tg e = true → PG X e (tGt X.K cA tg)
  | .n i, e, h => by
    cases e <;> simp only [chkG] at h <;> first | (cases h; done) | skip
    obtain ⟨h1, h2, h3⟩ := okStore_of fa h
    exact g_name (pg_name fa.nd h1 h2 h3)
  | .t ts, e, h => by
    cases e <;> simp only [chkG] at h <;> first | (cases h; done) | skip
    rw [Bool.and_eq_true] at h
    obtain ⟨h1, h2⟩ := h
    exact g_tup fa.calm (chkGs_of fa ts _ h1 h2) ((assign_len h1).1.trans (chkGs_len h2)) (find_none h1)
theorem chkGs_of (fa : Fa k C cA X lev) : ∀ (ts : List Tg) (es : List Expr), nst es = true → chkGs k ts es = true → PGs X es (tGs X.K cA ts)
  | [], [], _, _ => g_nil
  | t :: ts, e :: es, n, h => by
    rw [chkGs, Bool.and_eq_true] at h
    obtain ⟨n1, n2⟩ := nst_cons n
    exact g_cons (chkG_of fa t e h.1) (chkGs_of fa ts es n2 h.2) (assign_map n1).1
  | [], _ :: _, _, h => by simp [chkGs] at h
  | _ :: _, [], _, h => by simp [chkGs] at h
theorem chkGs_len : ∀ {ts : List Tg} {es : List Expr}, chkGs k ts es = true → es.length = ts.length
  | [], [], _ => rfl
  | t :: ts, e :: es, h => by
    rw [chkGs, Bool.and_eq_true] at h
    rw [List.length_cons, List.length_cons, chkGs_len h.2]
  | [], _ :: _, h => by simp [chkGs] at h
  | _ :: _, [], h => by simp [chkGs] at h
end
end
end Ev
end
/-! Ed -/
section
set_option Elab.async false
set_option linter.all false
set_option maxRecDepth 100000
set_option maxHeartbeats 1000000
namespace Ev
open PySem L2
open SX (S)
theorem len_putK (kvs : List (DK × D)) (k : DK) (d : D) : (putK kvs k d).length ≤ kvs.length + 1 := by
  unfold putK
  split
  · rw [List.length_map]; omega
  · rw [List.length_append]; exact Nat.le_refl _
theorem mergeK_snoc (acc : List (DK × D)) (k : DK) (d : D) : Ev.mergeK [] (acc ++ [(k, d)]) = putK (Ev.mergeK [] acc) k d := by
  unfold Ev.mergeK
  rw [List.foldl_append]
  rfl
theorem len_mergeK (acc : List (DK × D)) : ∀ kvs, (Ev.mergeK kvs acc).length ≤ kvs.length + acc.length := by
  induction acc with
  | nil => intro kvs; exact Nat.le_refl _
  | cons p r ih =>
    intro kvs
    have h1 := ih (putK kvs p.1 p.2)
    have h2 := len_putK kvs p.1 p.2
    show (Ev.mergeK (putK kvs p.1 p.2) r).length ≤ _
    rw [List.length_cons]
    omega
/-- a result that is a key -/
theorem key_is {K : PySem.W.Frag} {cA : Nat → Addr} {G : Addr → Prop} {ρ ρ1 ρ2 : Env} {σ : St} {H H1 : Hp} {a : RV} {v : V} {k : DK} (rr : RR K cA G ρ σ H ρ1 H1 a v) (h : (look ρ2 a.hold).bind key? = some k) : v = kV (kK k) := by
  obtain ⟨x, hx, hk⟩ := Option.bind_eq_some_iff.mp h
  cases a with
  | d d =>
    cases hx
    exact rep_in hk rr.2.l
  | f m =>
    cases hx
    cases m <;> cases hk
  | p i =>
    unfold look RV.hold at hx
    dsimp only at hx
    split at hx <;> cases hx
    rename_i m _ _ _
    cases m <;> cases hk
section
variable {X : Cx} {cA : Nat → Addr} {C : Cn}
/-- one turn of a dict comprehension -/
def turnD (C : Cn) (tg : Tg) (cs : List IE) (k v : IE) (d : D) (ρ : Env) : Out (Option (DK × D)) := (Out.of ρ (bindT tg d ρ)).bind fun ρ' _ => (evC C cs ρ').bind fun b ρ => if b then (ev C k ρ).bind fun a ρ => (ev C v ρ).bind fun r ρ => Out.of ρ (((look ρ a.hold).bind key?).bind fun a => r.dat?.map fun r => some (a, r)) else .ok none ρ
theorem s_dc_core {kx elt tg iter : Expr} {ifs : List Expr} {scope : Scope} {own : List (Str × Nat)} {pos : Pos} {itg : Tg} {wi : TI} {cs : List IE} {ik ie : IE} (hm : ∀ {σ : St} {H : Hp} {R R' : It → Hp → Prop}, (∀ J H', R J H' → R' J H') → wi σ H R → wi σ H R') (hc : X.calm = true) (hN : X.N.Nodup) (ok : BlkOk X.N X.env.scope scope own)
    (hg : ∀ (s : Shared) (H : Hp) (Ca : Addr) (cl : List (Str × Addr)) (fp : List Addr), PG (X.blk s H scope (compEnvC scope cl Ca X.env) fp) tg (tGt X.K cA itg))
    (ht : ∀ (s : Shared) (H : Hp) (Ca : Addr) (cl : List (Str × Addr)) (fp : List Addr), PTs (X.blk s H scope (compEnvC scope cl Ca X.env) fp) ifs (tCs X.K cA C cs))
    (hk : ∀ (s : Shared) (H : Hp) (Ca : Addr) (cl : List (Str × Addr)) (fp : List Addr), PE (X.blk s H scope (compEnvC scope cl Ca X.env) fp) kx (tI X.K cA C ik))
    (he : ∀ (s : Shared) (H : Hp) (Ca : Addr) (cl : List (Str × Addr)) (fp : List Addr), PE (X.blk s H scope (compEnvC scope cl Ca X.env) fp) elt (tI X.K cA C ie))
    (hs : ∀ x, foldedSetIterable iter X.env x = pure x) (ho : (tgS itg).all (fun i => (own.map (·.2)).contains i) = true) :
    ∀ (σ : St) (H : Hp) (Q : VK), wi σ H (fun J H1 => ∃ G ρ1 ds Good res ρf, ER X.K cA G σ H1 ρ1 ∧ Wk X.K cA G ρ1 σ H1 J ds Good ∧ noPin (own.map (·.2)) ρ1 = true ∧ evLc (turnD C itg cs ik ie) (wipeE (own.map (·.2))) ds (wipeE (own.map (·.2)) ρ1) [] = .ok res ρf ∧
      ∀ Dn H2 vacc, H1 Dn = none → ER X.K cA (plus G Dn) σ H2 ρf → Step ρ1 σ H1 ρf σ H2 → H2 Dn = some (.dK vacc) → Repk X.K cA (AvO (plus G Dn) ρf σ) H2 (Ev.mergeK [] res) vacc → Q (.ref Dn) H2) → tDc wi (tGt X.K cA itg) (tCs X.K cA C cs) (tI X.K cA C ik) (tI X.K cA C ie) (own.map (·.2)) σ H Q := by
  intro σ H Q h
  generalize hown : own.map (·.2) = ow at *
  refine hm (fun J H1 hh => ?_) h
  obtain ⟨G, ρ1, ds, Good, res, ρf, er1, wk, np, e2, q⟩ := hh
  intro Dn nD
  -- the invariant
  have GD : ∀ b, plus G Dn b → G b ∨ H1 b = none := fun b z => z.elim .inl fun z => .inr (by rw [z]; exact nD)
  refine ⟨fun i m H' => ∃ ρi acc vacc, m + i = ds.length ∧ ER X.K cA (plus G Dn) (wipe σ ow) H' ρi ∧ Step ρ1 σ H1 ρi (wipe σ ow) H' ∧ (∀ j ∈ ow, gt ρi j = .no) ∧ H' Dn = some (.dK vacc) ∧ Repk X.K cA (AvO (plus G Dn) ρi (wipe σ ow)) H' (Ev.mergeK [] acc) vacc ∧ acc.length ≤ i ∧
      evLc (turnD C itg cs ik ie) (wipeE ow) (ds.drop i) ρi acc = .ok res ρf, ⟨ds.length, ?_⟩, ?_⟩
  · refine ⟨wipeE ow ρ1, [], [], rfl, er_wipe (er1.new nD), step_updX (step_wipe (Step.refl _ _ _) np) nD, fun j hj => by rw [gt_wipe, if_pos hj], upd_same, by show Repk _ _ _ _ [] _; rw [Repk], Nat.le_refl _, ?_⟩
    rw [List.drop_zero]
    exact e2
  · rintro i m H2 ⟨ρi, acc, vacc, hm, eri, sti, hno, hD, rp, la, run⟩
    have good : Good (plus G Dn) ρi (wipe σ ow) H2 := wk.on _ _ _ _ _ _ _ _ wk.start sti GD
    by_cases hi : i < ds.length
    · right
      have hdrop : ds.drop i = ds[i] :: ds.drop (i + 1) := List.drop_eq_getElem_cons hi
      rw [hdrop, evLc] at run
      obtain ⟨o, ρa, ea, run⟩ := Out.bind_inv run
      refine ⟨wk.go i _ _ _ _ good hi, fun H' => ∃ m', m' < m ∧ ∃ ρi acc vacc, m' + (i + 1) = ds.length ∧ ER X.K cA (plus G Dn) (wipe σ ow) H' ρi ∧ Step ρ1 σ H1 ρi (wipe σ ow) H' ∧ (∀ j ∈ ow, gt ρi j = .no) ∧ H' Dn = some (.dK vacc) ∧ Repk X.K cA (AvO (plus G Dn) ρi (wipe σ ow)) H' (Ev.mergeK [] acc) vacc ∧ acc.length ≤ i + 1 ∧
        evLc (turnD C itg cs ik ie) (wipeE ow) (ds.drop (i + 1)) ρi acc = .ok res ρf, fun H' h => h, fun w H3 hy => ?_⟩
      obtain ⟨d, hd, hcase⟩ := wk.yld i _ _ _ _ w H3 hi good hy
      have hd' : d = ds[i] := by rw [List.getElem?_eq_getElem hi] at hd; exact (Option.some.inj hd).symm
      unfold turnD at ea
      obtain ⟨ρb, ρb', eb, ea⟩ := Out.bind_inv ea
      obtain ⟨eb1, eb2⟩ := Out.of_inv eb
      obtain ⟨b, ρc, ec, ea⟩ := Out.bind_inv ea
      -- the item, in the heap at hand
      have item : ER X.K cA (plus G Dn) (wipe σ ow) H3 ρi ∧ Step ρi (wipe σ ow) H2 ρi (wipe σ ow) H3 ∧ H3 Dn = some (.dK vacc) ∧ Rep X.K cA (AvO (plus G Dn) ρi (wipe σ ow)) H3 d w := by
        rcases hcase with ⟨rfl, rd⟩ | ⟨T, ys, es, nT, rfl, rfl, rfl, res, l⟩
        · exact ⟨eri, Step.refl _ _ _, hD, rd⟩
        · refine ⟨eri.grow nT, Step.upd nT, by rw [upd_ne (ne_of_none hD nT)]; exact hD, ?_⟩
          rw [Rep]
          exact ⟨T, ys, rfl, l, .inl ⟨eri.nav nT, .inl upd_same⟩, Reps.tr (tr_upd nT) _ _ res⟩
      obtain ⟨er3, st3, hD3, rd⟩ := item
      rw [hd'] at rd
      refine ⟨plus G Dn, ρi, _, ρb, er3, rd, eb1, fun σ2 er4 st4 hsl => ?_⟩
      have hwp : wipe σ2 ow = wipe σ ow := by
        refine wipe_eq ?_ fun j hj => ?_
        · rw [← er4.len, ← bindT_len eb1, er3.len, wipe_length]
        · rw [hsl j (mem_own ho hj), wipe_not hj]
      refine ⟨hwp, plus G Dn, ρb, b, ρc, er4, ec, fun H5 er5 st5 => ?_⟩
      have st25 := (st3.trans st4).trans st5
      -- D stays through the turn
      have keepD : ∀ {ρx : Env} {σx : St} {Hx : Hp}, Step ρi (wipe σ ow) H2 ρx σx Hx → Hx Dn = some (.dK vacc) := fun st => st.keep Dn _ hD fun z => by
        obtain ⟨j, m1, p1, g, q⟩ := z
        obtain ⟨a, ha, ng, _⟩ := eri.own j m1 p1 false g
        rw [q] at ha
        cases ha
        exact ng (.inr rfl)
      cases b with
      | false =>
        rw [if_neg Bool.false_ne_true] at ea
        cases ea
        refine iteF ⟨m - 1, by omega, wipeE ow _, acc, vacc, by omega, ?_, ?_, fun j hj => by rw [gt_wipe, if_pos hj], keepD st25, ?_, by omega, run⟩
        · rw [← hwp]; exact er_wipe er5
        · rw [← hwp]; exact step_wipe (sti.trans st25) np
        · rw [← hwp]
          exact Repk.tr tr_wipe _ _ (Repk.tr st25.tr _ _ rp)
      | true =>
        rw [if_pos rfl] at ea
        obtain ⟨ka, ρk, ek, ea⟩ := Out.bind_inv ea
        obtain ⟨r, ρd, ed, ea⟩ := Out.bind_inv ea
        obtain ⟨ea1, ea2⟩ := Out.of_inv ea
        subst ea2
        obtain ⟨kk, hk1, ea3⟩ := Option.bind_eq_some_iff.mp ea1
        obtain ⟨y, hy1, hy2⟩ := Option.map_eq_some_iff.mp ea3
        subst hy2
        refine iteT ⟨plus G Dn, ρc, ka, ρk, er5, ek, fun kv H6 rr6 st6 => ⟨plus G Dn, ρk, r, ρd, rr6.er, ed, fun yv H7 rr7 st7 => ?_⟩⟩
        have st27 := (st25.trans st6).trans st7
        have hD7 := keepD st27
        have lv : vacc.length ≤ i := by
          rw [Repk.length rp]
          have := len_mergeK acc []
          simp only [List.length_nil, Nat.zero_add] at this
          omega
        have hl6 : vacc.length < SZ := Nat.lt_of_le_of_lt lv (Nat.lt_of_lt_of_le hi wk.size)
        refine ⟨vacc, kK kk, key_is rr6 hk1, hD7, by rw [← SZ_line]; exact hl6, m - 1, by omega, wipeE ow ρd, acc ++ [(kk, y)], L2.putK vacc (kK kk) yv, by omega, ?_, ?_, fun j hj => by rw [gt_wipe, if_pos hj], upd_same, ?_, by rw [List.length_append]; exact Nat.succ_le_succ la, run⟩
        · rw [← hwp]; exact er_wipe (er_updG rr7.er)
        · rw [← hwp]; exact step_wipe (step_updX (sti.trans st27) nD) np
        · rw [← hwp, mergeK_snoc]
          have t3 : Tr (AvO (plus G Dn) (wipeE ow ρd) (wipe σ2 ow)) (AvO (plus G Dn) (wipeE ow ρd) (wipe σ2 ow)) H7 (upd H7 Dn (.dK (L2.putK vacc (kK kk) yv))) := fun b n h => ⟨n, .inl (upd_ne fun z => n (.inl (.inr z)))⟩
          exact repk_put (((rr7.dat hy1).tr tr_wipe).tr t3) (Repk.tr t3 _ _ (Repk.tr tr_wipe _ _ (Repk.tr st27.tr _ _ rp)))
    · left
      have hdrop : ds.drop i = [] := List.drop_eq_nil_of_le (by omega)
      rw [hdrop, evLc] at run
      cases run
      have t : Tr (AvO (plus G Dn) ρf (wipe σ ow)) (AvO (plus G Dn) ρf σ) H2 H2 := fun b n _ => by
        refine ⟨fun z => n ?_, .inl rfl⟩
        rcases z with z | ⟨j, m1, p1, l, g, q⟩
        · exact .inl z
        · exact .inr ⟨j, m1, p1, l, g, (wipe_not fun hj => by rw [hno j hj] at g; cases g).trans q⟩
      exact ⟨wk.stop i _ _ _ _ good (by omega), q Dn H2 vacc nD (er_unwipe eri hno) (step_unwipe sti hno) hD (Repk.tr t _ _ rp)⟩
theorem s_dc {kx elt tg iter : Expr} {ifs : List Expr} {scope : Scope} {own : List (Str × Nat)} {pos : Pos} {itg : Tg} {iit : IE} {lk : Option Nat} {cs : List IE} {ik ie : IE} (hc : X.calm = true) (hN : X.N.Nodup) (hi : PI X tg iter (tP X.K cA C iit)) (ok : BlkOk X.N X.env.scope scope own)
    (hg : ∀ (s : Shared) (H : Hp) (Ca : Addr) (cl : List (Str × Addr)) (fp : List Addr), PG (X.blk s H scope (compEnvC scope cl Ca X.env) fp) tg (tGt X.K cA itg))
    (ht : ∀ (s : Shared) (H : Hp) (Ca : Addr) (cl : List (Str × Addr)) (fp : List Addr), PTs (X.blk s H scope (compEnvC scope cl Ca X.env) fp) ifs (tCs X.K cA C cs))
    (hk : ∀ (s : Shared) (H : Hp) (Ca : Addr) (cl : List (Str × Addr)) (fp : List Addr), PE (X.blk s H scope (compEnvC scope cl Ca X.env) fp) kx (tI X.K cA C ik))
    (he : ∀ (s : Shared) (H : Hp) (Ca : Addr) (cl : List (Str × Addr)) (fp : List Addr), PE (X.blk s H scope (compEnvC scope cl Ca X.env) fp) elt (tI X.K cA C ie))
    (hs : ∀ x, foldedSetIterable iter X.env x = pure x) (ho : (tgS itg).all (fun i => (own.map (·.2)).contains i) = true) :
    ∀ (σ : St) (H : Hp) (Q : VK), tI X.K cA C (.dc (own.map (·.2)) itg iit lk cs ik ie) σ H Q → tDc (tP X.K cA C iit) (tGt X.K cA itg) (tCs X.K cA C cs) (tI X.K cA C ik) (tI X.K cA C ie) (own.map (·.2)) σ H Q := by
  intro σ H Q ⟨G, ρ, z, ρ', er, e, q⟩
  rw [ev] at e
  split at e <;> first | (cases e; done) | skip
  rename_i ρL hL
  obtain ⟨x, ρ1, e1, e⟩ := Out.bind_inv e
  split at e <;> first | (cases e; done) | skip
  rename_i ds hw
  split at e <;> first | (cases e; done) | skip
  rename_i np
  obtain ⟨res, ρf, e2, e⟩ := Out.bind_inv e
  cases e
  have erL := er_lock er hL
  refine s_dc_core (pos := pos) (wi := tP X.K cA C iit) (fun m h => tP_mono m h) hc hN ok hg ht hk he hs ho σ H Q ⟨G, ρL, x, ρ1, ds, erL, e1, hw, fun J H1 Good er1 st1 wk => ⟨G, ρ1, ds, Good, res, ρf, er1, wk, np, e2, fun Dn H2 vacc nD er2 st2 hD rp => ?_⟩⟩
  obtain ⟨a, b⟩ := lc_fin (m := .dct (Ev.mergeK [] res)) er hL st1 nD er2 st2 ⟨vacc, .inl hD, rp⟩ (fun o u z => by rw [hD] at z; cases z) er1.gin
  exact q _ H2 a b
/-! ### a written dict -/
def prs (K : PySem.W.Frag) (cA : Nat → Addr) (C : Cn) : List IE → List (TE × TE)
  | k :: v :: r => (tI K cA C k, tI K cA C v) :: prs K cA C r
  | _ => []
theorem ps_run {K : PySem.W.Frag} : ∀ {es : List IE} {G : Addr → Prop} {ρ : Env} {σ : St} {H : Hp} {kvs : List (DK × D)} {ρ' : Env} {Q : List (V × V) → Hp → Prop}, ER K cA G σ H ρ → evPs C es ρ = .ok kvs ρ' →
    (∀ kv H', ER K cA G σ H' ρ' → Step ρ σ H ρ' σ H' → Repk K cA (AvO G ρ' σ) H' kvs kv → 2 * kv.length = es.length → Q (kv.map fun x => (kV x.1, x.2)) H') → tPairs (prs K cA C es) σ H Q
  | [], G, ρ, σ, H, kvs, ρ', Q, er, e, q => by
    rw [evPs] at e
    cases e
    exact q [] H er (Step.refl _ _ _) (by rw [Repk]) rfl
  | [_], G, ρ, σ, H, kvs, ρ', Q, er, e, q => by
    rw [evPs] at e
    cases e
  | ik :: iv :: es, G, ρ, σ, H, kvs, ρ', Q, er, e, q => by
    rw [evPs] at e
    obtain ⟨a, ρ1, e1, e⟩ := Out.bind_inv e
    obtain ⟨r, ρ2, e2, e⟩ := Out.bind_inv e
    obtain ⟨p, ρ3, e3, e⟩ := Out.bind_inv e
    obtain ⟨e4, e5⟩ := Out.of_inv e3
    subst e5
    obtain ⟨ps, ρ4, e6, e⟩ := Out.bind_inv e
    cases e
    obtain ⟨kk, hk1, e7⟩ := Option.bind_eq_some_iff.mp e4
    obtain ⟨y, hy1, hy2⟩ := Option.map_eq_some_iff.mp e7
    subst hy2
    refine ⟨G, ρ, a, ρ1, er, e1, fun xv H1 rr1 st1 => ⟨G, ρ1, r, ρ2, rr1.er, e2, fun yv H2 rr2 st2 => ?_⟩⟩
    refine ps_run rr2.er e6 fun kv H3 er3 st3 rp hl => ?_
    have := q ((kK kk, yv) :: kv) H3 er3 ((st1.trans st2).trans st3) (by
      rw [Repk]
      exact ⟨yv, kv, rfl, (rr2.dat hy1).tr st3.tr, rp⟩) (by rw [List.length_cons, List.length_cons, List.length_cons]; omega)
    rw [key_is rr1 hk1]
    exact this
theorem dsp_fin {K : PySem.W.Frag} {G : Addr → Prop} {ρ ρ' : Env} {σ : St} {H H2 : Hp} {p : Addr} {kvs : List (DK × D)} {kv : List (Key × V)} {Q : VK} (er : ER K cA G σ H ρ) (np : H p = none) (er2 : ER K cA (plus G p) σ H2 ρ') (st : Step ρ σ (upd H p (.dK [])) ρ' σ H2)
    (rp : Repk K cA (AvO (plus G p) ρ' σ) H2 kvs kv) (q : ∀ v H', RR K cA G ρ σ H ρ' H' (.f (.dct (Ev.mergeK [] kvs))) v → Step ρ σ H ρ' σ H' → Q v H') : Q (.ref p) (upd H2 p (.dK (L2.mergeK [] kv))) := by
  have t3 : Tr (AvO (plus G p) ρ' σ) (AvO (plus G p) ρ' σ) H2 (upd H2 p (.dK (L2.mergeK [] kv))) := fun b n h => ⟨n, .inl (upd_ne fun z => n (.inl (.inr z)))⟩
  refine q _ _ ⟨p, rfl, er_updG er2, ⟨_, .inl upd_same, Repk.tr t3 _ _ (repk_merge (by rw [Repk]) rp)⟩, fun o u z => ?_, fun z => ?_, .inr np⟩ (step_updX ((Step.upd np).trans st) np)
  · rw [upd_same] at z
    cases z
  · rcases z with z | ⟨j, m1, p1, l, g, q⟩
    · exact er.gin p z np
    · obtain ⟨a, ha, ng, _⟩ := er2.own j m1 p1 l g
      rw [q] at ha
      cases ha
      exact ng (.inr rfl)
theorem s_dsp {keys : List (Option Expr)} {values : List Expr} {es : List IE} {pos : Pos} (h : PPs X pos keys values (prs X.K cA C es)) (hall : keys.all (·.isSome) = true) (hl : keys.length = values.length) (hz : values.length ≤ 15) (he : es.length = 2 * values.length) :
    PE X (.Dict keys values pos) (tI X.K cA C (.dsp es)) := by
  by_cases h0 : keys = []
  · subst h0
    have hv : values = [] := List.eq_nil_of_length_eq_zero hl.symm
    subst hv
    have he' : es = [] := List.eq_nil_of_length_eq_zero he
    subst he'
    refine pe_dnewK.imp fun σ H Q ⟨G, ρ, r, ρ', er, e, q⟩ => ?_
    rw [ev, evPs] at e
    cases e
    intro p np
    exact Res1.dct (G := G) (ρ := ρ) (cA := cA) (K := X.K) (σ := σ) (ds := []) q er np (by rw [Repk])
  · refine (pe_disp h hall hl h0 (by omega)).imp fun σ H Q ⟨G, ρ, r, ρ', er, e, q⟩ p np => ?_
    rw [ev] at e
    obtain ⟨kvs, ρ1, e1, e⟩ := Out.bind_inv e
    cases e
    refine ps_run (er.new np) e1 fun kv H2 er2 st2 rp hk => ⟨?_, kv, rfl, by omega, dsp_fin er np er2 st2 rp q⟩
    refine st2.keep p _ upd_same fun z => ?_
    obtain ⟨j, m1, p1, g, qq⟩ := z
    obtain ⟨a, ha, ng, _⟩ := (er.new np (o := .dK [])).own j m1 p1 false g
    rw [qq] at ha
    cases ha
    exact ng (.inr rfl)
/-! ### get -/
theorem get_res {K : PySem.W.Frag} {Av : Addr → Prop} {H : Hp} {k : DK} {kvs : List (DK × D)} {kv : List (Key × V)} {x : D} {z : V} (rp : Repk K cA Av H kvs kv) (rz : Rep K cA Av H x z) : Rep K cA Av H ((getK kvs k).getD x) ((valV kv (kK k)).getD z) := by
  rcases repk_get (k := k) rp with ⟨h1, h2⟩ | ⟨d, v, h1, h2, h3⟩
  · rw [h1, h2]; exact rz
  · rw [h1, h2]; exact h3
theorem isD_of {K : PySem.W.Frag} {G : Addr → Prop} {ρ ρ1 : Env} {σ : St} {H H1 : Hp} {x : RV} {v : V} {m : MT} (hm : m = .get1 ∨ m = .get2) (rr : RR K cA G ρ σ H ρ1 H1 x v) (h : mtP m (look ρ1 x.hold) = true) : ∃ a, v = .ref a ∧ IsD H1 a := by
  cases q : look ρ1 x.hold with
  | none => rw [q] at h; rcases hm with hm | hm <;> subst hm <;> cases h
  | some d =>
    rw [q] at h
    have hd : ∃ kvs, d = .dct kvs := by
      rcases hm with hm | hm <;> subst hm <;> cases d <;> first | exact ⟨_, rfl⟩ | (cases h)
    obtain ⟨kvs, rfl⟩ := hd
    obtain ⟨a, kv, e, r, _⟩ := (rr.hold.look rr.er q).dct
    exact ⟨a, e, .inl ⟨kv, r⟩⟩
theorem s_get1 {o y : Expr} {io iy : IE} {apos cpos : Pos} (hu : X.A.units + 1 < cLine) (ho : PE X o (tI X.K cA C io)) (hy : PE X y (tI X.K cA C iy)) (m : M1 X o "get" apos y cpos) : PE X (.Call (.Attribute o "get" apos) [y] [] cpos) (tI X.K cA C (.mt .get1 io [iy])) :=
  (pe_dget1 hu ho hy m).imp fun σ H Q ⟨G, ρ, r, ρ', er, e, q⟩ => by
    rw [ev] at e
    obtain ⟨x, ρ1, e1, e⟩ := Out.bind_inv e
    split at e
    · rename_i hp
      obtain ⟨rs, ρ2, e2, e⟩ := Out.bind_inv e
      obtain ⟨e3, e4⟩ := Out.of_inv e
      subst e4
      rw [evR] at e2
      obtain ⟨b, ρ3, e5, e2⟩ := Out.bind_inv e2
      rw [evR] at e2
      cases e2
      obtain ⟨dx, hx, e6⟩ := Option.bind_eq_some_iff.mp e3
      obtain ⟨ds, hds, e7⟩ := Option.bind_eq_some_iff.mp e6
      refine ⟨G, ρ, x, ρ1, er, e1, fun v H1 rr1 st1 => ?_⟩
      obtain ⟨a, ha, hd⟩ := isD_of (.inl rfl) rr1 hp
      refine ⟨a, ha, hd, G, ρ1, b, _, rr1.er, e5, fun w H2 rr2 st2 => ?_⟩
      have rl := (rr1.hold.later st2).look rr2.er hx
      cases dx <;> (try (unfold mtE at e7; cases e7; done))
      rename_i kvs
      obtain ⟨a', kv, ha', rd, rp⟩ := rl.dct
      rw [ha] at ha'
      cases ha'
      have hb : ∃ d, b.hold = .d d ∧ ds = [d] := by
        generalize b.hold = bh at hds
        cases bh <;> simp [datAll] at hds
        exact ⟨_, rfl, hds.symm⟩
      obtain ⟨d, hb1, rfl⟩ := hb
      unfold mtE at e7
      obtain ⟨kk, hk, e8⟩ := Option.map_eq_some_iff.mp e7
      subst e8
      have hw : w = kV (kK kk) := key_is (ρ2 := ρ1) rr2 (by rw [hb1]; exact hk)
      refine ⟨_, .inl ⟨kv, kK kk, rd, hw, rfl⟩, q _ H2 ⟨rr2.er, ?_⟩ (st1.trans st2)⟩
      exact get_res rp (by rw [Rep])
    · cases e
theorem s_get2 {o y z : Expr} {io iy iz : IE} {apos cpos : Pos} (hu : X.A.units + 1 < cLine) (ho : PE X o (tI X.K cA C io)) (hy : PE X y (tI X.K cA C iy)) (hz : PE X z (tI X.K cA C iz)) (m : M2 X o "get" apos y z cpos) :
    PE X (.Call (.Attribute o "get" apos) [y, z] [] cpos) (tI X.K cA C (.mt .get2 io [iy, iz])) :=
  (pe_dget2 hu ho hy hz m).imp fun σ H Q ⟨G, ρ, r, ρ', er, e, q⟩ => by
    rw [ev] at e
    obtain ⟨x, ρ1, e1, e⟩ := Out.bind_inv e
    split at e
    · rename_i hp
      obtain ⟨rs, ρ2, e2, e⟩ := Out.bind_inv e
      obtain ⟨e3, e4⟩ := Out.of_inv e
      subst e4
      rw [evR] at e2
      obtain ⟨b, ρ3, e5, e2⟩ := Out.bind_inv e2
      obtain ⟨rs2, ρ4, e9, e2⟩ := Out.bind_inv e2
      cases e2
      rw [evR] at e9
      obtain ⟨c, ρ5, e10, e9⟩ := Out.bind_inv e9
      rw [evR] at e9
      cases e9
      obtain ⟨dx, hx, e6⟩ := Option.bind_eq_some_iff.mp e3
      obtain ⟨ds, hds, e7⟩ := Option.bind_eq_some_iff.mp e6
      refine ⟨G, ρ, x, ρ1, er, e1, fun v H1 rr1 st1 => ?_⟩
      obtain ⟨a, ha, hd⟩ := isD_of (.inr rfl) rr1 hp
      refine ⟨a, ha, hd, G, ρ1, b, ρ3, rr1.er, e5, fun w H2 rr2 st2 => ⟨G, ρ3, c, _, rr2.er, e10, fun u H3 rr3 st3 => ?_⟩⟩
      have rl := ((rr1.hold.later st2).later st3).look rr3.er hx
      cases dx <;> (try (unfold mtE at e7; cases e7; done))
      rename_i kvs
      obtain ⟨a', kv, ha', rd, rp⟩ := rl.dct
      rw [ha] at ha'
      cases ha'
      have hb : ∃ d d2, b.hold = .d d ∧ c.hold = .d d2 ∧ ds = [d, d2] := by
        generalize b.hold = bh at hds
        generalize c.hold = ch at hds
        cases bh <;> cases ch <;> simp [datAll] at hds
        exact ⟨_, _, rfl, rfl, hds.symm⟩
      obtain ⟨d, d2, hb1, hb2, rfl⟩ := hb
      unfold mtE at e7
      obtain ⟨kk, hk, e8⟩ := Option.map_eq_some_iff.mp e7
      subst e8
      have hw : w = kV (kK kk) := key_is (ρ2 := ρ1) rr2 (by rw [hb1]; exact hk)
      have r3 := rr3.hold
      rw [hb2] at r3
      refine ⟨_, .inl ⟨kv, kK kk, rd, hw, rfl⟩, q _ H3 ⟨rr3.er, ?_⟩ ((st1.trans st2).trans st3)⟩
      exact get_res rp r3
    · cases e
/-! ### join -/
theorem join_inv {a : Cs} {ds : List D} {r : RV} (h : mtE .join (.str a) [.lst ds] = some r) : ∃ ls, strsD ds = some ls ∧ (ls.map (·.length)).sum + ls.length * a.length ≤ 16777216 ∧ ((TL.joinL a ls).all (fun c => decide (c < 0x110000)) && decide ((TL.joinL a ls).length ≤ SZ)) = true ∧ r = .d (.str (TL.joinL a ls)) := by
  have h' : (match strsD ds with
    | some ls => if (ls.map (·.length)).sum + ls.length * a.length ≤ 16777216 ∧ ((TL.joinL a ls).all (fun c => decide (c < 0x110000)) && decide ((TL.joinL a ls).length ≤ SZ)) = true then some (RV.d (.str (TL.joinL a ls))) else none
    | none => none) = some r := h
  cases q : strsD ds with
  | none => rw [q] at h'; cases h'
  | some ls =>
    rw [q] at h'
    dsimp only at h'
    split at h'
    · rename_i hc
      cases h'
      exact ⟨ls, rfl, hc.1, hc.2, rfl⟩
    · cases h'
theorem s_join {o y : Expr} {io iy : IE} {apos cpos : Pos} (ho : PE X o (tI X.K cA C io)) (hy : PE X y (tI X.K cA C iy)) (hb : plainBase o = true) (hl : (apos.endLine == cpos.line) = true) (hn : nonStar y = true) : PE X (.Call (.Attribute o "join" apos) [y] [] cpos) (tI X.K cA C (.mt .join io [iy])) :=
  (pe_join ho hy (by rw [star1 hn]; rfl) (base_of hb) hl).imp fun σ H Q ⟨G, ρ, r, ρ', er, e, q⟩ => by
    rw [ev] at e
    obtain ⟨x, ρ1, e1, e⟩ := Out.bind_inv e
    split at e
    · rename_i hp
      obtain ⟨rs, ρ2, e2, e⟩ := Out.bind_inv e
      obtain ⟨e3, e4⟩ := Out.of_inv e
      subst e4
      rw [evR] at e2
      obtain ⟨b, ρ3, e5, e2⟩ := Out.bind_inv e2
      rw [evR] at e2
      cases e2
      obtain ⟨dx, hx, e6⟩ := Option.bind_eq_some_iff.mp e3
      obtain ⟨ds, hds, e7⟩ := Option.bind_eq_some_iff.mp e6
      have hs : ∃ a, x.hold = .d (.str a) := by
        generalize x.hold = xh at hp
        cases xh with
        | d d =>
          cases d <;> first | exact ⟨_, rfl⟩ | (cases hp)
        | f m => cases m <;> cases hp
        | p i =>
          unfold look at hp
          dsimp only at hp
          split at hp
          · rename_i m _ _ _
            cases m <;> cases hp
          · cases hp
      obtain ⟨a, ha⟩ := hs
      rw [ha] at hx
      cases hx
      refine ⟨G, ρ, x, ρ1, er, e1, fun v H1 rr1 st1 => ?_⟩
      have h1 := rr1.hold
      rw [ha] at h1
      have h1 : Rep X.K cA (AvO G ρ1 σ) H1 (.str a) v := h1
      rw [Rep] at h1
      obtain ⟨rfl, oa⟩ := h1
      refine ⟨⟨_, rfl⟩, G, ρ1, b, _, rr1.er, e5, fun w H2 rr2 st2 => ?_⟩
      have hb : ∃ d, b.hold = .d d ∧ ds = [d] := by
        generalize b.hold = bh at hds
        cases bh <;> simp [datAll] at hds
        exact ⟨_, rfl, hds.symm⟩
      obtain ⟨d, hb1, rfl⟩ := hb
      have h2 := rr2.hold
      rw [hb1] at h2
      have h2 : Rep X.K cA (AvO G _ σ) H2 d w := h2
      cases d <;> (try (unfold mtE at e7; cases e7; done))
      rename_i ds
      obtain ⟨p, vs, rfl, l, rd, rp⟩ := (Rep.l h2).lst
      obtain ⟨ls, f1, f2, f3, rfl⟩ := join_inv e7
      obtain ⟨f4, _⟩ := reps_strs f1 rp
      refine ⟨S a, p, ls.map S, rfl, rfl, .inl (.inl (by rw [← f4]; exact rd)), ?_, ?_⟩
      · rw [SX.lens, List.length_map, SX.S_len]; exact f2
      · rw [SX.join_S]
        rw [Bool.and_eq_true, decide_eq_true_eq] at f3
        exact q _ H2 ⟨rr2.er, by rw [Rep]; exact ⟨rfl, f3⟩⟩ (st1.trans st2)
    · cases e
end
end Ev
end
/-! Ei -/
section
set_option Elab.async false
set_option linter.all false
set_option maxRecDepth 100000
set_option maxHeartbeats 1000000
namespace Ev
open PySem L2
open SX (S)
/-! ### walks over d.items(), d.values(): the dict is locked meanwhile -/
theorem _root_.L2.PE.or {X : Cx} {e : Expr} {t t' : TE} (h : PE X e t) (h' : PE X e t') : PE X e (fun σ H Q => t σ H Q ∨ t' σ H Q) := ⟨fun pins s σ H Q I q => q.elim (h.run pins s σ H Q I) (h'.run pins s σ H Q I)⟩
theorem _root_.L2.PS.or {X : Cx} {e : Stmt} {t t' : TS} (h : PS X e t) (h' : PS X e t') : PS X e (fun D σ H => t D σ H ∨ t' D σ H) := ⟨fun pins s σ H D I q => q.elim (h.run pins s σ H D I) (h'.run pins s σ H D I)⟩
section
variable {K : PySem.W.Frag} {cA : Nat → Addr} {G : Addr → Prop} {ρ ρ1 ρ2 ρL : Env} {σ σ' : St} {H H' : Hp}
theorem er_ag (er : ER K cA G σ H ρ) (ag : ∀ b, H b ≠ none → Ag H H' b) (dom : ∀ b, H b ≠ none → H' b ≠ none) (nf : ∀ b, Fre ρ σ b → H' b = H b) : ER K cA G σ H' ρ := by
  have t : Tr (AvO G ρ σ) (AvO G ρ σ) H H' := fun b n h => ⟨n, ag b h⟩
  refine ⟨er.len, fun i d g => ?_, fun i m p l g => ?_, er.dis, fun a h => dom a (er.gin a h)⟩
  · obtain ⟨v, hv, r⟩ := er.val i d g
    exact ⟨v, hv, r.tr t⟩
  · obtain ⟨a, ha, ng, r, f⟩ := er.own i m p l g
    refine ⟨a, ha, ng, r.tr t (ag a (er.avin (.inr ⟨i, m, p, l, g, ha⟩))), fun z o u => ?_⟩
    subst z
    rw [nf a ⟨i, m, p, g, ha⟩]
    exact f rfl o u
theorem ag_lock {d : Addr} {kv : List (Key × V)} {od : Obj} (h : H d = some (.dK kv)) (b : Addr) : Ag H (upd H d (.frz od (.dK kv))) b := by
  by_cases e : b = d
  · subst e
    exact .inr ⟨kv, .inl h, .inr ⟨od, upd_same⟩⟩
  · exact .inl (upd_ne e)
theorem ag_unlock {d : Addr} {kv : List (Key × V)} {od : Obj} (h : H d = some (.frz od (.dK kv))) (b : Addr) : Ag H (upd H d (.dK kv)) b := by
  by_cases e : b = d
  · subst e
    exact .inr ⟨kv, .inr ⟨od, h⟩, .inl upd_same⟩
  · exact .inl (upd_ne e)
theorem er_lock' {d : Addr} {kv : List (Key × V)} {od : Obj} (er : ER K cA G σ H ρ) (h : H d = some (.dK kv)) (n : ¬ Fre ρ σ d) : ER K cA G σ (upd H d (.frz od (.dK kv))) ρ :=
  er_ag er (fun b _ => ag_lock h b) (fun b h => upd_in h) fun b z => upd_ne fun e => n (by rw [← e]; exact z)
theorem er_unlock' {d : Addr} {kv : List (Key × V)} {od : Obj} (er : ER K cA G σ H ρ) (h : H d = some (.frz od (.dK kv))) (n : ¬ Fre ρ σ d) : ER K cA G σ (upd H d (.dK kv)) ρ :=
  er_ag er (fun b _ => ag_unlock h b) (fun b h => upd_in h) fun b z => upd_ne fun e => n (by rw [← e]; exact z)
theorem step_unlock' {d : Addr} {u : HO} {od : Obj} (h : H d = some u) (st : Step ρL σ (upd H d (.frz od u)) ρ2 σ' H') : Step ρL σ H ρ2 σ' (upd H' d u) := by
  have nn : ∀ b, upd H d (.frz od u) b = none → H b = none := fun b z => by
    by_cases e : b = d
    · rw [e, upd_same] at z; cases z
    · rw [upd_ne e] at z; exact z
  refine ⟨fun b o hb n => ?_, fun a z => (st.own a z).imp id (nn a), fun a z => (st.fre a z).imp id (nn a), st.pin, fun b hb => upd_in (st.dom b (upd_in hb)), st.lkd⟩
  by_cases e : b = d
  · subst e
    rw [h] at hb
    cases hb
    exact upd_same
  · rw [upd_ne e]
    exact st.keep b o (by rw [upd_ne e]; exact hb) n
theorem repk_at {Av : Addr → Prop} : ∀ {kvs : List (DK × D)} {kv : List (Key × V)} {i : Nat} {k : Key} {v : V}, Repk K cA Av H kvs kv → kv[i]? = some (k, v) → ∃ dk d, kvs[i]? = some (dk, d) ∧ k = kK dk ∧ Rep K cA Av H d v
  | [], _, i, k, v, r, h => by
    rw [Repk] at r; subst r; cases h
  | (dk, d) :: kvs, _, 0, k, v, r, h => by
    rw [Repk] at r
    obtain ⟨w, q, rfl, r1, r2⟩ := r
    cases h
    exact ⟨dk, d, rfl, rfl, r1⟩
  | (dk, d) :: kvs, _, i + 1, k, v, r, h => by
    rw [Repk] at r
    obtain ⟨w, q, rfl, r1, r2⟩ := r
    exact repk_at (i := i) r2 h
theorem rep_key {Av : Addr → Prop} {k : DK} (h : kOk k = true) : Rep K cA Av H k.dat (kV (kK k)) := by
  cases k with
  | i n =>
    show Rep K cA Av H (.int n) _
    rw [Rep]; rfl
  | s l =>
    show Rep K cA Av H (.str l) _
    rw [Rep]
    unfold kOk at h
    rw [Bool.and_eq_true, decide_eq_true_eq] at h
    exact ⟨rfl, h⟩
theorem wk_itm {d : Addr} {kv : List (Key × V)} {kvs : List (DK × D)} {od : Obj} (n : ¬ Fre ρ σ d) (h : H d = some (.frz od (.dK kv))) (rp : Repk K cA (AvO G ρ σ) H kvs kv) (sz : kvs.length ≤ SZ) (ok : kvs.all (fun kv => kOk kv.1) = true) :
    Wk K cA G ρ σ H (Iti d od kv) (pairsD kvs) (fun G ρ σ H => ¬ Fre ρ σ d ∧ H d = some (.frz od (.dK kv)) ∧ Repk K cA (AvO G ρ σ) H kvs kv) where
  start := ⟨n, h, rp⟩
  size := by unfold pairsD; rw [List.length_map]; exact sz
  on := fun G G' ρ σ H ρ' σ' H' ⟨n, h, rp⟩ st hG => ⟨fun z => (st.fre d z).elim n fun z => (by rw [h] at z; cases z), st.keep d _ h n, Repk.tr (st.trG hG) _ _ rp⟩
  go := fun i G ρ σ H ⟨n, h, rp⟩ hl => ⟨h, by unfold pairsD at hl; rw [List.length_map] at hl; rw [rp.length]; exact hl⟩
  stop := fun i G ρ σ H ⟨n, h, rp⟩ hl => ⟨h, by unfold pairsD at hl; rw [List.length_map] at hl; rw [rp.length]; exact hl⟩
  yld := fun i G ρ σ H x H' _ ⟨n, h, rp⟩ ⟨T, k, v, e1, e2, e3, e4⟩ => by
    obtain ⟨dk, dd, f1, f2, f3⟩ := repk_at rp e1
    subst f2
    have hk : kOk dk = true := List.all_eq_true.mp ok _ (List.mem_of_getElem? f1)
    exact ⟨.tup [dk.dat, dd], by unfold pairsD; rw [List.getElem?_map, f1]; rfl, .inr ⟨T, _, _, e3, e2, e4, rfl, Reps.cons (rep_key hk) (Reps.cons f3 Reps.nil), (by decide : (2 : Nat) ≤ SZ)⟩⟩
theorem wk_val {d : Addr} {kv : List (Key × V)} {kvs : List (DK × D)} {od : Obj} (n : ¬ Fre ρ σ d) (h : H d = some (.frz od (.dK kv))) (rp : Repk K cA (AvO G ρ σ) H kvs kv) (sz : kvs.length ≤ SZ) :
    Wk K cA G ρ σ H (Itd d od kv) (kvs.map fun kv => kv.2) (fun G ρ σ H => ¬ Fre ρ σ d ∧ H d = some (.frz od (.dK kv)) ∧ Repk K cA (AvO G ρ σ) H kvs kv) where
  start := ⟨n, h, rp⟩
  size := by rw [List.length_map]; exact sz
  on := fun G G' ρ σ H ρ' σ' H' ⟨n, h, rp⟩ st hG => ⟨fun z => (st.fre d z).elim n fun z => (by rw [h] at z; cases z), st.keep d _ h n, Repk.tr (st.trG hG) _ _ rp⟩
  go := fun i G ρ σ H ⟨n, h, rp⟩ hl => ⟨h, by rw [List.length_map] at hl; rw [rp.length]; exact hl⟩
  stop := fun i G ρ σ H ⟨n, h, rp⟩ hl => ⟨h, by rw [List.length_map] at hl; rw [rp.length]; exact hl⟩
  yld := fun i G ρ σ H x H' _ ⟨n, h, rp⟩ ⟨e0, k, e1⟩ => by
    obtain ⟨dk, dd, f1, f2, f3⟩ := repk_at rp e1
    exact ⟨dd, by rw [List.getElem?_map, f1]; rfl, .inl ⟨e0, f3⟩⟩
theorem wk_key {d : Addr} {kv : List (Key × V)} {kvs : List (DK × D)} {od : Obj} (n : ¬ Fre ρ σ d) (h : H d = some (.frz od (.dK kv))) (rp : Repk K cA (AvO G ρ σ) H kvs kv) (sz : kvs.length ≤ SZ) (ok : kvs.all (fun kv => kOk kv.1) = true) :
    Wk K cA G ρ σ H (Itk d od kv) (kvs.map fun kv => kv.1.dat) (fun G ρ σ H => ¬ Fre ρ σ d ∧ H d = some (.frz od (.dK kv)) ∧ Repk K cA (AvO G ρ σ) H kvs kv) where
  start := ⟨n, h, rp⟩
  size := by rw [List.length_map]; exact sz
  on := fun G G' ρ σ H ρ' σ' H' ⟨n, h, rp⟩ st hG => ⟨fun z => (st.fre d z).elim n fun z => (by rw [h] at z; cases z), st.keep d _ h n, Repk.tr (st.trG hG) _ _ rp⟩
  go := fun i G ρ σ H ⟨n, h, rp⟩ hl => ⟨h, by rw [List.length_map] at hl; rw [rp.length]; exact hl⟩
  stop := fun i G ρ σ H ⟨n, h, rp⟩ hl => ⟨h, by rw [List.length_map] at hl; rw [rp.length]; exact hl⟩
  yld := fun i G ρ σ H x H' _ ⟨n, h, rp⟩ ⟨e0, k, v, e1, e2⟩ => by
    obtain ⟨dk, dd, f1, f2, f3⟩ := repk_at rp e1
    subst f2
    have hk : kOk dk = true := List.all_eq_true.mp ok _ (List.mem_of_getElem? f1)
    exact ⟨dk.dat, by rw [List.getElem?_map, f1]; rfl, .inl ⟨e0, by rw [e2]; exact rep_key hk⟩⟩
/-- the dict that a plain name stands for, while it is walked -/
theorem dict_at {C : Cn} {i : Nat} {ie : IE} {x : RV} {kvs : List (DK × D)} (hi : ie = .var i ∨ ie = .peek i) (er : ER K cA G σ H ρ) (e : ev C ie ρ = .ok x ρ1) (w : walkD ρ1 x = some (.dct kvs)) :
    ρ1 = ρ ∧ ∃ d kv, σ[i]? = some (some (.ref d)) ∧ Rd H d (.dK kv) ∧ Repk K cA (AvO G ρ σ) H kvs kv ∧ ¬ Fre ρ σ d := by
  rcases hi with hi | hi <;> subst hi <;> rw [ev] at e
  · split at e <;> cases e
    rename_i d g
    cases w
    obtain ⟨v, hv, r⟩ := er.val i _ g
    rw [Rep] at r
    obtain ⟨a, kv, rfl, n, r, q⟩ := r
    exact ⟨rfl, a, kv, hv, r, q, fun z => n (.inr z.ow)⟩
  · split at e <;> cases e
    rename_i m p lk g
    unfold walkD at w
    dsimp only at w
    split at w <;> first | (cases w; done) | skip
    rename_i m' p' g'
    rw [g] at g'
    cases g'
    obtain ⟨a, ha, _, rm, _⟩ := er.own i m p true g
    cases m with
    | lst ds => cases w
    | ins c ds => cases w
    | dct ds =>
      cases w
      obtain ⟨kv, r, q⟩ := rm
      refine ⟨rfl, a, kv, ha, r, q, fun z => ?_⟩
      obtain ⟨j, m1, p1, g1, q1⟩ := z
      have := er.dis i j _ _ _ _ _ _ _ g g1 ha q1
      subst this
      rw [g] at g1
      cases g1
theorem go_unlock {f : Flow} {d : Addr} {kv : List (Key × V)} {od : Obj} {Dn : Ends} (h : H d = some (.dK kv)) (n : ¬ Fre ρL σ d) (hq : GoF K cA G ρL σ H f ρ2 Dn) :
    GoF K cA G ρL σ (upd H d (.frz od (.dK kv))) f ρ2 ⟨fun σ' H' => H' d = some (.frz od (.dK kv)) ∧ Dn.nx σ' (upd H' d (.dK kv)), fun v H' => H' d = some (.frz od (.dK kv)) ∧ Dn.rt v (upd H' d (.dK kv)), fun σ' H' => H' d = some (.frz od (.dK kv)) ∧ Dn.bk σ' (upd H' d (.dK kv)), fun σ' H' => H' d = some (.frz od (.dK kv)) ∧ Dn.ct σ' (upd H' d (.dK kv))⟩ := by
  have hl : upd H d (.frz od (.dK kv)) d = some (.frz od (.dK kv)) := upd_same
  have kd : ∀ {σ' H'}, Step ρL σ (upd H d (.frz od (.dK kv))) ρ2 σ' H' → H' d = some (.frz od (.dK kv)) ∧ ¬ Fre ρ2 σ' d := fun {σ' H'} st => ⟨st.keep d _ hl n, fun z => (st.fre d z).elim n fun z => (by rw [hl] at z; cases z)⟩
  cases f with
  | nx => exact fun σ' H' er st => ⟨(kd st).1, hq σ' _ (er_unlock' er (kd st).1 (kd st).2) (step_unlock' h st)⟩
  | bk => exact fun σ' H' er st => ⟨(kd st).1, hq σ' _ (er_unlock' er (kd st).1 (kd st).2) (step_unlock' h st)⟩
  | ct => exact fun σ' H' er st => ⟨(kd st).1, hq σ' _ (er_unlock' er (kd st).1 (kd st).2) (step_unlock' h st)⟩
  | rt r =>
    refine fun v σ' H' rq st => ⟨(kd st).1, hq v σ' _ ?_ (step_unlock' h st)⟩
    obtain ⟨h1, h2⟩ := kd st
    have t : ∀ {Av : Addr → Prop}, Tr Av Av H' (upd H' d (.dK kv)) := fun {Av} b n _ => ⟨n, ag_unlock h1 b⟩
    cases r with
    | d x => exact ⟨er_unlock' rq.1 h1 h2, rq.2.tr t⟩
    | p i => exact rq.elim
    | f m =>
      obtain ⟨p, e1, e2, e3, e4, e5, e6⟩ := rq
      have ne : p ≠ d := fun z => by
        rcases e6 with e6 | e6
        · exact n (by rw [← z]; exact e6)
        · rw [z, hl] at e6; cases e6
      refine ⟨p, e1, er_unlock' e2 h1 h2, e3.tr t (ag_unlock h1 p), fun o u => by rw [upd_ne ne]; exact e4 o u, e5, e6.imp id fun z => ?_⟩
      rw [upd_ne ne] at z
      exact z
end
section
variable {X : Cx} {cA : Nat → Addr} {C : Cn}
/-- locked behind its making, for good -/
def tLk (td : TE) : TE := fun σ H Q => td σ H fun x H1 => ∃ d u, x = .ref d ∧ H1 d = some u ∧ Mut (some u) ∧ ∀ od, Q x (upd H1 d (.frz od u))
theorem pe_lk {e : Expr} {td : TE} (he : PE X e td) : PE X e (tLk td) := ⟨fun pins s σ H Q I h => thn (he.run pins s σ H _ I h) fun v s1 ⟨x, H1, I1, r, d, u, ex, hd, mu, q⟩ => by
  obtain ⟨od, I2⟩ := I1.lock hd mu
  exact ⟨x, _, I2, r, q od⟩⟩
theorem i_itmF {e : Expr} {ie : IE} {elts : List Expr} {kk : Nat} {tpos apos cpos : Pos} (he : PE X e (tI X.K cA C ie)) (hb : plainBase e = true) (hl : (apos.endLine == cpos.line) = true) : PI X (.Tuple elts kk tpos) (.Call (.Attribute e "items" apos) [] [] cpos) (tP X.K cA C (.itmF ie)) :=
  (pi_items (pe_lk he) (base_of hb) hl).imp fun σ H R ⟨G, ρ, x, ρ', ds, er, e1, w, q⟩ => by
    rw [ev] at e1
    obtain ⟨y, ρ1, e2, e1⟩ := Out.bind_inv e1
    split at e1 <;> first | (cases e1; done) | skip
    rename_i kvs
    obtain ⟨e3, e4⟩ := Out.of_inv e1
    subst e4
    unfold itmE at e3
    dsimp only at e3
    split at e3
    · rename_i hc
      cases e3
      cases w
      refine ⟨G, ρ, _, _, er, e2, fun v H1 rr st => ?_⟩
      obtain ⟨p, rfl, er1, ⟨kv, rd, rp⟩, nf, na, nw⟩ := rr
      have hp : H1 p = some (.dK kv) := rd.elim id fun ⟨o, z⟩ => absurd z (nf o _)
      have nF : ¬ Fre ρ1 σ p := fun z => na (.inr z.ow)
      refine ⟨p, .dK kv, rfl, hp, trivial, fun od => ⟨p, od, kv, rfl, upd_same, ?_⟩⟩
      have er2 := er_lock' (od := od) er1.less hp nF
      have t : Tr (AvO (plus G p) ρ1 σ) (AvO G ρ1 σ) H1 (upd H1 p (.frz od (.dK kv))) := fun b n _ => ⟨fun z => n (avO_plus.mpr (.inl z)), ag_lock hp b⟩
      have st2 : Step ρ σ H ρ1 σ (upd H1 p (.frz od (.dK kv))) := by
        refine ⟨fun b o hb' n => ?_, st.own, st.fre, st.pin, fun b h => upd_in (st.dom b h), st.lkd⟩
        by_cases e : b = p
        · subst e
          rcases nw with nw | nw
          · exact absurd nw n
          · rw [nw] at hb'; cases hb'
        · rw [upd_ne e]; exact st.keep b o hb' n
      exact q _ _ _ er2 st2 (wk_itm nF upd_same (Repk.tr t _ _ rp) hc.1 hc.2)
    · cases e3
/-- for .. in d.items(), d.values(), d a plain name -/
theorem st_forD {st : Stmt} {itg : Tg} {ib : List IS} {wi : TI} {i : Nat} {it ie : IE} {lk : Option Nat} {J : Addr → Obj → List (Key × V) → It} {dsOf : List (DK × D) → List D} {cond : List (DK × D) → Prop} (core : PS X st (tForG X.K cA C itg ib wi)) (hie : ie = .var i ∨ ie = .peek i)
    (hwi : ∀ {σ : St} {H : Hp} {R : It → Hp → Prop} {d : Addr} {o : Obj} {kv : List (Key × V)}, σ[i]? = some (some (.ref d)) → H d = some (.frz o (.dK kv)) → R (J d o kv) H → wi σ H R)
    (hwk : ∀ {G : Addr → Prop} {ρ : Env} {σ : St} {H : Hp} {d : Addr} {kv : List (Key × V)} {kvs : List (DK × D)} {od : Obj}, ¬ Fre ρ σ d → H d = some (.frz od (.dK kv)) → Repk X.K cA (AvO G ρ σ) H kvs kv → cond kvs → ∃ Good, Wk X.K cA G ρ σ H (J d od kv) (dsOf kvs) Good)
    (hev : ∀ {ρ : Env} {x : RV} {ρ1 : Env} {ds : List D}, ev C it ρ = .ok x ρ1 → walk ρ1 x = some ds → ∃ y kvs, ev C ie ρ = .ok y ρ1 ∧ walkD ρ1 y = some (.dct kvs) ∧ ds = dsOf kvs ∧ cond kvs) :
    PS X st (tS X.K cA C (.for_ itg it lk ib)) := ((ps_lock core).or core).imp fun D σ H ⟨G, ρ, f, ρ', er, e, q⟩ => by
  rw [evS] at e
  split at e <;> first | (cases e; done) | skip
  rename_i ρL hL
  obtain ⟨x, ρ1, e1, e⟩ := Out.bind_inv e
  split at e <;> first | (cases e; done) | skip
  rename_i ds hw
  obtain ⟨f2, ρ2, e2, e⟩ := Out.bind_inv e
  cases e
  have erL := er_lock er hL
  obtain ⟨y, kvs, e3, e4, e5, hc⟩ := hev e1 hw
  subst e5
  obtain ⟨rfl, d, kv, hd, rd, rp, nF⟩ := dict_at hie erL e3 e4
  have fin : GoF X.K cA G ρ1 σ H f ρ2 D := go_unlk er hL q
  rcases rd with rd | ⟨o, rd⟩
  · refine .inl ⟨d, .dK kv, rd, trivial, fun od => ?_⟩
    have er2 := er_lock' (od := od) erL rd nF
    have t : Tr (AvO G ρ1 σ) (AvO G ρ1 σ) H (upd H d (.frz od (.dK kv))) := fun b n _ => ⟨n, ag_lock rd b⟩
    obtain ⟨Good, wk⟩ := hwk nF (upd_same (H := H) (a := d) (o := .frz od (.dK kv))) (Repk.tr t _ _ rp) hc
    exact hwi hd upd_same ⟨G, ρ1, _, Good, f, ρ2, er2, wk, e2, go_unlock rd nF fin⟩
  · right
    obtain ⟨Good, wk⟩ := hwk nF rd rp hc
    exact hwi hd rd ⟨G, ρ1, _, Good, f, ρ2, erL, wk, e2, fin⟩
theorem lcD {elt tg iter : Expr} {ifs : List Expr} {scope : Scope} {own : List (Str × Nat)} {pos : Pos} {itg : Tg} {wi : TI} {i : Nat} {it iv ie : IE} {lk : Option Nat} {cs : List IE} {J : Addr → Obj → List (Key × V) → It} {dsOf : List (DK × D) → List D} {cond : List (DK × D) → Prop}
    (hm : ∀ {σ : St} {H : Hp} {R R' : It → Hp → Prop}, (∀ J H', R J H' → R' J H') → wi σ H R → wi σ H R') (hc : X.calm = true) (hN : X.N.Nodup) (ok : BlkOk X.N X.env.scope scope own)
    (hg : ∀ (s : Shared) (H : Hp) (Ca : Addr) (cl : List (Str × Addr)) (fp : List Addr), PG (X.blk s H scope (compEnvC scope cl Ca X.env) fp) tg (tGt X.K cA itg))
    (ht : ∀ (s : Shared) (H : Hp) (Ca : Addr) (cl : List (Str × Addr)) (fp : List Addr), PTs (X.blk s H scope (compEnvC scope cl Ca X.env) fp) ifs (tCs X.K cA C cs))
    (he : ∀ (s : Shared) (H : Hp) (Ca : Addr) (cl : List (Str × Addr)) (fp : List Addr), PE (X.blk s H scope (compEnvC scope cl Ca X.env) fp) elt (tI X.K cA C ie))
    (hs : ∀ x, foldedSetIterable iter X.env x = pure x) (ho : (tgS itg).all (fun i => (own.map (·.2)).contains i) = true) (hie : iv = .var i ∨ iv = .peek i)
    (hwi : ∀ {σ : St} {H : Hp} {R : It → Hp → Prop} {d : Addr} {o : Obj} {kv : List (Key × V)}, σ[i]? = some (some (.ref d)) → H d = some (.frz o (.dK kv)) → R (J d o kv) H → wi σ H R)
    (hwk : ∀ {G : Addr → Prop} {ρ : Env} {σ : St} {H : Hp} {d : Addr} {kv : List (Key × V)} {kvs : List (DK × D)} {od : Obj}, ¬ Fre ρ σ d → H d = some (.frz od (.dK kv)) → Repk X.K cA (AvO G ρ σ) H kvs kv → cond kvs → ∃ Good, Wk X.K cA G ρ σ H (J d od kv) (dsOf kvs) Good)
    (hev : ∀ {ρ : Env} {x : RV} {ρ1 : Env} {ds : List D}, ev C it ρ = .ok x ρ1 → walk ρ1 x = some ds → ∃ y kvs, ev C iv ρ = .ok y ρ1 ∧ walkD ρ1 y = some (.dct kvs) ∧ ds = dsOf kvs ∧ cond kvs) :
    ∀ (σ : St) (H : Hp) (Q : VK), tI X.K cA C (.lc (own.map (·.2)) itg it lk cs ie) σ H Q → tLockE (tLc wi (tGt X.K cA itg) (tCs X.K cA C cs) (tI X.K cA C ie) (own.map (·.2))) σ H Q ∨ tLc wi (tGt X.K cA itg) (tCs X.K cA C cs) (tI X.K cA C ie) (own.map (·.2)) σ H Q := by
  intro σ H Q ⟨G, ρ, z, ρ', er, e, q⟩
  rw [ev] at e
  split at e <;> first | (cases e; done) | skip
  rename_i ρL hL
  obtain ⟨x, ρ1, e1, e⟩ := Out.bind_inv e
  split at e <;> first | (cases e; done) | skip
  rename_i ds hw
  split at e <;> first | (cases e; done) | skip
  rename_i np
  obtain ⟨res, ρf, e2, e⟩ := Out.bind_inv e
  cases e
  have erL := er_lock er hL
  obtain ⟨y, kvs, e3, e4, e5, hcn⟩ := hev e1 hw
  subst e5
  obtain ⟨rfl, d, kv, hd, rd, rp, nF⟩ := dict_at hie erL e3 e4
  rcases rd with rd | ⟨o, rd⟩
  · refine .inl ⟨d, .dK kv, rd, trivial, fun od => ?_⟩
    have er2 := er_lock' (od := od) erL rd nF
    have t : Tr (AvO G ρ1 σ) (AvO G ρ1 σ) H (upd H d (.frz od (.dK kv))) := fun b n _ => ⟨n, ag_lock rd b⟩
    have hl : upd H d (.frz od (.dK kv)) d = some (.frz od (.dK kv)) := upd_same
    obtain ⟨Good, wk⟩ := hwk nF hl (Repk.tr t _ _ rp) hcn
    refine s_lc_core (pos := pos) (wi := wi) hm hc hN ok hg ht he hs ho σ _ _ (hwi hd hl ⟨G, ρ1, _, Good, res, ρf, er2, wk, np, e2, fun Dn H2 vacc nD er3 st3 hD rp3 sz => ?_⟩)
    have kd : H2 d = some (.frz od (.dK kv)) := st3.keep d _ hl nF
    have nF2 : ¬ Fre ρf σ d := fun z => (st3.fre d z).elim nF fun z => (by rw [hl] at z; cases z)
    have ne : Dn ≠ d := fun z => by rw [z, hl] at nD; cases nD
    have nD' : H Dn = none := by rw [upd_ne ne] at nD; exact nD
    have hD2 : upd H2 d (.dK kv) Dn = some (.lst vacc) := by rw [upd_ne ne]; exact hD
    have t2 : Tr (AvO (plus G Dn) ρf σ) (AvO (plus G Dn) ρf σ) H2 (upd H2 d (.dK kv)) := fun b n _ => ⟨n, ag_unlock kd b⟩
    obtain ⟨a, b⟩ := lc_fin (m := .lst res) er hL (Step.refl _ _ _) nD' (er_unlock' er3 kd nF2) (step_unlock' rd st3) ⟨vacc, sz, .inl hD2, Reps.tr t2 _ _ rp3⟩ (fun o u z => by rw [hD2] at z; cases z) erL.gin
    exact ⟨kd, q _ _ a b⟩
  · right
    obtain ⟨Good, wk⟩ := hwk nF rd rp hcn
    refine s_lc_core (pos := pos) (wi := wi) hm hc hN ok hg ht he hs ho σ _ _ (hwi hd rd ⟨G, ρ1, _, Good, res, ρf, erL, wk, np, e2, fun Dn H2 vacc nD er3 st3 hD rp3 sz => ?_⟩)
    obtain ⟨a, b⟩ := lc_fin (m := .lst res) er hL (Step.refl _ _ _) nD er3 st3 ⟨vacc, sz, .inl hD, rp3⟩ (fun o u z => by rw [hD] at z; cases z) erL.gin
    exact q _ _ a b
theorem dcD {kx elt tg iter : Expr} {ifs : List Expr} {scope : Scope} {own : List (Str × Nat)} {pos : Pos} {itg : Tg} {wi : TI} {i : Nat} {it iv ik ie : IE} {lk : Option Nat} {cs : List IE} {J : Addr → Obj → List (Key × V) → It} {dsOf : List (DK × D) → List D} {cond : List (DK × D) → Prop}
    (hm : ∀ {σ : St} {H : Hp} {R R' : It → Hp → Prop}, (∀ J H', R J H' → R' J H') → wi σ H R → wi σ H R') (hc : X.calm = true) (hN : X.N.Nodup) (ok : BlkOk X.N X.env.scope scope own)
    (hg : ∀ (s : Shared) (H : Hp) (Ca : Addr) (cl : List (Str × Addr)) (fp : List Addr), PG (X.blk s H scope (compEnvC scope cl Ca X.env) fp) tg (tGt X.K cA itg))
    (ht : ∀ (s : Shared) (H : Hp) (Ca : Addr) (cl : List (Str × Addr)) (fp : List Addr), PTs (X.blk s H scope (compEnvC scope cl Ca X.env) fp) ifs (tCs X.K cA C cs))
    (hk : ∀ (s : Shared) (H : Hp) (Ca : Addr) (cl : List (Str × Addr)) (fp : List Addr), PE (X.blk s H scope (compEnvC scope cl Ca X.env) fp) kx (tI X.K cA C ik))
    (he : ∀ (s : Shared) (H : Hp) (Ca : Addr) (cl : List (Str × Addr)) (fp : List Addr), PE (X.blk s H scope (compEnvC scope cl Ca X.env) fp) elt (tI X.K cA C ie))
    (hs : ∀ x, foldedSetIterable iter X.env x = pure x) (ho : (tgS itg).all (fun i => (own.map (·.2)).contains i) = true) (hie : iv = .var i ∨ iv = .peek i)
    (hwi : ∀ {σ : St} {H : Hp} {R : It → Hp → Prop} {d : Addr} {o : Obj} {kv : List (Key × V)}, σ[i]? = some (some (.ref d)) → H d = some (.frz o (.dK kv)) → R (J d o kv) H → wi σ H R)
    (hwk : ∀ {G : Addr → Prop} {ρ : Env} {σ : St} {H : Hp} {d : Addr} {kv : List (Key × V)} {kvs : List (DK × D)} {od : Obj}, ¬ Fre ρ σ d → H d = some (.frz od (.dK kv)) → Repk X.K cA (AvO G ρ σ) H kvs kv → cond kvs → ∃ Good, Wk X.K cA G ρ σ H (J d od kv) (dsOf kvs) Good)
    (hev : ∀ {ρ : Env} {x : RV} {ρ1 : Env} {ds : List D}, ev C it ρ = .ok x ρ1 → walk ρ1 x = some ds → ∃ y kvs, ev C iv ρ = .ok y ρ1 ∧ walkD ρ1 y = some (.dct kvs) ∧ ds = dsOf kvs ∧ cond kvs) :
    ∀ (σ : St) (H : Hp) (Q : VK), tI X.K cA C (.dc (own.map (·.2)) itg it lk cs ik ie) σ H Q → tLockE (tDc wi (tGt X.K cA itg) (tCs X.K cA C cs) (tI X.K cA C ik) (tI X.K cA C ie) (own.map (·.2))) σ H Q ∨ tDc wi (tGt X.K cA itg) (tCs X.K cA C cs) (tI X.K cA C ik) (tI X.K cA C ie) (own.map (·.2)) σ H Q := by
  intro σ H Q ⟨G, ρ, z, ρ', er, e, q⟩
  rw [ev] at e
  split at e <;> first | (cases e; done) | skip
  rename_i ρL hL
  obtain ⟨x, ρ1, e1, e⟩ := Out.bind_inv e
  split at e <;> first | (cases e; done) | skip
  rename_i ds hw
  split at e <;> first | (cases e; done) | skip
  rename_i np
  obtain ⟨res, ρf, e2, e⟩ := Out.bind_inv e
  cases e
  have erL := er_lock er hL
  obtain ⟨y, kvs, e3, e4, e5, hcn⟩ := hev e1 hw
  subst e5
  obtain ⟨rfl, d, kv, hd, rd, rp, nF⟩ := dict_at hie erL e3 e4
  rcases rd with rd | ⟨o, rd⟩
  · refine .inl ⟨d, .dK kv, rd, trivial, fun od => ?_⟩
    have er2 := er_lock' (od := od) erL rd nF
    have t : Tr (AvO G ρ1 σ) (AvO G ρ1 σ) H (upd H d (.frz od (.dK kv))) := fun b n _ => ⟨n, ag_lock rd b⟩
    have hl : upd H d (.frz od (.dK kv)) d = some (.frz od (.dK kv)) := upd_same
    obtain ⟨Good, wk⟩ := hwk nF hl (Repk.tr t _ _ rp) hcn
    refine s_dc_core (pos := pos) (wi := wi) hm hc hN ok hg ht hk he hs ho σ _ _ (hwi hd hl ⟨G, ρ1, _, Good, res, ρf, er2, wk, np, e2, fun Dn H2 vacc nD er3 st3 hD rp3 => ?_⟩)
    have kd : H2 d = some (.frz od (.dK kv)) := st3.keep d _ hl nF
    have nF2 : ¬ Fre ρf σ d := fun z => (st3.fre d z).elim nF fun z => (by rw [hl] at z; cases z)
    have ne : Dn ≠ d := fun z => by rw [z, hl] at nD; cases nD
    have nD' : H Dn = none := by rw [upd_ne ne] at nD; exact nD
    have hD2 : upd H2 d (.dK kv) Dn = some (.dK vacc) := by rw [upd_ne ne]; exact hD
    have t2 : Tr (AvO (plus G Dn) ρf σ) (AvO (plus G Dn) ρf σ) H2 (upd H2 d (.dK kv)) := fun b n _ => ⟨n, ag_unlock kd b⟩
    obtain ⟨a, b⟩ := lc_fin (m := .dct (Ev.mergeK [] res)) er hL (Step.refl _ _ _) nD' (er_unlock' er3 kd nF2) (step_unlock' rd st3) ⟨vacc, .inl hD2, Repk.tr t2 _ _ rp3⟩ (fun o u z => by rw [hD2] at z; cases z) erL.gin
    exact ⟨kd, q _ _ a b⟩
  · right
    obtain ⟨Good, wk⟩ := hwk nF rd rp hcn
    refine s_dc_core (pos := pos) (wi := wi) hm hc hN ok hg ht hk he hs ho σ _ _ (hwi hd rd ⟨G, ρ1, _, Good, res, ρf, erL, wk, np, e2, fun Dn H2 vacc nD er3 st3 hD rp3 => ?_⟩)
    obtain ⟨a, b⟩ := lc_fin (m := .dct (Ev.mergeK [] res)) er hL (Step.refl _ _ _) nD er3 st3 ⟨vacc, .inl hD, rp3⟩ (fun o u z => by rw [hD] at z; cases z) erL.gin
    exact q _ _ a b
end
end Ev
end
/-! Ej -/
section
set_option Elab.async false
set_option linter.all false
set_option maxRecDepth 100000
set_option maxHeartbeats 1000000
namespace Ev
open PySem L2
open SX (S)
section
variable {X : Cx} {cA : Nat → Addr} {C : Cn} {k : Ck} {lev : Nat}
theorem name_of (fa : Fa k C cA X lev) {ie : IE} {x : Str} {p : Pos} (h : nameC k ie x = true) : ∃ i, (ie = .var i ∨ ie = .peek i) ∧ PE X (.Name x p) (tVar i) := by
  unfold nameC at h
  split at h
  · exact ⟨_, .inl rfl, okName_of fa h⟩
  · exact ⟨_, .inr rfl, okName_of fa h⟩
  · cases h
theorem itm_ev {ie : IE} {ρ : Env} {x : RV} {ρ1 : Env} {ds : List D} (e : ev C (.itms ie) ρ = .ok x ρ1) (w : walk ρ1 x = some ds) : ∃ y kvs, ev C ie ρ = .ok y ρ1 ∧ walkD ρ1 y = some (.dct kvs) ∧ ds = pairsD kvs ∧ (kvs.length ≤ SZ ∧ kvs.all (fun kv => kOk kv.1) = true) := by
  rw [ev] at e
  obtain ⟨y, ρ2, e1, e⟩ := Out.bind_inv e
  obtain ⟨e2, e3⟩ := Out.of_inv e
  subst e3
  obtain ⟨d, e4, e5⟩ := Option.bind_eq_some_iff.mp e2
  unfold itmE at e5
  split at e5
  · split at e5
    · rename_i hc
      cases e5
      cases w
      exact ⟨y, _, e1, e4, rfl, hc⟩
    · cases e5
  · cases e5
theorem val_ev {ie : IE} {ρ : Env} {x : RV} {ρ1 : Env} {ds : List D} (e : ev C (.vals ie) ρ = .ok x ρ1) (w : walk ρ1 x = some ds) : ∃ y kvs, ev C ie ρ = .ok y ρ1 ∧ walkD ρ1 y = some (.dct kvs) ∧ ds = kvs.map (fun kv => kv.2) ∧ kvs.length ≤ SZ := by
  rw [ev] at e
  obtain ⟨y, ρ2, e1, e⟩ := Out.bind_inv e
  obtain ⟨e2, e3⟩ := Out.of_inv e
  subst e3
  obtain ⟨d, e4, e5⟩ := Option.bind_eq_some_iff.mp e2
  unfold valE at e5
  split at e5
  · split at e5
    · rename_i hc
      cases e5
      cases w
      exact ⟨y, _, e1, e4, rfl, hc⟩
    · cases e5
  · cases e5
theorem key_ev {ie : IE} {ρ : Env} {x : RV} {ρ1 : Env} {ds : List D} (e : ev C (.keys ie) ρ = .ok x ρ1) (w : walk ρ1 x = some ds) : ∃ y kvs, ev C ie ρ = .ok y ρ1 ∧ walkD ρ1 y = some (.dct kvs) ∧ ds = kvs.map (fun kv => kv.1.dat) ∧ (kvs.length ≤ SZ ∧ kvs.all (fun kv => kOk kv.1) = true) := by
  rw [ev] at e
  obtain ⟨y, ρ2, e1, e⟩ := Out.bind_inv e
  obtain ⟨e2, e3⟩ := Out.of_inv e
  subst e3
  obtain ⟨d, e4, e5⟩ := Option.bind_eq_some_iff.mp e2
  unfold keyE at e5
  split at e5
  · split at e5
    · rename_i hc
      cases e5
      cases w
      exact ⟨y, _, e1, e4, rfl, hc⟩
    · cases e5
  · cases e5
/-- all that is known of a walk over a named dict -/
structure DWalk (X : Cx) (cA : Nat → Addr) (C : Cn) (it : IE) (iter t : Expr) : Prop where
  ex : ∃ (wi : TI) (i : Nat) (iv : IE) (J : Addr → Obj → List (Key × V) → It) (dsOf : List (DK × D) → List D) (cond : List (DK × D) → Prop), PI X t iter wi ∧
    (∀ {σ : St} {H : Hp} {R R' : It → Hp → Prop}, (∀ J H', R J H' → R' J H') → wi σ H R → wi σ H R') ∧ (iv = .var i ∨ iv = .peek i) ∧
    (∀ {σ : St} {H : Hp} {R : It → Hp → Prop} {d : Addr} {o : Obj} {kv : List (Key × V)}, σ[i]? = some (some (.ref d)) → H d = some (.frz o (.dK kv)) → R (J d o kv) H → wi σ H R) ∧
    (∀ {G : Addr → Prop} {ρ : Env} {σ : St} {H : Hp} {d : Addr} {kv : List (Key × V)} {kvs : List (DK × D)} {od : Obj}, ¬ Fre ρ σ d → H d = some (.frz od (.dK kv)) → Repk X.K cA (AvO G ρ σ) H kvs kv → cond kvs → ∃ Good, Wk X.K cA G ρ σ H (J d od kv) (dsOf kvs) Good) ∧
    (∀ {ρ : Env} {x : RV} {ρ1 : Env} {ds : List D}, ev C it ρ = .ok x ρ1 → walk ρ1 x = some ds → ∃ y kvs, ev C iv ρ = .ok y ρ1 ∧ walkD ρ1 y = some (.dct kvs) ∧ ds = dsOf kvs ∧ cond kvs)
theorem dwalk_of (fa : Fa k C cA X lev) {t iter : Expr} {it : IE} (h : chkD k it iter t = true) : DWalk X cA C it iter t := by
  unfold chkD at h
  split at h
  · rename_i x p a apos cpos
    split at h
    · rename_i ie
      simp only [Bool.and_eq_true, decide_eq_true_eq] at h
      obtain ⟨⟨⟨rfl, h1⟩, h2⟩, h3⟩ := h
      obtain ⟨i, hi, pe⟩ := name_of (p := p) fa h3
      cases t <;> first | (cases h2; done) | skip
      exact ⟨⟨iItems (tVar i), i, ie, Iti, pairsD, _, pi_items pe (base_of rfl) h1, fun {σ H R R'} m ⟨v, h1, d, o, kvs, h2, h3, h4⟩ => ⟨v, h1, d, o, kvs, h2, h3, m _ _ h4⟩, hi,
        fun h1 h2 h3 => ⟨_, h1, _, _, _, rfl, h2, h3⟩, fun n h rp c => ⟨_, wk_itm n h rp c.1 c.2⟩, itm_ev⟩⟩
    · rename_i ie
      simp only [Bool.and_eq_true, decide_eq_true_eq] at h
      obtain ⟨⟨rfl, h1⟩, h3⟩ := h
      obtain ⟨i, hi, pe⟩ := name_of (p := p) fa h3
      exact ⟨⟨iVals (tVar i), i, ie, Itd, fun kvs => kvs.map fun kv => kv.2, _, pi_values pe (base_of rfl) h1, fun {σ H R R'} m ⟨v, h1, d, o, kvs, h2, h3, h4⟩ => ⟨v, h1, d, o, kvs, h2, h3, m _ _ h4⟩, hi,
        fun h1 h2 h3 => ⟨_, h1, _, _, _, rfl, h2, h3⟩, fun n h rp c => ⟨_, wk_val n h rp c⟩, val_ev⟩⟩
    · cases h
  · rename_i x p
    split at h
    · rename_i ie
      obtain ⟨i, hi, pe⟩ := name_of (p := p) fa h
      exact ⟨⟨iKeys (tVar i), i, ie, Itk, fun kvs => kvs.map fun kv => kv.1.dat, _, pi_keys pe, fun {σ H R R'} m ⟨v, h1, d, o, h2, h3⟩ => ⟨v, h1, d, o, h2, h3.imp (fun ⟨kvs, h4, h5⟩ => ⟨kvs, h4, m _ _ h5⟩) fun ⟨kvs, h4, h5⟩ => ⟨kvs, h4, m _ _ h5⟩⟩, hi,
        fun h1 h2 h3 => ⟨_, h1, _, _, rfl, .inl ⟨_, h2, h3⟩⟩, fun n h rp c => ⟨_, wk_key n h rp c.1 c.2⟩, key_ev⟩⟩
    · cases h
  · cases h
end
end Ev
end
/-! F1 -/
section
set_option Elab.async false
set_option linter.all false
set_option autoImplicit false
set_option maxRecDepth 100000
set_option maxHeartbeats 1000000
namespace Ev
open PySem L2
open SX (S)
section
variable {X : Cx} {cA : Nat → Addr} {C : Cn} {k : Ck} {lev : Nat}
theorem tI_mono {K : PySem.W.Frag} {ie : IE} {σ : St} {H : Hp} {Q Q' : VK} (h : tI K cA C ie σ H Q) (m : ∀ v H', Q v H' → Q' v H') : tI K cA C ie σ H Q' := by
  obtain ⟨G, ρ, r, ρ', er, e, q⟩ := h
  exact ⟨G, ρ, r, ρ', er, e, fun v H' rr st => m _ _ (q v H' rr st)⟩
theorem fx_red {f : FX} {es : List IE} {σ : St} {H : Hp} {Q : VK} (h : tI X.K cA C (.fx f es) σ H Q) : tR X.K cA C es σ H fun vs H1 => rBi X.K cA (fxE f) vs H1 Q := by
  obtain ⟨G, ρ, r, ρ', er, e, q⟩ := h
  rw [ev] at e
  obtain ⟨rs, ρ1, e1, e⟩ := Out.bind_inv e
  obtain ⟨e2, e3⟩ := Out.of_inv e
  subst e3
  obtain ⟨ds, e4, e5⟩ := Option.bind_eq_some_iff.mp e2
  exact ⟨G, ρ, rs, ρ1, er, e1, fun vs H1 er1 rh st => ⟨G, ρ1, σ, ds, r, er1, lookAll_rl er1 e4 rh, e5, res_of st q⟩⟩
theorem r_nil {K : PySem.W.Frag} {σ : St} {H : Hp} {Q : List V → Hp → Prop} (h : tR K cA C [] σ H Q) : Q [] H := by
  obtain ⟨G, ρ, rs, ρ', er, e, q⟩ := h
  rw [evR] at e
  cases e
  exact q [] H er rfl (Step.refl _ _ _)
theorem r_cons {K : PySem.W.Frag} {a : IE} {es : List IE} {σ : St} {H : Hp} {Q : List V → Hp → Prop} (h : tR K cA C (a :: es) σ H Q) : tI K cA C a σ H fun v H1 => tR K cA C es σ H1 fun vs H2 => Q (v :: vs) H2 := by
  obtain ⟨G, ρ, rs, ρ', er, e, q⟩ := h
  rw [evR] at e
  obtain ⟨r, ρ1, e1, e⟩ := Out.bind_inv e
  obtain ⟨rs', ρ2, e2, e⟩ := Out.bind_inv e
  cases e
  exact ⟨G, ρ, r, ρ1, er, e1, fun v H1 rr st => ⟨G, ρ1, rs', _, rr.er, e2, fun vs H2 er2 rh st2 => q (v :: vs) H2 er2 ⟨v, vs, rfl, rr.hold.later st2, rh⟩ (st.trans st2)⟩⟩
theorem r_one {K : PySem.W.Frag} {a : IE} {σ : St} {H : Hp} {Q : List V → Hp → Prop} (h : tR K cA C [a] σ H Q) : tI K cA C a σ H fun v H1 => Q [v] H1 := tI_mono (r_cons h) fun _ _ q => r_nil q
theorem r_two {K : PySem.W.Frag} {a b : IE} {σ : St} {H : Hp} {Q : List V → Hp → Prop} (h : tR K cA C [a, b] σ H Q) : tI K cA C a σ H fun v H1 => tI K cA C b σ H1 fun u H2 => Q [v, u] H2 := tI_mono (r_cons h) fun _ _ q => r_one q
/-- the first operand, a text, is known ahead of the others -/
theorem fx_str {f : FX} {a : IE} {es : List IE} {σ : St} {H : Hp} {Q : VK} (hf : ∀ ds r, fxE f ds = some r → ∃ l q, ds = .str l :: q) (h : tI X.K cA C (.fx f (a :: es)) σ H Q) :
    tI X.K cA C a σ H fun v H1 => (∃ l, v = .str (S l)) ∧ tR X.K cA C es σ H1 fun vs H2 => rBi X.K cA (fxE f) (v :: vs) H2 Q := by
  obtain ⟨G, ρ, r, ρ', er, e, q⟩ := h
  rw [ev] at e
  obtain ⟨rs, ρ1, e1, e⟩ := Out.bind_inv e
  obtain ⟨e2, e3⟩ := Out.of_inv e
  subst e3
  obtain ⟨ds, e4, e5⟩ := Option.bind_eq_some_iff.mp e2
  rw [evR] at e1
  obtain ⟨r0, ρ0, e6, e1⟩ := Out.bind_inv e1
  obtain ⟨rs', ρ2, e7, e1⟩ := Out.bind_inv e1
  cases e1
  obtain ⟨l, ds', rfl⟩ := hf _ _ e5
  refine ⟨G, ρ, r0, ρ0, er, e6, fun v H1 rr st => ⟨?_, G, ρ0, rs', _, rr.er, e7, fun vs H2 er2 rh st2 => ⟨G, _, σ, _, r, er2, lookAll_rl er2 e4 ⟨v, vs, rfl, rr.hold.later st2, rh⟩, e5, res_of (st.trans st2) q⟩⟩⟩
  have hh := rr.hold
  generalize r0.hold = x at hh e4
  simp only [lookAll] at e4
  obtain ⟨y, hy, e8⟩ := Option.bind_eq_some_iff.mp e4
  obtain ⟨q1, _, e9⟩ := Option.map_eq_some_iff.mp e8
  cases e9
  cases x with
  | d d =>
    cases hy
    have hh : Rep X.K cA (AvO G ρ0 σ) H1 (.str l) v := hh
    rw [Rep] at hh
    exact ⟨l, hh.1⟩
  | f m => exact hh.elim
  | p i =>
    unfold look at hy
    dsimp only at hy
    split at hy
    · rename_i m _ _ _
      cases m <;> cases hy
    · cases hy
theorem m0_inv {m : M0} {ds : List D} {r : RV} (h : fxE (.m0 m) ds = some r) : ∃ l, ds = [.str l] ∧ r = .d (.bl (m0T m l)) := by
  unfold fxE at h
  split at h <;> first | contradiction | skip
  rename_i e
  cases e
  cases h
  exact ⟨_, rfl, by rw [m0E_def]⟩
theorem s_m0 {m : M0} {o : Expr} {io : IE} {apos pos : Pos} (ho : PE X o (tI X.K cA C io)) (hb : plainBase o = true) (hl : (apos.endLine == pos.line) = true) : PE X (.Call (.Attribute o (m0N m) apos) [] [] pos) (tI X.K cA C (.fx (.m0 m) [io])) := by
  have key : ∀ σ H Q, tI X.K cA C (.fx (.m0 m) [io]) σ H Q → tI X.K cA C io σ H fun v H1 => ∃ l, v = .str (S l) ∧ Q (.bl (m0T m l)) H1 := fun σ H Q h => by
    refine tI_mono (r_one (fx_red h)) fun v H1 ⟨G, ρ, σ0, ds, r, er, rl, e, q⟩ => ?_
    obtain ⟨l, rfl, rfl⟩ := m0_inv e
    obtain ⟨v', hv, h1⟩ := rl.one
    cases hv
    exact ⟨l, h1.str.1, q.bl er⟩
  cases m
  · exact (pe_m0 PySem.F.slot_str_isascii PySem.F.type_str_isascii mt_isascii ho (base_of hb) hl).imp fun σ H Q h => tI_mono (key σ H Q h) fun v H1 ⟨l, e, q⟩ => ⟨⟨_, e⟩, _, e, rfl, trivial, q⟩
  · exact (pe_m0 PySem.F.slot_str_isalpha PySem.F.type_str_isalpha mt_isalpha ho (base_of hb) hl).imp fun σ H Q h => tI_mono (key σ H Q h) fun v H1 ⟨l, e, q⟩ => ⟨⟨_, e⟩, _, e, rfl, trivial, q⟩
  · exact (pe_m0 PySem.F.slot_str_islower PySem.F.type_str_islower mt_islower ho (base_of hb) hl).imp fun σ H Q h => tI_mono (key σ H Q h) fun v H1 ⟨l, e, q⟩ => ⟨⟨_, e⟩, _, e, rfl, trivial, q⟩
  · exact (pe_m0 PySem.F.slot_str_isdigit PySem.F.type_str_isdigit mt_isdigit ho (base_of hb) hl).imp fun σ H Q h => tI_mono (key σ H Q h) fun v H1 ⟨l, e, q⟩ => ⟨⟨_, e⟩, _, e, rfl, trivial, q⟩
  · exact (pe_m0 PySem.F.slot_str_isalnum PySem.F.type_str_isalnum mt_isalnum ho (base_of hb) hl).imp fun σ H Q h => tI_mono (key σ H Q h) fun v H1 ⟨l, e, q⟩ => ⟨⟨_, e⟩, _, e, rfl, trivial, q⟩
theorem sw_S (z g : Cs) (n : Nat) (hg : g ≠ []) : Txt.startswith3 (S z) (S g) (n : Int) = g.isPrefixOf (z.drop n) := by
  have hi : fromIndex (S z).length (n : Int) = n := by
    unfold fromIndex
    rw [if_neg (by omega)]
    omega
  have h1 : Txt.startswith3 (S z) (S g) (n : Int) = true ↔ TL.pre g (z.drop n) = true := by
    show _ ↔ TL.pre (TL.tl (S g)) ((TL.tl (S z)).drop n) = true
    rw [← TL.at_iff (x := S z) (y := S g) hg n]
    unfold Txt.startswith3
    rw [hi, Bool.and_eq_true, decide_eq_true_eq]
    exact Iff.rfl
  have h2 : TL.pre g (z.drop n) = true ↔ g.isPrefixOf (z.drop n) = true := by
    rw [List.isPrefixOf_iff_prefix, List.prefix_iff_eq_take]
    unfold TL.pre
    rw [beq_iff_eq]
    exact eq_comm
  have := h1.trans h2
  cases h : Txt.startswith3 (S z) (S g) (n : Int) <;> cases h' : g.isPrefixOf (z.drop n) <;> simp_all
theorem sw_inv {ds : List D} {r : RV} (h : fxE .sw3 ds = some r) : ∃ a b i, ds = [.str a, .str b, .int i] ∧ 0 ≤ i ∧ b ≠ [] ∧ r = .d (.bl (b.isPrefixOf (a.drop i.toNat))) := by
  unfold fxE at h
  split at h <;> first | contradiction | skip
  split at h
  · rename_i hc
    cases h
    exact ⟨_, _, _, rfl, hc.1, hc.2, rfl⟩
  · cases h
theorem RLs.three {Av : Addr → Prop} {H : Hp} {d e f : D} {vs : List V} {K : PySem.W.Frag} (h : RLs K cA Av H [d, e, f] vs) : ∃ v u w, vs = [v, u, w] ∧ RepL K cA Av H d v ∧ RepL K cA Av H e u ∧ RepL K cA Av H f w := by
  obtain ⟨v, r, rfl, a, b⟩ := h
  obtain ⟨u, w, rfl, c, g⟩ := b.two
  exact ⟨v, u, w, rfl, a, c, g⟩
theorem s_sw3 {o y z : Expr} {io iy iz : IE} {apos pos : Pos} (ho : PE X o (tI X.K cA C io)) (ha : PA X [y, z] (tR X.K cA C [iy, iz])) (hb : plainBase o = true) (hl : (apos.endLine == pos.line) = true) (hn : nst [y, z] = true) :
    PE X (.Call (.Attribute o "startswith" apos) [y, z] [] pos) (tI X.K cA C (.fx .sw3 [io, iy, iz])) := by
  refine (pe_bm PySem.F.plainAttrs_str PySem.F.slot_str_startswith PySem.F.type_str_startswith mt_startswith3 ho ha (hs := star1 (nst_cons hn).1) (hbase := base_of hb) (hfew := few hn (by decide : (2 : Nat) < 20)) (hplain := back_any (star_all (nst_cons hn).2)) (hline := hl)).imp fun σ H Q h => ?_
  refine tI_mono (fx_str (fun ds r e => ?_) h) fun v H1 ⟨⟨l, e⟩, q⟩ => ⟨by subst e; rfl, ?_⟩
  · obtain ⟨a, b, i, rfl, _⟩ := sw_inv e
    exact ⟨_, _, rfl⟩
  · obtain ⟨G, ρ, rs, ρ', er, e1, q⟩ := q
    refine ⟨G, ρ, rs, ρ', er, e1, fun vs H2 er2 rh st => ?_⟩
    obtain ⟨G, ρ, σ0, ds, r, er, rl, e2, q'⟩ := q vs H2 er2 rh st
    obtain ⟨a, b, i, rfl, h0, hb, rfl⟩ := sw_inv e2
    obtain ⟨v', u, w, hv, h1, h2, h3⟩ := rl.three
    cases hv
    cases h1.str.1
    cases h2.str.1
    cases h3.int
    refine ⟨S a, S b, i, rfl, rfl, ?_⟩
    rw [show i = ((i.toNat : Nat) : Int) by omega, sw_S _ _ _ hb]
    exact q'.bl er
end
end Ev
end
/-! F2 -/
section
set_option Elab.async false
set_option linter.all false
set_option autoImplicit false
set_option maxRecDepth 100000
set_option maxHeartbeats 1000000
namespace Ev
open PySem L2
open SX (S)
section
variable {X : Cx} {cA : Nat → Addr} {C : Cn} {k : Ck} {lev : Nat}
theorem par_S {z s : Cs} (hs : s ≠ []) : Txt.partition (S z) (S s) = (match TL.par s [] z with | some (a, b) => (S a, S s, S b) | none => (S z, Str.empty, Str.empty)) :=
  TL.partition_par (S z) (S s) (by show s ≠ []; exact hs)
theorem okCb_of {l : Cs} (h : okCb l = true) : okC l := by
  unfold okCb at h
  rw [Bool.and_eq_true, decide_eq_true_eq] at h
  exact h
theorem par_inv {ds : List D} {r : RV} (h : fxE .parti ds = some r) : ∃ a b, ds = [.str a, .str b] ∧ b ≠ [] ∧ ((∃ x y, TL.par b [] a = some (x, y) ∧ okC x ∧ okC y ∧ r = .d (.tup [.str x, .str b, .str y])) ∨ (TL.par b [] a = none ∧ r = .d (.tup [.str a, .str [], .str []]))) := by
  unfold fxE at h
  split at h <;> first | contradiction | skip
  rename_i a b _
  split at h
  · cases h
  · rename_i hb
    refine ⟨a, b, rfl, hb, ?_⟩
    split at h
    · rename_i x y e
      split at h
      · rename_i hc
        rw [Bool.and_eq_true] at hc
        cases h
        exact .inl ⟨x, y, e, okCb_of hc.1, okCb_of hc.2, rfl⟩
      · cases h
    · rename_i e
      cases h
      exact .inr ⟨e, rfl⟩
theorem rep_str {K : PySem.W.Frag} {Av : Addr → Prop} {H : Hp} {l : Cs} (h : okC l) : Rep K cA Av H (.str l) (.str (S l)) := by rw [Rep]; exact ⟨rfl, h⟩
theorem okC_nil : okC [] := ⟨rfl, Nat.zero_le _⟩
theorem s_par {o y : Expr} {io iy : IE} {apos pos : Pos} (ho : PE X o (tI X.K cA C io)) (hy : PE X y (tI X.K cA C iy)) (hb : plainBase o = true) (hl : (apos.endLine == pos.line) = true) (hn : nonStar y = true) :
    PE X (.Call (.Attribute o "partition" apos) [y] [] pos) (tI X.K cA C (.fx .parti [io, iy])) := by
  refine (pe_partition ho hy (hs := by rw [star1 hn]; rfl) (hbase := base_of hb) (hline := hl)).imp fun σ H Q h => ?_
  refine tI_mono (fx_str (fun ds r e => ?_) h) fun v H1 ⟨⟨l, e⟩, q⟩ => ⟨⟨_, e⟩, tI_mono (r_one q) fun u H2 ⟨G, ρ, σ0, ds, r, er, rl, e2, q⟩ => ?_⟩
  · obtain ⟨a, b, rfl, _⟩ := par_inv e
    exact ⟨_, _, rfl⟩
  · obtain ⟨a, b, rfl, hb, hc⟩ := par_inv e2
    obtain ⟨v', u', hv, h1, h2⟩ := rl.two
    cases hv
    obtain ⟨rfl, oa⟩ := h1.str
    obtain ⟨rfl, ob⟩ := h2.str
    refine ⟨S a, S b, rfl, rfl, ?_, by rw [SX.S_len, ← SZ_line]; exact oa.2, fun p np => ?_⟩
    · rw [SX.S_len]
      cases b with
      | nil => exact absurd rfl hb
      | cons x r => rfl
    · rw [par_S hb]
      rcases hc with ⟨x, y, e3, ox, oy, rfl⟩ | ⟨e3, rfl⟩
      · rw [e3]
        exact q.tup er np (.cons (rep_str ox) (.cons (rep_str ob) (.cons (rep_str oy) .nil))) (by show 3 ≤ SZ; decide)
      · rw [e3]
        exact q.tup er np (.cons (rep_str oa) (.cons (rep_str okC_nil) (.cons (rep_str okC_nil) .nil))) (by show 3 ≤ SZ; decide)
/-! ### isinstance of built-in types -/
theorem tyx_of {K : PySem.W.Frag} {Av : Addr → Prop} {H H' : Hp} (keep : ∀ b o, H b = some o → H' b = some o) {d : D} {v : V} {t : String} (h : RepL K cA Av H d v) (e : tyN d = some t) : TyX K H' v (.type t) := by
  cases d <;> cases e
  · cases h.non; exact .base .non
  · cases h.bl; exact .base (.bl _)
  · cases h.int; exact .base (.int _)
  · cases h.str.1; exact .base (.str _)
  · obtain ⟨a, vs, rfl, _, r, _⟩ := h.tup
    rcases r with ⟨_, r⟩ | ⟨o, its, n, r, c, _⟩
    · rcases r with r | ⟨o, r⟩
      · exact .base (.tup (keep _ _ r))
      · exact .fTuple (keep _ _ r)
    · exact .kTuple r c
  · obtain ⟨a, vs, rfl, _, r, _⟩ := h.lst
    rcases r with r | ⟨o, r⟩
    · exact .base (.lst (keep _ _ r))
    · exact .base (.frz (keep _ _ r))
  · obtain ⟨a, vs, rfl, r, _⟩ := h.dct
    rcases r with r | ⟨o, r⟩
    · exact .base (.dK (keep _ _ r))
    · exact .fDict (keep _ _ r)
  · obtain ⟨a, rfl, _, r⟩ := h.scr
    rcases r with (r | ⟨o, r⟩) | ⟨o, its, n, r, c, _⟩
    · exact .base (.lst (keep _ _ r))
    · exact .base (.frz (keep _ _ r))
    · exact .kList r c
theorem kit1_ok {K : PySem.W.Frag} {d : D} {t : String} (i : Nat) (e : tyN d = some t) : PySem.W.kitOne K (.type t) (.type (tyI i)) = some (kit1 t (tyI i)) := by
  have hi : tyI i = "int" ∨ tyI i = "bool" ∨ tyI i = "str" ∨ tyI i = "tuple" ∨ tyI i = "list" ∨ tyI i = "dict" := by
    unfold tyI
    split <;> simp
  rcases hi with h | h | h | h | h | h <;> rw [h] <;> cases d <;> cases e <;> exact kit_ty (by decide +kernel)
theorem isi_inv {ts : List Nat} {ds : List D} {r : RV} (h : fxE (.isi ts) ds = some r ∨ fxE (.isiT ts) ds = some r) : ∃ d t, ds = [d] ∧ tyN d = some t ∧ r = .d (.bl (ts.any fun i => kit1 t (tyI i))) := by
  rcases h with h | h
  all_goals
    unfold fxE at h
    split at h <;> first | contradiction | skip
    rename_i d he
    cases he
    obtain ⟨t, e, rfl⟩ := Option.map_eq_some_iff.mp h
    exact ⟨d, t, rfl, e, rfl⟩
def tyNames : List Str := ["int", "bool", "str", "tuple", "list", "dict"]
theorem ty_boot (i : Nat) : bootBuiltins (Str.ofString (tyI i)) = some (.type (tyI i)) := by
  have hi : tyI i = "int" ∨ tyI i = "bool" ∨ tyI i = "str" ∨ tyI i = "tuple" ∨ tyI i = "list" ∨ tyI i = "dict" := by
    unfold tyI
    split <;> simp
  rcases hi with h | h | h | h | h | h <;> rw [h] <;> decide +kernel
theorem pe_ty (fa : Fa k C cA X lev) {i : Nat} {x : Str} {p : Pos} (hx : x = Str.ofString (tyI i)) (hg : okGlob k x = true) (hb : X.mg x = none) : PE X (.Name x p) (tC (.ty (tyI i))) := by
  obtain ⟨g1, g2⟩ := okGlob_of fa hg
  subst hx
  refine pe_bltn (v := .ty (tyI i)) g1 hb (ty_boot i) rfl ?_ g2
  have hi : tyI i = "int" ∨ tyI i = "bool" ∨ tyI i = "str" ∨ tyI i = "tuple" ∨ tyI i = "list" ∨ tyI i = "dict" := by
    unfold tyI
    split <;> simp
  rcases hi with h | h | h | h | h | h <;> rw [h] <;> decide +kernel
end
end Ev
end
/-! F3 -/
section
set_option Elab.async false
set_option linter.all false
set_option autoImplicit false
set_option maxRecDepth 100000
set_option maxHeartbeats 1000000
namespace Ev
open PySem L2
open SX (S)
section
variable {X : Cx} {cA : Nat → Addr} {C : Cn} {k : Ck} {lev : Nat}
theorem tyI_mem (i : Nat) : Str.ofString (tyI i) ∈ bnames := by
  have hi : tyI i = "int" ∨ tyI i = "bool" ∨ tyI i = "str" ∨ tyI i = "tuple" ∨ tyI i = "list" ∨ tyI i = "dict" := by
    unfold tyI
    split <;> simp
  rcases hi with h | h | h | h | h | h <;> rw [h] <;> decide +kernel
theorem tyOk_of (fa : Fa k C cA X lev) {i : Nat} {e : Expr} (h : tyOk k i e = true) : PE X e (tC (.ty (tyI i))) := by
  unfold tyOk at h
  split at h
  · rw [Bool.and_eq_true, decide_eq_true_eq] at h
    obtain ⟨rfl, h2⟩ := h
    exact pe_ty fa rfl h2 (fa.bn _ (tyI_mem i))
  · cases h
theorem kit_all {K : PySem.W.Frag} {d : D} {t : String} (e : tyN d = some t) : ∀ ts : List Nat, PySem.W.kitAny K (.type t) (ts.map fun i => Value.type (tyI i)) = some (ts.any fun i => kit1 t (tyI i))
  | [] => kitAny_nil
  | i :: ts => by
    rw [List.map_cons, List.any_cons]
    exact kitAny_cons (kit1_ok i e) (fun z => by rw [z, Bool.false_or]; exact kit_all e ts) fun z => by rw [z]; rfl
theorem s_isi (fa : Fa k C cA X lev) {i : Nat} {x T : Expr} {ix : IE} {p pos : Pos} (hg : okGlob k "isinstance" = true) (hx : PE X x (tI X.K cA C ix)) (hT : tyOk k i T = true) (hn : nst [x, T] = true) : PE X (.Call (.Name "isinstance" p) [x, T] [] pos) (tI X.K cA C (.fx (.isi [i]) [ix])) := by
  obtain ⟨g1, g2⟩ := okGlob_of fa hg
  obtain ⟨n1, n2⟩ := nst_cons hn
  have ha : PA X [x, T] (tCons (tI X.K cA C ix) (tCons (tC (.ty (tyI i))) tNil)) := pa_cons hx (pa_cons (tyOk_of fa hT) pa_nil (star1 (nst_cons n2).1)) (star1 n1)
  refine (pe_callB call_isi g1 (fa.bn _ (by decide +kernel)) (by decide +kernel) ha (by decide) g2 (star1 n1) (back_any (star_all n2))).imp fun σ H Q h => ?_
  refine tI_mono (r_one (fx_red h)) fun v H1 ⟨G, ρ, σ0, ds, r, er, rl, e, q⟩ => ?_
  obtain ⟨d, t, rfl, ht, rfl⟩ := isi_inv (.inl e)
  obtain ⟨v', hv, h1⟩ := rl.one
  cases hv
  refine ⟨_, _, .type t, .type (tyI i), _, rfl, .ty _, tyx_of (fun _ _ z => z) h1 ht, kit1_ok i ht, ?_⟩
  have := q.bl er
  rwa [List.any_cons, List.any_nil, Bool.or_false] at this
theorem tysOk_of (fa : Fa k C cA X lev) : ∀ (is : List Nat) (es : List Expr), tysOk k is es = true → nst es = true → PA X es (is.foldr (fun i t => tCons (tC (.ty (tyI i))) t) tNil)
  | [], [], _, _ => pa_nil
  | i :: is, e :: es, h, n => by
    rw [tysOk, Bool.and_eq_true] at h
    obtain ⟨n1, n2⟩ := nst_cons n
    exact pa_cons (tyOk_of fa h.1) (tysOk_of fa is es h.2 n2) (star1 n1)
  | [], _ :: _, h, _ => by cases h
  | _ :: _, [], h, _ => by cases h
theorem tys_run : ∀ {is : List Nat} {σ : St} {H : Hp} {Q : List V → Hp → Prop}, Q (is.map fun i => V.ty (tyI i)) H → (is.foldr (fun i t => tCons (tC (.ty (tyI i))) t) tNil) σ H Q
  | [], _, _, _, q => q
  | i :: is, σ, H, Q, q => by
    show (is.foldr (fun i t => tCons (tC (.ty (tyI i))) t) tNil) σ H _
    exact tys_run q
theorem tys_pair : ∀ (is : List Nat), Paired ClsV (is.map fun i => V.ty (tyI i)) (is.map fun i => Value.type (tyI i))
  | [] => .nil
  | i :: is => .cons (.ty _) (tys_pair is)
theorem s_isiT (fa : Fa k C cA X lev) {is : List Nat} {x : Expr} {es : List Expr} {j : Nat} {ix : IE} {p pos tp : Pos} (hg : okGlob k "isinstance" = true) (hx : PE X x (tI X.K cA C ix)) (hT : tysOk k is es = true) (hn : nonStar x = true) (hn2 : nst es = true) (hl : is.length ≤ 10) :
    PE X (.Call (.Name "isinstance" p) [x, .Tuple es j tp] [] pos) (tI X.K cA C (.fx (.isiT is) [ix])) := by
  obtain ⟨g1, g2⟩ := okGlob_of fa hg
  have ha := pa_cons hx (pa_cons (pe_tup (x1 := j) (pos := tp) (tysOk_of fa is es hT hn2)) pa_nil (star1 rfl)) (star1 (es := [.Tuple es j tp]) (env := X.env) hn)
  refine (pe_callB call_isiT g1 (fa.bn _ (by decide +kernel)) (by decide +kernel) ha (by decide) g2 (star1 hn) (back_any (star_all (es := [.Tuple es j tp]) rfl))).imp fun σ H Q h => ?_
  refine tI_mono (r_one (fx_red h)) fun v H1 ⟨G, ρ, σ0, ds, r, er, rl, e, q⟩ => ?_
  obtain ⟨d, t, rfl, ht, rfl⟩ := isi_inv (.inr e)
  obtain ⟨v', hv, h1⟩ := rl.one
  cases hv
  refine tys_run ⟨?_, fun p np => ?_⟩
  · rw [List.length_map, ← SZ_line]; exact Nat.le_trans hl (by decide)
  · refine ⟨_, p, _, .type t, _, _, rfl, upd_same, tys_pair is, tyx_of (fun b o z => by rw [upd_ne (ne_of_none z np)]; exact z) h1 ht, kit_all ht is, ?_⟩
    exact q _ _ ⟨er.grow np, by rw [Rep]⟩ (Step.upd np)
/-! ### f-strings -/
/-- how a part of an f-string reads -/
def tPart (K : PySem.W.Frag) (cA : Nat → Addr) (C : Cn) (b : Bool) (ie : IE) : TE := if b then tI K cA C ie else tFmt (tI K cA C ie)
theorem fs_run {K : PySem.W.Frag} : ∀ {es : List IE} {bs : List Bool} {G : Addr → Prop} {ρ : Env} {σ : St} {H : Hp} {acc l : Cs} {ρ' : Env} {Q : Str → Hp → Prop}, es.length = bs.length → (∀ p ∈ es.zip bs, p.2 = true → ∃ l, p.1 = .lit (.str l)) → okC acc → ER K cA G σ H ρ → evFs C es ρ acc = .ok l ρ' →
    (∀ H', okC l → ER K cA G σ H' ρ' → Step ρ σ H ρ' σ H' → Q (S l) H') → tJs ((es.zip bs).map fun p => tPart K cA C p.2 p.1) (S acc) σ H Q
  | [], _, G, ρ, σ, H, acc, l, ρ', Q, hl, hb, oa, er, e, q => by
    rw [evFs] at e
    cases e
    exact q H oa er (Step.refl _ _ _)
  | _ :: _, [], _, _, _, _, _, _, _, _, hl, _, _, _, _, _ => by cases hl
  | ie :: es, b :: bs, G, ρ, σ, H, acc, l, ρ', Q, hl, hb, oa, er, e, q => by
    rw [evFs] at e
    obtain ⟨x, ρ1, e1, e⟩ := Out.bind_inv e
    rw [List.zip_cons_cons, List.map_cons]
    have hb' : ∀ p ∈ es.zip bs, p.2 = true → ∃ l, p.1 = .lit (.str l) := fun p m => hb p (by rw [List.zip_cons_cons]; exact List.mem_cons_of_mem _ m)
    have hl' : es.length = bs.length := by simpa using hl
    split at e
    · rename_i m
      split at e <;> first | (cases e; done) | skip
      rename_i hc
      have ok := okCb_of hc
      have key : tI K cA C ie σ H fun v H1 => ∃ y : Str, v = .str y ∧ (S acc ++ y).length ≤ sizeLine ∧ tJs ((es.zip bs).map fun p => tPart K cA C p.2 p.1) (S acc ++ y) σ H1 Q :=
        ⟨G, ρ, _, ρ1, er, e1, fun v H1 rr st => by
          have r := rr.2
          rw [Rep] at r
          refine ⟨S m, r.1, ?_, ?_⟩
          · rw [SX.S_cat, SX.S_len, ← SZ_line]; exact ok.2
          · rw [SX.S_cat]
            exact fs_run hl' hb' ok rr.1 e fun H' ol er' st' => q H' ol er' (st.trans st')⟩
      cases b with
      | true => exact key
      | false =>
        have key2 : tFmt (tI K cA C ie) σ H fun v H1 => ∃ y : Str, v = .str y ∧ (S acc ++ y).length ≤ sizeLine ∧ tJs ((es.zip bs).map fun p => tPart K cA C p.2 p.1) (S acc ++ y) σ H1 Q := ?_
        · exact key2
        refine ⟨G, ρ, _, ρ1, er, e1, fun v H1 rr st => .inl ?_⟩
        have r := rr.2
        rw [Rep] at r
        refine ⟨S m, r.1, ?_, S m, rfl, ?_, ?_⟩
        · rw [SX.S_len, ← SZ_line]; exact r.2.2
        · rw [SX.S_cat, SX.S_len, ← SZ_line]; exact ok.2
        · rw [SX.S_cat]
          exact fs_run hl' hb' ok rr.1 e fun H' ol er' st' => q H' ol er' (st.trans st')
    · rename_i i
      split at e <;> first | (cases e; done) | skip
      rename_i hc
      rw [Bool.and_eq_true, decide_eq_true_eq] at hc
      have ok := okCb_of hc.2
      cases b with
      | true =>
        obtain ⟨m, hm⟩ := hb (ie, true) (by rw [List.zip_cons_cons]; exact List.mem_cons_self) rfl
        have hm : ie = .lit (.str m) := hm
        rw [hm, ev] at e1
        cases e1
      | false =>
        have key2 : tFmt (tI K cA C ie) σ H fun v H1 => ∃ y : Str, v = .str y ∧ (S acc ++ y).length ≤ sizeLine ∧ tJs ((es.zip bs).map fun p => tPart K cA C p.2 p.1) (S acc ++ y) σ H1 Q := ?_
        · exact key2
        refine ⟨G, ρ, _, ρ1, er, e1, fun v H1 rr st => .inr ?_⟩
        have r := rr.2
        rw [Rep] at r
        have es_ : (toString i : String) = ((toString i : String) : Str) := rfl
        have eS : ((toString i : String) : Str) = S (strOf i) := by
          unfold strOf
          rw [SX.S_tl]
        refine ⟨i, r, hc.1, _, rfl, ?_, ?_⟩
        · rw [eS, SX.S_cat, SX.S_len, ← SZ_line]; exact ok.2
        · rw [eS, SX.S_cat]
          exact fs_run hl' hb' ok rr.1 e fun H' ol er' st' => q H' ol er' (st.trans st')
    · cases e
theorem s_fstr {v1 v2 : Expr} {rest : List Expr} {es : List IE} {bs : List Bool} {pos : Pos} (hl : es.length = bs.length) (hb : ∀ p ∈ es.zip bs, p.2 = true → ∃ l, p.1 = .lit (.str l)) (h : PJ X (v1 :: v2 :: rest) ((es.zip bs).map fun p => tPart X.K cA C p.2 p.1)) :
    PE X (.JoinedStr (v1 :: v2 :: rest) pos) (tI X.K cA C (.fstr es)) := by
  refine (pe_joined h).imp fun σ H Q ⟨G, ρ, r, ρ', er, e, q⟩ => ?_
  rw [ev] at e
  obtain ⟨l, ρ1, e1, e⟩ := Out.bind_inv e
  cases e
  exact fs_run (acc := []) hl hb okC_nil er e1 fun H' ol er' st => q _ H' ⟨er', rep_str ol⟩ st
end
end Ev
end
/-! F4 -/
section
set_option Elab.async false
set_option linter.all false
set_option autoImplicit false
set_option maxRecDepth 100000
set_option maxHeartbeats 1000000
namespace Ev
open PySem L2
open SX (S)
section
variable {X : Cx} {cA : Nat → Addr} {C : Cn} {k : Ck} {lev : Nat}
/-! ### displays with stars -/
def tSp (K : PySem.W.Frag) (cA : Nat → Addr) (C : Cn) (es : List IE) : TA := fun σ H Q => ∃ G ρ ds ρ', ER K cA G σ H ρ ∧ evSp C es ρ = .ok ds ρ' ∧ ∀ vs H', ER K cA G σ H' ρ' → Reps K cA (AvO G ρ' σ) H' ds vs → Step ρ σ H ρ' σ H' → Q vs H'
theorem sp_nil : PA X [] (tSp X.K cA C []) := pa_nil.imp fun σ H Q ⟨G, ρ, ds, ρ', er, e, q⟩ => by
  rw [evSp] at e
  cases e
  exact q [] H er .nil (Step.refl _ _ _)
theorem evSp_cons {e : IE} {es : List IE} {ρ ρ' : Env} {ds : List D} (hn : ∀ z, e ≠ .star z) (h : evSp C (e :: es) ρ = .ok ds ρ') : ∃ r ρ1 d ds', ev C e ρ = .ok r ρ1 ∧ r.dat? = some d ∧ evSp C es ρ1 = .ok ds' ρ' ∧ ds = d :: ds' := by
  have h' : ((ev C e ρ).bind fun r ρ => (Out.of ρ r.dat?).bind fun d ρ => (evSp C es ρ).bind fun ds ρ => .ok (d :: ds) ρ) = Out.ok ds ρ' := by
    rw [← h]
    cases e <;> first | (rw [evSp]; intro z hz; cases hz; done) | (exact absurd rfl (hn _))
  obtain ⟨r, ρ1, e1, h'⟩ := Out.bind_inv h'
  obtain ⟨d, ρ2, e2, h'⟩ := Out.bind_inv h'
  obtain ⟨e3, e4⟩ := Out.of_inv e2
  subst e4
  obtain ⟨ds', ρ3, e5, h'⟩ := Out.bind_inv h'
  cases h'
  exact ⟨r, ρ1, d, ds', e1, e3, e5, rfl⟩
theorem sp_cons {e : Expr} {es : List Expr} {ie : IE} {ies : List IE} (hn : ∀ z, ie ≠ .star z) (he : PE X e (tI X.K cA C ie)) (hr : PA X es (tSp X.K cA C ies)) (hs : nonStar e = true) : PA X (e :: es) (tSp X.K cA C (ie :: ies)) :=
  (pa_cons he hr (star1 hs)).imp fun σ H Q ⟨G, ρ, ds, ρ', er, e, q⟩ => by
    obtain ⟨r, ρ1, d, ds', e1, e2, e3, rfl⟩ := evSp_cons hn e
    exact ⟨G, ρ, r, ρ1, er, e1, fun v H1 rr st => ⟨G, ρ1, ds', _, rr.er, e3, fun vs H2 er2 rp st2 => q _ H2 er2 (.cons ((rr.dat e2).tr st2.tr) rp) (st.trans st2)⟩⟩
theorem sp_star {e : Expr} {es : List Expr} {p : Pos} {ie : IE} {ies : List IE} (he : PE X e (tI X.K cA C ie)) (hr : PA X es (tSp X.K cA C ies)) : PA X (.Starred e p :: es) (tSp X.K cA C (.star ie :: ies)) :=
  (StX.pa_star he hr).imp fun σ H Q ⟨G, ρ, ds, ρ', er, e, q⟩ => by
    rw [evSp] at e
    obtain ⟨r, ρ1, e1, e⟩ := Out.bind_inv e
    obtain ⟨d, ρ2, e2, e⟩ := Out.bind_inv e
    obtain ⟨e3, e4⟩ := Out.of_inv e2
    subst e4
    obtain ⟨ds', ρ3, e5, e⟩ := Out.bind_inv e
    cases e
    obtain ⟨x, hx, hs⟩ := Option.bind_eq_some_iff.mp e3
    refine ⟨G, ρ, r, ρ1, er, e1, fun v H1 rr st => ?_⟩
    obtain ⟨a, vs, rfl, l, rp, hq⟩ := seq_of hs (rr.hold.look rr.er hx)
    refine ⟨a, vs, rfl, hq.elim (fun z => .inr z.1) fun z => .inl z.1, G, ρ1, ds', _, rr.er, e5, fun us H2 er2 rp2 st2 => q _ H2 er2 (.append (Reps.tr st2.tr _ _ rp) rp2) (st.trans st2)⟩
theorem s_tupS {es : List Expr} {ies : List IE} {j : Nat} {pos : Pos} (h : PA X es (tSp X.K cA C ies)) : PE X (.Tuple es j pos) (tI X.K cA C (.tupS ies)) :=
  (pe_tup h).imp fun σ H Q ⟨G, ρ, r, ρ', er, e, q⟩ => by
    rw [ev] at e
    obtain ⟨ds, ρ1, e1, e⟩ := Out.bind_inv e
    split at e <;> cases e
    rename_i hl
    exact ⟨G, ρ, ds, _, er, e1, fun vs H1 er1 rp st => ⟨by rw [rp.length, ← SZ_line]; exact hl, fun p np => (res_of st q).tup er1 np rp hl⟩⟩
theorem s_lstS {es : List Expr} {ies : List IE} {pos : Pos} (h : PA X es (tSp X.K cA C ies)) : PE X (.List es pos) (tI X.K cA C (.lstS ies)) :=
  (pe_lst h).imp fun σ H Q ⟨G, ρ, r, ρ', er, e, q⟩ => by
    rw [ev] at e
    obtain ⟨ds, ρ1, e1, e⟩ := Out.bind_inv e
    split at e <;> cases e
    rename_i hl
    exact ⟨G, ρ, ds, _, er, e1, fun vs H1 er1 rp st => ⟨by rw [rp.length, ← SZ_line]; exact hl, fun p np => (res_of st q).lst er1 np rp hl⟩⟩
/-! ### attributes -/
theorem lookup_cons_S {l a : Cs} {v : V} {r : List (Str × V)} : ((S l, v) :: r).lookup (S a) = if l = a then some v else r.lookup (S a) := by
  rw [List.lookup_cons, SX.S_beq_eq]
  by_cases h : l = a
  · subst h; simp
  · have : ¬ a = l := fun z => h z.symm
    simp [h, this]
theorem repf_get {K : PySem.W.Frag} {Av : Addr → Prop} {H : Hp} {a : Cs} : ∀ {fs : List (DK × D)} {fv : List (Str × V)}, Repf K cA Av H fs fv → (getF fs a = none → fv.lookup (S a) = none) ∧ ∀ d, getF fs a = some d → ∃ v, fv.lookup (S a) = some v ∧ Rep K cA Av H d v
  | [], fv, h => by
    rw [Repf] at h
    subst h
    exact ⟨fun _ => rfl, fun d e => by cases e⟩
  | (.s l, x) :: r, fv, h => by
    rw [Repf] at h
    obtain ⟨v, q, rfl, h1, h2⟩ := h
    obtain ⟨i1, i2⟩ := repf_get (a := a) h2
    rw [lookup_cons_S]
    by_cases e : l = a
    · simp only [getF, e, if_true]
      exact ⟨fun z => (by cases z), fun d z => (by cases z; exact ⟨v, rfl, h1⟩)⟩
    · simp only [getF, e, if_false]
      exact ⟨i1, i2⟩
  | (.i _, _) :: _, _, h => by rw [Repf] at h; exact h.elim
theorem repf_put {K : PySem.W.Frag} {Av : Addr → Prop} {H : Hp} {a : Cs} {d : D} {v : V} (hd : Rep K cA Av H d v) : ∀ {fs : List (DK × D)} {fv : List (Str × V)}, Repf K cA Av H fs fv → Repf K cA Av H (putA a d fs) (putF (S a) v fv)
  | [], fv, h => by
    rw [Repf] at h
    subst h
    rw [putA, Repf]
    exact ⟨v, [], rfl, hd, by rw [Repf]⟩
  | (.s l, x) :: r, fv, h => by
    rw [Repf] at h
    obtain ⟨w, q, rfl, h1, h2⟩ := h
    rw [putA]
    by_cases e : l = a
    · subst e
      rw [if_pos rfl, Repf]
      exact ⟨v, q, by rw [putF, if_pos rfl], hd, h2⟩
    · have : ¬ S l = S a := fun z => e (by have := SX.S_beq_eq (a := l) (b := a); rw [z, beq_self_eq_true] at this; exact of_decide_eq_true this.symm)
      rw [if_neg e, Repf]
      exact ⟨w, _, by rw [putF, if_neg this], h1, repf_put hd h2⟩
  | (.i _, _) :: _, _, h => by rw [Repf] at h; exact h.elim
theorem Repf.length {K : PySem.W.Frag} {Av : Addr → Prop} {H : Hp} : ∀ {fs : List (DK × D)} {fv : List (Str × V)}, Repf K cA Av H fs fv → fv.length = fs.length
  | [], fv, h => by rw [Repf] at h; subst h; rfl
  | (.s l, x) :: r, fv, h => by
    rw [Repf] at h
    obtain ⟨w, q, rfl, h1, h2⟩ := h
    rw [List.length_cons, List.length_cons, Repf.length h2]
  | (.i _, _) :: _, _, h => by rw [Repf] at h; exact h.elim
theorem s_att (fa : Fa k C cA X lev) {e : Expr} {ie : IE} {a : Cs} {pos : Pos} (he : PE X e (tI X.K cA C ie)) (hb : plainBase e = true) : PE X (.Attribute e (S a) pos) (tI X.K cA C (.att ie a)) :=
  (pe_fld he (base_of hb)).imp fun σ H Q ⟨G, ρ, r, ρ', er, e, q⟩ => by
    rw [ev] at e
    obtain ⟨x, ρ1, e1, e⟩ := Out.bind_inv e
    split at e <;> first | (cases e; done) | skip
    rename_i c fs hx
    split at e <;> first | (cases e; done) | skip
    rename_i hf
    obtain ⟨e2, e3⟩ := Out.of_inv e
    subst e3
    obtain ⟨d, hd, e4⟩ := Option.map_eq_some_iff.mp e2
    cases e4
    obtain ⟨c1, c2⟩ := fa.fld c a hf
    refine ⟨G, ρ, x, ρ1, er, e1, fun v H1 rr st => ?_⟩
    obtain ⟨p, dx, fv, rfl, hp, rf⟩ := (rr.hold.look rr.er hx).ins
    obtain ⟨w, hw, rw_⟩ := (repf_get rf).2 d hd
    exact ⟨p, cA c, dx, fv, w, rfl, hp, c1, c2, hw, q w H1 ⟨rr.er, rw_⟩ st⟩
/-! ### the promise of a def, values in -/
theorem val_call {K : PySem.W.Frag} {cl : List Ar → Res} {G : Addr → Prop} {ρ : Env} {σ : St} {H : Hp} {ds : List D} {vs : List V} {r : RV} {Q : VK} {E : XK} (er : ER K cA G σ H ρ) (rp : Reps K cA (AvO G ρ σ) H ds vs) (hc : cl (ds.map .d) = .ok r none) (ok : rvOk r = true)
    (q : Res1 K cA G ρ σ H r Q) : spF K cA cl vs H Q E :=
  ⟨AvO G ρ σ, ds.map .d, r, none, er_vals (fun a z => er.avin z) rp, hc, ok, fun v H' rr st => by
    rw [putM_d] at rr st
    exact q v H' (rr_vals er ok st rr) (step_vals st)⟩
theorem hold_ins {K : PySem.W.Frag} {G : Addr → Prop} {ρ ρ1 : Env} {σ : St} {H H1 : Hp} {x : RV} {v : V} {c : Nat} {fs : List (DK × D)} (rr : RR K cA G ρ σ H ρ1 H1 x v) (hx : x.hold = .d (.ins c fs)) : Rep K cA (AvO G ρ1 σ) H1 (.ins c fs) v := by
  have h := rr.hold
  rw [hx] at h
  exact h
theorem meth_red (fa : Fa k C cA X lev) {c f : Nat} {m : Cs} {o : IE} {es : List IE} {σ : St} {H : Hp} {Q : VK} {E : XK} (h : tI X.K cA C (.meth c f m o es) σ H Q) :
    tI X.K cA C o σ H fun x H1 => ∃ a dx fs, x = .ref a ∧ H1 a = some (.ins (cA c) dx fs) ∧ fs.lookup (S m) = none ∧ tR X.K cA C es σ H1 fun vs H2 => spF X.K cA (C.call f) (x :: (vs ++ [])) H2 Q E := by
  obtain ⟨G, ρ, r, ρ', er, e, q⟩ := h
  rw [ev] at e
  obtain ⟨x, ρ1, e1, e⟩ := Out.bind_inv e
  split at e <;> first | (cases e; done) | skip
  rename_i c' fs hx
  split at e <;> first | (cases e; done) | skip
  rename_i hc
  obtain ⟨rfl, hm⟩ := hc
  obtain ⟨rs, ρ2, e2, e⟩ := Out.bind_inv e
  split at e <;> first | (cases e; done) | skip
  rename_i ds hd
  split at e <;> first | (cases e; done) | skip
  rename_i r0 hcl
  split at e <;> cases e
  rename_i ok
  refine ⟨G, ρ, x, ρ1, er, e1, fun v H1 rr st => ?_⟩
  have hr := hold_ins rr hx
  obtain ⟨p, dx, fv, rfl, hp, rf⟩ := hr.l.ins
  refine ⟨p, dx, fv, rfl, hp, (repf_get rf).1 hm, G, ρ1, rs, _, rr.er, e2, fun vs H2 er2 rh st2 => ?_⟩
  rw [datAll_map hd] at rh
  show spF X.K cA (C.call f) (V.ref p :: (vs ++ [])) H2 Q E
  rw [List.append_nil]
  exact val_call (ds := .ins c' fs :: ds) er2 (.cons (hr.tr st2.tr) (rhs_d rh)) hcl ok (res_of (st.trans st2) q)
theorem call_att {o : Expr} {m : Str} {apos pos : Pos} {as : List Expr} {env : PySem.Env} (hb : plainBase o = true) (hn : nst as = true) (hl : as.length < 20) (hline : (apos.endLine == pos.line) = true) :
    eval (.Call (.Attribute o m apos) as [] pos) env = (do
      let ov ← eval o env
      standAt apos.atName
      let (f, first) ← holding [ov] (getMethod ov m (do return (← importBound o env).getD true))
      callWith pos f first (backTo pos (starEach as env)) (backToKw pos (keywordEach [] env))) := by
  rw [PySem.arm_eval_Call, base_of hb]
  have hform : methodCallForm (as.length + ([] : List Keyword).length) (backTo pos (starEach as env)) (backToKw pos (keywordEach [] env)) = true := few hn hl
  have hpos : methodCallPos true o env apos pos = pure pos := by unfold methodCallPos; simp [hline]
  unfold methodCall
  rw [hform]
  unfold calleeOf
  simp only [if_true, hpos]
  rfl
theorem s_meth (fa : Fa k C cA X lev) {c f : Nat} {m : Cs} {o a : Expr} {as : List Expr} {io : IE} {ies : List IE} {apos pos : Pos} (hm : k.mnm f = some (c, m)) (ho : PE X o (tI X.K cA C io)) (ha : PA X (a :: as) (tR X.K cA C ies)) (hb : plainBase o = true) (hn : nst (a :: as) = true)
    (hl : (a :: as).length < 20) (hline : (apos.endLine == pos.line) = true) : PE X (.Call (.Attribute o (S m) apos) (a :: as) [] pos) (tI X.K cA C (.meth c f m io ies)) := by
  obtain ⟨fa', fd, ps, F, cl, M, b⟩ := fa.mth f c m hm
  obtain ⟨n1, n2⟩ := nst_cons hn
  exact (pe_meth (E := E0) ho cl M F fa.room b .nil pass0 ha (star1 n1) (back_any (star_all n2)) (call_att hb hn hl hline)).imp fun σ H Q h => meth_red fa h
theorem s_meth0 (fa : Fa k C cA X lev) {c f : Nat} {m : Cs} {o : Expr} {io : IE} {apos pos : Pos} (hm : k.mnm f = some (c, m)) (ho : PE X o (tI X.K cA C io)) (hb : plainBase o = true) (hline : (apos.endLine == pos.line) = true) :
    PE X (.Call (.Attribute o (S m) apos) [] [] pos) (tI X.K cA C (.meth c f m io [])) := by
  obtain ⟨fa', fd, ps, F, cl, M, b⟩ := fa.mth f c m hm
  refine (pe_meth0 (E := E0) ho cl M F fa.room b .nil pass0 (call_att hb rfl (by decide) hline)).imp fun σ H Q h => tI_mono (meth_red (E := E0) fa h) ?_
  rintro x H1 ⟨a, dx, fs, e1, e2, e3, q⟩
  exact ⟨a, dx, fs, e1, e2, e3, r_nil q⟩
theorem s_prop (fa : Fa k C cA X lev) {c f : Nat} {m : Cs} {o : Expr} {io : IE} {pos : Pos} (hm : k.pnm f = some (c, m)) (ho : PE X o (tI X.K cA C io)) (hb : plainBase o = true) : PE X (.Attribute o (S m) pos) (tI X.K cA C (.prop c f io)) := by
  by_cases hx : ∃ as r b, C.cmk f as = .ok r b
  · obtain ⟨l, p, fa', fd, ps, rfl, F, cl, M, b⟩ := fa.prp f c m hm hx
    refine (pe_prop (E := E0) ho cl M F fa.room b .nil ?_ (base_of hb)).imp fun σ H Q ⟨G, ρ, r, ρ', er, e, q⟩ => ?_
    · exact fun _ _ _ _ _ _ _ h => h.elim
    · rw [ev] at e
      obtain ⟨x, ρ1, e1, e⟩ := Out.bind_inv e
      split at e <;> first | (cases e; done) | skip
      rename_i c' fs hx
      split at e <;> first | (cases e; done) | skip
      rename_i hc
      subst hc
      split at e <;> first | (cases e; done) | skip
      rename_i r0 hcl
      split at e <;> cases e
      rename_i ok
      refine ⟨G, ρ, x, _, er, e1, fun v H1 rr st => ?_⟩
      have hr := hold_ins rr hx
      obtain ⟨p, dx, fv, rfl, hp, rf⟩ := hr.l.ins
      exact ⟨p, dx, fv, rfl, hp, val_call (ds := [.ins c' fs]) rr.er (.cons hr .nil) hcl ok (res_of st q)⟩
  · refine ⟨fun pins s σ H Q I ⟨G, ρ, r, ρ', er, e, q⟩ => ?_⟩
    rw [ev] at e
    obtain ⟨x, ρ1, e1, e⟩ := Out.bind_inv e
    split at e <;> first | (cases e; done) | skip
    split at e <;> first | (cases e; done) | skip
    split at e <;> first | (cases e; done) | skip
    rename_i hcl
    exact absurd ⟨_, _, _, hcl⟩ hx
end
end Ev
end
/-! F5 -/
section
set_option Elab.async false
set_option linter.all false
set_option autoImplicit false
set_option maxRecDepth 100000
set_option maxHeartbeats 1000000
namespace Ev
open PySem L2
open SX (S)
section
variable {X : Cx} {cA : Nat → Addr} {C : Cn} {k : Ck} {lev : Nat}
/-! ### making an instance -/
theorem er_plus_keep {K : PySem.W.Frag} {G : Addr → Prop} {ρ : Env} {σ : St} {H H' : Hp} {p : Addr} (er : ER K cA G σ H ρ) (keep : ∀ b o, H b = some o → H' b = some o) (np : H p = none) (hp : H' p ≠ none) : ER K cA (plus G p) σ H' ρ := by
  have tp : Tr (AvO G ρ σ) (AvO (plus G p) ρ σ) H H' := fun b n h => by
    refine ⟨fun z => ?_, .inl (by cases q : H b with | none => exact absurd q h | some o => exact keep b o q)⟩
    rcases avO_plus.mp z with z | z
    · exact n z
    · rw [z] at h; exact h np
  refine ⟨er.len, fun i d g => ?_, fun i m p1 l g => ?_, er.dis, fun a h => ?_⟩
  · obtain ⟨w, hw, r⟩ := er.val i d g
    exact ⟨w, hw, r.tr tp⟩
  · obtain ⟨a, ha, ng, r, nfa⟩ := er.own i m p1 l g
    have hin := er.avin (.inr ⟨i, m, p1, l, g, ha⟩)
    have ne : a ≠ p := fun z => hin (by rw [z]; exact np)
    cases q : H a with
    | none => exact absurd q hin
    | some o =>
      have e := keep a o q
      exact ⟨a, ha, fun z => z.elim ng ne, r.tr tp (.inl (by rw [q]; exact e)), fun z x u => by rw [e, ← q]; exact nfa z x u⟩
  · rcases h with h | h
    · cases q : H a with
      | none => exact absurd q (er.gin a h)
      | some o => exact some_ne (keep a o q)
    · rw [h]; exact hp
theorem mk_call {K : PySem.W.Frag} {cl : List Ar → Res} {G : Addr → Prop} {ρ : Env} {σ : St} {H : Hp} {ds : List D} {vs : List V} {c : Nat} {fs : List (DK × D)} {Q : VK} {E : XK} {x dx : Addr} (er : ER K cA G σ H ρ) (rp : Reps K cA (AvO G ρ σ) H ds vs)
    (hc : cl (.m (.ins c []) :: ds.map .d) = .ok (.d .non) (some (.ins c fs))) (nx : H x = none) (nd : H dx = none) (ne : dx ≠ x) (q : Res1 K cA G ρ σ H (.f (.ins c fs)) Q) :
    spF K cA cl (.ref x :: vs) (upd (upd H dx (.own x)) x (.ins (cA c) dx [])) (fun v H2 => v = .non ∧ Q (.ref x) H2) E := by
  have hl := rp.length
  have nax := er.nav nx
  have owx : ∀ {m : M} {b : Addr}, Ow ((([] : List D).map Ar.d ++ Ar.m m :: ds.map Ar.d).map arEV) (([] ++ V.ref x :: vs).map some) b ↔ b = x := fun {m b} => ow_one (ds1 := []) (vs1 := []) rfl
  have av : ∀ {m : M} {b : Addr}, AvO (AvO G ρ σ) ((([] : List D).map Ar.d ++ Ar.m m :: ds.map Ar.d).map arEV) (([] ++ V.ref x :: vs).map some) b ↔ AvO G ρ σ b ∨ b = x := fun {m b} => ⟨fun z => z.elim .inl fun z => .inr (owx.mp z), fun z => z.elim .inl fun z => .inr (owx.mpr z)⟩
  have keep0 : ∀ b o, H b = some o → upd (upd H dx (.own x)) x (.ins (cA c) dx []) b = some o := fun b o h => by
    rw [upd_ne (ne_of_none h nx), upd_ne (ne_of_none h nd)]; exact h
  have t0 : Tr (AvO G ρ σ) (AvO (AvO G ρ σ) ((([] : List D).map Ar.d ++ Ar.m (.ins c []) :: ds.map Ar.d).map arEV) (([] ++ V.ref x :: vs).map some)) H (upd (upd H dx (.own x)) x (.ins (cA c) dx [])) := fun b n h => by
    refine ⟨fun z => (av.mp z).elim n fun z => h (by rw [z]; exact nx), .inl ?_⟩
    cases qq : H b with
    | none => exact absurd qq h
    | some o => exact keep0 b o qq
  have er0 : ER K cA (AvO G ρ σ) (([] ++ V.ref x :: vs).map some) (upd (upd H dx (.own x)) x (.ins (cA c) dx [])) ((([] : List D).map Ar.d ++ Ar.m (.ins c []) :: ds.map Ar.d).map arEV) := by
    refine ⟨by simp [hl], fun i d g => ?_, fun i m' p l g => ?_, fun i j b m1 p1 l1 m2 p2 l2 g1 g2 _ _ => ?_, fun b z => ?_⟩
    · rw [gt_one] at g
      split at g
      · rename_i h; cases h
      · split at g
        · cases g
        · rename_i h1 h2
          split at g <;> cases g
          rename_i d hd
          obtain ⟨v, hv, r⟩ := rp.get hd
          refine ⟨v, map_get ?_, r.tr t0⟩
          obtain ⟨n, hn⟩ : ∃ n, i = n + 1 := ⟨i - 1, by have : i ≠ 0 := h2; omega⟩
          subst hn
          simpa using hv
    · obtain ⟨rfl, rfl, rfl, rfl⟩ := own_one g
      exact ⟨x, rfl, nax, ⟨dx, [], upd_same, by rw [Repf]⟩, fun _ o u z => by rw [upd_same] at z; cases z⟩
    · obtain ⟨rfl, _⟩ := own_one g1
      obtain ⟨rfl, _⟩ := own_one g2
      rfl
    · cases qq : H b with
      | none => exact absurd qq (er.avin z)
      | some o => exact some_ne (keep0 b o qq)
  refine ⟨AvO G ρ σ, ([] : List D).map Ar.d ++ Ar.m (.ins c []) :: ds.map Ar.d, .d .non, some (.ins c fs), er0, hc, rfl, fun v H' rr st => ?_⟩
  rw [putM_one] at rr st
  obtain ⟨e1, hv⟩ := rr
  rw [Rep] at hv
  refine ⟨hv, ?_⟩
  obtain ⟨a, ha, ng, rm, nf⟩ := e1.own 0 (.ins c fs) true false rfl
  cases ha
  have keep : ∀ b o, H b = some o → H' b = some o := fun b o h => st.keep b o (keep0 b o h) fun z => ne_of_none h nx (fre_one (ds1 := []) (vs1 := []) rfl z)
  have hx' : H' x ≠ none := by
    obtain ⟨dx', fv, r, _⟩ := rm
    exact some_ne r
  refine q _ _ ⟨x, rfl, er_plus_keep er keep nx hx', ?_, nf rfl, nax, .inr nx⟩ ⟨fun b o h _ => keep b o h, fun _ h => .inl h, fun _ h => .inl h, fun _ h => ⟨h, rfl⟩, fun b h => ?_, fun _ _ _ h => ⟨_, _, h, rfl⟩⟩
  · exact rm.tr (fun b n _ => ⟨fun z => n (av.mpr (avO_plus.mp z)), .inl rfl⟩) (.inl rfl)
  · cases qq : H b with
    | none => exact absurd qq h
    | some o => exact some_ne (keep b o qq)
theorem s_mk (fa : Fa k C cA X lev) {c f : Nat} {x : Str} {a : Expr} {as : List Expr} {ies : List IE} {p pos : Pos} (hm : k.inm f = some (c, x)) (hg : okGlob k x = true) (ha : PA X (a :: as) (tR X.K cA C ies)) (hn : nst (a :: as) = true) :
    PE X (.Call (.Name x p) (a :: as) [] pos) (tI X.K cA C (.mk c f ies)) := by
  obtain ⟨g1, g2⟩ := okGlob_of fa hg
  obtain ⟨n1, n2⟩ := nst_cons hn
  by_cases hx : ∃ as r b, C.cmk f as = .ok r b
  · obtain ⟨l, fa', fd, ps, rfl, F, M, mg, b⟩ := fa.mkr f c x hm hx
    refine (pe_make (E := E0) M F fa.room g1 mg b .nil pass0 ha g2 (star1 n1) (back_any (star_all n2))).imp fun σ H Q ⟨G, ρ, r, ρ', er, e, q⟩ => ?_
    rw [ev] at e
    obtain ⟨rs, ρ1, e1, e⟩ := Out.bind_inv e
    split at e <;> first | (cases e; done) | skip
    rename_i ds hd
    split at e <;> first | (cases e; done) | skip
    rename_i c' fs hcl
    split at e <;> cases e
    rename_i hc
    subst hc
    refine ⟨G, ρ, rs, _, er, e1, fun vs H1 er1 rh st y dx ny nd ne => ?_⟩
    rw [List.append_nil]
    rw [datAll_map hd] at rh
    exact mk_call er1 (rhs_d rh) hcl ny nd ne (res_of st q)
  · refine ⟨fun pins s σ H Q I ⟨G, ρ, r, ρ', er, e, q⟩ => ?_⟩
    rw [ev] at e
    obtain ⟨rs, ρ1, e1, e⟩ := Out.bind_inv e
    split at e <;> first | (cases e; done) | skip
    split at e <;> first | (cases e; done) | skip
    rename_i hcl
    exact absurd ⟨_, _, _, hcl⟩ hx
/-! ### self.a = .. -/
theorem own_ins {K : PySem.W.Frag} {G : Addr → Prop} {ρ : Env} {σ : St} {H : Hp} {i c : Nat} {fs : List (DK × D)} {p : Bool} (er : ER K cA G σ H ρ) (g : gt ρ i = .own (.ins c fs) p false) : ∃ a dx fv, σ[i]? = some (some (.ref a)) ∧ H a = some (.ins (cA c) dx fv) ∧ Repf K cA (AvO G ρ σ) H fs fv := by
  obtain ⟨a, ha, _, ⟨dx, fv, r, q⟩, _⟩ := er.own i _ p false g
  exact ⟨a, dx, fv, ha, r, q⟩
theorem st_setA (fa : Fa k C cA X lev) {i : Nat} {x : Str} {a : Cs} {ie : IE} {e : Expr} {p ap pos : Pos} (h : PE X (.Name x p) (tVar i)) (he : PE X e (tI X.K cA C ie)) (hn : nonComp e = true) : PS X (.Assign [.Attribute (.Name x p) (S a) ap] e pos) (tS X.K cA C (.setA i a ie)) :=
  (ps_fld h he (swaps_of hn)).imp fun D σ H ⟨G, ρ, f, ρ', er, e, q⟩ => by
    rw [evS] at e
    obtain ⟨r, ρ1, e1, e⟩ := Out.bind_inv e
    split at e <;> first | (cases e; done) | skip
    rename_i d c fs pin hd g
    split at e <;> cases e
    rename_i hc
    rw [Bool.and_eq_true, decide_eq_true_eq] at hc
    refine ⟨G, ρ, r, ρ1, er, e1, fun v H1 rr st => ?_⟩
    obtain ⟨b, dx, fv, hb, hH, rf⟩ := own_ins rr.er g
    obtain ⟨c1, c2⟩ := fa.fld c a hc.1
    refine ⟨_, hb, b, cA c, dx, fv, rfl, hH, c1, c2, by rw [rf.length]; exact hc.2, ?_⟩
    have tt := tr_own (G := G) (H := H1) (o := .ins (cA c) dx (putF (S a) v fv)) g hb
    obtain ⟨er3, st3⟩ := own_upd (o := .ins (cA c) dx (putF (S a) v fv)) (m' := .ins c (putA a d fs)) rr.er g hb (fun x u z => by cases z) ⟨dx, _, upd_same, repf_put ((rr.dat hd).tr tt) (Repf.tr tt _ _ rf)⟩
    exact q σ _ er3 (st.trans st3)
theorem st_raise {e : Option Expr} {c : Option Expr} {pos : Pos} : PS X (.Raise e c pos) (tS X.K cA C .raise) :=
  ⟨fun pins s σ H D I ⟨G, ρ, f, ρ', er, e, q⟩ => by
    rw [evS] at e
    cases e⟩
/-! ### written dicts of texts -/
theorem lookKD_ok {K : PySem.W.Frag} {kvs : List (Cs × D)} {kv : List (Str × V)} {z : Cs} (h : Paired (fun (a : Cs × D) (b : Str × V) => b.1 = S a.1 ∧ ∀ Av H, Rep K cA Av H a.2 b.2) kvs kv) : (lookKD kvs z).isSome = (Sx.lookD kv (S z)).isSome ∧ ∀ d, lookKD kvs z = some d → ∃ v, Sx.lookD kv (S z) = some v ∧ ∀ Av H, Rep K cA Av H d v := by
  induction h with
  | nil => exact ⟨rfl, fun d e => by cases e⟩
  | @cons a b as bs h t ih =>
    obtain ⟨a1, a2⟩ := a
    obtain ⟨b1, b2⟩ := b
    obtain ⟨h1, h2⟩ := h
    have h1 : b1 = S a1 := h1
    subst h1
    by_cases e : a1 = z
    · subst e
      have q1 : lookKD ((a1, a2) :: as) a1 = some a2 := by simp [lookKD]
      have q2 : Sx.lookD ((S a1, b2) :: bs) (S a1) = some b2 := by simp [Sx.lookD]
      rw [q1, q2]
      exact ⟨rfl, fun d z => by cases z; exact ⟨b2, rfl, h2⟩⟩
    · have e' : ¬ S a1 = S z := fun q => e (by have := SX.S_beq_eq (a := a1) (b := z); rw [q, beq_self_eq_true] at this; exact of_decide_eq_true this.symm)
      have q1 : lookKD ((a1, a2) :: as) z = lookKD as z := by simp [lookKD, e]
      have q2 : Sx.lookD ((S a1, b2) :: bs) (S z) = Sx.lookD bs (S z) := by simp [Sx.lookD, e']
      rw [q1, q2]
      exact ih
theorem s_inKD (fa : Fa k C cA X lev) {g : Nat} {x : Str} {a : Expr} {ia : IE} {neg : Bool} {p pos : Pos} (hgn : k.gnm g = some x) (hg : okGlob k x = true) (ha : PE X a (tI X.K cA C ia)) (hneg : neg = false) : PE X (.Compare a [.In] [.Name x p] pos) (tI X.K cA C (.inKD g neg ia)) := by
  obtain ⟨g1, g2⟩ := okGlob_of fa hg
  subst hneg
  cases hd : C.gdic g with
  | none =>
    refine ⟨fun pins s σ H Q I ⟨G, ρ, r, ρ', er, e, q⟩ => ?_⟩
    rw [ev, hd] at e
    obtain ⟨y, ρ1, e1, e⟩ := Out.bind_inv e
    split at e <;> first | (cases e; done) | contradiction
  | some kvs =>
    obtain ⟨pa, kv, hm, hk, hr⟩ := fa.kd g x kvs hgn hd
    refine (pe_cmpR Sx.op_inKD ha (pe_glob (v := .ref pa) g1 hm rfl g2) (behind_of rfl)).imp fun σ H Q ⟨G, ρ, r, ρ', er, e, q⟩ => ?_
    rw [ev, hd] at e
    obtain ⟨y, ρ1, e1, e⟩ := Out.bind_inv e
    split at e <;> first | (cases e; done) | skip
    rename_i z kvs' hk'
    cases hk'
    cases e
    refine ⟨G, ρ, _, _, er, e1, fun v H1 rr st => ?_⟩
    have rs := rr.2
    rw [Rep] at rs
    refine ⟨pa, S z, kv, rfl, rs.1, hk, ?_⟩
    rw [← (lookKD_ok hr).1]
    exact q _ H1 ⟨rr.1, by rw [Rep]; rfl⟩ st
theorem s_inKDT (fa : Fa k C cA X lev) {g : Nat} {x : Str} {a : Expr} {ia : IE} {neg : Bool} {p pos : Pos} (hgn : k.gnm g = some x) (hg : okGlob k x = true) (ha : PE X a (tI X.K cA C ia)) (hneg : neg = false) : PT X (.Compare a [.In] [.Name x p] pos) (tT X.K cA C (.inKD g neg ia)) := by
  obtain ⟨g1, g2⟩ := okGlob_of fa hg
  subst hneg
  cases hd : C.gdic g with
  | none =>
    refine ⟨fun pins s σ H Q I ⟨G, ρ, r, ρ', er, e, q⟩ => ?_⟩
    rw [ev, hd] at e
    obtain ⟨y, ρ1, e1, e⟩ := Out.bind_inv e
    split at e <;> first | (cases e; done) | contradiction
  | some kvs =>
    obtain ⟨pa, kv, hm, hk, hr⟩ := fa.kd g x kvs hgn hd
    refine (pt_cmpR Sx.op_inKD ha (pe_glob (v := .ref pa) g1 hm rfl g2) (behind_of rfl)).imp fun σ H Q ⟨G, ρ, c, ρ', er, e, q⟩ => ?_
    rw [ev, hd] at e
    obtain ⟨y, ρ1, e1, e⟩ := Out.bind_inv e
    split at e <;> first | (cases e; done) | skip
    rename_i z kvs' hk'
    cases hk'
    cases e
    refine ⟨G, ρ, _, _, er, e1, fun v H1 rr st => ?_⟩
    have rs := rr.2
    rw [Rep] at rs
    refine ⟨pa, S z, kv, rfl, rs.1, hk, _, rfl, ?_⟩
    rw [← (lookKD_ok hr).1]
    exact q H1 rr.1 st
theorem s_ixKD (fa : Fa k C cA X lev) {g : Nat} {x : Str} {a : Expr} {ia : IE} {p pos : Pos} (hgn : k.gnm g = some x) (hg : okGlob k x = true) (ha : PE X a (tI X.K cA C ia)) (hs : nonSl a = true) : PE X (.Subscript (.Name x p) a pos) (tI X.K cA C (.ixKD g ia)) := by
  obtain ⟨g1, g2⟩ := okGlob_of fa hg
  cases hd : C.gdic g with
  | none =>
    refine ⟨fun pins s σ H Q I ⟨G, ρ, r, ρ', er, e, q⟩ => ?_⟩
    rw [ev, hd] at e
    obtain ⟨y, ρ1, e1, e⟩ := Out.bind_inv e
    split at e <;> first | (cases e; done) | contradiction
  | some kvs =>
    obtain ⟨pa, kv, hm, hk, hr⟩ := fa.kd g x kvs hgn hd
    refine (pe_ix Sx.ix_KD (pe_glob (v := .ref pa) g1 hm rfl g2) ha (plainIx_of hs)).imp fun σ H Q ⟨G, ρ, r, ρ', er, e, q⟩ => ?_
    rw [ev, hd] at e
    obtain ⟨y, ρ1, e1, e⟩ := Out.bind_inv e
    split at e <;> first | (cases e; done) | skip
    rename_i z kvs' hk'
    cases hk'
    obtain ⟨e2, e3⟩ := Out.of_inv e
    subst e3
    obtain ⟨d, hdd, e4⟩ := Option.map_eq_some_iff.mp e2
    cases e4
    obtain ⟨w, hw, rw_⟩ := (lookKD_ok hr).2 d hdd
    refine ⟨G, ρ, _, _, er, e1, fun v H1 rr st => ?_⟩
    have rs := rr.2
    rw [Rep] at rs
    exact ⟨pa, S z, kv, w, rfl, rs.1, hk, hw, q w H1 ⟨rr.1, rw_ _ _⟩ st⟩
end
end Ev
end
/-! F6 -/
section
set_option Elab.async false
set_option linter.all false
set_option autoImplicit false
set_option maxRecDepth 100000
set_option maxHeartbeats 1000000
namespace Ev
open PySem L2
open SX (S)
theorem scan_big : 1002 ≤ scanBound := by decide
theorem dist_mem : ∀ {l : List Cs} {x : Cs}, x ∈ distS l ↔ x ∈ l
  | [], x => by simp [distS]
  | y :: r, x => by
    rw [distS]
    split
    · rename_i h
      rw [dist_mem, List.mem_cons]
      exact ⟨.inr, fun z => z.elim (fun e => by subst e; simpa using h) id⟩
    · rw [List.mem_cons, List.mem_cons, dist_mem]
theorem dist_nodup : ∀ (l : List Cs), (distS l).Nodup
  | [] => by simp [distS]
  | y :: r => by
    rw [distS]
    split
    · exact dist_nodup r
    · rename_i h
      exact List.nodup_cons.mpr ⟨fun z => h (by simpa using dist_mem.mp z), dist_nodup r⟩
theorem dist_len : ∀ l : List Cs, (distS l).length ≤ l.length
  | [] => Nat.le_refl _
  | y :: r => by
    rw [distS]
    split
    · exact Nat.le_succ_of_le (dist_len r)
    · exact Nat.succ_le_succ (dist_len r)
theorem S_inj {a b : Cs} (h : S a = S b) : a = b := by have := SX.S_beq_eq (a := a) (b := b); rw [h, beq_self_eq_true] at this; exact of_decide_eq_true this.symm
theorem nodup_S {l : List Cs} (h : l.Nodup) : (l.map S).Nodup := by
  induction l with
  | nil => exact .nil
  | cons x r ih =>
    obtain ⟨h1, h2⟩ := List.nodup_cons.mp h
    rw [List.map_cons]
    refine List.nodup_cons.mpr ⟨fun z => ?_, ih h2⟩
    obtain ⟨y, hy, e⟩ := List.mem_map.mp z
    exact h1 (S_inj e ▸ hy)
theorem sort_dist {ls : List Cs} {ys : List Str} (h1 : PyProof.Rows.sortedS ys = true) (h2 : ys.Nodup) (h3 : ∀ x, x ∈ ys ↔ x ∈ ls.map S) : ys = (sortS (distS ls)).map S := by
  refine sortS_of ?_ h1
  refine (List.perm_ext_iff_of_nodup h2 (nodup_S (dist_nodup ls))).mpr fun x => (h3 x).trans ?_
  rw [List.mem_map, List.mem_map]
  exact ⟨fun ⟨a, b, c⟩ => ⟨a, dist_mem.mpr b, c⟩, fun ⟨a, b, c⟩ => ⟨a, dist_mem.mp b, c⟩⟩
section
variable {X : Cx} {cA : Nat → Addr} {C : Cn} {k : Ck} {lev : Nat}
/-- one turn of a set comprehension of texts -/
def turnC (C : Cn) (tg : Tg) (cs : List IE) (e : IE) (d : D) (ρ : Env) : Out (Option Cs) := (Out.of ρ (bindT tg d ρ)).bind fun ρ' _ => (evC C cs ρ').bind fun b ρ => if b then (ev C e ρ).bind fun r ρ => Out.of ρ (r.dat?.bind fun d => match d with
  | .str l => some (some l)
  | _ => none) else .ok none ρ
theorem s_sc_core {elt tg iter : Expr} {ifs : List Expr} {scope : Scope} {own : List (Str × Nat)} {pos : Pos} {itg : Tg} {wi : TI} {cs : List IE} {ie : IE} (hm : ∀ {σ : St} {H : Hp} {R R' : It → Hp → Prop}, (∀ J H', R J H' → R' J H') → wi σ H R → wi σ H R') (hc : X.calm = true) (hN : X.N.Nodup) (ok : BlkOk X.N X.env.scope scope own)
    (hg : ∀ (s : Shared) (H : Hp) (Ca : Addr) (cl : List (Str × Addr)) (fp : List Addr), PG (X.blk s H scope (compEnvC scope cl Ca X.env) fp) tg (tGt X.K cA itg))
    (ht : ∀ (s : Shared) (H : Hp) (Ca : Addr) (cl : List (Str × Addr)) (fp : List Addr), PTs (X.blk s H scope (compEnvC scope cl Ca X.env) fp) ifs (tCs X.K cA C cs))
    (he : ∀ (s : Shared) (H : Hp) (Ca : Addr) (cl : List (Str × Addr)) (fp : List Addr), PE (X.blk s H scope (compEnvC scope cl Ca X.env) fp) elt (tI X.K cA C ie))
    (hs : ∀ x, foldedSetIterable iter X.env x = pure x) (ho : (tgS itg).all (fun i => (own.map (·.2)).contains i) = true) :
    ∀ (σ : St) (H : Hp) (Q : VK), wi σ H (fun J H1 => ∃ G ρ1 ds Good res ρf, ER X.K cA G σ H1 ρ1 ∧ Wk X.K cA G ρ1 σ H1 J ds Good ∧ noPin (own.map (·.2)) ρ1 = true ∧ ds.length < 1000 ∧ evLc (turnC C itg cs ie) (wipeE (own.map (·.2))) ds (wipeE (own.map (·.2)) ρ1) [] = .ok res ρf ∧
      ∀ Dn H2, H1 Dn = none → ER X.K cA (plus G Dn) σ H2 ρf → Step ρ1 σ H1 ρf σ H2 → H2 Dn = some (Sx.TxS X.w Dn (res.map S) res.length) → (∀ l ∈ res, okC l) → Q (.ref Dn) H2) → Sx.tSs X.w wi (tGt X.K cA itg) (tCs X.K cA C cs) (tI X.K cA C ie) (own.map (·.2)) σ H Q := by
  intro σ H Q h
  generalize hown : own.map (·.2) = ow at *
  refine hm (fun J H1 hh => ?_) h
  obtain ⟨G, ρ1, ds, Good, res, ρf, er1, wk, np, dl, e2, q⟩ := hh
  intro Dn nD
  -- the invariant
  have GD : ∀ b, plus G Dn b → G b ∨ H1 b = none := fun b z => z.elim .inl fun z => .inr (by rw [z]; exact nD)
  refine ⟨fun i m H' => ∃ ρi acc, m + i = ds.length ∧ ER X.K cA (plus G Dn) (wipe σ ow) H' ρi ∧ Step ρ1 σ H1 ρi (wipe σ ow) H' ∧ (∀ j ∈ ow, gt ρi j = .no) ∧ H' Dn = some (Sx.TxS X.w Dn (acc.map S) acc.length) ∧ (∀ l ∈ acc, okC l) ∧ acc.length ≤ i ∧
      evLc (turnC C itg cs ie) (wipeE ow) (ds.drop i) ρi acc = .ok res ρf, ⟨ds.length, ?_⟩, ?_⟩
  · refine ⟨wipeE ow ρ1, [], rfl, er_wipe (er1.new nD), step_updX (step_wipe (Step.refl _ _ _) np) nD, fun j hj => by rw [gt_wipe, if_pos hj], upd_same, (fun l m => by cases m), Nat.le_refl _, ?_⟩
    rw [List.drop_zero]
    exact e2
  · rintro i m H2 ⟨ρi, acc, hm, eri, sti, hno, hD, rp, la, run⟩
    have good : Good (plus G Dn) ρi (wipe σ ow) H2 := wk.on _ _ _ _ _ _ _ _ wk.start sti GD
    by_cases hi : i < ds.length
    · right
      have hdrop : ds.drop i = ds[i] :: ds.drop (i + 1) := List.drop_eq_getElem_cons hi
      rw [hdrop, evLc] at run
      obtain ⟨o, ρa, ea, run⟩ := Out.bind_inv run
      refine ⟨wk.go i _ _ _ _ good hi, fun H' => ∃ m', m' < m ∧ ∃ ρi acc, m' + (i + 1) = ds.length ∧ ER X.K cA (plus G Dn) (wipe σ ow) H' ρi ∧ Step ρ1 σ H1 ρi (wipe σ ow) H' ∧ (∀ j ∈ ow, gt ρi j = .no) ∧ H' Dn = some (Sx.TxS X.w Dn (acc.map S) acc.length) ∧ (∀ l ∈ acc, okC l) ∧ acc.length ≤ i + 1 ∧
        evLc (turnC C itg cs ie) (wipeE ow) (ds.drop (i + 1)) ρi acc = .ok res ρf, fun H' h => h, fun w H3 hy => ?_⟩
      obtain ⟨d, hd, hcase⟩ := wk.yld i _ _ _ _ w H3 hi good hy
      have hd' : d = ds[i] := by rw [List.getElem?_eq_getElem hi] at hd; exact (Option.some.inj hd).symm
      unfold turnC at ea
      obtain ⟨ρb, ρb', eb, ea⟩ := Out.bind_inv ea
      obtain ⟨eb1, eb2⟩ := Out.of_inv eb
      obtain ⟨b, ρc, ec, ea⟩ := Out.bind_inv ea
      -- the item, in the heap at hand
      have item : ER X.K cA (plus G Dn) (wipe σ ow) H3 ρi ∧ Step ρi (wipe σ ow) H2 ρi (wipe σ ow) H3 ∧ H3 Dn = some (Sx.TxS X.w Dn (acc.map S) acc.length) ∧ Rep X.K cA (AvO (plus G Dn) ρi (wipe σ ow)) H3 d w := by
        rcases hcase with ⟨rfl, rd⟩ | ⟨T, ys, es, nT, rfl, rfl, rfl, res, l⟩
        · exact ⟨eri, Step.refl _ _ _, hD, rd⟩
        · refine ⟨eri.grow nT, Step.upd nT, by rw [upd_ne (ne_of_none hD nT)]; exact hD, ?_⟩
          rw [Rep]
          exact ⟨T, ys, rfl, l, .inl ⟨eri.nav nT, .inl upd_same⟩, Reps.tr (tr_upd nT) _ _ res⟩
      obtain ⟨er3, st3, hD3, rd⟩ := item
      rw [hd'] at rd
      refine ⟨plus G Dn, ρi, _, ρb, er3, rd, eb1, fun σ2 er4 st4 hsl => ?_⟩
      have hwp : wipe σ2 ow = wipe σ ow := by
        refine wipe_eq ?_ fun j hj => ?_
        · rw [← er4.len, ← bindT_len eb1, er3.len, wipe_length]
        · rw [hsl j (mem_own ho hj), wipe_not hj]
      refine ⟨hwp, plus G Dn, ρb, b, ρc, er4, ec, fun H5 er5 st5 => ?_⟩
      have st25 := (st3.trans st4).trans st5
      -- D stays through the turn
      have keepD : ∀ {ρx : Env} {σx : St} {Hx : Hp}, Step ρi (wipe σ ow) H2 ρx σx Hx → Hx Dn = some (Sx.TxS X.w Dn (acc.map S) acc.length) := fun st => st.keep Dn _ hD fun z => by
        obtain ⟨j, m1, p1, g, q⟩ := z
        obtain ⟨a, ha, ng, _⟩ := eri.own j m1 p1 false g
        rw [q] at ha
        cases ha
        exact ng (.inr rfl)
      cases b with
      | false =>
        rw [if_neg Bool.false_ne_true] at ea
        cases ea
        refine iteF ⟨m - 1, by omega, wipeE ow _, acc, by omega, ?_, ?_, fun j hj => by rw [gt_wipe, if_pos hj], keepD st25, rp, by omega, run⟩
        · rw [← hwp]; exact er_wipe er5
        · rw [← hwp]; exact step_wipe (sti.trans st25) np
      | true =>
        rw [if_pos rfl] at ea
        obtain ⟨r, ρd, ed, ea⟩ := Out.bind_inv ea
        obtain ⟨ea1, ea2⟩ := Out.of_inv ea
        subst ea2
        obtain ⟨y, hy1, hy2⟩ := Option.bind_eq_some_iff.mp ea1
        have hq : ∃ l, y = .str l ∧ o = some l := by
          split at hy2
          · cases hy2; exact ⟨_, rfl, rfl⟩
          · cases hy2
        obtain ⟨l, rfl, rfl⟩ := hq
        refine iteT ⟨plus G Dn, ρc, r, ρd, er5, ed, fun yv H6 rr6 st6 => ?_⟩
        have st26 := st25.trans st6
        have hD6 := keepD st26
        have rl := rr6.dat hy1
        rw [Rep] at rl
        obtain ⟨rfl, ol⟩ := rl
        have hl6 : acc.length + 1 < scanBound := Nat.lt_of_lt_of_le (by omega) scan_big
        refine ⟨S l, acc.map S, acc.length, rfl, hD6, hl6, m - 1, by omega, wipeE ow ρd, acc ++ [l], by omega, ?_, ?_, fun j hj => by rw [gt_wipe, if_pos hj], ?_, ?_, by rw [List.length_append]; exact Nat.succ_le_succ la, run⟩
        · rw [← hwp]; exact er_wipe (er_updG rr6.er)
        · rw [← hwp]; exact step_wipe (step_updX (sti.trans st26) nD) np
        · rw [upd_same, List.map_append, List.length_append]; rfl
        · intro l' m'
          rcases List.mem_append.mp m' with m' | m'
          · exact rp l' m'
          · rw [List.mem_singleton.mp m']; exact ol
    · left
      have hdrop : ds.drop i = [] := List.drop_eq_nil_of_le (by omega)
      rw [hdrop, evLc] at run
      cases run
      exact ⟨wk.stop i _ _ _ _ good (by omega), q Dn H2 nD (er_unwipe eri hno) (step_unwipe sti hno) hD rp⟩
/-- sorted({..}) -/
theorem s_scs (fa : Fa k C cA X lev) {elt tg iter : Expr} {ifs : List Expr} {scope : Scope} {own : List (Str × Nat)} {p pos cpos : Pos} {itg : Tg} {iit : IE} {lk : Option Nat} {cs : List IE} {ie : IE} (hgl : okGlob k "sorted" = true) (hi : PI X tg iter (tP X.K cA C iit)) (ok : BlkOk X.N X.env.scope scope own)
    (hg : ∀ (s : Shared) (H : Hp) (Ca : Addr) (cl : List (Str × Addr)) (fp : List Addr), PG (X.blk s H scope (compEnvC scope cl Ca X.env) fp) tg (tGt X.K cA itg))
    (ht : ∀ (s : Shared) (H : Hp) (Ca : Addr) (cl : List (Str × Addr)) (fp : List Addr), PTs (X.blk s H scope (compEnvC scope cl Ca X.env) fp) ifs (tCs X.K cA C cs))
    (he : ∀ (s : Shared) (H : Hp) (Ca : Addr) (cl : List (Str × Addr)) (fp : List Addr), PE (X.blk s H scope (compEnvC scope cl Ca X.env) fp) elt (tI X.K cA C ie))
    (hs : ∀ x, foldedSetIterable iter X.env x = pure x) (ho : (tgS itg).all (fun i => (own.map (·.2)).contains i) = true) :
    PE X (.Call (.Name "sorted" p) [.SetComp elt [⟨tg, iter, ifs, 0⟩] scope cpos] [] pos) (tI X.K cA C (.scs (own.map (·.2)) itg iit lk cs ie)) := by
  obtain ⟨g1, g2⟩ := okGlob_of fa hgl
  have ha := pa_cons (Sx.pe_ss (pos := cpos) fa.calm fa.nd hi ok hg ht he hs) pa_nil (star1 (es := []) (env := X.env) rfl)
  refine (pe_callB (Sx.cr_sortTO fa.calm) g1 (fa.bn _ (by decide +kernel)) (by decide +kernel) ha (by decide) g2 (star1 (es := []) (env := X.env) rfl) rfl).imp fun σ H Q ⟨G, ρ, r, ρ', er, e, q⟩ => ?_
  rw [ev] at e
  split at e <;> first | (cases e; done) | skip
  rename_i ρL hL
  obtain ⟨x, ρ1, e1, e⟩ := Out.bind_inv e
  split at e <;> first | (cases e; done) | skip
  rename_i ds hw
  split at e <;> first | (cases e; done) | skip
  rename_i np
  rw [Bool.and_eq_true, decide_eq_true_eq] at np
  obtain ⟨res, ρf, e2, e⟩ := Out.bind_inv e
  by_cases hl : res.length < 64
  case neg => rw [if_neg hl] at e; cases e
  rw [if_pos hl] at e
  cases e
  have erL := er_lock er hL
  show Sx.tSs X.w (tP X.K cA C iit) (tGt X.K cA itg) (tCs X.K cA C cs) (tI X.K cA C ie) (own.map (fun x : Str × Nat => x.2)) σ H fun x H1 => Sx.rSortTO X.w [x] H1 Q
  refine s_sc_core (pos := pos) (wi := tP X.K cA C iit) (fun m h => tP_mono m h) fa.calm fa.nd ok hg ht he hs ho σ H _ ⟨G, ρL, x, ρ1, ds, erL, e1, hw, fun J H1 Good er1 st1 wk => ⟨G, ρ1, ds, Good, res, ρf, er1, wk, np.1, np.2, e2, fun Dn H2 nD er2 st2 hD oks => ?_⟩⟩
  refine ⟨Dn, res.map S, res.length, rfl, hD, hl, fun ys p' h1 h2 h3 h4 np' => ?_⟩
  rw [sort_dist h1 h2 h3]
  have n1 : H1 p' = none := by
    cases qq : H1 p' with
    | none => rfl
    | some o => exact absurd np' (st2.dom p' (some_ne qq))
  have hlen : (sortS (distS res)).length ≤ SZ := by
    have e1 : (sortS (distS res)).length = (distS res).length := (sortBy_perm _).length_eq
    have e3 : (distS res).length ≤ res.length := dist_len res
    rw [e1]
    exact Nat.le_trans e3 (Nat.le_trans (Nat.le_of_lt hl) (by decide))
  have erp : ER X.K cA (plus G p') σ (upd H2 p' (.lst (((sortS (distS res)).map S).map V.str))) ρf := er2.less.new np'
  obtain ⟨a, b⟩ := lc_fin (m := .lst ((sortS (distS res)).map D.str)) er hL st1 n1 erp (st2.trans (Step.upd np')) ⟨_, by rw [List.length_map]; exact hlen, .inl upd_same, strs_reps _ fun l m => oks l (dist_mem.mp ((sortBy_perm _).mem_iff.mp m))⟩ (fun o u z => by rw [upd_same] at z; cases z) er1.gin
  exact q _ _ a b
end
end Ev
end
/-! Ts -/
section
set_option Elab.async false
set_option linter.all false
set_option maxRecDepth 100000
set_option maxHeartbeats 4000000
/-! set(xs), xs a list of texts. -/
namespace Sx
open PySem PySem.Spec PyProof.Rows L2
section
variable {P : Program} {w : World} {A : Around} {E : Value → Shared → Prop} {s : Shared}
theorem TSet.more {h : Heap} {a : Addr} {ks ks' : List Str} {n n' : Nat} (R : TSet w h a ks n) (m : ∀ x, x ∈ ks' ↔ x ∈ ks) (l : n ≤ n') (b : n' < scanBound) : TSet w h a ks' n' :=
  let ⟨o, es, ep, t, h1, h2, h3, h4, h5, r⟩ := R
  ⟨o, es, ep, t, h1, h2, h3, fun x => (m x).trans (h4 x), ⟨Nat.le_trans h5.1 l, b⟩, r⟩
/-- the turns of set.update over texts -/
theorem turns {I S : Addr} {fp wr : List Addr} {G : Array GenState → Array GenState → Prop} {xs : List Str} {Pv : Nat → Value → Prop} {St : Nat → Shared → Prop} {R : Result → Shared → Prop}
    (W : WalksS P w A.in1 I fp wr G xs.length Pv St) (away : S ∉ fp) (few : xs.length + 1 < scanBound) (hv : ∀ i v, Pv i v → ∃ x t, xs[i]? = some x ∧ v = .str x t)
    : ∀ (left i : Nat) (s : Shared), xs.length - i = left → i ≤ xs.length → St i s → TSet w s.heap S (xs.take i) i →
      (∀ s', Moved (S :: wr) G s s' → TSet w s'.heap S xs xs.length → R (.ok (.ret .none)) s') → codeAny (model P w) A (.builtin "set.update.loop" ⟨[.ref S, .ref I], []⟩) R s := by
  have awayW : S ∉ wr := fun z => away (W.sub _ z)
  have inc : ∀ b ∈ wr, b ∈ S :: wr := fun b z => List.mem_cons_of_mem S z
  intro left
  induction left with
  | zero =>
    intro i s e hi st T ask
    have e2 : i = xs.length := by omega
    rw [e2] at st T
    rw [List.take_length] at T
    refine codeAny_builtin F.entry_set_update_loop (by
      rw [Around.under_plainId F.plain_set_update_loop _]
      show wpAny _ A.in1 (pyNext (.ref I) >>= _) _ _ _
      exact wpAny_bind (W.done s _ _ st fun s' mv => by
        show wpAny _ A.in1 (ret Value.none) _ _ _
        exact wpAny_pure (ask s' (mv.mono inc) (T.stay fun o g => mv.heap S o awayW g))))
  | succ left ih =>
    intro i s e hi st T ask
    have lt : i < xs.length := by omega
    refine codeAny_builtin F.entry_set_update_loop ?_
    rw [Around.under_plainId F.plain_set_update_loop _]
    show wpAny _ A.in1 (pyNext (.ref I) >>= _) _ _ _
    refine wpAny_bind (W.item i s _ _ lt st fun v s' pv st' mv => ?_)
    obtain ⟨x, t, hx, rfl⟩ := hv i v pv
    have T' := T.stay (h' := s'.heap) fun o g => mv.heap S o awayW g
    show wpAny _ A.in1 (holding [Value.str x t] (setAdd S (.str x t)) >>= _) _ _ _
    unfold setAdd
    refine wpAny_bind (wpAny_holding (wpAny_holding (wpAny_bind ((strKind P w).pyHash (kdIs P w x t) ?_))))
    refine addHashed (s := { s' with toks := s'.toks + 1 }) T' (by omega) fun b h' sb T2 => ?_
    have off : ∀ b o, b ≠ S → s'.heap.get? b = some o → h'.get? b = some o := fun b o n g => by rw [sb.2 b n]; exact g
    have T3 : TSet w h' S (xs.take (i + 1)) (i + 1) := T2.more (fun y => by rw [List.take_succ, hx]; rfl) (Nat.le_refl _) (by omega)
    have st2 := W.frame _ s' h' (s'.toks + 1) st' (Nat.le_succ _) fun b hb o g => off b o (fun z => away (z ▸ hb)) g
    refine wpAny_pure ⟨plainId_quiet F.plain_set_update_loop _, ih (i + 1) _ (by omega) lt st2 T3 fun s2 mv2 T4 => ?_⟩
    exact ask s2 (Moved.trans W.gtrans ((mv.mono inc).then_heap (Nat.le_succ _) fun b o hb g => off b o (fun z => hb (z ▸ List.mem_cons_self)) g) mv2) T4
/-- a new set, as the type makes it -/
abbrev bare (w : World) : Obj := { cls := .type "set", dict := none, data := .set #[] 0 (.fresh 0 0 (!w.params.followText "set-order")) }
theorem setOfTexts {l : Addr} {items : Array Value} {xs : List Str} {Q : Value → Shared → Prop} (hh : A.handled = none) (hl : s.heap.IsList l items) (hi : StrsAre items.toList xs) (few : xs.length + 1 < scanBound)
    (h : ∀ (h' : Heap) (tk : Nat), TSet w h' s.heap.objs.size xs xs.length → (∀ b o, s.heap.get? b = some o → h'.get? b = some o) → Q (.ref s.heap.objs.size) { s with heap := h', toks := tk }) :
    wpAny (model P w) A (call (.type "set") [.ref l]) Q E s := by
  have many : xs.length = items.size := by rw [← StrsAre.len_eq hi, Array.length_toList]
  have at_ : ∀ (i : Nat) (v : Value), items[i]? = some v → ∃ x t, xs[i]? = some x ∧ v = .str x t := by
    intro i v e
    obtain ⟨t, ev⟩ := SS.strs_at hi i v (by rw [Array.getElem?_toList]; exact e)
    have lt : i < xs.length := by
      rw [many]
      exact (Array.getElem?_eq_some_iff.mp e).1
    refine ⟨xs[i], t, List.getElem?_eq_getElem lt, ?_⟩
    rw [ev, List.getD_eq_getElem?_getD, List.getElem?_eq_getElem lt]
    rfl
  obtain ⟨c, tl, hmro⟩ := F.called_set.mro
  have hmade := F.called_set.made; have hsub := F.called_set.sub; have hn1 := F.called_set.notType; have hn2 := F.called_set.canCreate; have hn3 := F.typeCall_set_1 (.ref l)
  refine wpAny_call (codeAny_of_tree (by
    show wpAny _ _ (callAny (.type "set") _) _ _ _
    refine wpAny_pure ⟨Code.quiet_builtin _ (by decide +kernel), codeAny_builtin F.entry_type_call ?_⟩
    rw [Around.under_plain (weight_type_call_type "set" [.ref l] []) rfl]
    repeat (any_goals (first | assumption | wp_step))
    have born : (s.heap.push (bare w)).get? s.heap.objs.size = some (bare w) := Heap.get?_push_size _ rfl
    refine codeAny_mono (code_set_led1 (.ref l) (E := E) (Q₁ := fun obj s₁ => obj = .ref s.heap.objs.size ∧ s₁ = { s with heap := s.heap.push (bare w) }) ⟨rfl, rfl⟩) ?_
    intro r s₁ hr
    match r, hr with
    | .error e, hr => exact hr
    | .ok .next, hr => exact hr.elim
    | .ok .brk, hr => exact hr.elim
    | .ok .cont, hr => exact hr.elim
    | .ok (.ret obj), hr =>
      obtain ⟨eo, es⟩ := hr
      rw [eo, es]
      have isSet : Shared.TypeIs { s with heap := s.heap.push (bare w) } (.ref s.heap.objs.size) "set" := ⟨_, born, rfl⟩
      have hli := F.called_set.init.lookup; have hbi := F.called_set.init.bind (.ref s.heap.objs.size)
      repeat (any_goals (first | assumption | wp_step))
      refine codeAny_mono (codeAny_call_builtin (R := wants (fun r s₂ => r = .none ∧ ∃ h' tk, s₂ = { s with heap := h', toks := tk } ∧ TSet w h' s.heap.objs.size xs xs.length ∧
        ∀ b o, s.heap.get? b = some o → h'.get? b = some o) E) F.called_set.init.plain F.entry_set_init (check_set_init_1 isSet ?_)) ?_
      · obtain ⟨⟨ocls, odict, odata, oslots⟩, hol, hcl, nl, hdl⟩ := hl
        simp only at hcl hdl
        subst hcl hdl
        have lt : l < s.heap.objs.size := Heap.lt_size hol
        have still := Heap.get?_push_of_some (bare w) hol
        have isL : (s.heap.push (bare w)).IsList l items := ⟨_, still, rfl, nl, rfl⟩
        have hsls := F.sub_list_set; have hslf := F.sub_list_frozenset
        have noDict : (Value.type "list" == Value.type "dict") = false := by decide
        unfold Builtin.«set.__init__» noKeywords Builtin.Frozenset.updateFrom
        generalize hPI : pyIter = PI
        wp_walk
        subst hPI
        refine wpAny_pyIter_list isL (wpAny_bind (wpAny_runValue ?_))
        have sz1 : (s.heap.push (bare w)).objs.size = s.heap.objs.size + 1 := Heap.size_push ..
        have hd3 : A.in1.in1.in1.handled = none := by simp [hh]
        have ne1 : l ≠ (s.heap.push (bare w)).objs.size := Nat.ne_of_lt (by rw [sz1]; exact Nat.lt_succ_of_lt lt)
        have ne2 : s.heap.objs.size ∉ [(s.heap.push (bare w)).objs.size, l] := by
          intro z
          rcases List.mem_cons.mp z with z | z
          · rw [sz1] at z
            exact Nat.ne_of_lt (Nat.lt_succ_self _) z
          · exact Nat.ne_of_gt lt (List.mem_singleton.mp z)
        have start : TSet w ((s.heap.push (bare w)).push { cls := .type "list_iterator", data := .fields #[.ref l, .int 0 0] }) s.heap.objs.size (xs.take 0) 0 :=
          (emptySet w s.heap).stay fun o g => Heap.get?_push_of_some _ g
        have way := (Walks.list (prog := P) (w := w) hd3 (s.heap.push (bare w)).objs.size l ne1 items).toS
        rw [← many] at way
        refine turns (S := s.heap.objs.size) way ne2 few at_ (xs.length - 0) 0 _ rfl (Nat.zero_le _) ⟨⟨_, Heap.get?_push_size _ rfl, rfl, rfl⟩, (isL.push _)⟩ start ?_
        intro s' mv T
        obtain ⟨h', g2, d', tk', os'⟩ := s'
        have eg : g2 = s.gens := mv.gens; have ed : d' = s.drawn := mv.drawn; have eo2 : os' = s.os := mv.os
        subst eg ed eo2
        show wpAny _ _ _ _ _ _
        refine wpAny_pure (by
          show wpAny _ _ (ret Value.none) _ _ _
          refine wpAny_pure ⟨rfl, h', tk', rfl, T, fun b o g => ?_⟩
          have b1 := Heap.lt_size g
          refine mv.heap b o (fun z => ?_) (Heap.get?_push_of_some _ (Heap.get?_push_of_some _ g))
          rcases List.mem_cons.mp z with z | z
          · exact Nat.ne_of_lt b1 z
          · have z := List.mem_singleton.mp z
            rw [sz1] at z
            exact Nat.ne_of_lt (Nat.lt_succ_of_lt b1) z)
      · intro r₂ s₂ hr₂
        match r₂, hr₂ with
        | .error e, hr₂ => exact hr₂
        | .ok .next, hr₂ => exact hr₂.elim
        | .ok .brk, hr₂ => exact hr₂.elim
        | .ok .cont, hr₂ => exact hr₂.elim
        | .ok (.ret r3), ⟨e3, h', tk, e4, T, keep⟩ =>
          rw [e3, e4]
          repeat (any_goals (first | assumption | wp_step))
          exact h _ _ T keep))
end
end Sx
end
/-! Ts2 -/
section
set_option Elab.async false
set_option linter.all false
set_option maxRecDepth 100000
set_option maxHeartbeats 4000000
namespace Sx
open PySem PySem.Spec PyProof.Rows L2
section
variable {X : Cx}
theorem cr_setTexts (hc : X.calm = true) : CallR X (.type "set") (fun xs H Q => ∃ (a : Addr) (l : List Str), xs = [.ref a] ∧ SqL X.K H a (l.map V.str) ∧ l.length < 60 ∧ ∀ p, H p = none → Q (.ref p) (upd H p (TxS X.w p l l.length))) := by
  intro pins s σ H xs us Q I rel h
  obtain ⟨a, l, rfl, hs, few, q⟩ := h
  rw [Vals.ref1 rel]
  obtain ⟨its, rv, pl, _⟩ := I.list hs
  refine setOfTexts (xs := l) (I.ok.hd hc) pl.isList (by simpa using strsAre_of rv) (Nat.lt_of_lt_of_le (Nat.succ_lt_succ few) (by decide)) ?_
  intro h' tk T keep
  exact ⟨.ref s.heap.objs.size, upd H s.heap.objs.size (TxS X.w s.heap.objs.size l l.length), I.laid (t' := tk) keep (Nat.le_refl _) (to_ok T), rfl, q _ (I.hok.fresh (Nat.le_refl _))⟩
end
end Sx
end
/-! Se -/
section
set_option Elab.async false
set_option linter.all false
set_option maxRecDepth 100000
set_option maxHeartbeats 4000000
/-! set(xs), xs a tuple of texts; len of such a set. -/
namespace Sx
open PySem PySem.Spec PyProof.Rows L2
section
variable {P : Program} {w : World} {A : Around} {E : Value → Shared → Prop} {s : Shared}
theorem setOfTextsT {l : Addr} {items : Array Value} {xs : List Str} {Q : Value → Shared → Prop} (hh : A.handled = none) (hl : s.heap.IsTuple l items) (hi : StrsAre items.toList xs) (few : xs.length + 1 < scanBound)
    (h : ∀ (h' : Heap) (tk : Nat), TSet w h' s.heap.objs.size xs xs.length → (∀ b o, s.heap.get? b = some o → h'.get? b = some o) → Q (.ref s.heap.objs.size) { s with heap := h', toks := tk }) :
    wpAny (model P w) A (call (.type "set") [.ref l]) Q E s := by
  have many : xs.length = items.size := by rw [← StrsAre.len_eq hi, Array.length_toList]
  have at_ : ∀ (i : Nat) (v : Value), items[i]? = some v → ∃ x t, xs[i]? = some x ∧ v = .str x t := by
    intro i v e
    obtain ⟨t, ev⟩ := SS.strs_at hi i v (by rw [Array.getElem?_toList]; exact e)
    have lt : i < xs.length := by
      rw [many]
      exact (Array.getElem?_eq_some_iff.mp e).1
    refine ⟨xs[i], t, List.getElem?_eq_getElem lt, ?_⟩
    rw [ev, List.getD_eq_getElem?_getD, List.getElem?_eq_getElem lt]
    rfl
  obtain ⟨c, tl, hmro⟩ := F.called_set.mro
  have hmade := F.called_set.made; have hsub := F.called_set.sub; have hn1 := F.called_set.notType; have hn2 := F.called_set.canCreate; have hn3 := F.typeCall_set_1 (.ref l)
  refine wpAny_call (codeAny_of_tree (by
    show wpAny _ _ (callAny (.type "set") _) _ _ _
    refine wpAny_pure ⟨Code.quiet_builtin _ (by decide +kernel), codeAny_builtin F.entry_type_call ?_⟩
    rw [Around.under_plain (weight_type_call_type "set" [.ref l] []) rfl]
    repeat (any_goals (first | assumption | wp_step))
    have born : (s.heap.push (bare w)).get? s.heap.objs.size = some (bare w) := Heap.get?_push_size _ rfl
    refine codeAny_mono (code_set_led1 (.ref l) (E := E) (Q₁ := fun obj s₁ => obj = .ref s.heap.objs.size ∧ s₁ = { s with heap := s.heap.push (bare w) }) ⟨rfl, rfl⟩) ?_
    intro r s₁ hr
    match r, hr with
    | .error e, hr => exact hr
    | .ok .next, hr => exact hr.elim
    | .ok .brk, hr => exact hr.elim
    | .ok .cont, hr => exact hr.elim
    | .ok (.ret obj), hr =>
      obtain ⟨eo, es⟩ := hr
      rw [eo, es]
      have isSet : Shared.TypeIs { s with heap := s.heap.push (bare w) } (.ref s.heap.objs.size) "set" := ⟨_, born, rfl⟩
      have hli := F.called_set.init.lookup; have hbi := F.called_set.init.bind (.ref s.heap.objs.size)
      repeat (any_goals (first | assumption | wp_step))
      refine codeAny_mono (codeAny_call_builtin (R := wants (fun r s₂ => r = .none ∧ ∃ h' tk, s₂ = { s with heap := h', toks := tk } ∧ TSet w h' s.heap.objs.size xs xs.length ∧
        ∀ b o, s.heap.get? b = some o → h'.get? b = some o) E) F.called_set.init.plain F.entry_set_init (check_set_init_1 isSet ?_)) ?_
      · obtain ⟨⟨ocls, odict, odata, oslots⟩, hol, hcl, nl, hdl⟩ := hl
        simp only at hcl hdl
        subst hcl hdl
        have lt : l < s.heap.objs.size := Heap.lt_size hol
        have still := Heap.get?_push_of_some (bare w) hol
        have isL : (s.heap.push (bare w)).IsTuple l items := ⟨_, still, rfl, nl, rfl⟩
        have hsls := F.sub_tuple_set; have hslf := F.sub_tuple_frozenset
        have noDict : (Value.type "tuple" == Value.type "dict") = false := by decide
        unfold Builtin.«set.__init__» noKeywords Builtin.Frozenset.updateFrom
        generalize hPI : pyIter = PI
        wp_walk
        subst hPI
        refine wpAny_pyIter_tuple isL (wpAny_bind (wpAny_runValue ?_))
        have sz1 : (s.heap.push (bare w)).objs.size = s.heap.objs.size + 1 := Heap.size_push ..
        have hd3 : A.in1.in1.in1.handled = none := by simp [hh]
        have ne1 : l ≠ (s.heap.push (bare w)).objs.size := Nat.ne_of_lt (by rw [sz1]; exact Nat.lt_succ_of_lt lt)
        have ne2 : s.heap.objs.size ∉ [(s.heap.push (bare w)).objs.size, l] := by
          intro z
          rcases List.mem_cons.mp z with z | z
          · rw [sz1] at z
            exact Nat.ne_of_lt (Nat.lt_succ_self _) z
          · exact Nat.ne_of_gt lt (List.mem_singleton.mp z)
        have start : TSet w ((s.heap.push (bare w)).push { cls := .type "tuple_iterator", data := .fields #[.ref l, .int 0 0] }) s.heap.objs.size (xs.take 0) 0 :=
          (emptySet w s.heap).stay fun o g => Heap.get?_push_of_some _ g
        have way := (Walks.tuple (prog := P) (w := w) hd3 (s.heap.push (bare w)).objs.size l ne1 items).toS
        rw [← many] at way
        refine turns (S := s.heap.objs.size) way ne2 few at_ (xs.length - 0) 0 _ rfl (Nat.zero_le _) ⟨⟨_, Heap.get?_push_size _ rfl, rfl, rfl⟩, (isL.push _)⟩ start ?_
        intro s' mv T
        obtain ⟨h', g2, d', tk', os'⟩ := s'
        have eg : g2 = s.gens := mv.gens; have ed : d' = s.drawn := mv.drawn; have eo2 : os' = s.os := mv.os
        subst eg ed eo2
        show wpAny _ _ _ _ _ _
        refine wpAny_pure (by
          show wpAny _ _ (ret Value.none) _ _ _
          refine wpAny_pure ⟨rfl, h', tk', rfl, T, fun b o g => ?_⟩
          have b1 := Heap.lt_size g
          refine mv.heap b o (fun z => ?_) (Heap.get?_push_of_some _ (Heap.get?_push_of_some _ g))
          rcases List.mem_cons.mp z with z | z
          · exact Nat.ne_of_lt b1 z
          · have z := List.mem_singleton.mp z
            rw [sz1] at z
            exact Nat.ne_of_lt (Nat.lt_succ_of_lt b1) z)
      · intro r₂ s₂ hr₂
        match r₂, hr₂ with
        | .error e, hr₂ => exact hr₂
        | .ok .next, hr₂ => exact hr₂.elim
        | .ok .brk, hr₂ => exact hr₂.elim
        | .ok .cont, hr₂ => exact hr₂.elim
        | .ok (.ret r3), ⟨e3, h', tk, e4, T, keep⟩ =>
          rw [e3, e4]
          repeat (any_goals (first | assumption | wp_step))
          exact h _ _ T keep))
end
section
variable {X : Cx}
/-- set(xs), xs a list or a tuple of texts -/
theorem cr_setTexts2 (hc : X.calm = true) : CallR X (.type "set") (fun xs H Q => ∃ (a : Addr) (l : List Str), xs = [.ref a] ∧ (SqL X.K H a (l.map V.str) ∨ SqT X.K H a (l.map V.str)) ∧ l.length < 60 ∧ ∀ p, H p = none → Q (.ref p) (upd H p (TxS X.w p l l.length))) := by
  intro pins s σ H xs us Q I rel h
  obtain ⟨a, l, rfl, hs, few, q⟩ := h
  rw [Vals.ref1 rel]
  rcases hs with hs | hs
  · obtain ⟨its, rv, pl, _⟩ := I.list hs
    refine setOfTexts (xs := l) (I.ok.hd hc) pl.isList (by simpa using strsAre_of rv) (Nat.lt_of_lt_of_le (Nat.succ_lt_succ few) (by decide)) ?_
    intro h' tk T keep
    exact ⟨.ref s.heap.objs.size, upd H s.heap.objs.size (TxS X.w s.heap.objs.size l l.length), I.laid (t' := tk) keep (Nat.le_refl _) (to_ok T), rfl, q _ (I.hok.fresh (Nat.le_refl _))⟩
  · obtain ⟨its, rv, pl, _⟩ := I.tuple hs
    refine setOfTextsT (xs := l) (I.ok.hd hc) pl (by simpa using strsAre_of rv) (Nat.lt_of_lt_of_le (Nat.succ_lt_succ few) (by decide)) ?_
    intro h' tk T keep
    exact ⟨.ref s.heap.objs.size, upd H s.heap.objs.size (TxS X.w s.heap.objs.size l l.length), I.laid (t' := tk) keep (Nat.le_refl _) (to_ok T), rfl, q _ (I.hok.fresh (Nat.le_refl _))⟩
/-- len of a set of unlike texts -/
theorem call_lenTx : CallR X (.builtin "len") (fun xs H Q => ∃ (a : Addr) (ks : List Str) (n : Nat), xs = [.ref a] ∧ H a = some (TxS X.w a ks n) ∧ ks.Nodup ∧ Q (.int ks.length) H) := by
  intro pins s σ H xs us Q I rel h
  obtain ⟨a, ks, n, rfl, ha, nd, q⟩ := h
  rw [Vals.ref1 rel]
  obtain ⟨o, es, ep, t, ⟨ho, hex, hd⟩, g, nd2, hm, ⟨hb, hbn⟩, hf, hr, hl⟩ := to_get I ha
  have e1 : es.size = ks.length := by
    have p : ks.Perm (es.toList.map elName) := (List.perm_ext_iff_of_nodup nd nd2).mpr hm
    have := p.length_eq
    rw [List.length_map, Array.length_toList] at this
    exact this.symm
  have lt : es.size < scanBound := Nat.lt_of_le_of_lt hb hbn
  have lt2 : (es.size : Int) < 2 ^ 63 := by
    have : scanBound ≤ 2 ^ 62 := by decide
    omega
  refine call_len_set ho hex hd hf lt2 ⟨.int ks.length, H, I.tok _, ⟨_, by rw [e1]⟩, q⟩
end
end Sx
end
/-! Se2 -/
section
set_option Elab.async false
set_option linter.all false
set_option maxRecDepth 100000
set_option maxHeartbeats 4000000
namespace Sx
open PySem PySem.Spec PyProof.Rows L2
section
variable {X : Cx}
/-- len of a set of texts, by another list of the same ones, each once -/
theorem call_lenAny : CallR X (.builtin "len") (fun xs H Q => ∃ (a : Addr) (ks l : List Str) (n : Nat), xs = [.ref a] ∧ H a = some (TxS X.w a ks n) ∧ l.Nodup ∧ (∀ x, x ∈ l ↔ x ∈ ks) ∧ Q (.int l.length) H) := by
  intro pins s σ H xs us Q I rel h
  obtain ⟨a, ks, l, n, rfl, ha, nd, same, q⟩ := h
  rw [Vals.ref1 rel]
  obtain ⟨o, es, ep, t, ⟨ho, hex, hd⟩, g, nd2, hm, ⟨hb, hbn⟩, hf, hr, hl⟩ := to_get I ha
  have size : es.size = l.length := by
    have p : l.Perm (es.toList.map elName) := (List.perm_ext_iff_of_nodup nd nd2).mpr fun x => (same x).trans (hm x)
    have e := p.length_eq
    rw [List.length_map, Array.length_toList] at e
    exact e.symm
  have small : (es.size : Int) < 2 ^ 63 := by
    have lt : es.size < scanBound := Nat.lt_of_le_of_lt hb hbn
    have : scanBound ≤ 2 ^ 62 := by decide
    omega
  exact call_len_set ho hex hd hf small ⟨.int l.length, H, I.tok _, ⟨_, by rw [size]⟩, q⟩
end
end Sx
end
/-! F7 -/
section
set_option Elab.async false
set_option linter.all false
set_option autoImplicit false
set_option maxRecDepth 100000
set_option maxHeartbeats 1000000
namespace Ev
open PySem L2
open SX (S)
section
variable {X : Cx} {cA : Nat → Addr} {C : Cn} {k : Ck} {lev : Nat}
theorem lset_inv {ds : List D} {r : RV} (h : fxE .lset ds = some r) : ∃ d es ls, ds = [d] ∧ seqOf d = some es ∧ strsD es = some ls ∧ ls.length < 60 ∧ r = .d (.int (distS ls).length) := by
  unfold fxE at h
  split at h <;> first | contradiction | skip
  rename_i d he
  obtain ⟨es, h1, h2⟩ := Option.bind_eq_some_iff.mp h
  obtain ⟨ls, h3, h4⟩ := Option.bind_eq_some_iff.mp h2
  split at h4
  · rename_i hl
    cases h4
    exact ⟨d, es, ls, rfl, h1, h3, hl, rfl⟩
  · cases h4
theorem s_lset (fa : Fa k C cA X lev) {a : Expr} {ia : IE} {p p2 q pos : Pos} (hg1 : okGlob k "len" = true) (hg2 : okGlob k "set" = true) (ha : PE X a (tI X.K cA C ia)) (hn : nonStar a = true) : PE X (.Call (.Name "len" p) [.Call (.Name "set" p2) [a] [] q] [] pos) (tI X.K cA C (.fx .lset [ia])) := by
  obtain ⟨g1, g2⟩ := okGlob_of fa hg1
  obtain ⟨g3, g4⟩ := okGlob_of fa hg2
  have h1 := pe_callTy (p := p2) (pos := q) (Sx.cr_setTexts2 fa.calm) g3 (fa.bn _ (by decide +kernel)) (by decide +kernel) (pa_cons ha pa_nil (star1 hn)) (by decide) g4 (star1 hn) rfl
  refine (pe_callB Sx.call_lenAny g1 (fa.bn _ (by decide +kernel)) (by decide +kernel) (pa_cons h1 pa_nil (star1 (es := []) (env := X.env) rfl)) (by decide) g2 (star1 (es := []) (env := X.env) rfl) rfl).imp fun σ H Q h => ?_
  refine tI_mono (r_one (fx_red h)) fun v H1 ⟨G, ρ, σ0, ds, r, er, rl, e, q⟩ => ?_
  obtain ⟨d, es, ls, rfl, h2, h3, hl, rfl⟩ := lset_inv e
  obtain ⟨v', hv, h4⟩ := rl.one
  cases hv
  obtain ⟨b, vs, rfl, l, rp, hq⟩ := seq_of h2 h4
  obtain ⟨hvs, oks⟩ := reps_strs h3 rp
  subst hvs
  refine ⟨b, ls.map S, rfl, hq.elim (fun z => .inl z.1) fun z => .inr z.1, by rw [List.length_map]; exact hl, fun p' np => ?_⟩
  refine ⟨p', ls.map S, (distS ls).map S, _, rfl, upd_same, nodup_S (dist_nodup ls), fun x => ?_, ?_⟩
  · rw [List.mem_map, List.mem_map]
    exact ⟨fun ⟨a, b, c⟩ => ⟨a, dist_mem.mp b, c⟩, fun ⟨a, b, c⟩ => ⟨a, dist_mem.mpr b, c⟩⟩
  · rw [List.length_map]
    exact q _ _ ⟨er.grow np, by rw [Rep]⟩ (Step.upd np)
end
end Ev
end
/-! F8 -/
section
set_option Elab.async false
set_option linter.all false
set_option autoImplicit false
set_option maxRecDepth 100000
set_option maxHeartbeats 2000000
namespace Ev
open PySem L2
open SX (S)
theorem evLc_len {α : Type} {t : D → Env → Out (Option α)} {back : Env → Env} : ∀ {ds : List D} {ρ ρ' : Env} {acc res : List α}, evLc t back ds ρ acc = .ok res ρ' → acc.length ≤ res.length
  | [], ρ, ρ', acc, res, h => by rw [evLc] at h; cases h; exact Nat.le_refl _
  | d :: ds, ρ, ρ', acc, res, h => by
    rw [evLc] at h
    obtain ⟨o, ρ1, e1, h⟩ := Out.bind_inv h
    cases o with
    | none => exact evLc_len h
    | some a =>
      have := evLc_len h
      rw [List.length_append] at this
      exact Nat.le_trans (Nat.le_add_right _ _) this
theorem evLc2_len {α : Type} {t0 : D → Env → Out (Option (List D))} {t1 : D → Env → Out (Option α)} {back back1 : Env → Env} : ∀ {ds : List D} {ρ ρ' : Env} {acc res : List α}, evLc2 t0 t1 back back1 ds ρ acc = .ok res ρ' → acc.length ≤ res.length
  | [], ρ, ρ', acc, res, h => by rw [evLc2] at h; cases h; exact Nat.le_refl _
  | d :: ds, ρ, ρ', acc, res, h => by
    rw [evLc2] at h
    obtain ⟨o, ρ1, e1, h⟩ := Out.bind_inv h
    cases o with
    | none => exact evLc2_len h
    | some a =>
      obtain ⟨acc2, ρ2, e2, h⟩ := Out.bind_inv h
      exact Nat.le_trans (evLc_len e2) (evLc2_len h)
theorem wipe_sub {ow vs : List Nat} (hv : ∀ i ∈ vs, i ∈ ow) {σ : St} : wipe (wipe σ vs) ow = wipe σ ow := by
  refine wipe_eq (wipe_length σ vs) fun j hj => wipe_not fun z => hj (hv j z)
section
variable {X : Cx} {cA : Nat → Addr} {C : Cn} {k : Ck} {lev : Nat}
/-- the outer turn of two generators -/
def turn0 (C : Cn) (tg : Tg) (cs : List IE) (own1 : List Nat) (it1 : IE) (d : D) (ρ : Env) : Out (Option (List D)) := (Out.of ρ (bindT tg d ρ)).bind fun ρ' _ => (evC C cs ρ').bind fun b ρ => if b then (ev C it1 ρ).bind fun y ρ => (match walk ρ y with
          | some ys => if noPin own1 ρ && isTupR y then .ok (some ys) ρ else .bad
          | none => .bad) else .ok none ρ
theorem s_lc2 {own : List (Str × Nat)} {vs1 : List Nat} {itg itg1 : Tg} {iit iit1 : IE} {cs cs1 : List IE} {ie : IE} (hv : ∀ i ∈ vs1, i ∈ own.map (·.2))
    (ho : (tgS itg).all (fun i => (own.map (·.2)).contains i) = true) (ho1 : (tgS itg1).all (fun i => vs1.contains i) = true) :
    ∀ (σ : St) (H : Hp) (Q : VK), tI X.K cA C (.lc2 (own.map (·.2)) itg iit cs vs1 itg1 iit1 cs1 ie) σ H Q → tLc2 (tP X.K cA C iit) (tGt X.K cA itg) (tCs X.K cA C cs) (iTup X.K (tI X.K cA C iit1)) (tGt X.K cA itg1) (tCs X.K cA C cs1) (tI X.K cA C ie) (own.map (·.2)) vs1 σ H Q := by
  intro σ H Q ⟨G, ρ, z, ρ', er, e, q⟩
  generalize hown : own.map (·.2) = ow at *
  rw [ev] at e
  obtain ⟨x, ρ1, e1, e⟩ := Out.bind_inv e
  split at e <;> first | (cases e; done) | skip
  rename_i ds hw
  by_cases np : noPin ow ρ1 = true
  case neg => rw [if_neg np] at e; cases e
  rw [if_pos np] at e
  obtain ⟨res, ρf, e2, e⟩ := Out.bind_inv e
  by_cases hz : res.length ≤ SZ
  case neg => rw [if_neg hz] at e; cases e
  rw [if_pos hz] at e
  cases e
  refine ⟨G, ρ, x, ρ1, ds, er, e1, hw, fun J H1 Good er1 st1 wk => ?_⟩
  intro Dn nD
  have GD : ∀ b, plus G Dn b → G b ∨ H1 b = none := fun b z => z.elim .inl fun z => .inr (by rw [z]; exact nD)
  have e2 : evLc2 (turn0 C itg cs vs1 iit1) (turnL C itg1 cs1 ie) (wipeE ow) (wipeE vs1) ds (wipeE ow ρ1) [] = .ok res ρ' := e2
  refine ⟨fun i m H' => ∃ ρi acc vacc, m + i = ds.length ∧ ER X.K cA (plus G Dn) (wipe σ ow) H' ρi ∧ Step ρ1 σ H1 ρi (wipe σ ow) H' ∧ (∀ j ∈ ow, gt ρi j = .no) ∧ H' Dn = some (.lst vacc) ∧ Reps X.K cA (AvO (plus G Dn) ρi (wipe σ ow)) H' acc vacc ∧
      evLc2 (turn0 C itg cs vs1 iit1) (turnL C itg1 cs1 ie) (wipeE ow) (wipeE vs1) (ds.drop i) ρi acc = .ok res ρ', ⟨ds.length, ?_⟩, ?_⟩
  · refine ⟨wipeE ow ρ1, [], [], rfl, er_wipe (er1.new nD), step_updX (step_wipe (Step.refl _ _ _) np) nD, fun j hj => by rw [gt_wipe, if_pos hj], upd_same, Reps.nil, ?_⟩
    rw [List.drop_zero]
    exact e2
  · rintro i m H2 ⟨ρi, acc, vacc, hm, eri, sti, hno, hD, rp, run⟩
    have good : Good (plus G Dn) ρi (wipe σ ow) H2 := wk.on _ _ _ _ _ _ _ _ wk.start sti GD
    by_cases hi : i < ds.length
    · right
      have hdrop : ds.drop i = ds[i] :: ds.drop (i + 1) := List.drop_eq_getElem_cons hi
      rw [hdrop, evLc2] at run
      obtain ⟨o, ρa, ea, run⟩ := Out.bind_inv run
      refine ⟨wk.go i _ _ _ _ good hi, fun H' => ∃ m', m' < m ∧ ∃ ρi acc vacc, m' + (i + 1) = ds.length ∧ ER X.K cA (plus G Dn) (wipe σ ow) H' ρi ∧ Step ρ1 σ H1 ρi (wipe σ ow) H' ∧ (∀ j ∈ ow, gt ρi j = .no) ∧ H' Dn = some (.lst vacc) ∧ Reps X.K cA (AvO (plus G Dn) ρi (wipe σ ow)) H' acc vacc ∧
        evLc2 (turn0 C itg cs vs1 iit1) (turnL C itg1 cs1 ie) (wipeE ow) (wipeE vs1) (ds.drop (i + 1)) ρi acc = .ok res ρ', fun H' h => h, fun w H3 hy => ?_⟩
      obtain ⟨d, hd, hcase⟩ := wk.yld i _ _ _ _ w H3 hi good hy
      have hd' : d = ds[i] := by rw [List.getElem?_eq_getElem hi] at hd; exact (Option.some.inj hd).symm
      unfold turn0 at ea
      obtain ⟨ρb, ρb', eb, ea⟩ := Out.bind_inv ea
      obtain ⟨eb1, eb2⟩ := Out.of_inv eb
      obtain ⟨b, ρc, ec, ea⟩ := Out.bind_inv ea
      have item : ER X.K cA (plus G Dn) (wipe σ ow) H3 ρi ∧ Step ρi (wipe σ ow) H2 ρi (wipe σ ow) H3 ∧ H3 Dn = some (.lst vacc) ∧ Rep X.K cA (AvO (plus G Dn) ρi (wipe σ ow)) H3 d w := by
        rcases hcase with ⟨rfl, rd⟩ | ⟨T, ys, es, nT, rfl, rfl, rfl, res, l⟩
        · exact ⟨eri, Step.refl _ _ _, hD, rd⟩
        · refine ⟨eri.grow nT, Step.upd nT, by rw [upd_ne (ne_of_none hD nT)]; exact hD, ?_⟩
          rw [Rep]
          exact ⟨T, ys, rfl, l, .inl ⟨eri.nav nT, .inl upd_same⟩, Reps.tr (tr_upd nT) _ _ res⟩
      obtain ⟨er3, st3, hD3, rd⟩ := item
      rw [hd'] at rd
      refine ⟨plus G Dn, ρi, _, ρb, er3, rd, eb1, fun σ2 er4 st4 hsl => ?_⟩
      have hwp : wipe σ2 ow = wipe σ ow := by
        refine wipe_eq ?_ fun j hj => ?_
        · rw [← er4.len, ← bindT_len eb1, er3.len, wipe_length]
        · rw [hsl j (mem_own ho hj), wipe_not hj]
      refine ⟨hwp, plus G Dn, ρb, b, ρc, er4, ec, fun H5 er5 st5 => ?_⟩
      have st25 := (st3.trans st4).trans st5
      have keepD : ∀ {ρx : Env} {σx : St} {Hx : Hp}, Step ρi (wipe σ ow) H2 ρx σx Hx → Hx Dn = some (.lst vacc) := fun st => st.keep Dn _ hD fun z => by
        obtain ⟨j, m1, p1, g, q⟩ := z
        obtain ⟨a, ha, ng, _⟩ := eri.own j m1 p1 false g
        rw [q] at ha
        cases ha
        exact ng (.inr rfl)
      cases b with
      | false =>
        rw [if_neg Bool.false_ne_true] at ea
        cases ea
        refine iteF ⟨m - 1, by omega, wipeE ow _, acc, vacc, by omega, ?_, ?_, fun j hj => by rw [gt_wipe, if_pos hj], keepD st25, ?_, run⟩
        · rw [← hwp]; exact er_wipe er5
        · rw [← hwp]; exact step_wipe (sti.trans st25) np
        · rw [← hwp]
          exact Reps.tr tr_wipe _ _ (Reps.tr st25.tr _ _ rp)
      | true =>
        rw [if_pos rfl] at ea
        obtain ⟨y, ρy, ey, ea⟩ := Out.bind_inv ea
        cases hwy : walk ρy y with
        | none => rw [hwy] at ea; cases ea
        | some ys =>
          rw [hwy] at ea
          dsimp only at ea
          by_cases np1 : (noPin vs1 ρy && isTupR y) = true
          case neg => rw [if_neg np1] at ea; cases ea
          rw [if_pos np1] at ea
          rw [Bool.and_eq_true] at np1
          obtain ⟨np1, ht⟩ := np1
          cases ea
          dsimp only at run
          obtain ⟨acc2, ρ2, run1, run2⟩ := Out.bind_inv run
          have hyt : y = .d (.tup ys) := by
            unfold isTupR at ht
            split at ht
            · unfold walk walkD at hwy
              cases hwy
              rfl
            · cases ht
          subst hyt
          refine iteT ⟨plus G Dn, ρc, _, ρa, er5, ey, fun vt H6 rr6 st6 => ?_⟩
          have er6 := rr6.1
          have rt0 := rr6.2
          rw [Rep] at rt0
          obtain ⟨ta, zs, rfl, lz, rt0, rz0⟩ := rt0
          refine ⟨ta, rfl, ⟨zs, rt0.sq⟩, ?_⟩
          have st26 := st25.trans st6
          have np' : noPin vs1 ρ1 = true := List.all_eq_true.mpr fun t ht => List.all_eq_true.mp np t (hv t ht)
          refine ⟨fun j kk H' => ∃ ρj acc' vacc', kk + j = ys.length ∧ ER X.K cA (plus G Dn) (wipe σ2 vs1) H' ρj ∧ Step ρ1 σ H1 ρj (wipe σ2 vs1) H' ∧ RTup X.K (AvO (plus G Dn) ρj (wipe σ2 vs1)) H' ta zs ∧ Reps X.K cA (AvO (plus G Dn) ρj (wipe σ2 vs1)) H' ys zs ∧ (∀ t ∈ vs1, gt ρj t = .no) ∧ H' Dn = some (.lst vacc') ∧ Reps X.K cA (AvO (plus G Dn) ρj (wipe σ2 vs1)) H' acc' vacc' ∧
            evLc (turnL C itg1 cs1 ie) (wipeE vs1) (ys.drop j) ρj acc' = .ok acc2 ρ2, ⟨ys.length, ?_⟩, ?_⟩
          · exact ⟨wipeE vs1 ρa, acc, vacc, rfl, er_wipe er6, step_wipe (sti.trans st26) np', rt0.tr tr_wipe, Reps.tr tr_wipe _ _ rz0, fun j hj => by rw [gt_wipe, if_pos hj], keepD st26, Reps.tr tr_wipe _ _ (Reps.tr st26.tr _ _ rp), by rw [List.drop_zero]; exact run1⟩
          · rintro j kk H7 ⟨ρj, acc', vacc', hk', erj, stj, rtj, rzj, hnoj, hDj, rpj, runj⟩
            by_cases hj : j < ys.length
            · right
              have hdrop1 : ys.drop j = ys[j] :: ys.drop (j + 1) := List.drop_eq_getElem_cons hj
              rw [hdrop1, evLc] at runj
              obtain ⟨o1, ρa1, ea1, runj⟩ := Out.bind_inv runj
              refine ⟨⟨zs, zs[j]'(by rw [rzj.length]; exact hj), rtj.sq, List.getElem?_eq_getElem _⟩, fun H' => ∃ k', k' < kk ∧ ∃ ρj acc' vacc', k' + (j + 1) = ys.length ∧ ER X.K cA (plus G Dn) (wipe σ2 vs1) H' ρj ∧ Step ρ1 σ H1 ρj (wipe σ2 vs1) H' ∧ RTup X.K (AvO (plus G Dn) ρj (wipe σ2 vs1)) H' ta zs ∧ Reps X.K cA (AvO (plus G Dn) ρj (wipe σ2 vs1)) H' ys zs ∧ (∀ t ∈ vs1, gt ρj t = .no) ∧ H' Dn = some (.lst vacc') ∧ Reps X.K cA (AvO (plus G Dn) ρj (wipe σ2 vs1)) H' acc' vacc' ∧
                evLc (turnL C itg1 cs1 ie) (wipeE vs1) (ys.drop (j + 1)) ρj acc' = .ok acc2 ρ2, fun H' h => h, fun w1 H8 hy1 => ?_⟩
              obtain ⟨rfl, hzs⟩ := hy1
              obtain ⟨d1, hd1, rd1⟩ := rzj.getV (hzs zs rtj.sq)
              have hd1' : d1 = ys[j] := by rw [List.getElem?_eq_getElem hj] at hd1; exact (Option.some.inj hd1).symm
              unfold turnL at ea1
              obtain ⟨ρb1, ρb1', eb1_, ea1⟩ := Out.bind_inv ea1
              obtain ⟨eb11, eb12⟩ := Out.of_inv eb1_
              obtain ⟨b1, ρc1, ec1, ea1⟩ := Out.bind_inv ea1
              rw [hd1'] at rd1
              refine ⟨plus G Dn, ρj, _, ρb1, erj, rd1, eb11, fun σ3 er9 st9 hsl1 => ?_⟩
              have hwp1 : wipe σ3 vs1 = wipe σ2 vs1 := by
                refine wipe_eq ?_ fun j hj => ?_
                · rw [← er9.len, ← bindT_len eb11, erj.len, wipe_length]
                · rw [hsl1 j (mem_own ho1 hj), wipe_not hj]
              refine ⟨hwp1, plus G Dn, ρb1, b1, ρc1, er9, ec1, fun H9 er10 st10 => ?_⟩
              have st79 := st9.trans st10
              have keepD1 : ∀ {ρx : Env} {σx : St} {Hx : Hp}, Step ρj (wipe σ2 vs1) H8 ρx σx Hx → Hx Dn = some (.lst vacc') := fun st => st.keep Dn _ hDj fun z => by
                obtain ⟨t, m1, p1, g, q⟩ := z
                obtain ⟨a, ha, ng, _⟩ := erj.own t m1 p1 false g
                rw [q] at ha
                cases ha
                exact ng (.inr rfl)
              cases b1 with
              | false =>
                rw [if_neg Bool.false_ne_true] at ea1
                cases ea1
                refine iteF ⟨kk - 1, by omega, wipeE vs1 _, acc', vacc', by omega, ?_, ?_, ?_, ?_, fun t ht => by rw [gt_wipe, if_pos ht], keepD1 st79, ?_, runj⟩
                · rw [← hwp1]; exact er_wipe er10
                · rw [← hwp1]; exact step_wipe (stj.trans st79) np'
                · rw [← hwp1]; exact (rtj.tr st79.tr).tr tr_wipe
                · rw [← hwp1]; exact Reps.tr tr_wipe _ _ (Reps.tr st79.tr _ _ rzj)
                · rw [← hwp1]
                  exact Reps.tr tr_wipe _ _ (Reps.tr st79.tr _ _ rpj)
              | true =>
                rw [if_pos rfl] at ea1
                obtain ⟨r, ρd, ed, ea1⟩ := Out.bind_inv ea1
                obtain ⟨ea2, ea3⟩ := Out.of_inv ea1
                subst ea3
                obtain ⟨yy, hyy1, hyy2⟩ := Option.map_eq_some_iff.mp ea2
                subst hyy2
                refine iteT ⟨plus G Dn, ρc1, r, ρd, er10, ed, fun yv H10 rr10 st11 => ?_⟩
                have st710 := st79.trans st11
                have hD10 := keepD1 st710
                have hlen : acc'.length < SZ := by
                  have l1 := evLc_len runj
                  have l2 := evLc2_len run2
                  rw [List.length_append, List.length_singleton] at l1
                  omega
                have t3 : Tr (AvO (plus G Dn) (wipeE vs1 ρd) (wipe σ3 vs1)) (AvO (plus G Dn) (wipeE vs1 ρd) (wipe σ3 vs1)) H10 (upd H10 Dn (.lst (vacc' ++ [yv]))) := fun b n h => ⟨n, .inl (upd_ne fun z => n (.inl (.inr z)))⟩
                refine ⟨vacc', hD10, by rw [rpj.length, ← SZ_line]; exact hlen, kk - 1, by omega, wipeE vs1 ρd, acc' ++ [yy], vacc' ++ [yv], by omega, ?_, ?_, ?_, ?_, fun t ht => by rw [gt_wipe, if_pos ht], upd_same, ?_, runj⟩
                · rw [← hwp1]; exact er_wipe (er_updG rr10.er)
                · rw [← hwp1]; exact step_wipe (step_updX (stj.trans st710) nD) np'
                · rw [← hwp1]; exact ((rtj.tr st710.tr).tr tr_wipe).tr t3
                · rw [← hwp1]; exact Reps.tr t3 _ _ (Reps.tr tr_wipe _ _ (Reps.tr st710.tr _ _ rzj))
                · rw [← hwp1]
                  exact Reps.append (Reps.tr t3 _ _ (Reps.tr tr_wipe _ _ (Reps.tr st710.tr _ _ rpj))) (Reps.cons (((rr10.dat hyy1).tr tr_wipe).tr t3) Reps.nil)
            · left
              have hdrop1 : ys.drop j = [] := List.drop_eq_nil_of_le (by omega)
              rw [hdrop1, evLc] at runj
              cases runj
              have ew : wipe (wipe σ2 vs1) ow = wipe σ ow := by rw [wipe_sub hv, hwp]
              refine ⟨⟨zs, rtj.sq, by rw [rzj.length]; omega⟩, m - 1, by omega, wipeE ow ρ2, acc2, vacc', by omega, ?_, ?_, fun t ht => by rw [gt_wipe, if_pos ht], hDj, ?_, run2⟩
              · rw [← ew]; exact er_wipe erj
              · rw [← ew]; exact step_wipe stj np
              · rw [← ew]; exact Reps.tr tr_wipe _ _ rpj
    · left
      have hdrop : ds.drop i = [] := List.drop_eq_nil_of_le (by omega)
      rw [hdrop, evLc2] at run
      cases run
      have t : Tr (AvO (plus G Dn) ρ' (wipe σ ow)) (AvO (plus G Dn) ρ' σ) H2 H2 := fun b n _ => by
        refine ⟨fun z => n ?_, .inl rfl⟩
        rcases z with z | ⟨j, m1, p1, l, g, q⟩
        · exact .inl z
        · exact .inr ⟨j, m1, p1, l, g, (wipe_not fun hj => by rw [hno j hj] at g; cases g).trans q⟩
      refine ⟨wk.stop i _ _ _ _ good (by omega), ?_⟩
      obtain ⟨a, b⟩ := lc_fin (lk := none) (m := .lst res) er rfl st1 nD (er_unwipe eri hno) (step_unwipe sti hno) ⟨vacc, hz, .inl hD, Reps.tr t _ _ rp⟩ (fun o u z => by rw [hD] at z; cases z) er1.gin
      exact q _ H2 a b
end
end Ev
end
/-! G1 -/
section
set_option Elab.async false
set_option linter.all false
set_option autoImplicit false
set_option maxRecDepth 100000
set_option maxHeartbeats 1000000
/-! {**d, k: v, ..} -/
namespace Gd
open PySem PySem.Spec PyProof.Rows
section
variable {prog : Program} {w : World} {K : Type} [DecidableEq K] {knd : KeyKind prog w K} {A : Around} {E : Value → Shared → Prop} {s : Shared}
theorem put_pairs {d : Addr} {kvs : List (K × Value)} {k : K} {key v : Value} {Q : Unit → Shared → Prop} (hkey : knd.is k key = true) (hm : s.heap.DictOf knd d kvs)
    (hQ : ∀ h', h'.DictOf knd d (stored kvs k v) → Heap.SameBut d s.heap h' → Q () { s with heap := h' })
    (hsz : kvs.length ≤ sizeLine := by size_fits) :
    wpAny (model prog w) A (dictPut d (knd.hash k) key v) Q E s := by
  obtain ⟨o, es, ep, ho, hc, hd, hk, hp, hn⟩ := hm
  have hes : es.size ≤ sizeLine := by have e1 := hp.length; have e2 : es.toList.length = es.size := by simp
                                      omega
  unfold dictPut
  refine wpAny_bind (wpAny_dictFind_of hkey ho hd hk ?_)
  have hidx : (es.findIdx? fun e => knd.is k e.key) = kvs.findIdx? fun kv => decide (kv.1 = k) := by
    rw [← hp.findIdx k]; obtain ⟨l⟩ := es; simp
  cases hi : es.findIdx? fun e => knd.is k e.key with
  | some i =>
    refine wpAny_updateDict ho hd (hQ _ ⟨_, _, ep, Heap.get?_update_self _ ho (Obj.isFreed_of_dict (Obj.data_mapDict hd _)),
      hc.mapDict _, Obj.data_mapDict hd _, hk.modify _ _, ?_, ?_⟩ (Heap.SameBut.update ..))
    · rw [stored, if_pos (any_of_findIdx_some (hidx ▸ hi))]
      have hl : (es.toList.findIdx? fun e => knd.is k e.key) = some i := by rw [← hi]; obtain ⟨l⟩ := es; simp
      have := hp.modify hn hl v
      obtain ⟨l⟩ := es
      simpa using this
    · rw [stored, if_pos (any_of_findIdx_some (hidx ▸ hi)), keys_map_store]; exact hn
  | none =>
    have hnot : k ∉ kvs.map (·.1) := not_mem_of_findIdx_none (hidx ▸ hi)
    have hany : ¬ (kvs.any fun kv => decide (kv.1 = k)) = true := by
      rw [List.any_eq_true]; rintro ⟨kv, hkv, he⟩
      exact hnot (List.mem_map.mpr ⟨kv, hkv, of_decide_eq_true he⟩)
    refine wpAny_updateDictKeys (hz := hes) ho hd (hQ _ ⟨_, _, ep + 1, Heap.get?_update_self _ ho (Obj.isFreed_of_dict (Obj.data_mapDictKeys hd _)),
      hc.mapDictKeys _, Obj.data_mapDictKeys hd _, hk.push hkey _, ?_, ?_⟩ (Heap.SameBut.update ..))
    · rw [stored, if_neg hany]
      have := hp.append hkey (knd.hash k) v
      obtain ⟨l⟩ := es
      simpa using this
    · rw [stored, if_neg hany, List.map_append, List.nodup_append]
      refine ⟨hn, by simp, ?_⟩
      intro a ha b hb
      simp only [List.map_cons, List.map_nil, List.mem_singleton] at hb
      subst hb
      exact fun e => hnot (e ▸ ha)
/-- keys are no objects -/
def flatKind (knd : KeyKind prog w K) : Prop := ∀ k a, knd.is k (.ref a) = false
theorem merge_map {d o : Addr} {kvs more : List (K × Value)} {Q : Unit → Shared → Prop} (fl : flatKind knd) (hdo : d ≠ o) (hoS : (o == sysModules) = false)
    (hd : s.heap.DictOf knd d kvs) (ho : s.heap.DictOf knd o more)
    (hQ : ∀ h', h'.DictOf knd d (merged kvs more) → h'.DictOf knd o more → Heap.SameBut d s.heap h' → Q () { s with heap := h' })
    (hsz : kvs.length + more.length ≤ sizeLine) :
    wpAny (model prog w) A (mergeMapping d (.ref o) false) Q E s := by
  obtain ⟨od, esd, epd, hod, hcd, hdd, hkd, hpd, hnd⟩ := id hd
  obtain ⟨oo, eso, epo, hoo, hco, hdo', hko, hpo, hno⟩ := id ho
  have hlen : more.length = eso.size := by rw [← hpo.length]; simp
  unfold mergeMapping
  simp only [Bool.false_eq_true, if_false]
  refine wpAny_bind (wpAny_isInstance ho.typeIs isSubtype_dict_dict ?_)
  simp only [if_true]
  refine wpAny_bind (wpAny_specialOf ho.typeIs F.slot_dict_iter.lookup ?_)
  refine wpAny_bind (wpAny_pure ?_)
  simp only [beq_self_eq_true]
  rw [if_neg (by rw [hoS]; exact Bool.false_ne_true)]
  refine wpAny_bind (wpAny_dictEntries hod hdd ?_)
  split
  · refine wpAny_bind (wpAny_dictEntries hoo hdo' ?_)
    refine wpAny_bind (PySem.MeetsSeq2.wpAny_forIn_array _ (fun rest _ s' => s' = s ∧ ∀ e ∈ rest, e ∈ eso.toList) _ ?_ ?_ _ _ ⟨rfl, fun e m => m⟩)
    · rintro x rest b s' ⟨rfl, hm⟩
      obtain ⟨k', hkey', hhash⟩ := hko x (Array.mem_toList_iff.mp (hm x List.mem_cons_self))
      have nr : ∀ a, x.key ≠ .ref a := fun a z => by rw [z, fl] at hkey'; cases hkey'
      split
      · rename_i a hx
        exact absurd hx (nr a)
      · exact wpAny_pure ⟨rfl, fun e m => hm e (List.mem_cons_of_mem _ m)⟩
    · rintro b s0 ⟨rfl, _⟩
      refine wpAny_bind (wpAny_dictEntries hoo hdo' ?_)
      refine wpAny_bind (wpAny_dictEpoch hoo hdo' ?_)
      refine wpAny_bind ?_
      refine wpAny_forIn_list _
        (fun rest _ s' => ∃ h' i, s' = { s0 with heap := h' } ∧ rest = List.range' i (eso.size - i) ∧ i ≤ eso.size ∧ h'.DictOf knd d (merged kvs (more.take i)) ∧ h'.get? o = some oo ∧ Heap.SameBut d s0.heap h')
        _ ?_ ?_ _ _ ⟨s0.heap, 0, rfl, by simp [List.range_eq_range'], Nat.zero_le _, by simpa [merged] using hd, hoo, Heap.SameBut.refl _ _⟩
      · rintro x rest b s' ⟨h', i, rfl, hr, hi, hd', hoo', hs'⟩
        have hlt : i < eso.size := by
          rcases Nat.lt_or_ge i eso.size with h | h
          · exact h
          · rw [Nat.sub_eq_zero_of_le h] at hr; simp at hr
        obtain ⟨rfl, hrest⟩ : x = i ∧ rest = List.range' (i + 1) (eso.size - (i + 1)) := by
          have e : eso.size - i = (eso.size - (i + 1)) + 1 := by omega
          rw [e, List.range'_succ] at hr
          injection hr with h1 h2
          exact ⟨h1, h2⟩
        refine wpAny_bind (wpAny_dictEntries hoo' hdo' ?_)
        rw [Array.getElem?_eq_getElem hlt]
        obtain ⟨kv, hkv⟩ : ∃ kv, more[x]? = some kv := ⟨more[x]'(by rw [hlen]; exact hlt), List.getElem?_eq_getElem _⟩
        obtain ⟨k, v⟩ := kv
        obtain ⟨hkey, hval⟩ := hpo.get? (e := eso[x]) (by simp [hlt]) hkv
        obtain ⟨k', hkey', hhash⟩ := hko eso[x] (Array.getElem_mem hlt)
        obtain rfl : k' = k := knd.inj _ _ _ hkey' hkey
        have hmx : (merged kvs (more.take x)).length ≤ sizeLine := by
          have e1 := merged_length_le kvs (more.take x)
          have e2 : (more.take x).length ≤ more.length := by rw [List.length_take]; omega
          omega
        dsimp only
        rw [hhash, hval]
        refine wpAny_bind (wpAny_holding (put_pairs (hsz := hmx) hkey hd' fun h'' hd'' hs'' => ?_))
        have hoo'' : h''.get? o = some oo := (hs''.2 o (Ne.symm hdo)).trans hoo'
        refine wpAny_bind (wpAny_dictEpoch hoo'' hdo' ?_)
        rw [if_neg (by simp)]
        exact wpAny_pure ⟨h'', x + 1, rfl, hrest, hlt, by rw [merged_take_succ kvs more x (k', v) hkv]; exact hd'', hoo'', hs'.trans hs''⟩
      · rintro b s' ⟨h', i, rfl, hr, hi, hd', hoo', hs'⟩
        have hin : i = eso.size := by
          rcases Nat.lt_or_ge i eso.size with h | h
          · have e : eso.size - i = (eso.size - (i + 1)) + 1 := by omega
            rw [e, List.range'_succ] at hr; exact nomatch hr
          · exact Nat.le_antisymm hi h
        refine wpAny_pure (hQ h' ?_ ⟨oo, eso, epo, hoo', hco, hdo', hko, hpo, hno⟩ hs')
        rw [hin, ← hlen, List.take_length] at hd'; exact hd'
  · refine wpAny_bind (wpAny_dictEntries hoo hdo' ?_)
    refine wpAny_bind (wpAny_dictEpoch hoo hdo' ?_)
    refine wpAny_bind ?_
    refine wpAny_forIn_list _
      (fun rest _ s' => ∃ h' i, s' = { s with heap := h' } ∧ rest = List.range' i (eso.size - i) ∧ i ≤ eso.size ∧ h'.DictOf knd d (merged kvs (more.take i)) ∧ h'.get? o = some oo ∧ Heap.SameBut d s.heap h')
      _ ?_ ?_ _ _ ⟨s.heap, 0, rfl, by simp [List.range_eq_range'], Nat.zero_le _, by simpa [merged] using hd, hoo, Heap.SameBut.refl _ _⟩
    · rintro x rest b s' ⟨h', i, rfl, hr, hi, hd', hoo', hs'⟩
      have hlt : i < eso.size := by
        rcases Nat.lt_or_ge i eso.size with h | h
        · exact h
        · rw [Nat.sub_eq_zero_of_le h] at hr; simp at hr
      obtain ⟨rfl, hrest⟩ : x = i ∧ rest = List.range' (i + 1) (eso.size - (i + 1)) := by
        have e : eso.size - i = (eso.size - (i + 1)) + 1 := by omega
        rw [e, List.range'_succ] at hr
        injection hr with h1 h2
        exact ⟨h1, h2⟩
      refine wpAny_bind (wpAny_dictEntries hoo' hdo' ?_)
      rw [Array.getElem?_eq_getElem hlt]
      obtain ⟨kv, hkv⟩ : ∃ kv, more[x]? = some kv := ⟨more[x]'(by rw [hlen]; exact hlt), List.getElem?_eq_getElem _⟩
      obtain ⟨k, v⟩ := kv
      obtain ⟨hkey, hval⟩ := hpo.get? (e := eso[x]) (by simp [hlt]) hkv
      obtain ⟨k', hkey', hhash⟩ := hko eso[x] (Array.getElem_mem hlt)
      obtain rfl : k' = k := knd.inj _ _ _ hkey' hkey
      have hmx : (merged kvs (more.take x)).length ≤ sizeLine := by
        have e1 := merged_length_le kvs (more.take x)
        have e2 : (more.take x).length ≤ more.length := by rw [List.length_take]; omega
        omega
      dsimp only
      rw [hhash, hval]
      refine wpAny_bind (wpAny_holding (put_pairs (hsz := hmx) hkey hd' fun h'' hd'' hs'' => ?_))
      have hoo'' : h''.get? o = some oo := (hs''.2 o (Ne.symm hdo)).trans hoo'
      refine wpAny_bind (wpAny_dictEpoch hoo'' hdo' ?_)
      rw [if_neg (by simp)]
      exact wpAny_pure ⟨h'', x + 1, rfl, hrest, hlt, by rw [merged_take_succ kvs more x (k', v) hkv]; exact hd'', hoo'', hs'.trans hs''⟩
    · rintro b s' ⟨h', i, rfl, hr, hi, hd', hoo', hs'⟩
      have hin : i = eso.size := by
        rcases Nat.lt_or_ge i eso.size with h | h
        · have e : eso.size - i = (eso.size - (i + 1)) + 1 := by omega
          rw [e, List.range'_succ] at hr; exact nomatch hr
        · exact Nat.le_antisymm hi h
      refine wpAny_pure (hQ h' ?_ ⟨oo, eso, epo, hoo', hco, hdo', hko, hpo, hno⟩ hs')
      rw [hin, ← hlen, List.take_length] at hd'; exact hd'
end
end Gd
end
/-! G2 -/
section
set_option Elab.async false
set_option linter.all false
set_option autoImplicit false
set_option maxRecDepth 100000
set_option maxHeartbeats 1000000
namespace Gd
open PySem PySem.Spec PyProof.Rows L2
theorem gatherD (d : Addr) (f : (Option (Sem Value) × Sem Value) → (Option Addr × List (Sem Value × Sem Value)) → Sem (ForInStep (Option Addr × List (Sem Value × Sem Value))))
    (hf : ∀ (p : Sem Value × Sem Value) (run : List (Sem Value × Sem Value)), run.length + 1 < 17 → f (some p.1, p.2) (some d, run) = pure (.yield (some d, run ++ [p]))) :
    ∀ (items run : List (Sem Value × Sem Value)), run.length + items.length < 17 → forIn (items.map fun p => (some p.1, p.2)) (some d, run) f = pure (some d, run ++ items)
  | [], run, _ => by simp
  | p :: rest, run, h => by
    rw [List.map_cons, List.forIn_cons, hf p run (by simp at h; omega), pure_bind]
    show forIn (rest.map fun p => (some p.1, p.2)) (some d, run ++ [p]) f = _
    rw [gatherD d f hf rest (run ++ [p]) (by simp at h ⊢; omega)]
    simp
section
variable {prog : Program} {w : World} {A : Around} {E : Value → Shared → Prop} {s : Shared}
theorem wp_star {m0 : Sem Value} {pairs : List (Sem Value × Sem Value)} {Q : Value → Shared → Prop} (h0 : pairs ≠ []) (hlen : pairs.length ≤ 15)
    (h : wpAny (model prog w) A m0 (fun m s1 => wpAny (model prog w) A (mergeMapping s.heap.objs.size m false) (fun _ s2 => wpAny (model prog w) A (subDict pairs) (fun b s3 => wpAny (model prog w) A (mergeMapping s.heap.objs.size (.ref b) false) (fun _ s4 => Q (.ref s.heap.objs.size) s4) (fun _ _ => False) s3) E s2) (fun _ _ => False) s1) E
      { s with heap := s.heap.push { cls := .type "dict", data := .dict #[] } }) :
    wpAny (model prog w) A (dictDisplay ((none, m0) :: pairs.map fun p => (some p.1, p.2))) Q E s := by
  unfold dictDisplay
  dsimp only
  rw [List.forIn_cons]
  refine wpAny_bind (wpAny_bind ?_)
  simp only [List.isEmpty_nil, if_true]
  refine wpAny_bind (wpAny_pure ?_)
  refine wpAny_bind (wpAny_alloc ?_)
  refine wpAny_bind (wpAny_holding (wpAny_mono h (fun m s1 h1 => ?_) (fun _ _ e => e)))
  refine wpAny_bind (wpAny_onRaise (wpAny_tryCatch (wpAny_onRaise (wpAny_holding (wpAny_mono h1 (fun _ s2 h2 => ?_) fun _ _ e => e.elim)))))
  refine wpAny_pure ?_
  dsimp only
  rw [gatherD s.heap.objs.size _ (fun p run hr => by
    have hne : ((run ++ [(p.1, p.2)]).length == 17) = false := by simp; omega
    simp only [hne, Bool.false_eq_true, if_false]) pairs [] (by simp only [List.length_nil]; omega)]
  refine wpAny_pure ?_
  have he : ([] ++ pairs).isEmpty = false := by cases pairs with | nil => exact absurd rfl h0 | cons a b => rfl
  simp only [he, Bool.false_eq_true, if_false, List.nil_append]
  have he2 : ¬ pairs.isEmpty = true := by cases pairs with | nil => exact absurd rfl h0 | cons a b => simp
  rw [if_neg he2]
  refine wpAny_bind (wpAny_bind (wpAny_holding (wpAny_mono h2 (fun b s3 h3 => ?_) fun _ _ e => e)))
  refine wpAny_bind (wpAny_onRaise (wpAny_holding (wpAny_mono h3 (fun _ s4 h4 => ?_) fun _ _ e => e.elim)))
  exact wpAny_pure (wpAny_pure h4)
end
section
variable {X : Cx}
/-- {**e, k: v, ..}: the dict that is made, then one for the rest -/
def tDStar (td : TE) (trs : List (TE × TE)) : TE := fun σ H Q => ∀ p, H p = none → td σ (upd H p (.dK [])) fun x H1 => ∃ o ms, x = .ref o ∧ o ≠ p ∧ H1 p = some (.dK []) ∧ Rd H1 o (.dK ms) ∧
  ∀ q, upd H1 p (.dK (mergeK [] ms)) q = none → tPairs trs σ (upd (upd H1 p (.dK (mergeK [] ms))) q (.dK [])) fun ps H2 => H2 p = some (.dK (mergeK [] ms)) ∧ H2 q = some (.dK []) ∧ ∃ kvs : List (Key × V), ps = kvs.map (fun kv => (kV kv.1, kv.2)) ∧ kvs.length ≤ 15 ∧
    ms.length + kvs.length ≤ sizeLine ∧ Q (.ref p) (upd (upd H2 q (.dK (mergeK [] kvs))) p (.dK (mergeK (mergeK [] ms) (mergeK [] kvs))))
theorem mix_flat {P : Program} {w : World} : flatKind (mixKind P w) := fun k a => by cases k <;> rfl
theorem pe_dstar {e : Expr} {pos : Pos} {keys : List (Option Expr)} {values : List Expr} {td : TE} {trs : List (TE × TE)} (he : PE X e td) (h : PPs X pos keys values trs) (hall : keys.all (·.isSome) = true) (hl : keys.length = values.length) (h0 : keys ≠ []) (h15 : keys.length ≤ 15) :
    PE X (.Dict (none :: keys) (e :: values) pos) (tDStar td trs) := by
  refine ⟨fun pins s σ H Q I q => ?_⟩
  rw [arm_eval_Dict]
  have hn := pairTrees_length keys values X.env pos hall hl
  have hshape : (evalEachOpt (none :: keys) X.env).zip ((evalEach (e :: values) X.env).map fun v => do let x ← v; standAt pos; pure x) = (none, do let x ← eval e X.env; standAt pos; pure x) :: (pairTrees keys values X.env pos).map fun p => (some p.1, p.2) := by
    show (none, do let x ← eval e X.env; standAt pos; pure x) :: (evalEachOpt keys X.env).zip ((evalEach values X.env).map fun v => do let x ← v; standAt pos; pure x) = _
    rw [zip_pairTrees keys values X.env pos hall hl]
  rw [hshape]
  refine wpAny_bind (wpAny_standAt ?_)
  have hnp := I.hok.fresh (Nat.le_refl s.heap.objs.size)
  have I1 := I.laid (a := s.heap.objs.size) (o := .dK []) (h' := s.heap.push { cls := .type "dict", data := .dict #[] }) (t' := s.toks) (fun _ _ q => Heap.get?_push_of_some _ q) (Nat.le_refl _) (dk_empty s.heap I.big)
  refine wp_star (fun z => h0 (List.length_eq_zero_iff.mp (by rw [← hn, z]; rfl))) (by rw [hn]; exact h15) ?_
  refine wpAny_bind (thn (he.run pins _ σ _ _ I1 (q _ hnp)) fun m s1 ⟨x, H1, I2, rx, o, ms, ex, ne, hp, ho, q2⟩ => ?_)
  subst ex
  obtain rfl : m = Value.ref o := rx
  refine wpAny_bind (wpAny_standAt (wpAny_pure ?_))
  obtain ⟨z, hs, vs0, r0, dd⟩ := dk_of I2.hok hp
  obtain ⟨z2, hs2, vs2, rel2, dd2⟩ := dk_rd I2.hok ho
  cases r0
  refine merge_map mix_flat (Ne.symm ne) hs2 dd dd2 (fun h' dd' _ sb => ?_) (by rw [List.length_nil, Nat.zero_add, ← rel2.length]; exact z2)
  have he' : ∃ q, h'.get? s.heap.objs.size = some q := let ⟨q, _, _, hq, _⟩ := dd'; ⟨q, hq⟩
  have hz1 : (mergeK [] ms).length ≤ sizeLine := by
    have h1 := length_mergeK ms []
    rw [List.length_nil] at h1
    omega
  have I3 := d_write (t' := s1.toks) I2 (ob := .dK (mergeK [] ms)) (by rw [hp]; exact True.intro) sb he' (dk_new hz1 hs (rel2.merge .nil) dd')
  have hnq := I3.hok.fresh (Nat.le_refl h'.objs.size)
  have I4 := I3.laid (a := h'.objs.size) (o := .dK []) (h' := h'.push { cls := .type "dict", data := .dict #[] }) (t' := s1.toks) (fun _ _ q => Heap.get?_push_of_some _ q) (Nat.le_refl _) (dk_empty h' I3.big)
  refine wpAny_subDict (knd := mixKind X.prog X.w) (by rw [hn]; exact h15) (thn (h.run pins _ σ _ _ I4 (q2 _ hnq)) fun ws s3 ⟨ps, H2, I5, rel, e1, e2, kvs, ep, lk, lz, q3⟩ => ?_)
  subst ep
  obtain ⟨rs, c, rk⟩ := carries_of (P := X.prog) (w := X.w) rel
  obtain ⟨z5, hs5, vs5, r5, dd5⟩ := dk_of I5.hok e2
  cases r5
  refine ⟨rs, c, dd5, fun h2 dd6 hs6 => ?_⟩
  have he6 : ∃ q, h2.get? h'.objs.size = some q := let ⟨q, _, _, hq, _⟩ := dd6; ⟨q, hq⟩
  have hz6 : (mergeK [] kvs).length ≤ sizeLine := by
    have h1 := length_mergeK kvs []
    rw [List.length_nil] at h1
    rw [sizeLine_eq]; omega
  have I6 := d_write (t' := s3.toks + ws.length) I5 (ob := .dK (mergeK [] kvs)) (by rw [e2]; exact True.intro) hs6 he6 (dk_new hz6 hs5 (rk.merge .nil) dd6)
  have npq : s.heap.objs.size ≠ h'.objs.size := fun z => by
    rw [← z] at hnq
    rw [upd_same] at hnq
    cases hnq
  have e1' : upd H2 h'.objs.size (.dK (mergeK [] kvs)) s.heap.objs.size = some (.dK (mergeK [] ms)) := by rw [upd_ne npq]; exact e1
  obtain ⟨z7, hs7, vs7, r7, dd7⟩ := dk_of I6.hok e1'
  obtain ⟨z8, hs8, vs8, r8, dd8⟩ := dk_of I6.hok (upd_same (a := h'.objs.size) (o := HO.dK (mergeK [] kvs)))
  have hlen : (mergeK [] ms).length + (mergeK [] kvs).length ≤ sizeLine := by
    have h1 := length_mergeK kvs []
    have h2 := length_mergeK ms []
    rw [List.length_nil] at h1 h2
    omega
  refine merge_map mix_flat npq hs8 dd7 dd8 (fun h3 dd9 _ sb9 => ?_) (by rw [← r7.length, ← r8.length]; exact hlen)
  have he9 : ∃ q, h3.get? s.heap.objs.size = some q := let ⟨q, _, _, hq, _⟩ := dd9; ⟨q, hq⟩
  have I7 := d_write (t' := s3.toks + ws.length) I6 (ob := .dK (mergeK (mergeK [] ms) (mergeK [] kvs))) (by rw [e1']; exact True.intro) sb9 he9 (dk_new (Nat.le_trans (length_mergeK _ _) hlen) hs7 (r8.merge r7) dd9)
  exact ⟨.ref s.heap.objs.size, _, I7, rfl, q3⟩
end
end Gd
end
/-! F9 -/
section
set_option Elab.async false
set_option linter.all false
set_option autoImplicit false
set_option maxRecDepth 100000
set_option maxHeartbeats 1000000
namespace Ev
open PySem L2
open SX (S)
section
variable {X : Cx} {cA : Nat → Addr} {C : Cn} {k : Ck} {lev : Nat}
theorem dct_ne {K : PySem.W.Frag} {G : Addr → Prop} {ρ : Env} {σ : St} {H : Hp} {r : RV} {v : V} {p : Addr} {k0 : List (DK × D)} (h : RH K cA (plus G p) σ ρ H r v) (e : ER K cA (plus G p) σ H ρ) (l : look ρ r = some (.dct k0)) :
    ∃ a kv, v = .ref a ∧ a ≠ p ∧ Rd H a (.dK kv) ∧ Repk K cA (AvO (plus G p) ρ σ) H k0 kv := by
  cases r with
  | d d =>
    cases l
    have h : Rep K cA (AvO (plus G p) ρ σ) H (.dct k0) v := h
    rw [Rep] at h
    obtain ⟨a, kv, rfl, n, r, q⟩ := h
    exact ⟨a, kv, rfl, fun z => n (by rw [z]; exact .inl (.inr rfl)), r, q⟩
  | f m => exact h.elim
  | p i =>
    unfold look at l
    dsimp only at l
    split at l
    · rename_i m pn lk g
      cases m <;> cases l
      obtain ⟨a, ha, ng, ⟨kv, r, q⟩, _⟩ := e.own i _ pn lk g
      have h' : σ[i]? = some (some v) := h
      rw [ha] at h'
      cases h'
      exact ⟨a, kv, rfl, fun z => ng (.inr z), r, q⟩
    · cases l
theorem s_dspS {e : Expr} {ie : IE} {keys : List (Option Expr)} {values : List Expr} {es : List IE} {pos : Pos} (he : PE X e (tI X.K cA C ie)) (h : PPs X pos keys values (prs X.K cA C es)) (hall : keys.all (·.isSome) = true) (hl : keys.length = values.length) (hz : values.length ≤ 15) (h0 : keys ≠ []) (hes : es.length = 2 * values.length) :
    PE X (.Dict (none :: keys) (e :: values) pos) (tI X.K cA C (.dspS ie es)) := by
  refine (Gd.pe_dstar he h hall hl h0 (by omega)).imp fun σ H Q ⟨G, ρ, r, ρ', er, e, q⟩ p np => ?_
  rw [ev] at e
  obtain ⟨x, ρ1, e1, e⟩ := Out.bind_inv e
  split at e <;> first | (cases e; done) | skip
  rename_i k0 hk0
  obtain ⟨kvs, ρ2, e2, e⟩ := Out.bind_inv e
  by_cases hsz : k0.length + kvs.length ≤ SZ
  case neg => rw [if_neg hsz] at e; cases e
  rw [if_pos hsz] at e
  cases e
  refine ⟨plus G p, ρ, x, ρ1, er.new np, e1, fun v H1 rr st => ?_⟩
  obtain ⟨a, kv, rfl, nap, rd, rk⟩ := dct_ne rr.hold rr.er hk0
  have nf : ∀ {ρx : Env} {σx : St} {Hx : Hp} {Gx : Addr → Prop}, ER X.K cA (plus Gx p) σx Hx ρx → ¬ Fre ρx σx p := fun erx z => by
    obtain ⟨j, m1, p1, g, qq⟩ := z
    obtain ⟨b, hb, ng, _⟩ := erx.own j m1 p1 false g
    rw [qq] at hb
    cases hb
    exact ng (.inr rfl)
  have hp1 : H1 p = some (.dK []) := st.keep p _ upd_same (nf (er.new np (o := .dK [])))
  refine ⟨a, kv, rfl, nap, hp1, rd, fun q' nq => ?_⟩
  have er1 := er_updG (o := .dK (L2.mergeK [] kv)) rr.er
  have nqp : q' ≠ p := fun z => by rw [z, upd_same] at nq; cases nq
  have nq1 : H1 q' = none := by rw [upd_ne nqp] at nq; exact nq
  refine ps_run (er1.new nq) e2 fun kv2 H2 er2 st2 rp hk => ?_
  have hlv : kv2.length = kvs.length := rp.length
  have nfr : ¬ Fre ρ1 σ p := nf rr.er
  have hp2 : H2 p = some (.dK (L2.mergeK [] kv)) := st2.keep p _ (by rw [upd_ne nqp.symm, upd_same]) nfr
  have hq2 : H2 q' = some (.dK []) := st2.keep q' _ upd_same fun z => by
    obtain ⟨j, m1, p1, g, qq⟩ := z
    obtain ⟨b, hb, ng, _⟩ := (er1.new nq (o := .dK [])).own j m1 p1 false g
    rw [qq] at hb
    cases hb
    exact ng (.inr rfl)
  refine ⟨hp2, hq2, kv2, rfl, by omega, by rw [rk.length, hlv, ← SZ_line]; exact hsz, ?_⟩
  have s1 : Step ρ σ H ρ1 σ H1 := (Step.upd np).trans st
  have nqH : H q' = none := by
    cases z : H q' with
    | none => rfl
    | some o => exact absurd nq1 (s1.dom q' (some_ne z))
  have s2 : Step ρ σ H ρ' σ H2 := ((step_updX s1 np).trans (Step.upd nq)).trans st2
  have s3 : Step ρ σ H ρ' σ (upd (upd H2 q' (.dK (L2.mergeK [] kv2))) p (.dK (L2.mergeK (L2.mergeK [] kv) (L2.mergeK [] kv2)))) := step_updX (step_updX s2 nqH) np
  have erF : ER X.K cA (plus G p) σ (upd (upd H2 q' (.dK (L2.mergeK [] kv2))) p (.dK (L2.mergeK (L2.mergeK [] kv) (L2.mergeK [] kv2)))) ρ' := er_updG (er_updG er2).less
  have tA : Tr (AvO (plus G p) ρ1 σ) (AvO (plus G p) ρ' σ) H1 (upd (upd H2 q' (.dK (L2.mergeK [] kv2))) p (.dK (L2.mergeK (L2.mergeK [] kv) (L2.mergeK [] kv2)))) := fun b n hb => by
    have bp : b ≠ p := fun z => n (by rw [z]; exact .inl (.inr rfl))
    have bq : b ≠ q' := fun z => hb (by rw [z]; exact nq1)
    have hb2 : upd (upd H1 p (.dK (L2.mergeK [] kv))) q' (.dK []) b = H1 b := by rw [upd_ne bq, upd_ne bp]
    refine ⟨fun z => ?_, .inl ?_⟩
    · rcases z with z | z
      · exact n (.inl z)
      · rcases st2.own b z with z | z
        · exact n (.inr z)
        · rw [hb2] at z; exact hb z
    · rw [upd_ne bp, upd_ne bq]
      cases qq : H1 b with
      | none => exact absurd qq hb
      | some o => exact st2.keep b o (by rw [hb2]; exact qq) fun z => n (.inr z.ow)
  have tB : Tr (AvO (plus (plus G p) q') ρ' σ) (AvO (plus G p) ρ' σ) H2 (upd (upd H2 q' (.dK (L2.mergeK [] kv2))) p (.dK (L2.mergeK (L2.mergeK [] kv) (L2.mergeK [] kv2)))) := fun b n hb => by
    have bp : b ≠ p := fun z => n (by rw [z]; exact .inl (.inl (.inr rfl)))
    have bq : b ≠ q' := fun z => n (by rw [z]; exact .inl (.inr rfl))
    exact ⟨fun z => n (z.elim (fun z => .inl (.inl z)) .inr), .inl (by rw [upd_ne bp, upd_ne bq])⟩
  refine q _ _ ⟨p, rfl, erF, ⟨_, .inl upd_same, repk_merge (repk_merge (by rw [Repk]) (Repk.tr tA _ _ rk)) (repk_merge (by rw [Repk]) (Repk.tr tB _ _ rp))⟩, fun o u z => (by rw [upd_same] at z; cases z), fun z => ?_, .inr np⟩ s3
  rcases z with z | ⟨j, m1, p1, l, g, qq⟩
  · exact er.gin p z np
  · obtain ⟨b, hb, ng, _⟩ := erF.own j m1 p1 l g
    rw [qq] at hb
    cases hb
    exact ng (.inr rfl)
end
end Ev
end
/-! G3 -/
section
set_option Elab.async false
set_option linter.all false
set_option autoImplicit false
set_option maxRecDepth 100000
set_option maxHeartbeats 1000000
/-! tuple(d.items()), list(d.values()) -/
namespace Gd
open PySem PySem.Spec PyProof.Rows L2 LiI
section
variable {prog : Program} {w : World} {K : Type} [DecidableEq K] {knd : KeyKind prog w K} {A : Around} {E : Value → Shared → Prop} {s : Shared} {r d : Addr} {kvs : List (K × Value)} {ep : Nat}
theorem collect_items {Q : List Value → Shared → Prop} (hh : A.handled = none) (hv : s.heap.IsItemsView r d) (hm : s.heap.DictAt knd d kvs ep) (hn : kvs.length ≤ sizeLine)
    (hQ : ∀ (h' : Heap) (tk : Nat) (acc : Array Value) (c : Nat) (as : List Addr), (∀ b o, s.heap.get? b = some o → h'.get? b = some o) → h'.get? s.heap.objs.size = some { cls := .type "list", dict := none, data := .seq acc c, slots := #[] } → as.length = kvs.length → PySem.W.KdxG knd kvs s.heap.objs.size h' as → acc.toList = as.map Value.ref → Q acc.toList { s with heap := h', toks := tk }) :
    wpAny (model prog w) A (collect (.ref r)) Q E s := by
  unfold collect
  refine wpAny_bind (wpAny_runValue (codeAny_builtin F.entry_proto_collect ?_))
  rw [Around.under_plainId F.plain_proto_collect _]
  show wpAny _ A.in1 (newList [] >>= fun l => again (.builtin "list.__iadd__" ⟨[l, .ref r], []⟩)) _ _ s
  refine wpAny_bind (wpAny_newObj_type ?_)
  refine wpAny_pure ⟨plainId_quiet F.plain_list_iadd _, codeAny_builtin F.entry_list_iadd ?_⟩
  rw [Around.under_plainId F.plain_list_iadd _]
  show wpAny _ A.in1 (Builtin.List.listExtendWith (.ref s.heap.objs.size) (.ref r) (.ref s.heap.objs.size)) _ _ _
  have hS : (s.heap.push { cls := .type "list", data := .seq ([] : List Value).toArray }).get? s.heap.objs.size = some { cls := .type "list", data := .seq #[] 0 } := Heap.get?_push_size _ rfl
  obtain ⟨vo, hvo, hvc, hvd⟩ := id hv
  have hrS : s.heap.objs.size ≠ r := Nat.ne_of_gt (Heap.lt_size hvo)
  have hdS : d ≠ s.heap.objs.size := Nat.ne_of_lt hm.lt_size
  have lt1 : ∀ {b : Addr} {o : Obj}, s.heap.get? b = some o → b ≠ s.heap.objs.size := fun q => Nat.ne_of_lt (Heap.lt_size q)
  refine wpAny_mono (PySem.W.kdx_extend (A := A) (knd := knd) (kvs := kvs) (ep := ep) (R := fun rr s' => rr = .ok (.ret (.ref s.heap.objs.size)) ∧ ∃ (h' : Heap) (tk : Nat) (acc : Array Value) (c' : Nat) (as : List Addr), s' = { s with heap := h', toks := tk } ∧
      (∀ b o, s.heap.get? b = some o → h'.get? b = some o) ∧ h'.get? s.heap.objs.size = some { cls := .type "list", dict := none, data := .seq acc c', slots := #[] } ∧ as.length = kvs.length ∧ PySem.W.KdxG knd kvs s.heap.objs.size h' as ∧ acc.toList = as.map Value.ref)
    (s := { s with heap := s.heap.push { cls := .type "list", data := .seq ([] : List Value).toArray } }) hh ⟨vo, Heap.get?_push_of_some _ hvo, hvc, hvd⟩ (hm.push _) s.heap.objs.size hrS hdS _ 0 hS
    (fun h' tk acc c' as hk e hl hG hacc => ⟨rfl, h', tk, acc, c', as, rfl, fun b o q => hk b o (lt1 q) (Heap.get?_push_of_some _ q), e, hl, hG.low (by show s.heap.objs.size ≤ (s.heap.push _).objs.size; rw [Heap.size_push]; exact Nat.le_succ _), hacc⟩) hn) (fun fin s' h => ?_) (fun e s' h => ?_)
  · cases fin with
    | done f =>
      obtain ⟨e, h', tk, acc, c', as, rfl, hk, hS', hl, hG, hacc⟩ := h
      cases e
      show wpAny _ A (load s.heap.objs.size >>= _) _ _ _
      exact wpAny_bind (wpAny_load hS' (wpAny_pure (hQ h' tk acc c' as hk hS' hl hG hacc)))
    | again c' =>
      refine ⟨h.1, codeAny_mono h.2 fun rr s'' hr' => ?_⟩
      obtain ⟨rfl, h', tk, acc, c', as, rfl, hk, hS', hl, hG, hacc⟩ := hr'
      show wpAny _ A (load s.heap.objs.size >>= _) _ _ _
      exact wpAny_bind (wpAny_load hS' (wpAny_pure (hQ h' tk acc c' as hk hS' hl hG hacc)))
  · exact absurd h.1 (by simp)
theorem code_tuple_new_items {Q₁ : Value → Shared → Prop} (hh : A.handled = none) (hv : s.heap.IsItemsView r d) (hm : s.heap.DictAt knd d kvs ep) (hn : kvs.length ≤ sizeLine)
    (h : ∀ (h' : Heap) (tk : Nat) (acc : Array Value) (c : Nat) (as : List Addr), (∀ b o, s.heap.get? b = some o → h'.get? b = some o) → h'.get? s.heap.objs.size = some { cls := .type "list", dict := none, data := .seq acc c, slots := #[] } → as.length = kvs.length → PySem.W.KdxG knd kvs s.heap.objs.size h' as → acc.toList = as.map Value.ref →
      Q₁ (.ref h'.objs.size) { s with heap := h'.push { cls := .type "tuple", data := .seq acc }, toks := tk }) :
    codeAny (model prog w) A (.call (.builtin "tuple.__new__") ⟨[.type "tuple", .ref r], []⟩) (wants Q₁ E) s := by
  refine codeAny_of_tree ?_
  show wpAny _ A.in1 (do checkBuiltinCall "tuple.__new__" ⟨[.type "tuple", .ref r], []⟩; again (.builtin "tuple.__new__" ⟨[.type "tuple", .ref r], []⟩)) _ _ s
  refine wpAny_bind (wpAny_of_eq (F.newCall_tuple_1 _) (wpAny_pure ⟨plainId_quiet F.plain_tuple_new _, codeAny_builtin F.entry_tuple_new ?_⟩))
  rw [Around.under_plainId F.plain_tuple_new _]
  have hsub := sub_tuple_self
  have hinit := init_tuple_lookup
  have hmh := madeHere_tuple
  have hTI : s.TypeIs (.ref r) "dict_items" := hv.typeIs
  have hh1 : A.in1.handled = none := hh
  wp_walk using wpAny_typeOf hTI, collect_items (A := A.in1) hh1 hv hm hn
  intro h' tk acc c as hk hS hl hG hacc
  show wpAny _ _ (Builtin.Tuple.tupleExact acc.toList.toArray >>= fun v => ret v) _ _ _
  unfold Builtin.Tuple.tupleExact
  refine wpAny_bind (wpAny_newObj_type ?_ (by show acc.toList.toArray.size ≤ sizeLine; rw [hacc, List.size_toArray, List.length_map, hl]; exact hn))
  refine wpAny_pure ?_
  have e : acc.toList.toArray = acc := by simp
  rw [e]
  exact h h' tk acc c as hk hS hl hG hacc
theorem call_tuple_items {Q : Value → Shared → Prop} (hh : A.handled = none) (hv : s.heap.IsItemsView r d) (hm : s.heap.DictAt knd d kvs ep) (hn : kvs.length ≤ sizeLine)
    (hQ : ∀ (h' : Heap) (tk : Nat) (acc : Array Value) (c : Nat) (as : List Addr), (∀ b o, s.heap.get? b = some o → h'.get? b = some o) → h'.get? s.heap.objs.size = some { cls := .type "list", dict := none, data := .seq acc c, slots := #[] } → as.length = kvs.length → PySem.W.KdxG knd kvs s.heap.objs.size h' as → acc.toList = as.map Value.ref →
      Q (.ref h'.objs.size) { s with heap := h'.push { cls := .type "tuple", data := .seq acc }, toks := tk }) :
    wpAny (model prog w) A (call (.type "tuple") [.ref r]) Q E s := by
  refine callType_codes (Q₁ := fun obj s₁ => s₁.TypeIs obj "tuple" ∧ Q obj s₁) F.called_tuple (F.typeCall_tuple_1 _) F.entry_object_init
    (code_tuple_new_items (A := A.in1) hh hv hm hn fun h' tk acc c as hk hS hl hG hacc => ⟨⟨_, Heap.get?_push_size _ rfl, rfl⟩, hQ h' tk acc c as hk hS hl hG hacc⟩) fun obj s₁ h₁ => ?_
  exact ⟨h₁.1, F.args_object_init_2 obj _, object_init_meets F.called_tuple.init.lookup F.called_tuple.made (by decide) prog w A.in1 _ s₁ ⟨h₁.1, rfl, h₁.2⟩⟩
end
end Gd
end
/-! G4 -/
section
set_option Elab.async false
set_option linter.all false
set_option autoImplicit false
set_option maxRecDepth 100000
set_option maxHeartbeats 1000000
namespace Gd
open PySem PySem.Spec PyProof.Rows L2 LiI
def rItemsT : V → Hp → VK → Prop := fun x H Q => ∃ (d : Addr) (kvs : List (Key × V)), x = .ref d ∧ Rd H d (.dK kvs) ∧
  ∀ (H' : Hp) (p : Addr) (ts : List Addr), (∀ b o, H b = some o → H' b = some o) → H p = none → (∀ t ∈ ts, H t = none) → p ∉ ts → H' p = some (.tup (ts.map V.ref)) → Paired (fun (t : Addr) (q : Key × V) => H' t = some (.tup [kV q.1, q.2])) ts kvs → Q (.ref p) H'
section
variable {X : Cx} {e : Expr} {te : TE} {p apos cpos pos : Pos}
theorem pe_tupItems (hc : X.calm = true) (he : PE X e te) (hg : Gl X "tuple") (hm : X.mg "tuple" = none) (hbase : attributeBase e "items" X.env (eval e X.env) = eval e X.env) (hline : (apos.endLine == cpos.line) = true) :
    PE X (.Call (.Name "tuple" p) [.Call (.Attribute e "items" apos) [] [] cpos] [] pos) (fun σ H Q => te σ H fun x H1 => rItemsT x H1 Q) := by
  refine ⟨fun pins s σ H Q I hq => ?_⟩
  have hs : starEach [.Call (.Attribute e "items" apos) [] [] cpos] X.env = (false, eval (.Call (.Attribute e "items" apos) [] [] cpos) X.env) :: starEach [] X.env := rfl
  refine wpAny_Call_Name_kw (ld_blt I hg hm boot_tuple ?_)
  refine PyProof.Rows.callWith_type1 ?_ hs rfl
  rw [hs]
  show wpAny _ _ (spliced ((false, eval (.Call (.Attribute e "items" apos) [] [] cpos) X.env) :: backTo pos (starEach [] X.env))) _ _ s
  refine Calls.spliced_cons ?_
  refine wpAny_Call_method (T := "dict") (id := "dict.items") hbase rfl hline F.plainAttrs_dict F.slot_dict_items F.type_dict_items (thn (he.run pins s σ H _ I hq) fun u s1 ⟨x, H1, I1, rx, d, kvs, ex, hd, q⟩ => ?_)
  subst ex
  obtain rfl : u = Value.ref d := rx
  obtain ⟨hz, hs0, vs, kv, hdo⟩ := dk_rd I1.hok hd
  obtain ⟨ep, hat⟩ := hdo.dictAt
  have lk : kvs.length = vs.length := Paired.length kv
  have I2 : Inv X pins σ H1 { s1 with heap := s1.heap.push { cls := .type "dict_items", data := .fields #[.ref d] } } := I1.kept (t' := s1.toks) fun b ob q => Heap.get?_push_of_some _ q
  refine ⟨hdo.typeIs, hdo.mapOf.noDict, ?_⟩
  show wpAny _ _ (callWith cpos (.builtin "dict.items") [.ref d] [] []) _ X.xe s1
  refine method_meetsIn F.slot_dict_items F.entry_dict_items rfl (PySem.evalArgs_none ⟨rfl, hdo.typeIs, F.args_dict_items_1 _, _, meets_dict_items (mixKind X.prog X.w) d hs0, ⟨vs, hdo⟩, ?_⟩)
  refine Calls.spliced_nil ?_
  refine call_tuple_items (knd := mixKind X.prog X.w) (kvs := vs) (ep := ep) (I1.ok.hd hc) ⟨_, Heap.get?_push_size _ rfl, rfl, rfl⟩ (hat.push _) (by omega) fun h' tk acc c as hk hS hl hG hacc => ?_
  obtain ⟨H', k1, k2, k3, k4, k5, k6, J⟩ := items_laid (tk := tk) I2 hz kv hk hS hl hG hacc
  have hnT := J.hok.fresh (Nat.le_refl h'.objs.size)
  have lz : (as.map V.ref).length ≤ sizeLine := by rw [List.length_map, hl]; omega
  have J2 := J.laid (a := h'.objs.size) (o := .tup (as.map V.ref)) (h' := h'.push { cls := .type "tuple", data := .seq acc }) (t' := tk) (fun b o e => Heap.get?_push_of_some _ e) (Nat.le_refl _) (show ObjOk X.prog X.w _ _ _ (.tup (as.map V.ref)) from ⟨lz, acc.toList, by rw [hacc]; exact LiI.vals_refs as, by rw [Array.toArray_toList]; exact IsTup.new _ _⟩)
  have nT : ∀ {b : Addr} {o : HO}, H' b = some o → b ≠ h'.objs.size := fun {b o} z w => by rw [w, hnT] at z; cases z
  refine ⟨.ref h'.objs.size, _, J2, rfl, q _ _ as (fun b o z => by rw [upd_ne (nT (k1 b o z))]; exact k1 b o z) ?_ k3 (fun z => ?_) upd_same ?_⟩
  · cases qq : H1 h'.objs.size with
    | none => rfl
    | some o => exact absurd rfl (nT (k1 _ _ qq))
  · obtain ⟨j, y, _, _, g⟩ := paired_ix k6 z
    exact nT g rfl
  · exact Paired.mono (fun t y g => by rw [upd_ne (nT g)]; exact g) k6
/-- list(e.values()) -/
theorem pe_listVals (hc : X.calm = true) (he : PE X e te) (hg : Gl X "list") (hm : X.mg "list" = none) (hbase : attributeBase e "values" X.env (eval e X.env) = eval e X.env) (hline : (apos.endLine == cpos.line) = true) :
    PE X (.Call (.Name "list" p) [.Call (.Attribute e "values" apos) [] [] cpos] [] pos) (fun σ H Q => te σ H fun x H1 => ∃ (d : Addr) (kvs : List (Key × V)), x = .ref d ∧ Rd H1 d (.dK kvs) ∧ ∀ p, H1 p = none → Q (.ref p) (upd H1 p (.lst (kvs.map fun kv => kv.2)))) := by
  refine ⟨fun pins s σ H Q I hq => ?_⟩
  have hs : starEach [.Call (.Attribute e "values" apos) [] [] cpos] X.env = (false, eval (.Call (.Attribute e "values" apos) [] [] cpos) X.env) :: starEach [] X.env := rfl
  refine wpAny_Call_Name_kw (ld_blt I hg hm (by decide +kernel : bootBuiltins "list" = some (.type "list")) ?_)
  refine PyProof.Rows.callWith_type1 ?_ hs rfl
  rw [hs]
  show wpAny _ _ (spliced ((false, eval (.Call (.Attribute e "values" apos) [] [] cpos) X.env) :: backTo pos (starEach [] X.env))) _ _ s
  refine Calls.spliced_cons ?_
  refine wpAny_Call_method (T := "dict") (id := "dict.values") hbase rfl hline F.plainAttrs_dict F.slot_dict_values F.type_dict_values (thn (he.run pins s σ H _ I hq) fun u s1 ⟨x, H1, I1, rx, d, kvs, ex, hd, q⟩ => ?_)
  subst ex
  obtain rfl : u = Value.ref d := rx
  obtain ⟨hz, hs0, vs, kv, hdo⟩ := dk_rd I1.hok hd
  obtain ⟨ep, hat⟩ := hdo.dictAt
  have lk : kvs.length = vs.length := Paired.length kv
  have I2 : Inv X pins σ H1 { s1 with heap := s1.heap.push { cls := .type "dict_values", data := .fields #[.ref d] } } := I1.kept (t' := s1.toks) fun b ob q => Heap.get?_push_of_some _ q
  refine ⟨hdo.typeIs, hdo.mapOf.noDict, ?_⟩
  show wpAny _ _ (callWith cpos (.builtin "dict.values") [.ref d] [] []) _ X.xe s1
  refine method_meetsIn F.slot_dict_values F.entry_dict_values rfl (PySem.evalArgs_none ⟨rfl, hdo.typeIs, F.args_dict_values_1 _, _, meets_dict_values (mixKind X.prog X.w) d hs0, ⟨vs, hdo⟩, ?_⟩)
  refine Calls.spliced_nil ?_
  refine PySem.W.kdl_call (PySem.W.kdl_values (knd := mixKind X.prog X.w) (kvs := vs) (ep := ep)) (I1.ok.hd hc) ⟨⟨_, Heap.get?_push_size _ rfl, rfl, rfl⟩, hat.push _⟩ (by omega) fun h' tk acc' c' hkeep hS hacc => ?_
  refine ⟨.ref _, upd H1 _ (.lst (kvs.map fun kv => kv.2)), I2.laid (t' := tk) hkeep (Nat.le_refl _) (show ObjOk X.prog X.w _ _ _ (.lst (kvs.map fun kv => kv.2)) from ⟨by rw [List.length_map]; exact hz, acc'.toList, c', ?_, ?_⟩), rfl, q _ (I2.hok.fresh (Nat.le_refl _))⟩
  · have el : acc'.toList.length = acc'.size := by simp
    refine vals_of_at (by rw [List.length_map, el, hacc.1, lk]) fun j x w h1 h2 => ?_
    obtain ⟨k, hky⟩ := hacc.2 j w (by rw [← Array.getElem?_toList]; exact h2)
    rw [List.getElem?_map] at h1
    cases h3 : kvs[j]? with
    | none => rw [h3] at h1; cases h1
    | some y =>
      rw [h3] at h1
      cases h1
      obtain ⟨y', e1, e2⟩ := LiI.paired_get kv h3
      rw [hky] at e1
      cases e1
      exact e2.2
  · rw [Array.toArray_toList]; exact hS
end
end Gd
end
/-! F10 -/
section
set_option Elab.async false
set_option linter.all false
set_option autoImplicit false
set_option maxRecDepth 100000
set_option maxHeartbeats 1000000
namespace Ev
open PySem L2
open SX (S)
section
variable {X : Cx} {cA : Nat → Addr} {C : Cn} {k : Ck} {lev : Nat}
theorem tupI_inv {ds : List D} {r : RV} (h : fxE .tupI ds = some r) : ∃ kvs, ds = [.dct kvs] ∧ kvs.length ≤ SZ ∧ kvs.all (fun kv => kOk kv.1) = true ∧ r = .d (.tup (pairsD kvs)) := by
  unfold fxE at h
  split at h <;> first | contradiction | skip
  split at h
  · rename_i hc
    cases h
    exact ⟨_, rfl, hc.1, hc.2, rfl⟩
  · cases h
theorem lstV_inv {ds : List D} {r : RV} (h : fxE .lstV ds = some r) : ∃ kvs, ds = [.dct kvs] ∧ kvs.length ≤ SZ ∧ r = .f (.lst (kvs.map fun kv => kv.2)) := by
  unfold fxE at h
  split at h <;> first | contradiction | skip
  split at h
  · rename_i hc
    cases h
    exact ⟨_, rfl, hc, rfl⟩
  · cases h
theorem repk_vals {K : PySem.W.Frag} {Av : Addr → Prop} {H : Hp} : ∀ {kvs : List (DK × D)} {kv : List (Key × V)}, Repk K cA Av H kvs kv → Reps K cA Av H (kvs.map fun z => z.2) (kv.map fun z => z.2)
  | [], _, h => by rw [Repk] at h; subst h; exact .nil
  | (k, d) :: r, _, h => by
    rw [Repk] at h
    obtain ⟨v, q, rfl, h1, h2⟩ := h
    exact .cons h1 (repk_vals h2)
theorem pairs_laid {K : PySem.W.Frag} {Av : Addr → Prop} {H : Hp} : ∀ {kvs : List (DK × D)} {kv : List (Key × V)} {ts : List Addr}, Repk K cA Av H kvs kv → kvs.all (fun kv => kOk kv.1) = true → Paired (fun (t : Addr) (q : Key × V) => H t = some (.tup [kV q.1, q.2])) ts kv → (∀ t ∈ ts, ¬ Av t) → Reps K cA Av H (pairsD kvs) (ts.map V.ref)
  | [], _, _, h, _, p, _ => by
    rw [Repk] at h; subst h
    cases p
    exact .nil
  | (k, d) :: r, _, _, h, ok, p, n => by
    rw [Repk] at h
    obtain ⟨v, q, rfl, h1, h2⟩ := h
    rw [List.all_cons, Bool.and_eq_true] at ok
    cases p with
    | @cons t _ ts _ g gs =>
      refine .cons ?_ (pairs_laid h2 ok.2 gs fun t m => n t (List.mem_cons_of_mem _ m))
      rw [Rep]
      exact ⟨t, _, rfl, by show 2 ≤ SZ; decide, .inl ⟨n t List.mem_cons_self, .inl g⟩, .cons (rep_key ok.1) (.cons h1 .nil)⟩
theorem s_tupI (fa : Fa k C cA X lev) {a : Expr} {ia : IE} {p apos cpos pos : Pos} (hg : okGlob k "tuple" = true) (ha : PE X a (tI X.K cA C ia)) (hb : plainBase a = true) (hline : (apos.endLine == cpos.line) = true) :
    PE X (.Call (.Name "tuple" p) [.Call (.Attribute a "items" apos) [] [] cpos] [] pos) (tI X.K cA C (.fx .tupI [ia])) := by
  obtain ⟨g1, g2⟩ := okGlob_of fa hg
  refine (Gd.pe_tupItems fa.calm ha g1 (fa.bn _ (by decide +kernel)) (base_of hb) hline).imp fun σ H Q h => ?_
  refine tI_mono (r_one (fx_red h)) fun v H1 ⟨G, ρ, σ0, ds, r, er, rl, e, q⟩ => ?_
  obtain ⟨kvs, rfl, hl, ok, rfl⟩ := tupI_inv e
  obtain ⟨v', hv, h4⟩ := rl.one
  cases hv
  obtain ⟨d, kv, rfl, rd, rk⟩ := h4.dct
  refine ⟨d, kv, rfl, rd, fun H' T ts keep nT nts nin hT hp => ?_⟩
  have er' := er_step er keep
  have tr : Tr (AvO G ρ σ0) (AvO G ρ σ0) H1 H' := fun b n h => ⟨n, .inl (by
    cases qq : H1 b with
    | none => exact absurd qq h
    | some o => exact keep b o qq)⟩
  refine q _ H' ⟨er', ?_⟩ ⟨fun b o h _ => keep b o h, fun _ h => .inl h, fun _ h => .inl h, fun _ h => ⟨h, rfl⟩, fun b h => ?_, fun _ _ _ h => ⟨_, _, h, rfl⟩⟩
  · rw [Rep]
    exact ⟨T, _, rfl, by unfold pairsD; rw [List.length_map]; exact hl, .inl ⟨er.nav nT, .inl hT⟩, pairs_laid (Repk.tr tr _ _ rk) ok hp fun t m => er.nav (nts t m)⟩
  · cases qq : H1 b with
    | none => exact absurd qq h
    | some o => exact some_ne (keep b o qq)
theorem s_lstV (fa : Fa k C cA X lev) {a : Expr} {ia : IE} {p apos cpos pos : Pos} (hg : okGlob k "list" = true) (ha : PE X a (tI X.K cA C ia)) (hb : plainBase a = true) (hline : (apos.endLine == cpos.line) = true) :
    PE X (.Call (.Name "list" p) [.Call (.Attribute a "values" apos) [] [] cpos] [] pos) (tI X.K cA C (.fx .lstV [ia])) := by
  obtain ⟨g1, g2⟩ := okGlob_of fa hg
  refine (Gd.pe_listVals fa.calm ha g1 (fa.bn _ (by decide +kernel)) (base_of hb) hline).imp fun σ H Q h => ?_
  refine tI_mono (r_one (fx_red h)) fun v H1 ⟨G, ρ, σ0, ds, r, er, rl, e, q⟩ => ?_
  obtain ⟨kvs, rfl, hl, rfl⟩ := lstV_inv e
  obtain ⟨v', hv, h4⟩ := rl.one
  cases hv
  obtain ⟨d, kv, rfl, rd, rk⟩ := h4.dct
  exact ⟨d, kv, rfl, rd, fun p' np => q.lst er np (repk_vals rk) (by rw [List.length_map]; exact hl)⟩
end
end Ev
end
/-! E9 -/
section
set_option Elab.async false
set_option linter.all false
set_option maxRecDepth 100000
set_option maxHeartbeats 4000000
namespace Ev
open PySem L2
open SX (S)
section
variable {cA : Nat → Addr} {C : Cn} {lev : Nat}
theorem lit_str {l : Cs} (h : l.all (fun c => decide (c < 0x110000)) = true) (hl : l.length ≤ 1000) : okC l := ⟨h, Nat.le_trans hl (by decide)⟩
theorem pw_of {X : Cx} {e : Expr} {t : TT} (h : PW X e t) : PT X e t := h.pt
mutual
theorem snd_M : ∀ (ir : IE) {X : Cx} {k : Ck} (fa : Fa k C cA X lev) (e : Expr), S3 X cA C ir e (chkM k ir e)
  | .var i, X, k, fa, e => by
    unfold chkM
    split
    · exact s3_mk fun h => s_var (okName_of fa h)
    · exact s3_no
  | .peek i, X, k, fa, e => by
    unfold chkM
    split
    · exact s3_mk fun h => s_peek (okName_of fa h)
    · exact s3_no
  | .take i, X, k, fa, e => by
    unfold chkM
    split
    · exact s3_mk fun h => s_take (okName_of fa h)
    · exact s3_no
  | .frz i, X, k, fa, e => by
    unfold chkM
    split
    · exact s3_mk fun h => s_frz (okName_of fa h)
    · exact s3_no
  | .lit d, X, k, fa, e => by
    unfold chkM
    split
    · exact s3_mk fun _ => s_con pe_non fun Av H => by rw [Rep]
    · refine s3_mk fun h => ?_
      cases eq_of_beq h
      exact s_con pe_bl fun Av H => by rw [Rep]
    · refine s3_mk fun h => ?_
      cases of_decide_eq_true h
      exact s_con pe_int fun Av H => by rw [Rep]
    · refine s3_mk fun h => ?_
      simp only [Bool.and_eq_true, decide_eq_true_eq] at h
      obtain ⟨⟨rfl, h2⟩, h3⟩ := h
      exact s_con pe_str fun Av H => by rw [Rep]; exact ⟨rfl, lit_str h2 h3⟩
    · exact s3_no
  | .glob g, X, k, fa, e => by
    unfold chkM
    split
    · refine s3_mk fun h => ?_
      simp only [Bool.and_eq_true, decide_eq_true_eq] at h
      exact s_glob fa h.1 h.2
    · exact s3_no
  | .tup es, X, k, fa, e => by
    unfold chkM
    split
    · refine s3_mk fun h => ?_
      simp only [Bool.and_eq_true, decide_eq_true_eq] at h
      exact s_tup (snd_Es es fa _ h.1.1 h.2) h.1.2
    · exact s3_no
  | .lst es, X, k, fa, e => by
    unfold chkM
    split
    · refine s3_mk fun h => ?_
      simp only [Bool.and_eq_true, decide_eq_true_eq] at h
      exact s_lst (snd_Es es fa _ h.1.1 h.2) h.1.2
    · exact s3_no
  | .bin op a b, X, k, fa, e => by
    unfold chkM
    split
    · refine s3_mk fun h => ?_
      simp only [Bool.and_eq_true, decide_eq_true_eq] at h
      obtain ⟨⟨rfl, h2⟩, h3⟩ := h
      exact s_bin ((snd_M a fa _).v h2) ((snd_M b fa _).v h3)
    · exact s3_no
  | .neg a, X, k, fa, e => by
    unfold chkM
    split
    · exact s3_mk fun h => s_neg ((snd_M a fa _).v h)
    · exact s3_no
  | .not a, X, k, fa, e => by
    unfold chkM
    split
    · exact ⟨fun h => s_not ((snd_M a fa _).v h), fun h => ⟨s_notT ((snd_M a fa _).t h).1, fun z => by cases z⟩, fun h => by cases h⟩
    · exact s3_no
  | .cmp op a b, X, k, fa, e => by
    unfold chkM
    split
    · dsimp only
      refine ⟨fun h => ?_, fun h => ?_, fun h => by cases h⟩
      · simp only [Bool.and_eq_true, decide_eq_true_eq] at h
        obtain ⟨⟨⟨rfl, h1⟩, h2⟩, h3⟩ := h
        exact s_cmp (units_of fa) ((snd_M a fa _).v h2) ((snd_M b fa _).v h3) (behind_of h1)
      · simp only [Bool.and_eq_true, decide_eq_true_eq] at h
        obtain ⟨⟨⟨rfl, h1⟩, h2⟩, h3⟩ := h
        exact ⟨s_cmpT (units_of fa) ((snd_M a fa _).v h2) ((snd_M b fa _).v h3) (behind_of h1), fun z => by cases z⟩
    · exact s3_no
  | .and a b, X, k, fa, e => by
    unfold chkM
    split
    · rename_i pos
      split
      · refine ⟨fun h => ?_, fun h => ?_, fun h => by cases h⟩
        · simp only [Bool.and_eq_true] at h
          exact s_and ((snd_M a fa _).v h.1) (pe_one ((snd_M b fa _).v h.2))
        · simp only [Bool.and_eq_true] at h
          have := s_andT (pos := pos) ((snd_M a fa _).t h.1).1 (s_and1 ((snd_M b fa _).t h.2).1)
          exact ⟨this.pt, fun _ => this⟩
      · refine ⟨fun h => ?_, fun h => ?_, fun h => by cases h⟩
        · simp only [Bool.and_eq_true] at h
          exact s_and ((snd_M a fa _).v h.1) ((snd_M b fa _).v h.2)
        · simp only [Bool.and_eq_true] at h
          have := s_andT (pos := pos) ((snd_M a fa _).t h.1).1 (((snd_M b fa _).t h.2).2 rfl)
          exact ⟨this.pt, fun _ => this⟩
    · exact s3_no
  | .or a b, X, k, fa, e => by
    unfold chkM
    split
    · rename_i pos
      split
      · refine ⟨fun h => ?_, fun h => ?_, fun h => by cases h⟩
        · simp only [Bool.and_eq_true] at h
          exact s_or ((snd_M a fa _).v h.1) (pe_one ((snd_M b fa _).v h.2))
        · simp only [Bool.and_eq_true] at h
          have := s_orT (pos := pos) ((snd_M a fa _).t h.1).1 (s_or1 ((snd_M b fa _).t h.2).1)
          exact ⟨this.pt, fun _ => this⟩
      · refine ⟨fun h => ?_, fun h => ?_, fun h => by cases h⟩
        · simp only [Bool.and_eq_true] at h
          exact s_or ((snd_M a fa _).v h.1) ((snd_M b fa _).v h.2)
        · simp only [Bool.and_eq_true] at h
          have := s_orT (pos := pos) ((snd_M a fa _).t h.1).1 (((snd_M b fa _).t h.2).2 rfl)
          exact ⟨this.pt, fun _ => this⟩
    · exact s3_no
  | .tru a, X, k, fa, e => by
    unfold chkM
    refine ⟨fun h => (by cases h), fun h => ?_, fun h => (by cases h)⟩
    simp only [Bool.and_eq_true] at h
    exact ⟨s_truT ((snd_M a fa _).v h.2) (plainT_of h.1), fun b => by cases e <;> first | (cases b; done) | (cases h.1)⟩
  | .ite c a b, X, k, fa, e => by
    unfold chkM
    split
    · rename_i t x y pos
      have key : ((chkM k c t).t && (chkM k a x).v && (chkM k b y).v) = true → PE X (.IfExp t x y pos) (tI X.K cA C (.ite c a b)) := fun h => by
        simp only [Bool.and_eq_true] at h
        exact s_ite ((snd_M c fa _).t h.1.1).1 ((snd_M a fa _).v h.1.2) ((snd_M b fa _).v h.2)
      exact ⟨key, fun h => (by cases h), fun h tg _ => i_seq (key h)⟩
    · exact s3_no
  | .idx a b, X, k, fa, e => by
    unfold chkM
    split
    · refine s3_mk fun h => ?_
      simp only [Bool.and_eq_true] at h
      exact s_idx (units_of fa) ((snd_M a fa _).v h.1.2) ((snd_M b fa _).v h.2) (plainIx_of h.1.1)
    · exact s3_no
  | .slc a lo hi, X, k, fa, e => by
    unfold chkM
    split
    · refine s3_mk fun h => ?_
      simp only [Bool.and_eq_true] at h
      exact s_slc ((snd_M a fa _).v h.1.1) (snd_O lo fa _ h.1.2) (snd_O hi fa _ h.2)
    · exact s3_no
  | .bi f es, X, k, fa, e => by
    unfold chkM
    split
    · refine s3_mk fun h => ?_
      simp only [Bool.and_eq_true, decide_eq_true_eq] at h
      obtain ⟨⟨⟨rfl, h1⟩, h2⟩, h3⟩ := h
      exact s_bi fa h1 h2 (snd_Es es fa _ h2 h3)
    · exact s3_no
  | .call f rf es, X, k, fa, e => by
    unfold chkM
    split
    · refine s3_mk fun h => ?_
      simp only [Bool.and_eq_true, decide_eq_true_eq] at h
      obtain ⟨⟨⟨h0, h1⟩, h2⟩, h3⟩ := h
      exact s_call fa h0 h1 h2 (snd_Es es fa _ h2 h3)
    · exact s3_no
  | .pop i, X, k, fa, e => by
    unfold chkM
    split
    · refine s3_mk fun h => ?_
      simp only [Bool.and_eq_true, decide_eq_true_eq] at h
      obtain ⟨⟨rfl, h1⟩, h2⟩ := h
      exact s_pop (okName_of fa h1) (base_of rfl) h2
    · exact s3_no
  | .popAt i a, X, k, fa, e => by
    unfold chkM
    split
    · refine s3_mk fun h => ?_
      simp only [Bool.and_eq_true, decide_eq_true_eq] at h
      obtain ⟨⟨⟨⟨rfl, h1⟩, h2⟩, h3⟩, h4⟩ := h
      exact s_popAt (okName_of fa h1) ((snd_M a fa _).v h4) h3 h2
    · exact s3_no
  | .lc own tg it lk cs ie, X, k, fa, e => by
    unfold chkM
    split
    · rename_i elt t iter ifs scope pos
      dsimp only
      refine s3_mk fun h => ?_
      simp only [Bool.and_eq_true, Bool.or_eq_true, decide_eq_true_eq] at h
      obtain ⟨⟨⟨⟨⟨⟨⟨h12, h3⟩, h4⟩, h5⟩, h6⟩, h7⟩, h8⟩, h9⟩ := h
      have ok : BlkOk X.N X.env.scope scope (own.filterMap fun i => (k.N[i]?).map fun x => (x, i)) := by
        rw [← fa.N, ← fa.sc]; exact blkOk_by h5
      have hs := folded_of (env := X.env) h3
      have hG : ∀ (s : Shared) (H : Hp) (Ca : Addr) (cl : List (Str × Addr)) (fp : List Addr), PG (X.blk s H scope (compEnvC scope cl Ca X.env) fp) t (tGt X.K cA tg) := fun s H Ca cl fp => chkG_of (blk_fa fa) tg t h6
      have hC : ∀ (s : Shared) (H : Hp) (Ca : Addr) (cl : List (Str × Addr)) (fp : List Addr), PTs (X.blk s H scope (compEnvC scope cl Ca X.env) fp) ifs (tCs X.K cA C cs) := fun s H Ca cl fp => snd_Cs cs (blk_fa fa) ifs h8
      have hE : ∀ (s : Shared) (H : Hp) (Ca : Addr) (cl : List (Str × Addr)) (fp : List Addr), PE (X.blk s H scope (compEnvC scope cl Ca X.env) fp) elt (tI X.K cA C ie) := fun s H Ca cl fp => (snd_M ie (blk_fa fa) elt).v h9
      rcases h12 with ⟨h1, h2⟩ | hd
      · have hi := (snd_M it fa iter).i h1 t fun z => by rw [z] at h2; simpa using h2
        have red := s_lc (lk := lk) (pos := pos) fa.calm fa.nd hi ok hG hC hE hs (by rw [h4]; exact h7)
        rw [h4] at red
        refine (pe_lc (pos := pos) fa.calm fa.nd hi ok hG hC hE hs).imp ?_
        rw [h4]
        exact red
      · obtain ⟨wi, i, iv, J, dsOf, cond, hi, hm, hie, hwi, hwk, hev⟩ := (dwalk_of fa hd).ex
        have red := lcD (wi := wi) (lk := lk) (pos := pos) hm fa.calm fa.nd ok hG hC hE hs (by rw [h4]; exact h7) hie hwi hwk hev
        rw [h4] at red
        have pe := pe_lc (pos := pos) fa.calm fa.nd hi ok hG hC hE hs
        rw [h4] at pe
        exact ((pe_lock pe).or pe).imp red
    · exact s3_no
  | .dc own tg it lk cs ik ie, X, k, fa, e => by
    unfold chkM
    split
    · rename_i kx elt t iter ifs scope pos
      dsimp only
      refine s3_mk fun h => ?_
      simp only [Bool.and_eq_true, Bool.or_eq_true, decide_eq_true_eq] at h
      obtain ⟨⟨⟨⟨⟨⟨⟨⟨h12, h3⟩, h4⟩, h5⟩, h6⟩, h7⟩, h8⟩, h10⟩, h9⟩ := h
      have ok : BlkOk X.N X.env.scope scope (own.filterMap fun i => (k.N[i]?).map fun x => (x, i)) := by
        rw [← fa.N, ← fa.sc]; exact blkOk_by h5
      have hs := folded_of (env := X.env) h3
      have hG : ∀ (s : Shared) (H : Hp) (Ca : Addr) (cl : List (Str × Addr)) (fp : List Addr), PG (X.blk s H scope (compEnvC scope cl Ca X.env) fp) t (tGt X.K cA tg) := fun s H Ca cl fp => chkG_of (blk_fa fa) tg t h6
      have hC : ∀ (s : Shared) (H : Hp) (Ca : Addr) (cl : List (Str × Addr)) (fp : List Addr), PTs (X.blk s H scope (compEnvC scope cl Ca X.env) fp) ifs (tCs X.K cA C cs) := fun s H Ca cl fp => snd_Cs cs (blk_fa fa) ifs h8
      have hE : ∀ (s : Shared) (H : Hp) (Ca : Addr) (cl : List (Str × Addr)) (fp : List Addr), PE (X.blk s H scope (compEnvC scope cl Ca X.env) fp) elt (tI X.K cA C ie) := fun s H Ca cl fp => (snd_M ie (blk_fa fa) elt).v h9
      have hK : ∀ (s : Shared) (H : Hp) (Ca : Addr) (cl : List (Str × Addr)) (fp : List Addr), PE (X.blk s H scope (compEnvC scope cl Ca X.env) fp) kx (tI X.K cA C ik) := fun s H Ca cl fp => (snd_M ik (blk_fa fa) kx).v h10
      rcases h12 with ⟨h1, h2⟩ | hd
      · have hi := (snd_M it fa iter).i h1 t fun z => by rw [z] at h2; simpa using h2
        have red := s_dc (lk := lk) (pos := pos) fa.calm fa.nd hi ok hG hC hK hE hs (by rw [h4]; exact h7)
        rw [h4] at red
        refine (pe_dc (pos := pos) fa.calm fa.nd hi ok hG hC hK hE hs).imp ?_
        rw [h4]
        exact red
      · obtain ⟨wi, i, iv, J, dsOf, cond, hi, hm, hie, hwi, hwk, hev⟩ := (dwalk_of fa hd).ex
        have red := dcD (wi := wi) (lk := lk) (pos := pos) hm fa.calm fa.nd ok hG hC hK hE hs (by rw [h4]; exact h7) hie hwi hwk hev
        rw [h4] at red
        have pe := pe_dc (pos := pos) fa.calm fa.nd hi ok hG hC hK hE hs
        rw [h4] at pe
        exact ((pe_lock pe).or pe).imp red
    · exact s3_no
  | .dsp es, X, k, fa, e => by
    unfold chkM
    split
    · refine s3_mk fun h => ?_
      simp only [Bool.and_eq_true, decide_eq_true_eq] at h
      obtain ⟨h1, h2⟩ := h
      obtain ⟨a, b, c, d⟩ := snd_Ps es fa _ _ h2
      exact s_dsp (a _) b c h1 d
    · exact s3_no
  | .mt m o es, X, k, fa, e => by
    unfold chkM
    split
    · split
      · rename_i x a apos y cpos i
        refine s3_mk fun h => ?_
        simp only [Bool.and_eq_true, decide_eq_true_eq] at h
        obtain ⟨⟨⟨⟨⟨rfl, h1⟩, h2⟩, h3⟩, h4⟩, h5⟩ := h
        exact s_join ((snd_M o fa _).v h4) ((snd_M i fa _).v h5) h1 h2 h3
      · rename_i x a apos y cpos i
        refine s3_mk fun h => ?_
        simp only [Bool.and_eq_true, decide_eq_true_eq] at h
        obtain ⟨⟨⟨⟨⟨rfl, h1⟩, h2⟩, h3⟩, h4⟩, h5⟩ := h
        exact s_get1 (Nat.lt_of_le_of_lt (by omega) (units_of fa)) ((snd_M o fa _).v h4) ((snd_M i fa _).v h5) ⟨base_of h1, few (by unfold nst; simp [h3]) (by decide : (1 : Nat) < 20), h2, by rw [star1 h3]; rfl⟩
      · exact s3_no
    · split
      · rename_i x a apos y z cpos i j
        refine s3_mk fun h => ?_
        simp only [Bool.and_eq_true, decide_eq_true_eq] at h
        obtain ⟨⟨⟨⟨⟨⟨⟨rfl, h1⟩, h2⟩, h3⟩, h6⟩, h4⟩, h5⟩, h7⟩ := h
        exact s_get2 (Nat.lt_of_le_of_lt (by omega) (units_of fa)) ((snd_M o fa _).v h4) ((snd_M i fa _).v h5) ((snd_M j fa _).v h7) ⟨base_of h1, few (by unfold nst; simp [h3, h6]) (by decide : (2 : Nat) < 20), h2, by rw [star1 h3, star1 h6]; rfl⟩
      · exact s3_no
    · exact s3_no
  | .rng1 a, X, k, fa, e => by
    unfold chkM
    split
    · refine ⟨fun h => (by cases h), fun h => (by cases h), fun h tg _ => ?_⟩
      simp only [Bool.and_eq_true, decide_eq_true_eq] at h
      obtain ⟨⟨⟨rfl, h1⟩, h2⟩, h3⟩ := h
      exact i_rng1 (okGlob_of fa h1).1 (fa.bn _ (by decide +kernel)) ((snd_M a fa _).v h3) h2
    · exact s3_no
  | .rng2 a b, X, k, fa, e => by
    unfold chkM
    split
    · refine ⟨fun h => (by cases h), fun h => (by cases h), fun h tg _ => ?_⟩
      simp only [Bool.and_eq_true, decide_eq_true_eq] at h
      obtain ⟨⟨⟨⟨⟨rfl, h1⟩, h2⟩, h3⟩, h4⟩, h5⟩ := h
      exact i_rng2 (okGlob_of fa h1).1 (fa.bn _ (by decide +kernel)) ((snd_M a fa _).v h4) ((snd_M b fa _).v h5) h2 h3
    · exact s3_no
  | .itmF a, X, k, fa, e => by
    unfold chkM
    split
    · refine ⟨fun h => (by cases h), fun h => (by cases h), fun h tg ht => ?_⟩
      simp only [Bool.and_eq_true, decide_eq_true_eq] at h
      obtain ⟨⟨⟨rfl, h1⟩, h2⟩, h3⟩ := h
      have := ht rfl
      cases tg <;> first | (cases this; done) | skip
      exact i_itmF ((snd_M a fa _).v h3) h1 h2
    · exact s3_no
  | .enm a, X, k, fa, e => by
    unfold chkM
    split
    · refine ⟨fun h => (by cases h), fun h => (by cases h), fun h tg ht => ?_⟩
      simp only [Bool.and_eq_true, decide_eq_true_eq] at h
      obtain ⟨⟨⟨rfl, h1⟩, h2⟩, h3⟩ := h
      have := ht rfl
      cases tg <;> first | (cases this; done) | skip
      exact i_enm (okGlob_of fa h1).1 (fa.bn _ (by decide +kernel)) ((snd_M a fa _).v h3) h2
    · exact s3_no
  | .star _, X, k, fa, e => by unfold chkM; exact s3_no
  | .fx f es, X, k, fa, e => by
    unfold chkM
    split
    · split
      · rename_i i x a apos cpos
        refine s3_mk fun h => ?_
        simp only [Bool.and_eq_true, decide_eq_true_eq] at h
        obtain ⟨⟨⟨rfl, h1⟩, h2⟩, h3⟩ := h
        exact s_m0 ((snd_M i fa _).v h3) h1 h2
      · exact s3_no
    · split
      · rename_i i j l x a apos y z cpos
        refine s3_mk fun h => ?_
        simp only [Bool.and_eq_true, decide_eq_true_eq] at h
        obtain ⟨⟨⟨⟨⟨⟨⟨rfl, h1⟩, h2⟩, h3⟩, h4⟩, h5⟩, h6⟩, h7⟩ := h
        exact s_sw3 ((snd_M i fa _).v h5) (s_cons ((snd_M j fa _).v h6) (s_cons ((snd_M l fa _).v h7) s_nil (star1 h4)) (star1 h3)) h1 h2 (by unfold nst; simp [h3, h4])
      · exact s3_no
    · split
      · rename_i i j x a apos y cpos
        refine s3_mk fun h => ?_
        simp only [Bool.and_eq_true, decide_eq_true_eq] at h
        obtain ⟨⟨⟨⟨⟨rfl, h1⟩, h2⟩, h3⟩, h5⟩, h6⟩ := h
        exact s_par ((snd_M i fa _).v h5) ((snd_M j fa _).v h6) h1 h2 h3
      · exact s3_no
    · split
      · rename_i i t n p x T cpos
        refine s3_mk fun h => ?_
        simp only [Bool.and_eq_true, decide_eq_true_eq] at h
        obtain ⟨⟨⟨⟨⟨rfl, h1⟩, h2⟩, h3⟩, h5⟩, h6⟩ := h
        exact s_isi fa h1 ((snd_M i fa _).v h6) h5 (by unfold nst; simp [h2, h3])
      · exact s3_no
    · split
      · rename_i i n p x Ts tn tp cpos
        refine s3_mk fun h => ?_
        simp only [Bool.and_eq_true, decide_eq_true_eq] at h
        obtain ⟨⟨⟨⟨⟨⟨rfl, h1⟩, h2⟩, h3⟩, h5⟩, h6⟩, h7⟩ := h
        exact s_isiT fa h1 ((snd_M i fa _).v h7) h5 h2 h3 h6
      · exact s3_no
    · split
      · rename_i i n p x a apos cpos pos
        refine s3_mk fun h => ?_
        simp only [Bool.and_eq_true, decide_eq_true_eq] at h
        obtain ⟨⟨⟨⟨⟨rfl, h1⟩, rfl⟩, h3⟩, h5⟩, h6⟩ := h
        exact s_tupI fa h1 ((snd_M i fa _).v h6) h3 h5
      · exact s3_no
    · split
      · rename_i i n p x a apos cpos pos
        refine s3_mk fun h => ?_
        simp only [Bool.and_eq_true, decide_eq_true_eq] at h
        obtain ⟨⟨⟨⟨⟨rfl, h1⟩, rfl⟩, h3⟩, h5⟩, h6⟩ := h
        exact s_lstV fa h1 ((snd_M i fa _).v h6) h3 h5
      · exact s3_no
    · split
      · rename_i i n p m p2 x q pos
        refine s3_mk fun h => ?_
        simp only [Bool.and_eq_true, decide_eq_true_eq] at h
        obtain ⟨⟨⟨⟨⟨rfl, h1⟩, rfl⟩, h3⟩, h5⟩, h6⟩ := h
        exact s_lset fa h1 h3 ((snd_M i fa _).v h6) h5
      · exact s3_no
  | .fstr es, X, k, fa, e => by
    unfold chkM
    split
    · refine s3_mk fun h => ?_
      obtain ⟨bs, h1, h2, h3⟩ := snd_Fs es fa _ h
      exact s_fstr h1 h2 h3
    · exact s3_no
  | .att i a, X, k, fa, e => by
    unfold chkM
    split
    · refine s3_mk fun h => ?_
      simp only [Bool.and_eq_true, decide_eq_true_eq] at h
      obtain ⟨⟨rfl, h1⟩, h2⟩ := h
      exact s_att fa ((snd_M i fa _).v h2) h1
    · exact s3_no
  | .prop c f i, X, k, fa, e => by
    unfold chkM
    split
    · split
      · rename_i c' m hp
        refine s3_mk fun h => ?_
        simp only [Bool.and_eq_true, decide_eq_true_eq] at h
        obtain ⟨⟨⟨rfl, rfl⟩, h1⟩, h2⟩ := h
        exact s_prop fa hp ((snd_M i fa _).v h2) h1
      · exact s3_no
    · exact s3_no
  | .meth c f m i is, X, k, fa, e => by
    unfold chkM
    split
    · rename_i x a apos as cpos
      refine s3_mk fun h => ?_
      simp only [Bool.and_eq_true, decide_eq_true_eq] at h
      obtain ⟨⟨⟨⟨⟨⟨⟨h0, rfl⟩, h1⟩, h2⟩, h3⟩, h4⟩, h5⟩, h6⟩ := h
      have hx := (snd_M i fa x).v h5
      have ha := snd_Es is fa as h3 h6
      cases as with
      | nil =>
        cases is with
        | nil => exact s_meth0 fa h0 hx h1 h2
        | cons _ _ => simp [chkEs] at h6
      | cons a as => exact s_meth fa h0 hx ha h1 h3 h4 h2
    · exact s3_no
  | .mk c f is, X, k, fa, e => by
    unfold chkM
    split
    · refine s3_mk fun h => ?_
      simp only [Bool.and_eq_true, decide_eq_true_eq] at h
      obtain ⟨⟨⟨h0, h1⟩, h2⟩, h3⟩ := h
      exact s_mk fa h0 h1 (snd_Es is fa _ h2 h3) h2
    · exact s3_no
  | .inKD g neg i, X, k, fa, e => by
    unfold chkM
    split
    · dsimp only
      refine ⟨fun h => ?_, fun h => ?_, fun h => (by cases h)⟩
      · simp only [Bool.and_eq_true, Bool.not_eq_true', decide_eq_true_eq] at h
        obtain ⟨⟨⟨h0, h1⟩, h2⟩, h3⟩ := h
        exact s_inKD fa h1 h2 ((snd_M i fa _).v h3) h0
      · simp only [Bool.and_eq_true, Bool.not_eq_true', decide_eq_true_eq] at h
        obtain ⟨⟨⟨h0, h1⟩, h2⟩, h3⟩ := h
        exact ⟨s_inKDT fa h1 h2 ((snd_M i fa _).v h3) h0, fun z => (by cases z)⟩
    · exact s3_no
  | .ixKD g i, X, k, fa, e => by
    unfold chkM
    split
    · refine s3_mk fun h => ?_
      simp only [Bool.and_eq_true, decide_eq_true_eq] at h
      obtain ⟨⟨⟨h0, h1⟩, h2⟩, h3⟩ := h
      exact s_ixKD fa h0 h1 ((snd_M i fa _).v h3) h2
    · exact s3_no
  | .tupS is, X, k, fa, e => by
    unfold chkM
    split
    · exact s3_mk fun h => s_tupS (snd_Sp is fa _ h)
    · exact s3_no
  | .lstS is, X, k, fa, e => by
    unfold chkM
    split
    · exact s3_mk fun h => s_lstS (snd_Sp is fa _ h)
    · exact s3_no
  | .lc2 own tg it cs own1 tg1 it1 cs1 ie, X, k, fa, e => by
    unfold chkM
    split
    · rename_i elt t iter ifs t1 iter1 ifs1 scope pos
      dsimp only
      refine s3_mk fun h => ?_
      simp only [Bool.and_eq_true, decide_eq_true_eq] at h
      obtain ⟨⟨⟨⟨⟨⟨⟨⟨⟨⟨⟨⟨⟨⟨h1, h2⟩, h3⟩, h4⟩, h5⟩, h6⟩, h7⟩, h8⟩, h9⟩, h10⟩, h11⟩, h12⟩, h13⟩, h14⟩, h15⟩ := h
      have ok : BlkOk X.N X.env.scope scope (own.filterMap fun i => (k.N[i]?).map fun x => (x, i)) := by
        rw [← fa.N, ← fa.sc]; exact blkOk_by h6
      have hi := (snd_M it fa iter).i h1 t fun z => by rw [z] at h2; simpa using h2
      have hv : ∀ i ∈ own1, i ∈ (own.filterMap fun i => (k.N[i]?).map fun x => (x, i)).map (·.2) := fun i m => by
        rw [h5]
        have := List.all_eq_true.mp h10 i m
        simpa using this
      have hG : ∀ (s : Shared) (H : Hp) (Ca : Addr) (cl : List (Str × Addr)) (fp : List Addr), PG (X.blk s H scope (compEnvC scope cl Ca X.env) fp) t (tGt X.K cA tg) := fun s H Ca cl fp => chkG_of (blk_fa fa) tg t h7
      have hG1 : ∀ (s : Shared) (H : Hp) (Ca : Addr) (cl : List (Str × Addr)) (fp : List Addr), PG (X.blk s H scope (compEnvC scope cl Ca X.env) fp) t1 (tGt X.K cA tg1) := fun s H Ca cl fp => chkG_of (blk_fa fa) tg1 t1 h8
      have hC : ∀ (s : Shared) (H : Hp) (Ca : Addr) (cl : List (Str × Addr)) (fp : List Addr), PTs (X.blk s H scope (compEnvC scope cl Ca X.env) fp) ifs (tCs X.K cA C cs) := fun s H Ca cl fp => snd_Cs cs (blk_fa fa) ifs h12
      have hC1 : ∀ (s : Shared) (H : Hp) (Ca : Addr) (cl : List (Str × Addr)) (fp : List Addr), PTs (X.blk s H scope (compEnvC scope cl Ca X.env) fp) ifs1 (tCs X.K cA C cs1) := fun s H Ca cl fp => snd_Cs cs1 (blk_fa fa) ifs1 h13
      have hI1 : ∀ (s : Shared) (H : Hp) (Ca : Addr) (cl : List (Str × Addr)) (fp : List Addr), PI (X.blk s H scope (compEnvC scope cl Ca X.env) fp) t1 iter1 (iTup X.K (tI X.K cA C it1)) := fun s H Ca cl fp => pi_tup ((snd_M it1 (blk_fa fa) iter1).v h14)
      have hE : ∀ (s : Shared) (H : Hp) (Ca : Addr) (cl : List (Str × Addr)) (fp : List Addr), PE (X.blk s H scope (compEnvC scope cl Ca X.env) fp) elt (tI X.K cA C ie) := fun s H Ca cl fp => (snd_M ie (blk_fa fa) elt).v h15
      refine (pe_lc2 (pos := pos) fa.calm fa.nd hi ok hv hG hC hI1 hG1 hC1 hE (folded_of h3) (fun env => folded_of h4)).imp fun σ H Q q => ?_
      refine s_lc2 hv (by rw [h5]; exact h9) h11 σ H Q ?_
      rw [h5]
      exact q
    · exact s3_no
  | .scs own tg it lk cs ie, X, k, fa, e => by
    unfold chkM
    split
    · rename_i n p elt t iter ifs scope cpos pos
      dsimp only
      refine s3_mk fun h => ?_
      simp only [Bool.and_eq_true, decide_eq_true_eq] at h
      obtain ⟨⟨⟨⟨⟨⟨⟨⟨⟨⟨rfl, h0⟩, h1⟩, h2⟩, h3⟩, h4⟩, h5⟩, h6⟩, h7⟩, h8⟩, h9⟩ := h
      have ok : BlkOk X.N X.env.scope scope (own.filterMap fun i => (k.N[i]?).map fun x => (x, i)) := by
        rw [← fa.N, ← fa.sc]; exact blkOk_by h5
      have hi := (snd_M it fa iter).i h1 t fun z => by rw [z] at h2; simpa using h2
      have := s_scs (lk := lk) (p := p) (cpos := cpos) (pos := pos) fa h0 hi ok (fun s H Ca cl fp => chkG_of (blk_fa fa) tg t h6) (fun s H Ca cl fp => snd_Cs cs (blk_fa fa) ifs h8) (fun s H Ca cl fp => (snd_M ie (blk_fa fa) elt).v h9) (folded_of h3) (by rw [h4]; exact h7)
      rw [h4] at this
      exact this
    · exact s3_no
  | .dspS i es, X, k, fa, e => by
    unfold chkM
    split
    · rename_i keys v values pos
      refine s3_mk fun h => ?_
      simp only [Bool.and_eq_true, decide_eq_true_eq, Bool.not_eq_true'] at h
      obtain ⟨⟨⟨h1, h2⟩, h3⟩, h4⟩ := h
      obtain ⟨a, b, c, d⟩ := snd_Ps es fa _ _ h4
      exact s_dspS ((snd_M i fa v).v h1) (a _) b c h2 (fun z => by rw [z] at h3; cases h3) d
    · exact s3_no
  | .zip _ _, X, k, fa, e => by unfold chkM; exact s3_no
  | .itmD _, X, k, fa, e => by unfold chkM; exact s3_no
  | .itms _, X, k, fa, e => by unfold chkM; exact s3_no
  | .vals _, X, k, fa, e => by unfold chkM; exact s3_no
  | .keys _, X, k, fa, e => by unfold chkM; exact s3_no
theorem snd_Es : ∀ (es : List IE) {X : Cx} {k : Ck} (fa : Fa k C cA X lev) (as : List Expr), nst as = true → chkEs k es as = true → PA X as (tR X.K cA C es)
  | [], X, k, fa, [], _, _ => s_nil
  | i :: es, X, k, fa, a :: as, n, h => by
    rw [chkEs, Bool.and_eq_true] at h
    obtain ⟨n1, n2⟩ := nst_cons n
    exact s_cons ((snd_M i fa a).v h.1) (snd_Es es fa as n2 h.2) (star1 n1)
  | [], X, k, fa, _ :: _, _, h => by simp [chkEs] at h
  | _ :: _, X, k, fa, [], _, h => by simp [chkEs] at h
theorem snd_Fs : ∀ (es : List IE) {X : Cx} {k : Ck} (fa : Fa k C cA X lev) (xs : List Expr), chkFs k es xs = true → ∃ bs : List Bool, es.length = bs.length ∧ (∀ p ∈ es.zip bs, p.2 = true → ∃ l, p.1 = .lit (.str l)) ∧ PJ X xs ((es.zip bs).map fun p => tPart X.K cA C p.2 p.1)
  | [], X, k, fa, [], _ => ⟨[], rfl, fun p m => (by cases m), .nil⟩
  | i :: es, X, k, fa, x :: xs, h => by
    by_cases hx : ∃ y c p, x = .FormattedValue y c none p
    · obtain ⟨y, c, p0, rfl⟩ := hx
      rw [chkFs, Bool.and_eq_true, Bool.and_eq_true, decide_eq_true_eq] at h
      obtain ⟨⟨rfl, h0⟩, h⟩ := h
      obtain ⟨bs, h1, h2, h3⟩ := snd_Fs es fa xs h
      refine ⟨false :: bs, by rw [List.length_cons, List.length_cons, h1], fun p m e => ?_, ?_⟩
      · rw [List.zip_cons_cons] at m
        rcases List.mem_cons.mp m with rfl | m
        · cases e
        · exact h2 p m e
      · rw [List.zip_cons_cons, List.map_cons]
        exact .cons (pe_fmt ((snd_M i fa y).v h0)) h3
    · have h' : (isLitS x && isLitI i && (chkM k i x).v && chkFs k es xs) = true := by
        rw [chkFs] at h
        · exact h
        · exact fun y c p e1 => hx ⟨y, c, p, e1⟩
      simp only [Bool.and_eq_true] at h'
      obtain ⟨⟨⟨h4, h5⟩, h6⟩, h⟩ := h'
      obtain ⟨bs, h1, h2, h3⟩ := snd_Fs es fa xs h
      refine ⟨true :: bs, by rw [List.length_cons, List.length_cons, h1], fun p m e => ?_, ?_⟩
      · rw [List.zip_cons_cons] at m
        rcases List.mem_cons.mp m with rfl | m
        · unfold isLitI at h5
          split at h5
          · exact ⟨_, rfl⟩
          · cases h5
        · exact h2 p m e
      · rw [List.zip_cons_cons, List.map_cons]
        exact .cons ((snd_M i fa _).v h6) h3
  | [], X, k, fa, _ :: _, h => by simp [chkFs] at h
  | _ :: _, X, k, fa, [], h => by simp [chkFs] at h
theorem snd_Sp : ∀ (es : List IE) {X : Cx} {k : Ck} (fa : Fa k C cA X lev) (xs : List Expr), chkSp k es xs = true → PA X xs (tSp X.K cA C es)
  | [], X, k, fa, [], _ => sp_nil
  | i :: es, X, k, fa, x :: xs, h => by
    by_cases hs : ∃ j y p, i = .star j ∧ x = .Starred y p
    · obtain ⟨j, y, p, rfl, rfl⟩ := hs
      rw [chkSp, Bool.and_eq_true] at h
      exact sp_star ((snd_M j fa y).v h.1) (snd_Sp es fa xs h.2)
    · have h' : (nonStar x && (chkM k i x).v && chkSp k es xs) = true := by
        rw [chkSp] at h
        · exact h
        · exact fun j y p e1 e2 => hs ⟨j, y, p, e1, e2⟩
      simp only [Bool.and_eq_true] at h'
      obtain ⟨⟨h1, h2⟩, h3⟩ := h'
      refine sp_cons (fun z e => ?_) ((snd_M i fa x).v h2) (snd_Sp es fa xs h3) h1
      subst e
      unfold chkM at h2
      cases h2
  | [], X, k, fa, _ :: _, h => by simp [chkSp] at h
  | _ :: _, X, k, fa, [], h => by simp [chkSp] at h
theorem snd_Ps : ∀ (es : List IE) {X : Cx} {k : Ck} (fa : Fa k C cA X lev) (ks : List (Option Expr)) (vs : List Expr), chkPs k es ks vs = true → (∀ pos, PPs X pos ks vs (prs X.K cA C es)) ∧ ks.all (·.isSome) = true ∧ ks.length = vs.length ∧ es.length = 2 * vs.length
  | [], X, k, fa, [], [], _ => ⟨fun _ => pps_nil, rfl, rfl, rfl⟩
  | i :: j :: es, X, k, fa, some a :: ks, b :: vs, h => by
    rw [chkPs] at h
    simp only [Bool.and_eq_true] at h
    obtain ⟨⟨h1, h2⟩, h3⟩ := h
    obtain ⟨a1, a2, a3, a4⟩ := snd_Ps es fa ks vs h3
    exact ⟨fun pos => pps_cons ((snd_M i fa a).v h1) ((snd_M j fa b).v h2) (a1 pos), by rw [List.all_cons, a2]; rfl, by rw [List.length_cons, List.length_cons, a3], by rw [List.length_cons, List.length_cons, List.length_cons, a4]; omega⟩
  | [], X, k, fa, _ :: _, _, h => by simp [chkPs] at h
  | [], X, k, fa, [], _ :: _, h => by simp [chkPs] at h
  | [_], X, k, fa, _, _, h => by simp [chkPs] at h
  | _ :: _ :: _, X, k, fa, [], _, h => by simp [chkPs] at h
  | _ :: _ :: _, X, k, fa, none :: _, _, h => by simp [chkPs] at h
  | _ :: _ :: _, X, k, fa, some _ :: _, [], h => by simp [chkPs] at h
theorem snd_O : ∀ (o : Option IE) {X : Cx} {k : Ck} (fa : Fa k C cA X lev) (a : Option Expr), chkO k o a = true → PO X a (tO X.K cA C o)
  | none, X, k, fa, none, _ => s_ono
  | some i, X, k, fa, some a, h => by
    rw [chkO] at h
    exact s_osome ((snd_M i fa a).v h)
  | none, X, k, fa, some _, h => by simp [chkO] at h
  | some _, X, k, fa, none, h => by simp [chkO] at h
theorem snd_Cs : ∀ (cs : List IE) {X : Cx} {k : Ck} (fa : Fa k C cA X lev) (ifs : List Expr), chkCs k cs ifs = true → PTs X ifs (tCs X.K cA C cs)
  | [], X, k, fa, [], _ => c_nil
  | [i], X, k, fa, [c], h => by
    rw [chkCs] at h
    exact c_one ((snd_M i fa c).t h).1
  | [], X, k, fa, _ :: _, h => by simp [chkCs] at h
  | [_], X, k, fa, [], h => by simp [chkCs] at h
  | [_], X, k, fa, _ :: _ :: _, h => by simp [chkCs] at h
  | _ :: _ :: _, X, k, fa, _, h => by simp [chkCs] at h
end
end
end Ev
end
/-! Ep -/
section
set_option Elab.async false
set_option linter.all false
set_option maxRecDepth 100000
set_option maxHeartbeats 4000000
namespace Ev
open PySem L2
open SX (S)
/-! ### names that are stored side by side -/
section
variable {K : PySem.W.Frag} {cA : Nat → Addr} {G : Addr → Prop} {ρ ρ1 ρ2 ρ3 : Env} {σ σ1 σ2 : St} {H H1 H2 : Hp}
/-- a result that waits while others come -/
theorem held {r : RV} {v : V} (ok : rvOk r = true) (rr : RR K cA G ρ σ H ρ1 H1 r v) (st : Step ρ σ H ρ1 σ H1) : ∃ G1, ER K cA G1 σ H1 ρ1 ∧
    ∀ (i : Nat) (o : Bool) (ρ2 : Env) (σ2 : St) (H2 : Hp) (ρ3 : Env), ER K cA G1 σ2 H2 ρ2 → Step ρ1 σ H1 ρ2 σ2 H2 → (if o then putO ρ2 i r else putE ρ2 i r) = some ρ3 →
      ER K cA G (σ2.set i (some v)) H2 ρ3 ∧ Step ρ σ H ρ3 (σ2.set i (some v)) H2 := by
  cases r with
  | p i => cases ok
  | d d =>
    refine ⟨G, rr.1, fun i o ρ2 σ2 H2 ρ3 er2 st2 e => ?_⟩
    cases o with
    | true => exact absurd e (by intro z; cases z)
    | false =>
      have e : putE ρ2 i (.d d) = some ρ3 := e
      simp only [putE] at e
      split at e <;> cases e
      rename_i hp
      obtain ⟨a, b⟩ := er_put er2 (by simpa using hp) (rr.2.tr st2.tr)
      exact ⟨a, (st.trans st2).trans b⟩
  | f m =>
    obtain ⟨p, rfl, er, rm, nf, na, nw⟩ := rr
    refine ⟨plus G p, er, fun i o ρ2 σ2 H2 ρ3 er2 st2 e => ?_⟩
    have hp1 : H1 p ≠ none := er.gin p (.inr rfl)
    have keep : H2 p = H1 p := by
      cases q : H1 p with
      | none => exact absurd q hp1
      | some o => exact st2.keep p o q fun z => na (.inr z.ow)
    have rm2 : RepM K cA (AvO (plus G p) ρ2 σ2) H2 m p := rm.tr st2.tr (.inl keep)
    have nf2 : ∀ o u, H2 p ≠ some (.frz o u) := fun o u => by rw [keep]; exact nf o u
    have ng : ¬ G p := fun z => na (.inl z)
    have na2 : ¬ AvO G ρ2 σ2 p := fun z => by
      rcases z with z | ⟨j, m1, p1, l, g, q⟩
      · exact ng z
      · obtain ⟨a, ha, n, _⟩ := er2.own j m1 p1 l g
        rw [q] at ha
        cases ha
        exact n (.inr rfl)
    have st3 := st.trans st2
    cases o with
    | false =>
      have e : putE ρ2 i (.f m) = some ρ3 := e
      simp only [putE] at e
      split at e <;> cases e
      rename_i hp
      have t : Tr (AvO (plus G p) ρ2 σ2) (AvO G ρ2 σ2) H2 H2 := fun b n h => ⟨fun z => n (avO_plus.mpr (.inl z)), .inl rfl⟩
      obtain ⟨a, b⟩ := er_put er2.less (by simpa using hp) ((rm2.tr t (.inl rfl)).rep na2)
      exact ⟨a, st3.trans b⟩
    | true =>
      have e : putO ρ2 i (.f m) = some ρ3 := e
      simp only [putO] at e
      split at e <;> cases e
      rename_i hp
      by_cases hl : i < ρ2.length
      · obtain ⟨h1, h2, h3, h4, h5⟩ := er_putO er2 (by simpa using hp) rm2 nf2 ng hl
        refine ⟨h1, ⟨st3.keep, fun b z => ?_, fun b z => ?_, fun j hj => ?_, st3.dom, fun j m1 p1 g => ?_⟩⟩
        · rcases h2 b z with z | z
          · exact st3.own b z
          · rw [z]; exact nw.imp (fun z => z.ow) id
        · rcases h3 b z with z | z
          · exact st3.fre b z
          · rw [z]; exact nw
        · obtain ⟨a1, a2⟩ := st3.pin j hj
          obtain ⟨b1, b2⟩ := h4 j a1
          exact ⟨b1, b2.trans a2⟩
        · obtain ⟨m0, p0, g0, e0⟩ := h5 j m1 p1 g
          obtain ⟨m2, p2, g2, e2⟩ := st3.lkd j m0 p0 g0
          exact ⟨m2, p2, g2, e0.trans e2⟩
      · have e1 : setE ρ2 i (.own m false false) = ρ2 := setE_ge (by omega)
        have e2 : σ2.set i (some (V.ref p)) = σ2 := List.set_eq_of_length_le (by have := er2.len; omega)
        rw [e1, e2]
        exact ⟨er2.less, st3⟩
def setR (σ : St) : List (Nat × Bool) → List V → St
  | t :: ts, v :: vs => (setR σ ts vs).set t.1 (some v)
  | _, _ => σ
def setL (σ : St) : List (Nat × Bool) → List V → St
  | t :: ts, v :: vs => setL (σ.set t.1 (some v)) ts vs
  | _, _ => σ
theorem setL_out : ∀ {ts : List (Nat × Bool)} {vs : List V} {σ : St} {i : Nat} {v : Option V}, i ∉ ts.map (·.1) → setL (σ.set i v) ts vs = (setL σ ts vs).set i v
  | [], _, _, _, _, _ => by cases ‹List V› <;> rfl
  | _ :: _, [], _, _, _, _ => rfl
  | t :: ts, w :: vs, σ, i, v, h => by
    rw [List.map_cons, List.mem_cons, not_or] at h
    rw [setL, setL, List.set_comm _ _ h.1, setL_out h.2]
theorem setL_R : ∀ {ts : List (Nat × Bool)} {vs : List V} {σ : St}, (ts.map (·.1)).Nodup → setL σ ts vs = setR σ ts vs
  | [], _, _, _ => by cases ‹List V› <;> rfl
  | _ :: _, [], _, _ => rfl
  | t :: ts, w :: vs, σ, h => by
    rw [List.map_cons, List.nodup_cons] at h
    rw [setL, setR, setL_out h.1, setL_R h.2]
end
section
variable {X : Cx} {cA : Nat → Addr} {C : Cn} {k : Ck} {lev : Nat}
def tFs (K : PySem.W.Frag) (cA : Nat → Addr) (C : Cn) : List IE → TA
  | [] => tNil
  | e :: es => tCons (tI K cA C e) (tFs K cA C es)
theorem pa_fs (fa : Fa k C cA X lev) : ∀ (es : List IE) (as : List Expr), nst as = true → chkEs k es as = true → PA X as (tFs X.K cA C es)
  | [], [], _, _ => pa_nil
  | i :: es, a :: as, n, h => by
    rw [chkEs, Bool.and_eq_true] at h
    obtain ⟨n1, n2⟩ := nst_cons n
    exact pa_cons ((snd_M i fa a).v h.1) (pa_fs fa es as n2 h.2) (star1 n1)
  | [], _ :: _, _, h => by simp [chkEs] at h
  | _ :: _, [], _, h => by simp [chkEs] at h
theorem chkEs_len : ∀ {es : List IE} {as : List Expr}, chkEs k es as = true → es.length = as.length
  | [], [], _ => rfl
  | i :: es, a :: as, h => by
    rw [chkEs, Bool.and_eq_true] at h
    rw [List.length_cons, List.length_cons, chkEs_len h.2]
  | [], _ :: _, h => by simp [chkEs] at h
  | _ :: _, [], h => by simp [chkEs] at h
theorem fs_put {K : PySem.W.Frag} : ∀ {es : List IE} {G : Addr → Prop} {ρ : Env} {σ : St} {H : Hp} {rs : List RV} {ρ' : Env} {ts : List (Nat × Bool)} {ρ'' : Env} {Q : List V → Hp → Prop}, ER K cA G σ H ρ → evRs C es ρ = .ok rs ρ' → putAll ts rs ρ' = some ρ'' →
    (∀ vs H', vs.length = es.length → ts.length = es.length → ER K cA G (setR σ ts vs) H' ρ'' → Step ρ σ H ρ'' (setR σ ts vs) H' → Q vs H') → tFs K cA C es σ H Q
  | [], G, ρ, σ, H, rs, ρ', ts, ρ'', Q, er, e, p, q => by
    rw [evRs] at e
    cases e
    cases ts with
    | cons t ts => cases p
    | nil =>
      cases p
      exact q [] H rfl rfl er (Step.refl _ _ _)
  | i :: es, G, ρ, σ, H, rs, ρ', ts, ρ'', Q, er, e, p, q => by
    rw [evRs] at e
    obtain ⟨r, ρ1, e1, e⟩ := Out.bind_inv e
    split at e
    · rename_i ok
      obtain ⟨rs', ρ2, e2, e⟩ := Out.bind_inv e
      cases e
      cases ts with
      | nil => cases p
      | cons t ts =>
        rw [putAll] at p
        obtain ⟨ρa, pa, pb⟩ := Option.bind_eq_some_iff.mp p
        refine ⟨G, ρ, r, ρ1, er, e1, fun v H1 rr st => ?_⟩
        obtain ⟨G1, er1, hd⟩ := held ok rr st
        refine fs_put er1 e2 pa fun vs H' hl hl2 er2 st2 => ?_
        obtain ⟨a, b⟩ := hd t.1 t.2 _ _ _ _ er2 st2 pb
        exact q (v :: vs) H' (by rw [List.length_cons, List.length_cons, hl]) (by rw [List.length_cons, List.length_cons, hl2]) a b
    · cases e
/-- stores of a tuple's items into names -/
def gNs : List (Nat × Bool) → TGs
  | [] => gNil
  | t :: ts => gCons (gName t.1) (gNs ts)
theorem g_ns (fa : Fa k C cA X lev) : ∀ {ts : List (Nat × Bool)} {es : List Expr}, parN k ts es = true → PGs X es (gNs ts) ∧ nst es = true ∧ es.length = ts.length
  | [], [], _ => ⟨pgs_nil, rfl, rfl⟩
  | t :: ts, e :: es, h => by
    rw [parN, Bool.and_eq_true] at h
    obtain ⟨a, b, c⟩ := g_ns fa h.2
    obtain ⟨hq, hr⟩ := h
    unfold okN at hq
    split at hq
    · rename_i x p
      obtain ⟨h1, h2, h3⟩ := okStore_of fa hq
      refine ⟨pgs_cons (pg_name fa.nd h1 h2 h3) a, ?_, by rw [List.length_cons, List.length_cons, c]⟩
      show (nonStar (.Name x p) && nst es) = true
      rw [b]; rfl
    · cases hq
  | [], _ :: _, h => by simp [parN] at h
  | _ :: _, [], h => by simp [parN] at h
theorem gNs_run : ∀ {ts : List (Nat × Bool)} {vs : List V} {σ : St} {H : Hp} {Q : St → Hp → Prop}, vs.length = ts.length → Q (setL σ ts vs) H → gNs ts vs σ H Q
  | [], [], _, _, _, _, q => ⟨rfl, q⟩
  | t :: ts, v :: vs, σ, H, Q, h, q => ⟨v, vs, rfl, gNs_run (by simpa using h) q⟩
  | [], _ :: _, _, _, _, h, _ => by simp at h
  | _ :: _, [], _, _, _, h, _ => by simp at h
theorem beqF {α : Type} [BEq α] [LawfulBEq α] {a b : α} (h : (a == b) = false) : a ≠ b := fun z => by rw [z, beq_self_eq_true] at h; cases h
theorem nst_mem : ∀ {es : List Expr} {e : Expr}, nst es = true → e ∈ es → nonStar e = true
  | a :: es, e, h, m => by
    obtain ⟨h1, h2⟩ := nst_cons h
    rcases List.mem_cons.mp m with m | m
    · rw [m]; exact h1
    · exact nst_mem h2 m
theorem any_star {es : List Expr} {f : Expr → Bool} (h : nst es = true) (hf : ∀ e, nonStar e = true → f e = false) (z : es.any f = true) : False := by
  obtain ⟨e, m, q⟩ := List.any_eq_true.mp z
  rw [hf e (nst_mem h m)] at q
  cases q
theorem sw_none {sc : Scope} {env : PySem.Env} (hsc : sc = env.scope) {tes ves : List Expr} {n : Nat} {p q : Pos} {k1 : Nat} (h : swN sc tes ves = true) : swappedStores [.Tuple tes k1 p] (.Tuple ves n q) env = pure none := by
  subst hsc
  unfold swN at h
  simp only [Bool.or_eq_true] at h
  unfold swappedStores
  dsimp only
  split
  · rfl
  rename_i h1
  split
  · rfl
  split
  · rfl
  rename_i h3
  rcases h with (h | h) | h
  · exfalso
    apply h1
    rw [h]
    first | done | rfl
  · rw [if_pos h]; first | done | rfl
  · exfalso
    apply h3
    obtain ⟨e, he, hn⟩ := List.any_eq_true.mp h
    rw [Bool.or_eq_true]
    refine .inl ?_
    rw [bne_iff_ne]
    intro z
    have := List.filterMap_length_eq_length.mp z e he
    cases e <;> first | (simp at this; done) | skip
    rename_i x p1
    have hn' : (env.kindOf x == some .local) = false := by
      have : (!(env.scope.names.lookup x == some .local)) = true := hn
      rw [Bool.not_eq_true'] at this
      exact this
    dsimp only at this
    rw [hn'] at this
    simp at this
theorem sw_two {env : PySem.Env} {x y : Str} {p1 q1 p q : Pos} {a b : Expr} {k1 n : Nat} (h : swY env.scope [.Name x p1, .Name y q1] [a, b] = true) : env.scope.names.lookup x = some .local ∧ env.scope.names.lookup y = some .local ∧ swappedStores [.Tuple [.Name x p1, .Name y q1] k1 p] (.Tuple [a, b] n q) env = pure (some [x, y]) := by
  have h' : (blkF env.scope && nst [a, b] && locS env.scope p1.line (.Name x p1) && locS env.scope p1.line (.Name y q1) && !(x == y) && ![a, b].all (foldedForSure 8) && ![a, b].all (constantsAlone 8)) = true := h
  simp only [Bool.and_eq_true, Bool.not_eq_true'] at h'
  obtain ⟨⟨⟨⟨⟨⟨hb, hn⟩, hx⟩, hy⟩, hxy⟩, hf⟩, hc⟩ := h'
  have hx' : (env.scope.names.lookup x == some .local && p1.line == p1.line) = true := hx
  have hy' : (env.scope.names.lookup y == some .local && q1.line == p1.line) = true := hy
  simp only [Bool.and_eq_true] at hx' hy'
  refine ⟨eq_of_beq hx'.1, eq_of_beq hy'.1, ?_⟩
  have kx : (env.kindOf x == some .local && p1.line == p1.line) = true := hx
  have ky : (env.kindOf y == some .local && q1.line == p1.line) = true := hy
  have kb : (env.blockKind != .function) = false := by
    have hb' : (env.blockKind == .function) = true := hb
    unfold bne
    rw [hb']; rfl
  obtain ⟨n1, n2⟩ := nst_cons hn
  obtain ⟨n3, _⟩ := nst_cons n2
  have hxy' : x ≠ y := beqF hxy
  have ed : [x, y].eraseDups = [x, y] := by
    simp [List.eraseDups_cons, hxy', Ne.symm hxy']
  unfold swappedStores
  dsimp only
  split
  · rename_i z
    rw [kb] at z
    simp at z
  split
  · rename_i z
    exact (any_star hn (by intro e he; cases e <;> first | (cases he; done) | rfl) z).elim
  split
  · rename_i z
    simp only [List.filterMap_cons, List.filterMap_nil, Expr.pos, List.head?_cons, Option.map_some, Option.getD_some, kx, ky, if_true] at z
    rw [ed] at z
    simp at z
  split
  · rename_i z
    rw [hf] at z
    cases z
  split
  · rename_i z
    rw [hc] at z
    cases z
  simp only [List.filterMap_cons, List.filterMap_nil, Expr.pos, List.head?_cons, Option.map_some, Option.getD_some, kx, ky, if_true]
theorem sw_three {env : PySem.Env} {x y w : Str} {p1 q1 r1 p q : Pos} {a b c : Expr} {k1 n : Nat} (h : swY env.scope [.Name x p1, .Name y q1, .Name w r1] [a, b, c] = true) :
    env.scope.names.lookup x = some .local ∧ env.scope.names.lookup y = some .local ∧ env.scope.names.lookup w = some .local ∧ swappedStores [.Tuple [.Name x p1, .Name y q1, .Name w r1] k1 p] (.Tuple [a, b, c] n q) env = pure (some [x, y, w]) := by
  have h' : (blkF env.scope && nst [a, b, c] && locS env.scope p1.line (.Name x p1) && locS env.scope p1.line (.Name y q1) && locS env.scope p1.line (.Name w r1) && !(x == y) && !(x == w) && !(y == w) && ![a, b, c].all (foldedForSure 8) && ![a, b, c].all (constantsAlone 8)) = true := h
  simp only [Bool.and_eq_true, Bool.not_eq_true'] at h'
  obtain ⟨⟨⟨⟨⟨⟨⟨⟨⟨hb, hn⟩, hx⟩, hy⟩, hw⟩, hxy⟩, hxw⟩, hyw⟩, hf⟩, hc⟩ := h'
  have hx' : (env.scope.names.lookup x == some .local && p1.line == p1.line) = true := hx
  have hy' : (env.scope.names.lookup y == some .local && q1.line == p1.line) = true := hy
  have hw' : (env.scope.names.lookup w == some .local && r1.line == p1.line) = true := hw
  simp only [Bool.and_eq_true] at hx' hy' hw'
  refine ⟨eq_of_beq hx'.1, eq_of_beq hy'.1, eq_of_beq hw'.1, ?_⟩
  have kx : (env.kindOf x == some .local && p1.line == p1.line) = true := hx
  have ky : (env.kindOf y == some .local && q1.line == p1.line) = true := hy
  have kw : (env.kindOf w == some .local && r1.line == p1.line) = true := hw
  have kb : (env.blockKind != .function) = false := by
    have hb' : (env.blockKind == .function) = true := hb
    unfold bne
    rw [hb']; rfl
  have hxy' : x ≠ y := beqF hxy
  have hxw' : x ≠ w := beqF hxw
  have hyw' : y ≠ w := beqF hyw
  have ed : [x, y, w].eraseDups = [x, y, w] := by
    simp [List.eraseDups_cons, hxy', Ne.symm hxy', hxw', Ne.symm hxw', hyw', Ne.symm hyw']
  unfold swappedStores
  dsimp only
  split
  · rename_i z
    rw [kb] at z
    simp at z
  split
  · rename_i z
    exact (any_star hn (by intro e he; cases e <;> first | (cases he; done) | rfl) z).elim
  split
  · rename_i z
    simp only [List.filterMap_cons, List.filterMap_nil, Expr.pos, List.head?_cons, Option.map_some, Option.getD_some, kx, ky, kw, if_true] at z
    rw [ed] at z
    simp at z
  split
  · rename_i z
    rw [hf] at z
    cases z
  split
  · rename_i z
    rw [hc] at z
    cases z
  simp only [List.filterMap_cons, List.filterMap_nil, Expr.pos, List.head?_cons, Option.map_some, Option.getD_some, kx, ky, kw, if_true]
theorem setR_nil {σ : St} {vs : List V} : setR σ [] vs = σ := by cases vs <;> rfl
theorem tFs_mono {K : PySem.W.Frag} : ∀ {es : List IE} {σ : St} {H : Hp} {Q Q' : List V → Hp → Prop}, (∀ vs H', Q vs H' → Q' vs H') → tFs K cA C es σ H Q → tFs K cA C es σ H Q'
  | [], _, _, _, _, m, h => m _ _ h
  | e :: es, σ, H, Q, Q', m, ⟨G, ρ, r, ρ1, er, e1, q⟩ => ⟨G, ρ, r, ρ1, er, e1, fun v H1 rr st => tFs_mono (fun vs H' z => m _ _ z) (q v H1 rr st)⟩
theorem ne_of_swap {tes ves : List Expr} {ts : List (Nat × Bool)} (fa : Fa k C cA X lev) {i j : Nat} {x y : Str} (o1 : X.N[i]? = some x) (o2 : X.N[j]? = some y) (h : (x == y) = false) : i ≠ j := fun z => by
  rw [z, o2] at o1
  cases o1
  exact beqF h rfl
/-- two, three names and more: stored side by side -/
theorem st_par (fa : Fa k C cA X lev) {ts : List (Nat × Bool)} {es : List IE} {tes ves : List Expr} {sw : Bool} {k1 n : Nat} {p q pos : Pos} (hN : parN k ts tes = true) (hs : nst ves = true) (ha : PA X ves (tFs X.K cA C es)) (hl : es.length = ves.length)
    (hz : es.length ≤ 1000) (hw : (swY k.sc tes ves || swN k.sc tes ves) = true) : PS X (.Assign [.Tuple tes k1 p] (.Tuple ves n q) pos) (tS X.K cA C (.par sw ts es)) := by
  have inv : ∀ {D : Ends} {σ : St} {H : Hp}, tS X.K cA C (.par sw ts es) D σ H → tFs X.K cA C es σ H fun vs H' => (ts.map (·.1)).Nodup ∧ vs.length = es.length ∧ ts.length = es.length ∧
      D.nx (setL σ ts vs) H' ∧ ∀ p o, H' p = none → D.nx (setL σ ts vs) (upd H' p o) := fun {D σ H} ⟨G, ρ, f, ρ', er, e, q⟩ => by
    rw [evS] at e
    obtain ⟨rs, ρ1, e1, e⟩ := Out.bind_inv e
    split at e
    · rename_i nd
      obtain ⟨u, ρ2, e2, e⟩ := Out.bind_inv e
      obtain ⟨e3, e4⟩ := Out.of_inv e2
      cases e
      refine fs_put er e1 e3 fun vs H' h1 h2 er2 st2 => ⟨nd, h1, h2, ?_⟩
      rw [setL_R nd]
      exact ⟨q _ H' er2 st2, fun p o np => q _ _ (er2.new np).less (st2.trans (Step.upd np))⟩
    · cases e
  rw [fa.sc] at hw
  by_cases hy : swY X.env.scope tes ves = true
  · unfold swY at hy
    split at hy
    · rename_i x p1 y q1 a b
      obtain ⟨h1, h2, h3⟩ := sw_two (k1 := k1) (p := p) (q := q) (n := n) hy
      have lt : ts.length = 2 := (g_ns fa hN).2.2.symm
      match ts, lt, hN with
      | [t1, t2], _, hN =>
        simp only [parN, okN, Bool.and_eq_true] at hN
        obtain ⟨n1, n2, _⟩ := hN
        have o1 := (okStore_of fa n1).1
        have o2 := (okStore_of fa n2).1
        have hne : t1.1 ≠ t2.1 := by
          simp only [Bool.and_eq_true, Bool.not_eq_true'] at hy
          exact ne_of_swap (tes := []) (ves := []) (ts := []) fa o1 o2 hy.1.1.2
        refine (ps_par fa.calm fa.nd o1 o2 hne h1 h2 ha h3).imp fun D σ H h => tFs_mono (fun vs H' ⟨nd, l1, l2, z, _⟩ => ?_) (inv h)
        have l3 : vs.length = 2 := by rw [l1, hl]; rfl
        match vs, l3, z with
        | [v, u], _, z => exact ⟨v, u, rfl, z⟩
    · rename_i x p1 y q1 w r1 a b c
      obtain ⟨h1, h2, h4, h3⟩ := sw_three (k1 := k1) (p := p) (q := q) (n := n) hy
      have lt : ts.length = 3 := (g_ns fa hN).2.2.symm
      match ts, lt, hN with
      | [t1, t2, t3], _, hN =>
        simp only [parN, okN, Bool.and_eq_true] at hN
        obtain ⟨n1, n2, n3, _⟩ := hN
        have o1 := (okStore_of fa n1).1
        have o2 := (okStore_of fa n2).1
        have o3 := (okStore_of fa n3).1
        simp only [Bool.and_eq_true, Bool.not_eq_true'] at hy
        have e12 : t1.1 ≠ t2.1 := ne_of_swap (tes := []) (ves := []) (ts := []) fa o1 o2 hy.1.1.1.1.2
        have e13 : t1.1 ≠ t3.1 := ne_of_swap (tes := []) (ves := []) (ts := []) fa o1 o3 hy.1.1.1.2
        have e23 : t2.1 ≠ t3.1 := ne_of_swap (tes := []) (ves := []) (ts := []) fa o2 o3 hy.1.1.2
        refine (ps_par3 fa.calm fa.nd o1 o2 o3 e12 e13 e23 h1 h2 h4 ha h3).imp fun D σ H h => tFs_mono (fun vs H' ⟨nd, l1, l2, z, _⟩ => ?_) (inv h)
        have l3 : vs.length = 3 := by rw [l1, hl]; rfl
        match vs, l3, z with
        | [v, u, t], _, z => exact ⟨v, u, t, rfl, z⟩
    · cases hy
  · have hn : swN X.env.scope tes ves = true := by
      rw [Bool.or_eq_true] at hw
      exact hw.resolve_left hy
    obtain ⟨g1, g2, g3⟩ := g_ns fa hN
    refine (ps_asg (pe_tup ha) (pg_tup fa.calm g1 ((assign_len g2).1.trans g3) (find_none g2)) rfl (sw_none rfl hn) rfl).imp fun D σ H h => ?_
    refine tFs_mono (fun vs H' ⟨nd, l1, l2, _, z⟩ => ⟨?_, fun p np => ⟨p, vs, rfl, .inl (.of upd_same), l1.trans l2.symm, gNs_run (l1.trans l2.symm) (z p _ np)⟩⟩) (inv h)
    rw [l1]
    exact Nat.le_trans hz (by decide)
end
end Ev
end
/-! F11 -/
section
set_option Elab.async false
set_option linter.all false
set_option autoImplicit false
set_option maxRecDepth 100000
set_option maxHeartbeats 1000000
namespace Ev
open PySem L2
open SX (S)
section
variable {X : Cx} {cA : Nat → Addr} {C : Cn} {k : Ck} {lev : Nat}
/-- what was locked on the way is unlocked at the end -/
def nF (X : Cx) (d : Addr) : Prop := ∀ o' u', X.H_0 d ≠ some (.frz o' u')
def unfz (X : Cx) (D : Ends) : Ends where
  nx := fun σ' H' => D.nx σ' H' ∨ ∃ d od kv, H' d = some (.frz od (.dK kv)) ∧ nF X d ∧ D.nx σ' (upd H' d (.dK kv))
  rt := fun v H' => D.rt v H' ∨ ∃ d od kv, H' d = some (.frz od (.dK kv)) ∧ nF X d ∧ D.rt v (upd H' d (.dK kv))
  bk := fun σ' H' => D.bk σ' H' ∨ ∃ d od kv, H' d = some (.frz od (.dK kv)) ∧ nF X d ∧ D.bk σ' (upd H' d (.dK kv))
  ct := fun σ' H' => D.ct σ' H' ∨ ∃ d od kv, H' d = some (.frz od (.dK kv)) ∧ nF X d ∧ D.ct σ' (upd H' d (.dK kv))
theorem ps_unfz {st : Stmt} {t : TS} (h : PS X st t) : PS X st (fun D σ H => t (unfz X D) σ H) := by
  refine ⟨fun pins s σ H D I hw => ?_⟩
  refine thn (h.run pins s σ H (unfz X D) I hw) fun f s1 q => ?_
  cases f with
  | next =>
    obtain ⟨σ', H', I2, q⟩ := q
    rcases q with q | ⟨d, od, kv, e, n, q⟩
    · exact ⟨σ', H', I2, q⟩
    · exact ⟨σ', _, I2.unlock e n, q⟩
  | brk =>
    obtain ⟨σ', H', I2, q⟩ := q
    rcases q with q | ⟨d, od, kv, e, n, q⟩
    · exact ⟨σ', H', I2, q⟩
    · exact ⟨σ', _, I2.unlock e n, q⟩
  | cont =>
    obtain ⟨σ', H', I2, q⟩ := q
    rcases q with q | ⟨d, od, kv, e, n, q⟩
    · exact ⟨σ', H', I2, q⟩
    · exact ⟨σ', _, I2.unlock e n, q⟩
  | ret v =>
    obtain ⟨x, σ', H', I2, r, q⟩ := q
    rcases q with q | ⟨d, od, kv, e, n, q⟩
    · exact ⟨x, σ', H', I2, r, q⟩
    · exact ⟨x, σ', _, I2.unlock e n, r, q⟩
/-- the value, its dict locked if it is not -/
def tLkO (X : Cx) (td : TE) : TE := fun σ H Q => td σ H fun x H1 => Q x H1 ∨ ∃ d u, x = .ref d ∧ H1 d = some u ∧ Mut (some u) ∧ ∀ od, nF X d → Q x (upd H1 d (.frz od u))
theorem pe_lkO {e : Expr} {td : TE} (he : PE X e td) : PE X e (tLkO X td) := ⟨fun pins s σ H Q I h => thn (he.run pins s σ H _ I h) fun v s1 ⟨x, H1, I1, r, q⟩ => by
  rcases q with q | ⟨d, u, ex, hd, mu, q⟩
  · exact ⟨x, H1, I1, r, q⟩
  · obtain ⟨od, I2⟩ := I1.lock hd mu
    exact ⟨x, _, I2, r, q od (I1.nofrz hd mu)⟩⟩
theorem gof_mono {K : PySem.W.Frag} {G : Addr → Prop} {ρ ρ2 : Env} {σ : St} {H : Hp} {f : Flow} {D D' : Ends} (h : GoF K cA G ρ σ H f ρ2 D) (nx : ∀ σ' H', D.nx σ' H' → D'.nx σ' H') (rt : ∀ v H', D.rt v H' → D'.rt v H') (bk : ∀ σ' H', D.bk σ' H' → D'.bk σ' H') (ct : ∀ σ' H', D.ct σ' H' → D'.ct σ' H') : GoF K cA G ρ σ H f ρ2 D' := by
  cases f with
  | nx => exact fun σ' H' er st => nx _ _ (h σ' H' er st)
  | bk => exact fun σ' H' er st => bk _ _ (h σ' H' er st)
  | ct => exact fun σ' H' er st => ct _ _ (h σ' H' er st)
  | rt r => exact fun v σ' H' rq st => rt _ _ (h v σ' H' rq st)
theorem lkO_mono {ie : IE} {σ : St} {H : Hp} {Q Q' : VK} (m : ∀ v H', Q v H' → Q' v H') (h : tLkO X (tI X.K cA C ie) σ H Q) : tLkO X (tI X.K cA C ie) σ H Q' :=
  tI_mono h fun v H' q => q.imp (m _ _) fun ⟨d, u, e1, e2, e3, q⟩ => ⟨d, u, e1, e2, e3, fun od n => m _ _ (q od n)⟩
theorem itm_mono {ie : IE} {σ : St} {H : Hp} {R R' : It → Hp → Prop} (m : ∀ J H', R J H' → R' J H') (h : iItems (tLkO X (tI X.K cA C ie)) σ H R) : iItems (tLkO X (tI X.K cA C ie)) σ H R' :=
  lkO_mono (fun v H' ⟨d, o, kvs, e1, e2, q⟩ => ⟨d, o, kvs, e1, e2, m _ _ q⟩) h
theorem st_forI (fa : Fa k C cA X lev) (hp : PassesOwn (model X.prog X.w) X.A X.env X.xe) {e : Expr} {ie : IE} {elts : List Expr} {kk : Nat} {tpos apos cpos pos : Pos} {body : List Stmt} {itg : Tg} {ib : List IS} (he : PE X e (tI X.K cA C ie)) (hb : plainBase e = true) (hl : (apos.endLine == cpos.line) = true)
    (hg : PG X (.Tuple elts kk tpos) (tGt X.K cA itg)) (hbd : PSs X body (tB X.K cA C ib)) :
    PS X (.For (.Tuple elts kk tpos) (.Call (.Attribute e "items" apos) [] [] cpos) body [] pos) (tS X.K cA C (.for_ itg (.itmD ie) none ib)) := by
  have core := st_for_core (pos := pos) (wi := iItems (tLkO X (tI X.K cA C ie))) hp fa.calm (fun m h => itm_mono m h) (pi_items (pe_lkO he) (base_of hb) hl) hg hbd (folded_of rfl)
  refine (ps_unfz core).imp fun D σ H ⟨G, ρ, f, ρ', er, e, q⟩ => ?_
  rw [evS] at e
  have hL : lockE ρ none = some ρ := rfl
  rw [hL] at e
  dsimp only at e
  obtain ⟨x, ρ1, e1, e⟩ := Out.bind_inv e
  split at e <;> first | (cases e; done) | skip
  rename_i ds hw
  obtain ⟨f2, ρ2, e2, e⟩ := Out.bind_inv e
  cases e
  have q : GoF X.K cA G ρ σ H f ρ2 D := q
  rw [ev] at e1
  obtain ⟨y, ρy, e3, e1⟩ := Out.bind_inv e1
  have hy : ∃ kvs, y.hold = .d (.dct kvs) ∧ itmE (.dct kvs) = some x ∧ ρy = ρ1 := by
    split at e1
    · obtain ⟨a, b⟩ := Out.of_inv e1
      exact ⟨_, rfl, a, b⟩
    · obtain ⟨a, b⟩ := Out.of_inv e1
      exact ⟨_, rfl, a, b⟩
    · cases e1
  obtain ⟨kvs, hh, hi, rfl⟩ := hy
  have hc : kvs.length ≤ SZ ∧ kvs.all (fun kv => kOk kv.1) = true ∧ x = .d (.lst (pairsD kvs)) := by
    unfold itmE at hi
    dsimp only at hi
    split at hi
    · rename_i hc
      cases hi
      exact ⟨hc.1, hc.2, rfl⟩
    · cases hi
  obtain ⟨hc1, hc2, rfl⟩ := hc
  have hds : ds = pairsD kvs := by
    unfold walk walkD at hw
    cases hw
    rfl
  subst hds
  refine ⟨G, ρ, y, ρy, er, e3, fun v H1 rr st => ?_⟩
  have hr := rr.hold
  rw [hh] at hr
  have hr : Rep X.K cA (AvO G ρy σ) H1 (.dct kvs) v := hr
  rw [Rep] at hr
  obtain ⟨a, kv, rfl, na, rd, rk⟩ := hr
  have er1 := rr.er
  have nfr : ¬ Fre ρy σ a := fun z => na (.inr z.ow)
  have fin : GoF X.K cA G ρy σ H1 f ρ2 D := go_back st q
  rcases rd with rd | ⟨o, rd⟩
  · refine .inr ⟨a, .dK kv, rfl, rd, trivial, fun od hn => ⟨a, od, kv, rfl, upd_same, ?_⟩⟩
    have er2 := er_lock' (od := od) er1 rd nfr
    have t : Tr (AvO G ρy σ) (AvO G ρy σ) H1 (upd H1 a (.frz od (.dK kv))) := fun b n _ => ⟨n, ag_lock rd b⟩
    refine ⟨G, ρy, _, _, f, ρ2, er2, wk_itm nfr upd_same (Repk.tr t _ _ rk) hc1 hc2, e2, gof_mono (go_unlock rd nfr fin) (fun σ' H' z => .inr ⟨a, od, kv, z.1, hn, z.2⟩) (fun σ' H' z => .inr ⟨a, od, kv, z.1, hn, z.2⟩) (fun σ' H' z => .inr ⟨a, od, kv, z.1, hn, z.2⟩) (fun σ' H' z => .inr ⟨a, od, kv, z.1, hn, z.2⟩)⟩
  · refine .inl ⟨a, o, kv, rfl, rd, ?_⟩
    exact ⟨G, ρy, _, _, f, ρ2, er1, wk_itm nfr rd rk hc1 hc2, e2, gof_mono fin (fun σ' H' z => .inl z) (fun σ' H' z => .inl z) (fun σ' H' z => .inl z) (fun σ' H' z => .inl z)⟩
end
end Ev
end
/-! Eh -/
section
set_option Elab.async false
set_option linter.all false
set_option maxRecDepth 100000
set_option maxHeartbeats 1000000
namespace Ev
open PySem L2
open SX (S)
section
variable {K : PySem.W.Frag} {cA : Nat → Addr} {G : Addr → Prop} {ρ ρ' : Env} {σ σ' : St} {H H' : Hp} {ks ws : List Nat}
theorem keptE_len : (keptE ks ρ).length = ρ.length := by
  induction ks with
  | nil => rfl
  | cons i r ih => rw [keptE]; simp only [setE_def]; rw [List.length_set]; exact ih
theorem wipeE_len : (wipeE ws ρ).length = ρ.length := by
  induction ws with
  | nil => rfl
  | cons i r ih => rw [wipeE]; simp only [setE_def]; rw [List.length_set]; exact ih
theorem showE_len {ρ0 : Env} : (showE ρ0 ks ρ).length = ρ.length := by
  induction ks with
  | nil => rfl
  | cons i r ih => rw [showE]; simp only [setE_def]; rw [List.length_set]; exact ih
theorem gt_setE {i j : Nat} {e : EV} : gt (setE ρ i e) j = if j = i ∧ i < ρ.length then e else gt ρ j := by
  simp only [gt_def, setE_def]
  rw [List.getElem?_set]
  by_cases h : i = j
  · subst h
    by_cases h2 : i < ρ.length
    · simp [h2]
    · simp [h2]
  · rw [if_neg h, if_neg (fun z => h z.1.symm)]
theorem gt_kept {j : Nat} : gt (keptE ks ρ) j = if j ∈ ks ∧ j < ρ.length then .kept else gt ρ j := by
  induction ks with
  | nil => simp [keptE]
  | cons i r ih =>
    rw [keptE, gt_setE, keptE_len, ih]
    by_cases h1 : j = i
    · subst h1
      by_cases h2 : j < ρ.length <;> simp [h2]
    · simp [h1]
theorem gt_show {ρ0 : Env} {j : Nat} : gt (showE ρ0 ks ρ) j = if j ∈ ks ∧ j < ρ.length then gt ρ0 j else gt ρ j := by
  induction ks with
  | nil => simp [showE]
  | cons i r ih =>
    rw [showE, gt_setE, showE_len, ih]
    by_cases h1 : j = i
    · subst h1
      by_cases h2 : j < ρ.length <;> simp [h2]
    · simp [h1]
theorem hide_own {j : Nat} {m : M} {p l : Bool} (h : gt (wipeE ws (keptE ks ρ)) j = .own m p l) : j ∉ ws ∧ gt ρ j = .own m p l := by
  rw [gt_wipe] at h
  split at h
  · cases h
  · rename_i n
    rw [gt_kept] at h
    split at h
    · cases h
    · exact ⟨n, h⟩
theorem hide_val {j : Nat} {d : D} (h : gt (wipeE ws (keptE ks ρ)) j = .val d) : gt ρ j = .val d := by
  rw [gt_wipe] at h
  split at h
  · cases h
  · rw [gt_kept] at h
    split at h
    · cases h
    · exact h
theorem hide_ow {a : Addr} (h : Ow (wipeE ws (keptE ks ρ)) σ a) : Ow ρ σ a := by
  obtain ⟨j, m, p, l, g, q⟩ := h
  exact ⟨j, m, p, l, (hide_own g).2, q⟩
theorem hide_fre {a : Addr} (h : Fre (wipeE ws (keptE ks ρ)) σ a) : Fre ρ σ a := by
  obtain ⟨j, m, p, g, q⟩ := h
  exact ⟨j, m, p, (hide_own g).2, q⟩
theorem tr_less {ρ1 ρ2 : Env} (h : ∀ a, Ow ρ2 σ a → Ow ρ1 σ a) : Tr (AvO G ρ1 σ) (AvO G ρ2 σ) H H := fun b n _ => ⟨fun z => n (z.imp id (h b)), .inl rfl⟩
theorem er_hide (er : ER K cA G σ H ρ) : ER K cA G σ H (wipeE ws (keptE ks ρ)) := by
  have t : Tr (AvO G ρ σ) (AvO G (wipeE ws (keptE ks ρ)) σ) H H := tr_less fun a => hide_ow
  refine ⟨by rw [wipeE_len, keptE_len]; exact er.len, fun i d g => ?_, fun i m p l g => ?_, fun i j a m p l m' p' l' g g' q q' => er.dis i j a _ _ _ _ _ _ (hide_own g).2 (hide_own g').2 q q', er.gin⟩
  · obtain ⟨v, e, r⟩ := er.val i d (hide_val g)
    exact ⟨v, e, r.tr t⟩
  · obtain ⟨a, e, ng, r, nf⟩ := er.own i m p l (hide_own g).2
    exact ⟨a, e, ng, r.tr t (.inl rfl), nf⟩
theorem hide_pin (hk : ks.all (isV ρ) = true) (hw : ws.all (loose ρ) = true) {i : Nat} (h : pinned ρ i = true) : i ∉ ks ∧ pinned (wipeE ws (keptE ks ρ)) i = true := by
  have n1 : i ∉ ks := fun m => by
    have := List.all_eq_true.mp hk i m
    unfold isV at this
    unfold pinned at h
    split at this
    · rename_i e
      rw [e] at h
      cases h
    · cases this
  have n2 : i ∉ ws := fun m => by
    have := List.all_eq_true.mp hw i m
    unfold loose at this
    unfold pinned at h
    split at this
    · rename_i e
      rw [e] at h
      simp only at h
      rw [h] at this
      cases this
    · cases this
    · rename_i e1 e2
      split at h
      · rename_i e
        exact e1 _ _ _ e
      · rename_i e
        exact e2 e
      · cases h
  refine ⟨n1, ?_⟩
  unfold pinned at h ⊢
  rw [gt_wipe, if_neg n2, gt_kept, if_neg (fun z => n1 z.1)]
  exact h
theorem show_own {ρ0 : Env} (hk : ks.all (isV ρ0) = true) {j : Nat} {m : M} {p l : Bool} (h : gt (showE ρ0 ks ρ) j = .own m p l) : j ∉ ks ∧ gt ρ j = .own m p l := by
  rw [gt_show] at h
  split at h
  · rename_i z
    have := List.all_eq_true.mp hk j z.1
    unfold isV at this
    rw [h] at this
    cases this
  · rename_i z
    refine ⟨fun mm => ?_, h⟩
    exact z ⟨mm, gt_lt h (by intro z; cases z)⟩
theorem show_ow (hk : ks.all (isV ρ) = true) {a : Addr} (h : Ow (showE ρ ks ρ') σ' a) : Ow ρ' σ' a := by
  obtain ⟨j, m, p, l, g, q⟩ := h
  exact ⟨j, m, p, l, (show_own hk g).2, q⟩
theorem er_show (er : ER K cA G σ H ρ) (hk : ks.all (isV ρ) = true) (er' : ER K cA G σ' H' ρ') (st : Step (wipeE ws (keptE ks ρ)) σ H ρ' σ' H') (hw : ∀ j ∈ ks, j ∉ ws) : ER K cA G σ' H' (showE ρ ks ρ') := by
  have t : Tr (AvO G ρ' σ') (AvO G (showE ρ ks ρ') σ') H' H' := tr_less fun a => show_ow hk
  refine ⟨by rw [showE_len]; exact er'.len, fun i d g => ?_, fun i m p l g => ?_, fun i j a m p l m' p' l' g g' q q' => er'.dis i j a _ _ _ _ _ _ (show_own hk g).2 (show_own hk g').2 q q', er'.gin⟩
  · rw [gt_show] at g
    split at g
    · rename_i z
      obtain ⟨v, e, r⟩ := er.val i d g
      have hp : pinned (wipeE ws (keptE ks ρ)) i = true := by
        unfold pinned
        rw [gt_wipe, if_neg (hw i z.1), gt_kept, if_pos ⟨z.1, gt_lt g (by intro z; cases z)⟩]
      have t0 : Tr (AvO G ρ σ) (AvO G (wipeE ws (keptE ks ρ)) σ) H H := tr_less fun a => hide_ow
      exact ⟨v, by rw [(st.pin i hp).2]; exact e, ((r.tr t0).tr st.tr).tr t⟩
    · obtain ⟨v, e, r⟩ := er'.val i d g
      exact ⟨v, e, r.tr t⟩
  · obtain ⟨a, e, ng, r, nf⟩ := er'.own i m p l (show_own hk g).2
    exact ⟨a, e, ng, r.tr t (.inl rfl), nf⟩
theorem step_show (hk : ks.all (isV ρ) = true) (hv : ws.all (loose ρ) = true) (st : Step (wipeE ws (keptE ks ρ)) σ H ρ' σ' H') : Step ρ σ H (showE ρ ks ρ') σ' H' := by
  refine ⟨fun b o h n => st.keep b o h fun f => n (hide_fre f), fun a h => ?_, fun a h => ?_, fun i h => ?_, st.dom, fun i m p h => ?_⟩
  · exact (st.own a (show_ow hk h)).imp hide_ow id
  · obtain ⟨j, m, p, g, q⟩ := h
    exact (st.fre a ⟨j, m, p, (show_own hk g).2, q⟩).imp hide_fre id
  · obtain ⟨n, hp⟩ := hide_pin hk hv h
    obtain ⟨a, b⟩ := st.pin i hp
    refine ⟨?_, b⟩
    unfold pinned at a ⊢
    rw [gt_show, if_neg (fun z => n z.1)]
    exact a
  · obtain ⟨n, g⟩ := show_own hk h
    obtain ⟨m0, p0, g0, e⟩ := st.lkd i m p g
    exact ⟨m0, p0, (hide_own g0).2, e⟩
end
section
variable {X : Cx} {cA : Nat → Addr} {C : Cn}
theorem b_hide {ss : List Stmt} {ks ws : List Nat} {b : List IS} (h : PSs X ss (tB X.K cA C b)) (hw : ∀ j ∈ ks, j ∉ ws) : PSs X ss (tB X.K cA C [.hide ks ws b]) := h.imp fun D σ H ⟨G, ρ, f, ρ', er, e, q⟩ => by
  rw [evB] at e
  obtain ⟨f1, ρ1, e1, e⟩ := Out.bind_inv e
  rw [evS] at e1
  split at e1
  case isFalse => cases e1
  rename_i hc
  rw [Bool.and_eq_true] at hc
  split at e1
  case h_2 => cases e1
  rename_i ρ2 e2
  cases e1
  have e : evB C [] (showE ρ ks ρ2) = .ok f ρ' := e
  rw [evB] at e
  cases e
  refine ⟨G, _, .nx, ρ2, er_hide er, e2, fun σ' H' er1 st => ?_⟩
  exact q σ' H' (er_show er hc.1 er1 st hw) (step_show hc.1 hc.2 st)
end
end Ev
end
/-! E10 -/
section
set_option Elab.async false
set_option linter.all false
set_option maxRecDepth 100000
set_option maxHeartbeats 4000000
namespace Ev
open PySem L2
open SX (S)
section
variable {X : Cx} {cA : Nat → Addr} {C : Cn} {k : Ck} {lev : Nat}
theorem swaps_lc {elt : Expr} {gens : List Comprehension} {s : Scope} {p pos : Pos} {t : Str} {n : Nat} {env : PySem.Env} : swapsWith (.ListComp elt gens s p) (some (.Name t pos)) n env = pure (swB env.scope t pos (.ListComp elt gens s p)) := rfl
theorem swaps_dc {kx elt : Expr} {gens : List Comprehension} {s : Scope} {p pos : Pos} {t : Str} {n : Nat} {env : PySem.Env} : swapsWith (.DictComp kx elt gens s p) (some (.Name t pos)) n env = pure (swB env.scope t pos (.DictComp kx elt gens s p)) := rfl
/-- name = {k: v for ..}, the name stored within -/
theorem set_dc {i : Nat} {y : Str} {py : Pos} {kx vx tg iter : Expr} {ifs : List Expr} {scope : Scope} {own : List (Str × Nat)} {pos spos : Pos} {wi : TI} {g : TG} {tt : TT} {tk tv : TE} (hc : X.calm = true) (hN : X.N.Nodup) (hy : X.N[i]? = some y) (hyl : X.env.scope.names.lookup y = some .local)
    (hsw : swapsWith (.DictComp kx vx [⟨tg, iter, ifs, 0⟩] scope pos) (some (.Name y py)) spos.line X.env = pure true) (hi : PI X tg iter wi) (ok : BlkOk X.N X.env.scope scope own)
    (hg : ∀ (s : Shared) (H : Hp) (C : Addr) (cl : List (Str × Addr)) (fp : List Addr), PG (X.blk s H scope (compEnvC scope cl C X.env) fp) tg g) (ht : ∀ (s : Shared) (H : Hp) (C : Addr) (cl : List (Str × Addr)) (fp : List Addr), PTs (X.blk s H scope (compEnvC scope cl C X.env) fp) ifs tt)
    (hk : ∀ (s : Shared) (H : Hp) (C : Addr) (cl : List (Str × Addr)) (fp : List Addr), PE (X.blk s H scope (compEnvC scope cl C X.env) fp) kx tk)
    (he : ∀ (s : Shared) (H : Hp) (C : Addr) (cl : List (Str × Addr)) (fp : List Addr), PE (X.blk s H scope (compEnvC scope cl C X.env) fp) vx tv) (hs : ∀ x, foldedSetIterable iter X.env x = pure x) :
    PS X (.Assign [.Name y py] (.DictComp kx vx [⟨tg, iter, ifs, 0⟩] scope pos) spos) (tAsg (tDc wi g tt tk tv (own.map (·.2))) (gName i)) := by
  refine ⟨fun pins s σ H D I h => ?_⟩
  rw [exec_Assign_Name_used _ _ _ _ hsw]
  refine wpAny_bind (wpAny_standAt (wpAny_bind ?_))
  have h : tDc wi g tt tk tv (own.map (·.2)) σ H (fun x H1 => gName i x σ H1 D.nx) := h
  refine wpAny_bind (thn (dc_core (Qf := fun _ s' => SP X pins D .next s') hc hN I hi ok hg ht hk he hs h fun L C s' m H' I' q hn f => ?_) fun _ s' hq => wpAny_pure (wpAny_pure hq))
  show wpAny _ _ (assign (.Name y py) X.env (.ref L)) _ _ _
  refine wpAny_assign_Name (store_ok2 (v := V.ref L) I' hN hy (.inl hyl) rfl (fun s2 I2 ⟨a, sb, ha⟩ => ?_) (.inr hyl))
  obtain ⟨f0, f1, f2, f3, f4, f5⟩ := f
  have haC : C ≠ a := ha.elim (fun z => by rw [z]; exact f1) fun z => fun e => f4 y a z e.symm
  exact ⟨m, hn.sameBut sb haC, fun h3 sb3 => ⟨_, H', I2.turned (t' := s2.toks) (fun b o hb e => (sb3.2 b hb).trans e) f0 f1 f3 f4 f5, q⟩⟩
structure LcParts (X : Cx) (cA : Nat → Addr) (C : Cn) (ie : IE) (e : Expr) : Prop where
  ex : ∃ (elt t iter : Expr) (ifs : List Expr) (scope : Scope) (p : Pos) (own : List (Str × Nat)) (wi : TI) (g : TG) (tt : TT) (te : TE), e = .ListComp elt [⟨t, iter, ifs, 0⟩] scope p ∧ PI X t iter wi ∧ BlkOk X.N X.env.scope scope own ∧
    (∀ (s : Shared) (H : Hp) (Ca : Addr) (cl : List (Str × Addr)) (fp : List Addr), PG (X.blk s H scope (compEnvC scope cl Ca X.env) fp) t g) ∧
    (∀ (s : Shared) (H : Hp) (Ca : Addr) (cl : List (Str × Addr)) (fp : List Addr), PTs (X.blk s H scope (compEnvC scope cl Ca X.env) fp) ifs tt) ∧
    (∀ (s : Shared) (H : Hp) (Ca : Addr) (cl : List (Str × Addr)) (fp : List Addr), PE (X.blk s H scope (compEnvC scope cl Ca X.env) fp) elt te) ∧
    (∀ x, foldedSetIterable iter X.env x = pure x) ∧ ∀ σ H Q, tI X.K cA C ie σ H Q → tLockE (tLc wi g tt te (own.map (·.2))) σ H Q ∨ tLc wi g tt te (own.map (·.2)) σ H Q
theorem lc_parts (fa : Fa k C cA X lev) {ie : IE} {e : Expr} (hl : isLc e = true) (h0 : (chkM k ie e).v = true) : LcParts X cA C ie e := by
  cases e <;> first | (cases hl; done) | skip
  rename_i elt gens scope pos
  cases ie <;> unfold chkM at h0 <;> first | (cases h0; done) | skip
  · exfalso
    rename_i f es
    cases f <;> (dsimp only at h0; split at h0 <;> first | contradiction | (cases h0; done))
  · exfalso
    split at h0
    · rename_i heq
      cases heq
      cases hl
    · cases h0
  · rename_i d
    cases d <;> cases h0
  · rename_i own tg it lk cs ie
    split at h0
    · rename_i elt t iter ifs scope pos heq
      cases heq
      dsimp only at h0
      have h : (((((chkM k it iter).i && (!isEnm it || isTup t)) || chkD k it iter t) && nonSet iter && decide ((own.filterMap fun i => (k.N[i]?).map fun x => (x, i)).map (·.2) = own) && blkC k.N k.sc scope (own.filterMap fun i => (k.N[i]?).map fun x => (x, i)) && chkG (bk k scope) tg t && (tgS tg).all (fun i => own.contains i) && chkCs (bk k scope) cs ifs && (chkM (bk k scope) ie elt).v)) = true := h0
      simp only [Bool.and_eq_true, Bool.or_eq_true, decide_eq_true_eq] at h
      obtain ⟨⟨⟨⟨⟨⟨⟨h12, h3⟩, h4⟩, h5⟩, h6⟩, h7⟩, h8⟩, h9⟩ := h
      have ok : BlkOk X.N X.env.scope scope (own.filterMap fun i => (k.N[i]?).map fun x => (x, i)) := by
        rw [← fa.N, ← fa.sc]; exact blkOk_by h5
      have hs := folded_of (env := X.env) h3
      have hG : ∀ (s : Shared) (H : Hp) (Ca : Addr) (cl : List (Str × Addr)) (fp : List Addr), PG (X.blk s H scope (compEnvC scope cl Ca X.env) fp) t (tGt X.K cA tg) := fun s H Ca cl fp => chkG_of (blk_fa fa) tg t h6
      have hC : ∀ (s : Shared) (H : Hp) (Ca : Addr) (cl : List (Str × Addr)) (fp : List Addr), PTs (X.blk s H scope (compEnvC scope cl Ca X.env) fp) ifs (tCs X.K cA C cs) := fun s H Ca cl fp => snd_Cs cs (blk_fa fa) ifs h8
      have hE : ∀ (s : Shared) (H : Hp) (Ca : Addr) (cl : List (Str × Addr)) (fp : List Addr), PE (X.blk s H scope (compEnvC scope cl Ca X.env) fp) elt (tI X.K cA C ie) := fun s H Ca cl fp => (snd_M ie (blk_fa fa) elt).v h9
      rcases h12 with ⟨h1, h2⟩ | hd
      · have hi := (snd_M it fa iter).i h1 t fun z => by rw [z] at h2; simpa using h2
        have red := s_lc (lk := lk) (pos := pos) fa.calm fa.nd hi ok hG hC hE hs (by rw [h4]; exact h7)
        refine ⟨elt, t, iter, ifs, scope, pos, _, _, _, _, _, rfl, hi, ok, hG, hC, hE, hs, ?_⟩
        rw [h4] at red ⊢
        exact fun σ H Q z => .inr (red σ H Q z)
      · obtain ⟨wi, i, iv, J, dsOf, cond, hi, hm, hie, hwi, hwk, hev⟩ := (dwalk_of fa hd).ex
        have red := lcD (wi := wi) (lk := lk) (pos := pos) hm fa.calm fa.nd ok hG hC hE hs (by rw [h4]; exact h7) hie hwi hwk hev
        refine ⟨elt, t, iter, ifs, scope, pos, _, _, _, _, _, rfl, hi, ok, hG, hC, hE, hs, ?_⟩
        rw [h4] at red ⊢
        exact red
    · cases h0
structure DcParts (X : Cx) (cA : Nat → Addr) (C : Cn) (ie : IE) (e : Expr) : Prop where
  ex : ∃ (kx elt t iter : Expr) (ifs : List Expr) (scope : Scope) (p : Pos) (own : List (Str × Nat)) (wi : TI) (g : TG) (tt : TT) (tk te : TE), e = .DictComp kx elt [⟨t, iter, ifs, 0⟩] scope p ∧ PI X t iter wi ∧ BlkOk X.N X.env.scope scope own ∧
    (∀ (s : Shared) (H : Hp) (Ca : Addr) (cl : List (Str × Addr)) (fp : List Addr), PG (X.blk s H scope (compEnvC scope cl Ca X.env) fp) t g) ∧
    (∀ (s : Shared) (H : Hp) (Ca : Addr) (cl : List (Str × Addr)) (fp : List Addr), PTs (X.blk s H scope (compEnvC scope cl Ca X.env) fp) ifs tt) ∧
    (∀ (s : Shared) (H : Hp) (Ca : Addr) (cl : List (Str × Addr)) (fp : List Addr), PE (X.blk s H scope (compEnvC scope cl Ca X.env) fp) kx tk) ∧
    (∀ (s : Shared) (H : Hp) (Ca : Addr) (cl : List (Str × Addr)) (fp : List Addr), PE (X.blk s H scope (compEnvC scope cl Ca X.env) fp) elt te) ∧
    (∀ x, foldedSetIterable iter X.env x = pure x) ∧ ∀ σ H Q, tI X.K cA C ie σ H Q → tLockE (tDc wi g tt tk te (own.map (·.2))) σ H Q ∨ tDc wi g tt tk te (own.map (·.2)) σ H Q
theorem dc_parts (fa : Fa k C cA X lev) {ie : IE} {e : Expr} (hl : isDcE e = true) (h0 : (chkM k ie e).v = true) : DcParts X cA C ie e := by
  cases e <;> first | (cases hl; done) | skip
  rename_i kx elt gens scope pos
  cases ie <;> unfold chkM at h0 <;> first | (cases h0; done) | skip
  · exfalso
    rename_i f es
    cases f <;> (dsimp only at h0; split at h0 <;> first | contradiction | (cases h0; done))
  · rename_i d
    cases d <;> cases h0
  · rename_i own tg it lk cs ik ie
    split at h0
    · rename_i kx elt t iter ifs scope pos heq
      cases heq
      dsimp only at h0
      have h : (((((chkM k it iter).i && (!isEnm it || isTup t)) || chkD k it iter t) && nonSet iter && decide ((own.filterMap fun i => (k.N[i]?).map fun x => (x, i)).map (·.2) = own) && blkC k.N k.sc scope (own.filterMap fun i => (k.N[i]?).map fun x => (x, i)) && chkG (bk k scope) tg t && (tgS tg).all (fun i => own.contains i) && chkCs (bk k scope) cs ifs && (chkM (bk k scope) ik kx).v && (chkM (bk k scope) ie elt).v)) = true := h0
      simp only [Bool.and_eq_true, Bool.or_eq_true, decide_eq_true_eq] at h
      obtain ⟨⟨⟨⟨⟨⟨⟨⟨h12, h3⟩, h4⟩, h5⟩, h6⟩, h7⟩, h8⟩, h10⟩, h9⟩ := h
      have ok : BlkOk X.N X.env.scope scope (own.filterMap fun i => (k.N[i]?).map fun x => (x, i)) := by
        rw [← fa.N, ← fa.sc]; exact blkOk_by h5
      have hs := folded_of (env := X.env) h3
      have hG : ∀ (s : Shared) (H : Hp) (Ca : Addr) (cl : List (Str × Addr)) (fp : List Addr), PG (X.blk s H scope (compEnvC scope cl Ca X.env) fp) t (tGt X.K cA tg) := fun s H Ca cl fp => chkG_of (blk_fa fa) tg t h6
      have hC : ∀ (s : Shared) (H : Hp) (Ca : Addr) (cl : List (Str × Addr)) (fp : List Addr), PTs (X.blk s H scope (compEnvC scope cl Ca X.env) fp) ifs (tCs X.K cA C cs) := fun s H Ca cl fp => snd_Cs cs (blk_fa fa) ifs h8
      have hE : ∀ (s : Shared) (H : Hp) (Ca : Addr) (cl : List (Str × Addr)) (fp : List Addr), PE (X.blk s H scope (compEnvC scope cl Ca X.env) fp) elt (tI X.K cA C ie) := fun s H Ca cl fp => (snd_M ie (blk_fa fa) elt).v h9
      have hK : ∀ (s : Shared) (H : Hp) (Ca : Addr) (cl : List (Str × Addr)) (fp : List Addr), PE (X.blk s H scope (compEnvC scope cl Ca X.env) fp) kx (tI X.K cA C ik) := fun s H Ca cl fp => (snd_M ik (blk_fa fa) kx).v h10
      rcases h12 with ⟨h1, h2⟩ | hd
      · have hi := (snd_M it fa iter).i h1 t fun z => by rw [z] at h2; simpa using h2
        have red := s_dc (lk := lk) (pos := pos) fa.calm fa.nd hi ok hG hC hK hE hs (by rw [h4]; exact h7)
        refine ⟨kx, elt, t, iter, ifs, scope, pos, _, _, _, _, _, _, rfl, hi, ok, hG, hC, hK, hE, hs, ?_⟩
        rw [h4] at red ⊢
        exact fun σ H Q z => .inr (red σ H Q z)
      · obtain ⟨wi, i, iv, J, dsOf, cond, hi, hm, hie, hwi, hwk, hev⟩ := (dwalk_of fa hd).ex
        have red := dcD (wi := wi) (lk := lk) (pos := pos) hm fa.calm fa.nd ok hG hC hK hE hs (by rw [h4]; exact h7) hie hwi hwk hev
        refine ⟨kx, elt, t, iter, ifs, scope, pos, _, _, _, _, _, _, rfl, hi, ok, hG, hC, hK, hE, hs, ?_⟩
        rw [h4] at red ⊢
        exact red
    · cases h0
/-- an assignment to a name -/
theorem asg_of (fa : Fa k C cA X lev) {i : Nat} {x : Str} {p pos : Pos} {e : Expr} {ie : IE} (h1 : okStore k i x = true) (h2 : (nonComp e || isLc e || isDcE e) = true) (h3 : (chkM k ie e).v = true) : ∃ te, PS X (.Assign [.Name x p] e pos) (tAsg te (gName i)) ∧ ∀ σ H Q, tI X.K cA C ie σ H Q → te σ H Q := by
  obtain ⟨a1, a2, a3⟩ := okStore_of fa h1
  by_cases hc : nonComp e = true
  · exact ⟨_, ps_set fa.nd a1 a2 ((snd_M ie fa e).v h3) (swaps_of hc) a3, fun _ _ _ h => h⟩
  by_cases hl : isLc e = true
  · obtain ⟨elt, t, iter, ifs, scope, pp, own, wi, g, tt, te, rfl, hi, ok, hG, hC, hE, hs, red⟩ := (lc_parts fa hl h3).ex
    cases hw : swB X.env.scope x p (.ListComp elt [⟨t, iter, ifs, 0⟩] scope pp) with
    | true =>
      have hy : X.env.scope.names.lookup x = some .local := by
        unfold swB at hw
        simp only [Bool.and_eq_true] at hw
        exact eq_of_beq hw.1.1.2
      have P := ps_setLc (py := p) (spos := pos) (pos := pp) fa.calm fa.nd a1 hy (by rw [swaps_lc, hw]) hi ok hG hC hE hs
      exact ⟨(fun σ H Q => tLockE (tLc wi g tt te (own.map (fun x : Str × Nat => x.2))) σ H Q ∨ tLc wi g tt te (own.map (fun x : Str × Nat => x.2)) σ H Q), ((ps_lock P).or P).imp fun _ _ _ z => z, red⟩
    | false =>
      have pe := pe_lc (pos := pp) fa.calm fa.nd hi ok hG hC hE hs
      exact ⟨_, ps_set fa.nd a1 a2 ((pe_lock pe).or pe) (by rw [swaps_lc, hw]) a3, red⟩
  · have hd : isDcE e = true := by
      rw [Bool.or_eq_true, Bool.or_eq_true] at h2
      exact (h2.resolve_left fun z => z.elim hc hl)
    obtain ⟨kx, elt, t, iter, ifs, scope, pp, own, wi, g, tt, tk, te, rfl, hi, ok, hG, hC, hK, hE, hs, red⟩ := (dc_parts fa hd h3).ex
    cases hw : swB X.env.scope x p (.DictComp kx elt [⟨t, iter, ifs, 0⟩] scope pp) with
    | true =>
      have hy : X.env.scope.names.lookup x = some .local := by
        unfold swB at hw
        simp only [Bool.and_eq_true] at hw
        exact eq_of_beq hw.1.1.2
      have P := set_dc (py := p) (spos := pos) (pos := pp) fa.calm fa.nd a1 hy (by rw [swaps_dc, hw]) hi ok hG hC hK hE hs
      exact ⟨(fun σ H Q => tLockE (tDc wi g tt tk te (own.map (fun x : Str × Nat => x.2))) σ H Q ∨ tDc wi g tt tk te (own.map (fun x : Str × Nat => x.2)) σ H Q), ((ps_lock P).or P).imp fun _ _ _ z => z, red⟩
    | false =>
      have pe := pe_dc (pos := pp) fa.calm fa.nd hi ok hG hC hK hE hs
      exact ⟨_, ps_set fa.nd a1 a2 ((pe_lock pe).or pe) (by rw [swaps_dc, hw]) a3, red⟩
theorem sole_of {t e : Expr} {n : Nat} {env : PySem.Env} (h : nonComp e = true) : swapsWithSole [t] e n env = pure false := swaps_of h
theorem swapped_tup {t e : Expr} {env : PySem.Env} (h : nonTup e = true) : swappedStores [t] e env = pure none := by
  unfold swappedStores
  cases t <;> cases e <;> first | rfl | (cases h; done)
theorem never_of (fa : Fa k C cA X lev) : PassesOwn (model X.prog X.w) X.A X.env X.xe := by
  rw [fa.xe]
  exact PassesOwn.never
theorem doc_of {s : Stmt} (h : isDoc s = true) : PS X s tNext := by
  unfold isDoc at h
  split at h
  · exact ps_doc
  · exact ps_pass
  · cases h
theorem st_forD' (fa : Fa k C cA X lev) {t iter : Expr} {body : List Stmt} {tg : Tg} {it : IE} {lk : Option Nat} {b : List IS} {pos : Pos} (h : chkD k it iter t = true) (hg : PG X t (tGt X.K cA tg)) (hb : PSs X body (tB X.K cA C b)) (hs : ∀ x, foldedSetIterable iter X.env x = pure x) :
    PS X (.For t iter body [] pos) (tS X.K cA C (.for_ tg it lk b)) := by
  obtain ⟨wi, i, iv, J, dsOf, cond, hi, hm, hie, hwi, hwk, hev⟩ := (dwalk_of fa h).ex
  exact st_forD (wi := wi) (st_for_core (wi := wi) (pos := pos) (C := C) (never_of fa) fa.calm hm hi hg hb hs) hie hwi hwk hev
mutual
theorem snd_S (fa : Fa k C cA X lev) : ∀ (is : IS) (s : Stmt), chkS k is s = true → PS X s (tS X.K cA C is)
  | .asg i ie, s, h => by
    unfold chkS at h
    split at h
    · simp only [Bool.and_eq_true] at h
      obtain ⟨te, a, b⟩ := asg_of fa h.1.1 h.1.2 h.2
      exact st_asg a b
    · cases h
  | .asgO i ie, s, h => by
    unfold chkS at h
    split at h
    · simp only [Bool.and_eq_true] at h
      obtain ⟨te, a, b⟩ := asg_of fa h.1.1 h.1.2 h.2
      exact st_asgO a b
    · cases h
  | .unp tg ie, s, h => by
    unfold chkS at h
    split at h
    · rename_i t e pos
      simp only [Bool.and_eq_true] at h
      obtain ⟨⟨⟨⟨h1, h2⟩, h3⟩, h4⟩, h5⟩ := h
      refine st_unp (ps_asg ((snd_M ie fa e).v h5) (chkG_of fa tg t h4) (sole_of h3) (swapped_tup h2) ?_)
      cases t <;> first | (cases h1; done) | rfl
    · cases h
  | .par _ ts es, s, h => by
    unfold chkS at h
    split at h
    · simp only [Bool.and_eq_true, decide_eq_true_eq] at h
      obtain ⟨⟨⟨⟨h1, h2⟩, h3⟩, h4⟩, h5⟩ := h
      exact st_par fa h1 h2 (pa_fs fa es _ h2 h3) (chkEs_len h3) h4 h5
    · cases h
  | .setI i ik ie, s, h => by
    unfold chkS at h
    split at h
    · simp only [Bool.and_eq_true] at h
      obtain ⟨⟨⟨⟨h1, h2⟩, h3⟩, h4⟩, h5⟩ := h
      exact st_setI (units_of fa) (okName_of fa h1) ((snd_M ik fa _).v h4) ((snd_M ie fa _).v h5) (sole_of h3) rfl rfl h2
    · cases h
  | .aug neg i ie, s, h => by
    unfold chkS at h
    split at h
    · simp only [Bool.and_eq_true, decide_eq_true_eq] at h
      obtain ⟨⟨rfl, h1⟩, h2⟩ := h
      obtain ⟨a1, a2, a3⟩ := okStore_of fa h1
      exact st_aug fa.nd a1 a2 ((snd_M ie fa _).v h2) a3
    · cases h
  | .augI i ik ie, s, h => by
    unfold chkS at h
    split at h
    · rename_i x p y p' op e pos
      simp only [Bool.and_eq_true, decide_eq_true_eq] at h
      obtain ⟨⟨⟨⟨rfl, h1⟩, h2⟩, h3⟩, h4⟩ := h
      refine st_augI (okName_of fa h1) ((snd_M ik fa _).v h3) ((snd_M ie fa _).v h4) fun ov iv new => ?_
      cases y <;> first | (cases h2; done) | rfl
    · cases h
  | .app i ie, s, h => by
    unfold chkS at h
    split at h
    · simp only [Bool.and_eq_true, decide_eq_true_eq] at h
      obtain ⟨⟨⟨⟨rfl, h1⟩, h2⟩, h3⟩, h4⟩ := h
      exact st_app (okName_of fa h1) ((snd_M ie fa _).v h4) h3 h2
    · cases h
  | .ext i ie, s, h => by
    unfold chkS at h
    split at h
    · simp only [Bool.and_eq_true, decide_eq_true_eq] at h
      obtain ⟨⟨⟨⟨rfl, h1⟩, h2⟩, h3⟩, h4⟩ := h
      exact st_ext (okName_of fa h1) ((snd_M ie fa _).v h4) h3 h2
    · cases h
  | .upd i ie, s, h => by
    unfold chkS at h
    split at h
    · simp only [Bool.and_eq_true, decide_eq_true_eq] at h
      obtain ⟨⟨⟨⟨rfl, h1⟩, h2⟩, h3⟩, h4⟩ := h
      exact st_upd (okName_of fa h1) ((snd_M ie fa _).v h4) h3 h2
    · cases h
  | .delS i ie, s, h => by
    unfold chkS at h
    split at h
    · simp only [Bool.and_eq_true] at h
      exact st_delS (okName_of fa h.1) ((snd_M ie fa _).v h.2)
    · cases h
  | .ex ie, s, h => by
    unfold chkS at h
    split at h
    · simp only [Bool.and_eq_true] at h
      exact st_ex ((snd_M ie fa _).v h.2) (swaps_of h.1)
    · cases h
  | .iff c a b, s, h => by
    unfold chkS at h
    split at h
    · simp only [Bool.and_eq_true] at h
      exact st_iff ((snd_M c fa _).t h.1.1).1 (snd_B fa a _ h.1.2) (snd_B fa b _ h.2)
    · cases h
  | .for_ tg it lk b, s, h => by
    by_cases hd : ∃ j, it = .itmD j ∧ lk = none
    · obtain ⟨j, rfl, rfl⟩ := hd
      unfold chkS at h
      split at h
      · simp only [Bool.and_eq_true, decide_eq_true_eq] at h
        obtain ⟨⟨⟨⟨⟨rfl, h1⟩, h2⟩, h3⟩, h4⟩, h5⟩ := h
        exact st_forI fa (never_of fa) ((snd_M j fa _).v h3) h1 h2 (chkG_of fa tg _ h4) (snd_B fa b _ h5)
      · cases h
    · have h : chkFor k tg it b s (chkB k b) = true := by
        rw [chkS] at h
        · exact h
        · exact fun j e1 e2 => hd ⟨j, e1, e2⟩
      unfold chkFor at h
      split at h
      · rename_i t iter body pos zz
        simp only [Bool.and_eq_true, Bool.or_eq_true] at h
        obtain ⟨⟨⟨h12, h3⟩, h4⟩, h5⟩ := h
        have hb := snd_B fa b _ h5
        have hg := chkG_of fa tg t h4
        rcases h12 with ⟨h1, h2⟩ | hd
        · have hi := (snd_M it fa iter).i h1 t fun z => by rw [z] at h2; simpa using h2
          exact st_for (never_of fa) fa.calm hi hg hb (folded_of h3)
        · exact st_forD' fa hd hg hb (folded_of h3)
      · cases h
  | .whl c b, s, h => by
    unfold chkS at h
    split at h
    · simp only [Bool.and_eq_true] at h
      exact st_whl (never_of fa) ((snd_M c fa _).t h.1).1 (snd_B fa b _ h.2)
    · cases h
  | .ret ie, s, h => by
    unfold chkS at h
    split at h
    · exact st_ret ((snd_M ie fa _).v h)
    · cases h
  | .retN, s, h => by
    unfold chkS at h
    split at h
    · exact st_retN
    · cases h
  | .cont, s, h => by
    unfold chkS at h
    split at h
    · exact st_cont
    · cases h
  | .brk, s, h => by
    unfold chkS at h
    split at h
    · exact st_brk
    · cases h
  | .pass, s, h => by
    unfold chkS at h
    exact st_pass (doc_of h)
  | .raise, s, h => by
    unfold chkS at h
    split at h
    · exact st_raise
    · cases h
  | .hide _ _ _, s, h => by
    unfold chkS at h
    cases h
  | .setA i a ie, s, h => by
    unfold chkS at h
    split at h
    · simp only [Bool.and_eq_true, decide_eq_true_eq] at h
      obtain ⟨⟨⟨rfl, h1⟩, h2⟩, h3⟩ := h
      exact st_setA fa (okName_of fa h1) ((snd_M ie fa _).v h3) h2
    · cases h
theorem snd_B (fa : Fa k C cA X lev) : ∀ (b : List IS) (ss : List Stmt), chkB k b ss = true → PSs X ss (tB X.K cA C b)
  | [], [], _ => b_nil
  | .hide ks ws b :: is, ss, h => by
    rw [chkB, Bool.and_eq_true, Bool.and_eq_true] at h
    obtain ⟨⟨h1, h2⟩, h3⟩ := h
    cases is with
    | cons _ _ => cases h1
    | nil =>
      refine b_hide (snd_B fa b ss h3) fun j m z => ?_
      have := List.all_eq_true.mp h2 j m
      rw [List.contains_iff_mem.mpr z] at this
      cases this
  | i :: is, s :: ss, h => by
    by_cases hi : ∃ ks ws b, i = .hide ks ws b
    · obtain ⟨ks, ws, b, rfl⟩ := hi
      rw [chkB, Bool.and_eq_true, Bool.and_eq_true] at h
      obtain ⟨⟨h1, h2⟩, h3⟩ := h
      cases is with
      | cons _ _ => cases h1
      | nil =>
        refine b_hide (snd_B fa b _ h3) fun j m z => ?_
        have := List.all_eq_true.mp h2 j m
        rw [List.contains_iff_mem.mpr z] at this
        cases this
    · rw [chkB, Bool.and_eq_true] at h
      · exact b_cons (snd_S fa i s h.1) (snd_B fa is ss h.2)
      · exact fun ks ws b e => hi ⟨ks, ws, b, e⟩
  | [], _ :: _, h => by simp [chkB] at h
  | i :: is, [], h => by
    by_cases hi : ∃ ks ws b, i = .hide ks ws b
    · obtain ⟨ks, ws, b, rfl⟩ := hi
      rw [chkB, Bool.and_eq_true, Bool.and_eq_true] at h
      obtain ⟨⟨h1, h2⟩, h3⟩ := h
      cases is with
      | cons _ _ => cases h1
      | nil =>
        refine b_hide (snd_B fa b _ h3) fun j m z => ?_
        have := List.all_eq_true.mp h2 j m
        rw [List.contains_iff_mem.mpr z] at this
        cases this
    · rw [chkB] at h
      · cases h
      · exact fun ks ws b e => hi ⟨ks, ws, b, e⟩
end
end
end Ev
end
/-! E11 -/
section
set_option Elab.async false
set_option linter.all false
set_option maxRecDepth 100000
set_option maxHeartbeats 1000000
namespace Ev
open PySem L2
open SX (S)
theorem gt_ext {ρ : Env} {k i : Nat} : gt (ρ ++ List.replicate k .no) i = gt ρ i := by
  simp only [gt_def]
  by_cases h : i < ρ.length
  · rw [List.getElem?_append_left h]
  · rw [List.getElem?_append_right (by omega), List.getElem?_replicate, List.getElem?_eq_none (by omega : ρ.length ≤ i)]
    split <;> rfl
theorem st_ext' {σ : St} {k i : Nat} {v : V} : (σ ++ List.replicate k none)[i]? = some (some v) ↔ σ[i]? = some (some v) := by
  by_cases h : i < σ.length
  · rw [List.getElem?_append_left h]
  · rw [List.getElem?_append_right (by omega), List.getElem?_replicate, List.getElem?_eq_none (by omega : σ.length ≤ i)]
    constructor
    · intro z; split at z <;> cases z
    · intro z; cases z
section
variable {K : PySem.W.Frag} {cA : Nat → Addr} {G G' : Addr → Prop} {ρ ρ' : Env} {σ σ' : St} {H H' : Hp}
theorem ow_ext {k j : Nat} {a : Addr} : Ow (ρ ++ List.replicate k .no) (σ ++ List.replicate j none) a ↔ Ow ρ σ a := by
  unfold Ow
  constructor
  · rintro ⟨i, m, p, l, g, h⟩
    exact ⟨i, m, p, l, gt_ext.symm.trans g, st_ext'.mp h⟩
  · rintro ⟨i, m, p, l, g, h⟩
    exact ⟨i, m, p, l, gt_ext.trans g, st_ext'.mpr h⟩
theorem fre_ext {k j : Nat} {a : Addr} : Fre (ρ ++ List.replicate k .no) (σ ++ List.replicate j none) a ↔ Fre ρ σ a := by
  unfold Fre
  constructor
  · rintro ⟨i, m, p, g, h⟩
    exact ⟨i, m, p, gt_ext.symm.trans g, st_ext'.mp h⟩
  · rintro ⟨i, m, p, g, h⟩
    exact ⟨i, m, p, gt_ext.trans g, st_ext'.mpr h⟩
theorem avo_ext {k j : Nat} : AvO G (ρ ++ List.replicate k .no) (σ ++ List.replicate j none) = AvO G ρ σ := by
  funext a
  unfold AvO
  rw [propext (ow_ext (k := k) (j := j) (a := a) (ρ := ρ) (σ := σ))]
theorem er_ext {k : Nat} (er : ER K cA G σ H ρ) : ER K cA G (σ ++ List.replicate k none) H (ρ ++ List.replicate k .no) := by
  refine ⟨by rw [List.length_append, List.length_append, List.length_replicate, List.length_replicate, er.len], fun i d g => ?_, fun i m p l g => ?_, fun i j a m p l m' p' l' g g' h h' => ?_, er.gin⟩
  · rw [gt_ext] at g
    obtain ⟨v, hv, r⟩ := er.val i d g
    exact ⟨v, st_ext'.mpr hv, by rw [avo_ext]; exact r⟩
  · rw [gt_ext] at g
    obtain ⟨a, ha, n, r, f⟩ := er.own i m p l g
    exact ⟨a, st_ext'.mpr ha, n, by rw [avo_ext]; exact r, f⟩
  · rw [gt_ext] at g g'
    exact er.dis i j a m p l m' p' l' g g' (st_ext'.mp h) (st_ext'.mp h')
/-! ### the way out of a def -/
theorem ok_args : ∀ {as : List Ar} {i : Nat} {rf : Option Nat}, okArgs i rf as = true → ∀ {j : Nat} {m : M}, as[j]? = some (.m m) → rf = some (i + j)
  | [], _, _, _, _, _, h => by cases h
  | a :: r, i, rf, h, 0, m, q => by
    rw [okArgs, Bool.and_eq_true] at h
    cases q
    have := h.1
    simp [isM] at this
    exact this
  | a :: r, i, rf, h, j + 1, m, q => by
    rw [okArgs, Bool.and_eq_true] at h
    have := ok_args h.2 (j := j) (m := m) q
    rw [this]
    congr 1
    omega
theorem putM_len : ∀ {as : List Ar} {b : Option M}, (putM as b).length = as.length
  | [], _ => rfl
  | .m m :: r, some x => by rw [putM, List.length_cons, putM_len, List.length_cons]
  | .m m :: r, none => by
    rw [putM, List.length_cons, putM_len, List.length_cons]
    all_goals (intros; first | contradiction | (rename_i z; cases z) | (intro z; cases z))
  | .d m :: r, b => by
    rw [putM, List.length_cons, putM_len, List.length_cons]
    all_goals (intros; first | contradiction | (rename_i z; cases z) | (intro z; cases z))
theorem putM_get : ∀ {as : List Ar} {b : Option M} {j : Nat}, (putM as b)[j]? = (as[j]?).map fun a => match a, b with
    | .m _, some m => .m m
    | a, _ => a
  | [], _, j => by rw [putM]; rfl
  | .m m :: r, some x, 0 => by rw [putM]; rfl
  | .m m :: r, some x, j + 1 => by
    rw [putM, List.getElem?_cons_succ, putM_get, List.getElem?_cons_succ]
  | .m m :: r, none, 0 => by
    rw [putM]
    · rfl
    all_goals (intros; first | contradiction | (rename_i z; cases z) | (intro z; cases z))
  | .m m :: r, none, j + 1 => by
    rw [putM, List.getElem?_cons_succ, putM_get, List.getElem?_cons_succ]
    all_goals (intros; first | contradiction | (rename_i z; cases z) | (intro z; cases z))
  | .d m :: r, b, 0 => by
    cases b <;> rfl
  | .d m :: r, b, j + 1 => by
    rw [putM, List.getElem?_cons_succ, putM_get, List.getElem?_cons_succ]
    all_goals (intros; first | contradiction | (rename_i z; cases z) | (intro z; cases z))
theorem gt_ar {as : List Ar} {i : Nat} : gt (as.map arEV) i = match as[i]? with
    | some (.d d) => .val d
    | some (.m m) => .own m true false
    | none => .no := by
  simp only [gt_def]
  rw [List.getElem?_map]
  cases q : as[i]? with
  | none => rfl
  | some a => cases a <;> rfl
/-- all that the way out needs to know -/
structure Way (as : List Ar) (b : Option M) (ρ' : Env) (σa σ' : St) : Prop where
  out : ∀ i m p l, gt ((putM as b).map arEV) i = .own m p l → p = true ∧ l = false ∧ (∃ m0, gt (as.map arEV) i = .own m0 true false) ∧ gt ρ' i = .own m true false
  pin : ∀ i m0 p l, gt (as.map arEV) i = .own m0 p l → ∃ m, gt ((putM as b).map arEV) i = .own m true false
  val : ∀ i d, gt ((putM as b).map arEV) i = .val d → gt (as.map arEV) i = .val d
theorem way_of {as : List Ar} {rf : Option Nat} {b : Option M} {σa : St} (ok : okArgs 0 rf as = true) (hb : backs ρ' rf = some b) : Way as b ρ' σa σ' := by
  refine ⟨fun i m p l g => ?_, fun i m0 p l g => ?_, fun i d g => ?_⟩
  · rw [gt_ar, putM_get] at g
    cases q : as[i]? with
    | none => rw [q] at g; cases g
    | some a =>
      rw [q] at g
      cases a with
      | d d => cases b <;> cases g
      | m m0 =>
        have e := ok_args ok q
        rw [Nat.zero_add] at e
        subst e
        unfold backs at hb
        dsimp only at hb
        split at hb
        · rename_i m1 gm
          cases hb
          cases g
          exact ⟨rfl, rfl, ⟨m0, by rw [gt_ar, q]⟩, gm⟩
        · cases hb
  · rw [gt_ar] at g
    cases q : as[i]? with
    | none => rw [q] at g; cases g
    | some a =>
      rw [q] at g
      cases a with
      | d d => cases g
      | m m1 =>
        rw [gt_ar, putM_get, q]
        cases b with
        | none => exact ⟨_, rfl⟩
        | some x => exact ⟨_, rfl⟩
  · rw [gt_ar, putM_get] at g
    rw [gt_ar]
    cases q : as[i]? with
    | none => rw [q] at g; cases g
    | some a =>
      rw [q] at g
      cases a with
      | d d => cases b <;> exact g
      | m m1 => cases b <;> cases g
theorem exit_er {as : List Ar} {b : Option M} {σa : St} {k : Nat} (w : Way as b ρ' σa σ') (er0 : ER K cA G σa H (as.map arEV)) (er : ER K cA G' σ' H' ρ')
    (st : Step (as.map arEV ++ List.replicate k .no) (σa ++ List.replicate k none) H ρ' σ' H') (hG : ∀ a, G' a → G a ∨ H a = none ∨ Fre (as.map arEV) σa a) :
    ER K cA G' σa H' ((putM as b).map arEV) ∧ (∀ a, Ow ((putM as b).map arEV) σa a → Ow ρ' σ' a ∧ Fre (as.map arEV) σa a) := by
  have pl : ∀ i m p l, gt ((putM as b).map arEV) i = .own m p l → σ'[i]? = σa[i]? ∧ ∃ a, σa[i]? = some (some (.ref a)) := fun i m p l g => by
    obtain ⟨_, _, ⟨m0, g0⟩, g1⟩ := w.out i m p l g
    obtain ⟨a, ha, _⟩ := er0.own _ _ _ _ g0
    have e := (st.pin i (by unfold pinned; rw [gt_ext, g0])).2
    rw [st_ext'.mpr ha] at e
    exact ⟨e.trans ha.symm, a, ha⟩
  have ow : ∀ a, Ow ((putM as b).map arEV) σa a → Ow ρ' σ' a ∧ Fre (as.map arEV) σa a := fun a ⟨i, m, p, l, g, h⟩ => by
    obtain ⟨_, _, ⟨m0, g0⟩, g1⟩ := w.out i m p l g
    exact ⟨⟨i, m, true, false, g1, (pl i m p l g).1.trans h⟩, i, m0, true, g0, h⟩
  have t0 : Tr (AvO G (as.map arEV) σa) (AvO G' ((putM as b).map arEV) σa) H H' := fun b n h => by
    refine ⟨fun z => ?_, ?_⟩
    · rcases z with z | z
      · rcases hG _ z with z | z | z
        · exact n (.inl z)
        · exact h z
        · exact n (.inr z.ow)
      · exact n (.inr (ow b z).2.ow)
    · cases q : H b with
      | none => exact absurd q h
      | some o => exact .inl (by rw [q]; exact st.keep b o q fun f => n (.inr (fre_ext.mp f).ow))
  have t1 : Tr (AvO G' ρ' σ') (AvO G' ((putM as b).map arEV) σa) H' H' := fun b n h => ⟨fun z => n (z.elim .inl fun z => .inr (ow b z).1), .inl rfl⟩
  refine ⟨⟨?_, fun i d g => ?_, fun i m p l g => ?_, fun i j a m p l m' p' l' g g' h h' => ?_, er.gin⟩, ow⟩
  · rw [List.length_map, putM_len, ← er0.len, List.length_map]
  · obtain ⟨v, hv, r⟩ := er0.val i d (w.val i d g)
    exact ⟨v, hv, r.tr t0⟩
  · obtain ⟨_, _, _, g1⟩ := w.out i m p l g
    obtain ⟨a, ha, ng, r, nf⟩ := er.own i m _ _ g1
    exact ⟨a, (pl i m p l g).1.symm.trans ha, ng, r.tr t1 (.inl rfl), fun _ => nf rfl⟩
  · obtain ⟨_, _, ⟨m0, g0⟩, _⟩ := w.out i m p l g
    obtain ⟨_, _, ⟨m1, g2⟩, _⟩ := w.out j m' p' l' g'
    exact er0.dis i j a _ _ _ _ _ _ g0 g2 h h'
theorem kept_arEV {as : List Ar} {i : Nat} : gt (as.map arEV) i ≠ .kept := by
  intro h
  simp only [gt_def] at h
  rw [List.getElem?_map] at h
  cases e : as[i]? with
  | none => rw [e] at h; cases h
  | some a => rw [e] at h; cases a <;> cases h
theorem exit_step {as : List Ar} {b : Option M} {σa : St} {k : Nat} (w : Way as b ρ' σa σ') (ow : ∀ a, Ow ((putM as b).map arEV) σa a → Ow ρ' σ' a ∧ Fre (as.map arEV) σa a)
    (st : Step (as.map arEV ++ List.replicate k .no) (σa ++ List.replicate k none) H ρ' σ' H') : Step (as.map arEV) σa H ((putM as b).map arEV) σa H' := by
  refine ⟨fun b o h n => st.keep b o h fun f => n (fre_ext.mp f), fun a h => .inl (ow a h).2.ow, fun a h => .inl (ow a h.ow).2, fun i h => ⟨?_, rfl⟩, st.dom, fun i m p g => ?_⟩
  · unfold pinned at h
    cases q : gt (as.map arEV) i with
    | no => rw [q] at h; cases h
    | val d => rw [q] at h; cases h
    | kept => exact absurd q kept_arEV
    | own m p l =>
      obtain ⟨m1, g⟩ := w.pin i m p l q
      unfold pinned
      rw [g]
  · obtain ⟨_, z, _⟩ := w.out i m p true g
    cases z
theorem exit_rr {as : List Ar} {b : Option M} {σa : St} {k : Nat} {r : RV} {v : V} (w : Way as b ρ' σa σ') (er0 : ER K cA G σa H (as.map arEV)) (ok : rvOk r = true)
    (rq : RQ K cA G (as.map arEV ++ List.replicate k .no) (σa ++ List.replicate k none) H ρ' σ' H' r v)
    (st : Step (as.map arEV ++ List.replicate k .no) (σa ++ List.replicate k none) H ρ' σ' H') : RR K cA G (as.map arEV) σa H ((putM as b).map arEV) H' r v ∧ Step (as.map arEV) σa H ((putM as b).map arEV) σa H' := by
  cases r with
  | p i => cases ok
  | d d =>
    obtain ⟨er, rd⟩ := rq
    obtain ⟨e1, ow⟩ := exit_er w er0 er st fun a h => .inl h
    have t1 : Tr (AvO G ρ' σ') (AvO G ((putM as b).map arEV) σa) H' H' := fun b n h => ⟨fun z => n (z.elim .inl fun z => .inr (ow b z).1), .inl rfl⟩
    exact ⟨⟨e1, rd.tr t1⟩, exit_step w ow st⟩
  | f m =>
    obtain ⟨p, rfl, er, rm, nf, na, nw⟩ := rq
    have nw' : Fre (as.map arEV) σa p ∨ H p = none := nw.elim (fun z => .inl (fre_ext.mp z)) .inr
    obtain ⟨e1, ow⟩ := exit_er w er0 er st fun a h => h.elim .inl fun z => .inr (by rw [z]; exact nw'.symm)
    have t1 : Tr (AvO (plus G p) ρ' σ') (AvO (plus G p) ((putM as b).map arEV) σa) H' H' := fun b n h => ⟨fun z => n (z.elim .inl fun z => .inr (ow b z).1), .inl rfl⟩
    exact ⟨⟨p, rfl, e1, rm.tr t1 (.inl rfl), nf, fun z => na (z.elim .inl fun z => .inr (ow p z).1), nw'⟩, exit_step w ow st⟩
/-! ### every def keeps its promise -/
theorem funD_ok {P : Program} {w : World} {K : PySem.W.Frag} {mg : Str → Option Value} {base : Heap} {x qual : Str} {st : Stmt} {dvs : List V} {kws : List (Str × V)} {f : Addr} {fd : FuncData} {N ps : List Str} {k : Nat} {sp : Sp} (F : L2.FunD K x qual (defArgs st) (defBody st) (defScope st) dvs kws f fd) (S : FnScope N ps (defScope st)) (len : ∀ vs H Q E, sp vs H Q E → vs.length = ps.length)
    (hbody : ∀ (cdv : Value) (A : Around) (outer : List PySem.Env) (s : Shared) (H : Hp) (vs : List V) (Q : VK) (E : XK), Room k (A.deeper (PyProof.Rows.envOfC qual (defScope st) s.heap.objs.size f cdv)) → sp vs H Q E →
      ∃ t, PSs (cxOf CX0 P w K mg base N qual (defScope st) f cdv A outer s H E).nox (defBody st) t ∧ t { nx := fun _ H' => Q .non H', rt := Q } (start N vs) H) : FnOk P w K mg base CX0 (k + 1) f fd ps sp :=
  F.ok S len fun cdv A outer s H vs Q E hr hsp => by
    obtain ⟨t, h, q⟩ := hbody cdv A outer s H vs Q E hr hsp
    exact ⟨t, h.nox, q⟩
theorem fun_toD {K : PySem.W.Frag} {x qual : Str} {st : Stmt} {f : Addr} {fd : FuncData} (F : L2.Fun K x qual st f fd) : L2.FunD K x qual (defArgs st) (defBody st) (defScope st) [] [] f fd := ⟨by
  obtain ⟨oc, od, kV, doc, pm, an, cdv, ct, osl, e, lk, hc⟩ := F.ex
  exact ⟨oc, od, .none, kV, doc, pm, an, cdv, ct, osl, e, lk, hc, .inl ⟨rfl, rfl⟩, .inl rfl⟩, F.kp⟩
/-- a def of the table, as it stands behind the top -/
structure DefAt (K : PySem.W.Frag) (nm : Nms) (fd : FD) (fa : Addr) (fdd : FuncData) (ps : List Str) : Prop where
  ex : ∃ (st : Stmt) (N : List Str) (x q : Str) (dvs : List V) (kws : List (Str × V)), L2.FunD K x q (defArgs st) (defBody st) (defScope st) dvs kws fa fdd ∧ FnScope N ps (defScope st) ∧ Binds K fdd ps [] ∧ fd.ns = N.length ∧ fd.np = ps.length ∧ chkB ⟨nm, N, defScope st, true⟩ fd.body (defBody st) = true
/-- by which names it is found -/
structure WhoAt (K : PySem.W.Frag) (cA : Nat → Addr) (mg : Str → Option Value) (nm : Nms) (f : Nat) (fa : Addr) : Prop where
  fn : ∀ x, nm.fnm f = some x → mg x = some (.ref fa)
  mt : ∀ c m, nm.mnm f = some (c, m) → Cls K (cA c) ∧ Meth K (cA c) (S m) fa
  pr : ∀ c m, nm.pnm f = some (c, m) → Cls K (cA c) ∧ ∃ p, PropOf K (cA c) (S m) p fa
  it : ∀ c x, nm.inm f = some (c, x) → Mk K (cA c) fa ∧ mg x = some (.ref (cA c))
def Named (nm : Nms) (f : Nat) : Prop := (∃ x, nm.fnm f = some x) ∨ (∃ c m, nm.mnm f = some (c, m)) ∨ (∃ c m, nm.pnm f = some (c, m)) ∨ ∃ c x, nm.inm f = some (c, x)
variable {P : Program} {w : World} {mg : Str → Option Value} {base : Heap}
/-- the table, all of it -/
structure TabAt (K : PySem.W.Frag) (w : World) (cA : Nat → Addr) (mg : Str → Option Value) (p : Pr) (nm : Nms) : Prop where
  df : ∀ f fd, p.defs f = some fd → ∃ fa fdd ps, DefAt K nm fd fa fdd ps ∧ WhoAt K cA mg nm f fa
  bn : ∀ x ∈ bnames, mg x = none
  gl : ∀ g x, nm.gnm g = some x → ∀ d, p.glob g = some d → ∃ u v, mg x = some u ∧ RelV v u ∧ ∀ Av H, Rep K cA Av H d v
  fl : ∀ c a, p.fld c a = true → Cls K (cA c) ∧ NoAttr K (cA c) (S a)
  kd : ∀ g x kvs, nm.gnm g = some x → p.gdic g = some kvs → ∃ q kv, mg x = some (.ref q) ∧ Sx.KD K w q kv ∧ Paired (fun (a : Cs × D) (b : Str × V) => b.1 = S a.1 ∧ ∀ Av H, Rep K cA Av H a.2 b.2) kvs kv
theorem len_start {vs : List V} {as : List Ar} (er : ER K cA G (vs.map some) H (as.map arEV)) : vs.length = as.length := by
  have := er.len
  rw [List.length_map, List.length_map] at this
  exact this.symm
/-- what is known of a def that is called -/
abbrev CalF (P : Program) (w : World) (K : PySem.W.Frag) (cA : Nat → Addr) (mg : Str → Option Value) (base : Heap) (nm : Nms) (n f : Nat) (cl : List Ar → Res) : Prop :=
  ∃ fa fd ps, FnOk P w K mg base CX0 n fa fd ps (spF K cA cl) ∧ PySem.W.keepIn K (.ref fa) = true ∧ Binds K fd ps [] ∧ WhoAt K cA mg nm f fa
def below (p : Pr) : Nat → Nat → List Ar → Res
  | 0 => fun _ _ => .bad
  | m + 1 => callF p m
theorem fn_step {p : Pr} {nm : Nms} {n f : Nat} {fd : FD} {fa : Addr} {fdd : FuncData} {ps : List Str} (T : TabAt K w cA mg p nm) (hp : p.defs f = some fd) (D : DefAt K nm fd fa fdd ps)
    (ih : ∀ f, Named nm f → CalF P w K cA mg base nm n f (callF p n f)) (ih2 : ∀ l f, n = l + 1 → Named nm f → CalF P w K cA mg base nm l f (callF p l f)) : FnOk P w K mg base CX0 (n + 1) fa fdd ps (spF K cA (callF p (n + 1) f)) := by
  obtain ⟨st, N, x, qn, dvs, kws, F, S, B, e1, e2, hc⟩ := D.ex
  have unf : ∀ {as : List Ar} {r : RV} {back : Option M}, callF p (n + 1) f as = .ok r back → as.length = fd.np ∧ okArgs 0 fd.rf as = true ∧ leave fd (evB ⟨callF p n, below p n, p.glob, p.gdic, p.fld, p.W⟩ fd.body (as.map arEV ++ List.replicate (fd.ns - fd.np) .no)) = .ok r back := fun {as r back} e => by
    unfold callF at e
    rw [hp] at e
    dsimp only at e
    split at e
    · rename_i ρ0 he
      unfold entry at he
      split at he
      · rename_i hc
        simp only [Bool.and_eq_true, decide_eq_true_eq] at hc
        cases he
        refine ⟨hc.1.1, hc.2, ?_⟩
        rw [← e]
        cases n <;> rfl
      · cases he
    · cases e
  refine funD_ok F S (fun vs H Q E z => ?_) fun cdv A outer s H vs Q E hr z => ?_
  · obtain ⟨G, as, r, back, er, e, _⟩ := z
    rw [len_start er, (unf e).1, e2]
  · obtain ⟨G, as, r, back, er, e, ok, q⟩ := z
    obtain ⟨u1, u2, u3⟩ := unf e
    have low : ∀ f, (∃ as r b, below p n f as = .ok r b) → ∃ l, n = l + 1 ∧ below p n = callF p l := fun f ⟨as, r, b, z⟩ => by
      cases n with
      | zero => cases z
      | succ l => exact ⟨l, rfl, rfl⟩
    have fa' : Fa ⟨nm, N, defScope st, true⟩ ⟨callF p n, below p n, p.glob, p.gdic, p.fld, p.W⟩ cA (cxOf CX0 P w K mg base N qn (defScope st) fa cdv A outer s H E).nox n :=
      ⟨rfl, rfl, rfl, S.nd, hr, rfl, fun _ _ => rfl, T.bn, T.gl, T.fl, T.kd, fun f c m h => by
        obtain ⟨fa, fd, ps, F1, kp, b, w1⟩ := ih f (.inr (.inl ⟨c, m, h⟩))
        exact ⟨fa, fd, ps, F1, (w1.mt c m h).1, (w1.mt c m h).2, b⟩, fun f c m h hx => by
        obtain ⟨l, hl, hb⟩ := low f hx
        obtain ⟨fa, fd, ps, F1, kp, b, w1⟩ := ih2 l f hl (.inr (.inr (.inl ⟨c, m, h⟩)))
        obtain ⟨c1, q1, c2⟩ := w1.pr c m h
        exact ⟨l, q1, fa, fd, ps, hl, by show FnOk P w K mg base CX0 l fa fd ps (spF K cA (below p n f)); rw [hb]; exact F1, c1, c2, b⟩, fun f c x h hx => by
        obtain ⟨l, hl, hb⟩ := low f hx
        obtain ⟨fa, fd, ps, F1, kp, b, w1⟩ := ih2 l f hl (.inr (.inr (.inr ⟨c, x, h⟩)))
        exact ⟨l, fa, fd, ps, hl, by show FnOk P w K mg base CX0 l fa fd ps (spF K cA (below p n f)); rw [hb]; exact F1, (w1.it c x h).1, (w1.it c x h).2, b⟩, fun f x h => by
        obtain ⟨fa, fd, ps, F1, kp, b, w1⟩ := ih f (.inl ⟨x, h⟩)
        exact ⟨fa, fd, ps, F1, w1.fn x h, kp, b⟩⟩
    refine ⟨_, snd_B fa' fd.body _ hc, ?_⟩
    have hl : vs.length = fd.np := (len_start er).trans u1
    have hk : N.length - vs.length = fd.ns - fd.np := by rw [e1, hl]
    unfold leave at u3
    split at u3
    · rename_i ρ' hev
      split at u3
      · rename_i b hb
        cases u3
        refine ⟨G, _, _, ρ', ?_, hev, fun σ' H' er' st' => ?_⟩
        · unfold L2.start
          rw [hk]
          exact er_ext er
        · unfold L2.start at st'
          rw [hk] at st'
          obtain ⟨a1, a2⟩ := exit_rr (r := .d .non) (v := .non) (way_of u2 hb) er rfl ⟨er', by rw [Rep]⟩ st'
          exact q _ _ a1 a2
      · cases u3
    · rename_i r' ρ' hev
      split at u3
      · rename_i b hb
        split at u3
        · cases u3
          refine ⟨G, _, _, ρ', ?_, hev, fun v σ' H' rq st' => ?_⟩
          · unfold L2.start
            rw [hk]
            exact er_ext er
          · unfold L2.start at st' rq
            rw [hk] at st' rq
            obtain ⟨a1, a2⟩ := exit_rr (way_of u2 hb) er ok rq st'
            exact q _ _ a1 a2
        · cases u3
      · cases u3
    · cases u3
/-- the defs whose promise comes from elsewhere -/
def ExtOk (P : Program) (w : World) (K : PySem.W.Frag) (cA : Nat → Addr) (mg : Str → Option Value) (base : Heap) (p : Pr) (nm : Nms) : Prop :=
  ∀ n f, Named nm f → p.defs f = none → CalF P w K cA mg base nm (n + 1) f (extR (p.ext (n + 1) f))
theorem fns_ok {p : Pr} {nm : Nms} (T : TabAt K w cA mg p nm) (E : ExtOk P w K cA mg base p nm) : ∀ n f, Named nm f → CalF P w K cA mg base nm n f (callF p n f)
  | 0, f, h => by
    have no : ∀ {fa : Addr} {fdd : FuncData} {ps : List Str}, FnOk P w K mg base CX0 0 fa fdd ps (spF K cA (callF p 0 f)) := fun {fa fdd ps} => by
      refine ⟨fun vs H Q E z => ?_, fun A outer s H args us vs Q E hr he hb hv z => ?_⟩
      · obtain ⟨G, as, r, back, er, e, _⟩ := z
        cases e
      · obtain ⟨G, as, r, back, er, e, _⟩ := z
        cases e
    cases hp : p.defs f with
    | some fd =>
      obtain ⟨fa, fdd, ps, D, W⟩ := T.df f fd hp
      obtain ⟨st, N, x, qn, dvs, kws, F, S, B, _⟩ := D.ex
      exact ⟨fa, fdd, ps, no, F.kp, B, W⟩
    | none =>
      obtain ⟨fa, fdd, ps, _, k, B, W⟩ := E 0 f h hp
      exact ⟨fa, fdd, ps, no, k, B, W⟩
  | n + 1, f, h => by
    cases hp : p.defs f with
    | some fd =>
      obtain ⟨fa, fdd, ps, D, W⟩ := T.df f fd hp
      have D' := D
      obtain ⟨st, N, x, qn, dvs, kws, F, S, B, _⟩ := D'.ex
      exact ⟨fa, fdd, ps, fn_step T hp D (fun f h => fns_ok T E n f h) (fun l f hl h => by subst hl; exact fns_ok T E l f h), F.kp, B, W⟩
    | none =>
      have q := E n f h hp
      have e : callF p (n + 1) f = extR (p.ext (n + 1) f) := by
        funext as
        unfold callF
        rw [hp]
      rw [e]
      exact q
/-- what a def from elsewhere must keep: values in; out a value, or a new thing that nothing else holds -/
theorem ext_sp {g : List D → Option RV} {vs : List V} {H : Hp} {Q : VK} {E : XK} (h : spF K cA (extR g) vs H Q E) : ∃ (Av : Addr → Prop) (ds : List D) (r : RV), Reps K cA Av H ds vs ∧ (∀ a, Av a → H a ≠ none) ∧ g ds = some r ∧
    (∀ v H', (∀ b o, H b = some o → H' b = some o) → (match r with
      | .d d => Rep K cA Av H' d v
      | .f m => ∃ a, v = .ref a ∧ H a = none ∧ RepM K cA (plus Av a) H' m a ∧ (∀ o u, H' a ≠ some (.frz o u))
      | .p _ => False) → Q v H') := by
  obtain ⟨G, as, r, back, er, e, ok, q⟩ := h
  unfold extR at e
  split at e <;> first | (cases e; done) | skip
  rename_i r' hg
  split at e <;> cases e
  obtain ⟨ds, h1, h2⟩ := Option.bind_eq_some_iff.mp hg
  have hd : as = ds.map .d := by
    clear hg h2 er q
    induction as generalizing ds with
    | nil => cases h1; rfl
    | cons a as ih =>
      cases a with
      | m m => cases h1
      | d x =>
        rw [arD] at h1
        obtain ⟨es, e1, rfl⟩ := Option.map_eq_some_iff.mp h1
        rw [List.map_cons, ← ih _ e1]
  subst hd
  have avG : AvO G ((ds.map Ar.d).map arEV) (vs.map some) = G := by
    funext b
    exact propext ⟨fun z => z.elim id fun z => absurd z nOw_d, .inl⟩
  have rp : Reps K cA G H ds vs := by
    have key : ∀ (ds : List D) (vs : List V), ds.length = vs.length → (∀ (i : Nat) (d : D), ds[i]? = some d → ∃ v, vs[i]? = some v ∧ Rep K cA G H d v) → Reps K cA G H ds vs := by
      intro ds
      induction ds with
      | nil =>
        intro vs hl _
        rw [Reps]
        exact List.eq_nil_of_length_eq_zero hl.symm
      | cons d ds ih =>
        intro vs hl h
        cases vs with
        | nil => cases hl
        | cons v vs =>
          rw [Reps]
          refine ⟨v, vs, rfl, ?_, ih vs (by simpa using hl) fun i d' q => ?_⟩
          · obtain ⟨v', e1, e2⟩ := h 0 d rfl
            cases e1
            exact e2
          · exact h (i + 1) d' q
    refine key ds vs ?_ fun i d q => ?_
    · have := er.len
      rw [List.length_map, List.length_map, List.length_map] at this
      exact this
    · obtain ⟨v, hv, r⟩ := er.val i d (by rw [gt_ar, List.getElem?_map, q]; rfl)
      rw [avG] at r
      exact ⟨v, get_map hv, r⟩
  refine ⟨G, ds, _, rp, er.gin, h2, fun v H' keep hr => ?_⟩
  have er' : ER K cA G (vs.map some) H' ((ds.map Ar.d).map arEV) := er_step er keep
  have st : Step ((ds.map Ar.d).map arEV) (vs.map some) H ((ds.map Ar.d).map arEV) (vs.map some) H' := ⟨fun b o h _ => keep b o h, fun _ h => .inl h, fun _ h => .inl h, fun _ h => ⟨h, rfl⟩, fun b h => by
    cases q : H b with
    | none => exact absurd q h
    | some o => exact some_ne (keep b o q), fun _ _ _ h => ⟨_, _, h, rfl⟩⟩
  have pm : (putM (ds.map Ar.d) none).map arEV = (ds.map Ar.d).map arEV := by rw [putM_d]
  refine q v H' ?_ (by rw [pm]; exact st)
  rw [pm]
  cases r with
  | p i => cases ok
  | d d => exact ⟨er', by rw [avG]; exact hr⟩
  | f m =>
    obtain ⟨a, rfl, na, rm, nf⟩ := hr
    have ga : ¬ G a := fun z => er.gin a z na
    have avp : AvO (plus G a) ((ds.map Ar.d).map arEV) (vs.map some) = plus G a := by
      funext b
      exact propext ⟨fun z => z.elim id fun z => absurd z nOw_d, .inl⟩
    have ha : H' a ≠ none := by
      cases m with
      | lst ds => obtain ⟨_, _, r, _⟩ := rm; exact rd_some r
      | dct ds => obtain ⟨_, r, _⟩ := rm; exact rd_some r
      | ins c ds => obtain ⟨_, _, r, _⟩ := rm; exact some_ne r
    have t : Tr G (plus G a) H H' := fun b n hb => ⟨fun z => z.elim n fun z => hb (by rw [z]; exact na), .inl (by
      cases q : H b with
      | none => exact absurd q hb
      | some o => exact keep b o q)⟩
    refine ⟨a, rfl, ⟨er.len, fun i d g => ?_, fun i m p l g => ?_, er.dis, fun b z => ?_⟩, by rw [avp]; exact rm, nf, by rw [avG]; exact ga, .inr na⟩
    · obtain ⟨v, hv, r⟩ := er.val i d g
      rw [avG] at r
      exact ⟨v, hv, by rw [avp]; exact r.tr t⟩
    · exfalso
      rw [gt_ar, List.getElem?_map] at g
      cases q : ds[i]? <;> rw [q] at g <;> cases g
    · rcases z with z | z
      · cases q : H b with
        | none => exact absurd q (er.gin b z)
        | some o => exact some_ne (keep b o q)
      · rw [z]; exact ha
/-! ### the law -/
/-- what a law promises of every list of at most m whole numbers -/
def spLaw (m : Nat) (K : PySem.W.Frag) : Sp := fun vs H Q _ => ∃ (a : Addr) (ns : List Int), vs = [.ref a] ∧ SqL K H a (ns.map V.int) ∧ ns.length ≤ m ∧ ∀ H', Q (.bl true) H'
theorem law_ok {p : Pr} {nm : Nms} {n f m : Nat} {fd : FD} {fa : Addr} {fdd : FuncData} {ps : List Str} (T : TabAt K w cA mg p nm) (X : ExtOk P w K cA mg base p nm) (hp : p.defs f = some fd) (D : DefAt K nm fd fa fdd ps)
    (hm : m ≤ SZ) (h : ∀ ns : List Int, ns.length ≤ m → callF p (n + 1) f [.d (.scr ns)] = .ok (.d (.bl true)) none) : FnOk P w K mg base CX0 (n + 1) fa fdd ps (spLaw m K) := by
  refine (fn_step T hp D (fun f h => fns_ok T X n f h) (fun l f _ h => fns_ok T X l f h)).imp fun vs H Q E ⟨a, ns, e, sq, hl, q⟩ => ?_
  subst e
  refine ⟨fun _ => False, [.d (.scr ns)], _, _, ?_, h ns hl, rfl, fun v H' rr _ => ?_⟩
  · refine er_vals (ds := [.scr ns]) (fun a z => z.elim) ?_
    rw [Reps]
    refine ⟨.ref a, [], rfl, ?_, by rw [Reps]⟩
    rw [Rep]
    refine ⟨a, rfl, Nat.le_trans hl hm, ?_⟩
    rcases sq with r | r
    · exact .inl ⟨id, r⟩
    · exact .inr r
  · have r := rr.2
    rw [Rep] at r
    subst r
    exact q H'
end
end Ev
end
/-! Sh -/
section
set_option Elab.async false
set_option linter.all false
set_option maxRecDepth 100000
set_option maxHeartbeats 4000000
/-! the same terms as functions -/
namespace Ev
structure SE where of ::
  run : Cn → Env → Out RV
  st : Option (Cn → Env → Out RV) := none
abbrev SS := Cn → Env → Out Flow
def sSp (C : Cn) : List SE → Env → Out (List D)
  | [], ρ => .ok [] ρ
  | e :: es, ρ => match e.st with
    | some f => (f C ρ).bind fun r ρ => (Out.of ρ ((look ρ r.hold).bind seqOf)).bind fun d ρ => (sSp C es ρ).bind fun ds ρ => .ok (d ++ ds) ρ
    | none => (e.run C ρ).bind fun r ρ => (Out.of ρ r.dat?).bind fun d ρ => (sSp C es ρ).bind fun ds ρ => .ok (d :: ds) ρ
def sR (C : Cn) : List SE → Env → Out (List RV)
  | [], ρ => .ok [] ρ
  | e :: es, ρ => (e.run C ρ).bind fun r ρ => (sR C es ρ).bind fun rs ρ => .ok (r.hold :: rs) ρ
def sC (C : Cn) : List SE → Env → Out Bool
  | [], ρ => .ok true ρ
  | e :: es, ρ => (e.run C ρ).bind fun r ρ => match blOf r with
    | some true => sC C es ρ
    | some false => .ok false ρ
    | none => .bad
def sPs (C : Cn) : List SE → Env → Out (List (DK × D))
  | [], ρ => .ok [] ρ
  | [_], _ => .bad
  | k :: v :: vs, ρ => (k.run C ρ).bind fun a ρ => (v.run C ρ).bind fun r ρ => (Out.of ρ (((look ρ a.hold).bind key?).bind fun a => r.dat?.map fun r => (a, r))).bind fun p ρ => (sPs C vs ρ).bind fun ps ρ => .ok (p :: ps) ρ
def sFs (C : Cn) : List SE → Env → Cs → Out Cs
  | [], ρ, acc => .ok acc ρ
  | e :: es, ρ, acc => (e.run C ρ).bind fun x ρ => match x with
    | .d (.str l) => if okCb (acc ++ l) then sFs C es ρ (acc ++ l) else .bad
    | .d (.int i) => if decide (i.natAbs.log2 < 1920) && okCb (acc ++ strOf i) then sFs C es ρ (acc ++ strOf i) else .bad
    | _ => .bad
def sO (C : Cn) : Option SE → Env → Out (Option D)
  | none, ρ => .ok none ρ
  | some e, ρ => (e.run C ρ).bind fun r ρ => match r with
    | .d x => .ok (some x) ρ
    | _ => .bad
def sRs (C : Cn) : List SE → Env → Out (List RV)
  | [], ρ => .ok [] ρ
  | e :: es, ρ => (e.run C ρ).bind fun r ρ => if rvOk r then (sRs C es ρ).bind fun rs ρ => .ok (r :: rs) ρ else .bad
def SE.fx (f : FX) (es : List SE) : SE := ⟨fun C ρ => (sR C es ρ).bind fun rs ρ => Out.of ρ ((lookAll ρ rs).bind (fxE f)), none⟩
def SE.att (e : SE) (a : Cs) : SE := ⟨fun C ρ => (e.run C ρ).bind fun x ρ => match look ρ x.hold with
    | some (.ins c fs) => if C.fld c a then Out.of ρ ((getF fs a).map .d) else .bad
    | _ => .bad, none⟩
def SE.mk (c : Nat) (f : Nat) (es : List SE) : SE := ⟨fun C ρ => (sR C es ρ).bind fun rs ρ => match datAll rs with
    | some ds => match C.cmk f (.m (.ins c []) :: ds.map .d) with
      | .ok (.d .non) (some (.ins c' fs)) => if c' = c then .ok (.f (.ins c fs)) ρ else .bad
      | _ => .bad
    | none => .bad, none⟩
def SE.meth (c : Nat) (f : Nat) (m : Cs) (o : SE) (es : List SE) : SE := ⟨fun C ρ => (o.run C ρ).bind fun x ρ => match x.hold with
    | .d (.ins c' fs) => if c' = c ∧ getF fs m = none then (sR C es ρ).bind fun rs ρ => match datAll rs with
        | some ds => match C.call f (.d (.ins c fs) :: ds.map .d) with
          | .ok r none => if rvOk r then .ok r ρ else .bad
          | _ => .bad
        | none => .bad
      else .bad
    | _ => .bad, none⟩
def SE.prop (c : Nat) (f : Nat) (o : SE) : SE := ⟨fun C ρ => (o.run C ρ).bind fun x ρ => match x.hold with
    | .d (.ins c' fs) => if c' = c then (match C.cmk f [.d (.ins c fs)] with
          | .ok r none => if rvOk r then .ok r ρ else .bad
          | _ => .bad)
      else .bad
    | _ => .bad, none⟩
def SE.inKD (g : Nat) (neg : Bool) (e : SE) : SE := ⟨fun C ρ => (e.run C ρ).bind fun x ρ => match x, C.gdic g with
    | .d (.str z), some kvs => .ok (.d (.bl (if neg then !(lookKD kvs z).isSome else (lookKD kvs z).isSome))) ρ
    | _, _ => .bad, none⟩
def SE.ixKD (g : Nat) (e : SE) : SE := ⟨fun C ρ => (e.run C ρ).bind fun x ρ => match x, C.gdic g with
    | .d (.str z), some kvs => Out.of ρ ((lookKD kvs z).map .d)
    | _, _ => .bad, none⟩
def SE.lc2 (own : List Nat) (tg : Tg) (it : SE) (cs : List SE) (own1 : List Nat) (tg1 : Tg) (it1 : SE) (cs1 : List SE) (e : SE) : SE := ⟨fun C ρ => (it.run C ρ).bind fun x ρ => match walk ρ x with
      | some ds => if noPin own ρ then (evLc2 (fun d ρ => (Out.of ρ (bindT tg d ρ)).bind fun ρ' _ => (sC C cs ρ').bind fun b ρ => if b then (it1.run C ρ).bind fun y ρ => (match walk ρ y with
          | some ys => if noPin own1 ρ && isTupR y then .ok (some ys) ρ else .bad
          | none => .bad) else .ok none ρ)
          (fun d ρ => (Out.of ρ (bindT tg1 d ρ)).bind fun ρ' _ => (sC C cs1 ρ').bind fun b ρ => if b then (e.run C ρ).bind fun r ρ => Out.of ρ (r.dat?.map some) else .ok none ρ) (wipeE own) (wipeE own1) ds (wipeE own ρ) []).bind fun ds ρ => if ds.length ≤ SZ then .ok (.f (.lst ds)) ρ else .bad
        else .bad
      | none => .bad, none⟩
def SE.scs (own : List Nat) (tg : Tg) (it : SE) (lk : Option Nat) (cs : List SE) (e : SE) : SE := ⟨fun C ρ => match lockE ρ lk with
    | some ρ => (it.run C ρ).bind fun x ρ => match walk ρ x with
      | some ds => if noPin own ρ && decide (ds.length < 1000) then (evLc (fun d ρ => (Out.of ρ (bindT tg d ρ)).bind fun ρ' _ => (sC C cs ρ').bind fun b ρ => if b then (e.run C ρ).bind fun r ρ => Out.of ρ (r.dat?.bind fun d => match d with
          | .str l => some (some l)
          | _ => none) else .ok none ρ) (wipeE own) ds (wipeE own ρ) []).bind fun ls ρ => if ls.length < 64 then .ok (.f (.lst ((sortS (distS ls)).map .str))) (unlockE ρ lk) else .bad
        else .bad
      | none => .bad
    | none => .bad, none⟩
def SE.dspS (e : SE) (es : List SE) : SE := ⟨fun C ρ => (e.run C ρ).bind fun x ρ => match look ρ x.hold with
    | some (.dct k0) => (sPs C es ρ).bind fun kvs ρ => if k0.length + kvs.length ≤ SZ then .ok (.f (.dct (mergeK (mergeK [] k0) (mergeK [] kvs)))) ρ else .bad
    | _ => .bad, none⟩
def SE.fstr (es : List SE) : SE := ⟨fun C ρ => (sFs C es ρ []).bind fun l ρ => .ok (.d (.str l)) ρ, none⟩
def SE.var (i : Nat) : SE := ⟨fun C ρ => match gt ρ i with
    | .val d => .ok (.d d) ρ
    | _ => .bad, none⟩
def SE.peek (i : Nat) : SE := ⟨fun C ρ => match gt ρ i with
    | .own _ _ _ => .ok (.p i) ρ
    | _ => .bad, none⟩
def SE.take (i : Nat) : SE := ⟨fun C ρ => match gt ρ i with
    | .own m false false => .ok (.f m) (setE ρ i .no)
    | _ => .bad, none⟩
def SE.frz (i : Nat) : SE := ⟨fun C ρ => match gt ρ i with
    | .own m false false => .ok (.d m.dat) (setE ρ i (.val m.dat))
    | _ => .bad, none⟩
def SE.lit (d : D) : SE := ⟨fun C ρ => .ok (.d d) ρ, none⟩
def SE.glob (g : Nat) : SE := ⟨fun C ρ => Out.of ρ ((C.glob g).map .d), none⟩
def SE.tup (es : List SE) : SE := ⟨fun C ρ => (sR C es ρ).bind fun rs ρ => Out.of ρ ((datAll rs).map fun ds => .d (.tup ds)), none⟩
def SE.lst (es : List SE) : SE := ⟨fun C ρ => (sR C es ρ).bind fun rs ρ => Out.of ρ ((datAll rs).map fun ds => .f (.lst ds)), none⟩
def SE.star (e : SE) : SE := ⟨fun C _ => .bad, some e.run⟩
def SE.tupS (es : List SE) : SE := ⟨fun C ρ => (sSp C es ρ).bind fun ds ρ => if ds.length ≤ SZ then .ok (.d (.tup ds)) ρ else .bad, none⟩
def SE.lstS (es : List SE) : SE := ⟨fun C ρ => (sSp C es ρ).bind fun ds ρ => if ds.length ≤ SZ then .ok (.f (.lst ds)) ρ else .bad, none⟩
def SE.dsp (kvs : List SE) : SE := ⟨fun C ρ => (sPs C kvs ρ).bind fun kvs ρ => .ok (.f (.dct (mergeK [] kvs))) ρ, none⟩
def SE.bin (op : BOp) (a : SE) (b : SE) : SE := ⟨fun C ρ => (a.run C ρ).bind fun x ρ => (b.run C ρ).bind fun y ρ => Out.of ρ ((look ρ x.hold).bind fun x => (look ρ y).bind fun y => binE op x y), none⟩
def SE.neg (a : SE) : SE := ⟨fun C ρ => (a.run C ρ).bind fun x ρ => match x with
    | .d (.int i) => .ok (.d (.int (-i))) ρ
    | _ => .bad, none⟩
def SE.cmp (op : COp) (a : SE) (b : SE) : SE := ⟨fun C ρ => (a.run C ρ).bind fun x ρ => (b.run C ρ).bind fun y ρ => Out.of ρ ((look ρ x.hold).bind fun x => (look ρ y).bind fun y => (cmpE op x y).map fun b => .d (.bl b)), none⟩
def SE.and (a : SE) (b : SE) : SE := ⟨fun C ρ => (a.run C ρ).bind fun x ρ => match blOf x with
    | some true => b.run C ρ
    | some false => .ok (.d (.bl false)) ρ
    | none => .bad, none⟩
def SE.or (a : SE) (b : SE) : SE := ⟨fun C ρ => (a.run C ρ).bind fun x ρ => match blOf x with
    | some true => .ok (.d (.bl true)) ρ
    | some false => b.run C ρ
    | none => .bad, none⟩
def SE.not (a : SE) : SE := ⟨fun C ρ => (a.run C ρ).bind fun x ρ => match blOf x with
    | some b => .ok (.d (.bl (!b))) ρ
    | none => .bad, none⟩
def SE.tru (a : SE) : SE := ⟨fun C ρ => (a.run C ρ).bind fun x ρ => Out.of ρ ((look ρ x).bind fun x => (truth x).map fun b => .d (.bl b)), none⟩
def SE.ite (c : SE) (a : SE) (b : SE) : SE := ⟨fun C ρ => (c.run C ρ).bind fun x ρ => match blOf x with
    | some true => a.run C ρ
    | some false => b.run C ρ
    | none => .bad, none⟩
def SE.idx (a : SE) (b : SE) : SE := ⟨fun C ρ => (a.run C ρ).bind fun x ρ => (b.run C ρ).bind fun y ρ => Out.of ρ ((look ρ x.hold).bind fun x => (look ρ y).bind fun y => (idxE x y).map .d), none⟩
def SE.slc (a : SE) (lo : Option SE) (hi : Option SE) : SE := ⟨fun C ρ => (a.run C ρ).bind fun x ρ => (sO C lo ρ).bind fun l ρ => (sO C hi ρ).bind fun h ρ =>
      Out.of ρ ((look ρ x.hold).bind fun x => (partE l).bind fun l => (partE h).bind fun h => slcE x l h), none⟩
def SE.bi (f : BI) (es : List SE) : SE := ⟨fun C ρ => (sR C es ρ).bind fun rs ρ => Out.of ρ ((lookAll ρ rs).bind (biE f)), none⟩
def SE.mt (m : MT) (o : SE) (es : List SE) : SE := ⟨fun C ρ => (o.run C ρ).bind fun x ρ => if mtP m (look ρ x.hold) then (sR C es ρ).bind fun rs ρ => Out.of ρ ((look ρ x.hold).bind fun x => (datAll rs).bind (mtE m x)) else .bad, none⟩
def SE.call (f : Nat) (rf : Option Nat) (es : List SE) : SE := ⟨fun C ρ => match rf with
  | none => (sR C es ρ).bind fun rs ρ => match datAll rs with
    | some ds => match C.call f (ds.map .d) with
      | .ok r none => if rvOk r then .ok r ρ else .bad
      | _ => .bad
    | none => .bad
  | some j => (sR C es ρ).bind fun rs ρ => match rs[j]? with
    | some (.p k) => match gt ρ k with
      | .own m pin false => match argsAt rs j m with
        | some as => match C.call f as with
          | .ok r (some m') => if rvOk r then .ok r (setE ρ k (.own m' pin false)) else .bad
          | _ => .bad
        | none => .bad
      | _ => .bad
    | _ => .bad, none⟩
def SE.pop (i : Nat) : SE := ⟨fun C ρ => match gt ρ i with
    | .own (.lst ds) pin false => match ds[ds.length - 1]? with
      | some d => .ok (.d d) (setE ρ i (.own (.lst ds.dropLast) pin false))
      | none => .bad
    | _ => .bad, none⟩
def SE.popAt (i : Nat) (e : SE) : SE := ⟨fun C ρ => if isL ρ i then (e.run C ρ).bind fun x ρ => match gt ρ i, x with
    | .own (.lst ds) pin false, .d (.int k) => match L2.ixN ds.length k with
      | some j => match ds[j]? with
        | some d => .ok (.d d) (setE ρ i (.own (.lst (ds.eraseIdx j)) pin false))
        | none => .bad
      | none => .bad
    | _, _ => .bad
    else .bad, none⟩
def SE.lc (own : List Nat) (tg : Tg) (it : SE) (lk : Option Nat) (cs : List SE) (e : SE) : SE := ⟨fun C ρ => match lockE ρ lk with
    | some ρ => (it.run C ρ).bind fun x ρ => match walk ρ x with
      | some ds => if noPin own ρ then (evLc (fun d ρ => (Out.of ρ (bindT tg d ρ)).bind fun ρ' _ => (sC C cs ρ').bind fun b ρ => if b then (e.run C ρ).bind fun r ρ => Out.of ρ (r.dat?.map some) else .ok none ρ) (wipeE own) ds (wipeE own ρ) []).bind fun ds ρ => .ok (.f (.lst ds)) (unlockE ρ lk)
        else .bad
      | none => .bad
    | none => .bad, none⟩
def SE.dc (own : List Nat) (tg : Tg) (it : SE) (lk : Option Nat) (cs : List SE) (k : SE) (v : SE) : SE := ⟨fun C ρ => match lockE ρ lk with
    | some ρ => (it.run C ρ).bind fun x ρ => match walk ρ x with
      | some ds => if noPin own ρ then (evLc (fun d ρ => (Out.of ρ (bindT tg d ρ)).bind fun ρ' _ => (sC C cs ρ').bind fun b ρ => if b then (k.run C ρ).bind fun a ρ => (v.run C ρ).bind fun r ρ => Out.of ρ (((look ρ a.hold).bind key?).bind fun a => r.dat?.map fun r => some (a, r)) else .ok none ρ) (wipeE own) ds (wipeE own ρ) []).bind fun kvs ρ => .ok (.f (.dct (mergeK [] kvs))) (unlockE ρ lk)
        else .bad
      | none => .bad
    | none => .bad, none⟩
def SE.rng1 (e : SE) : SE := ⟨fun C ρ => (e.run C ρ).bind fun x ρ => match x with
    | .d (.int j) => Out.of ρ ((rngE 0 j).map fun ds => .d (.lst ds))
    | _ => .bad, none⟩
def SE.rng2 (a : SE) (b : SE) : SE := ⟨fun C ρ => (a.run C ρ).bind fun x ρ => (b.run C ρ).bind fun y ρ => match x, y with
    | .d (.int i), .d (.int j) => Out.of ρ ((rngE i j).map fun ds => .d (.lst ds))
    | _, _ => .bad, none⟩
def SE.enm (e : SE) : SE := ⟨fun C ρ => (e.run C ρ).bind fun x ρ => Out.of ρ ((walkD ρ x).bind fun x => (seqOf x).map fun ds => .d (.lst (enmFrom 0 ds))), none⟩
def SE.zip (a : SE) (b : SE) : SE := ⟨fun C ρ => (a.run C ρ).bind fun x ρ => (b.run C ρ).bind fun y ρ => Out.of ρ ((look ρ x.hold).bind fun x => (look ρ y.hold).bind fun y => (seqOf x).bind fun xs => (seqOf y).map fun ys => .d (.lst (zipE xs ys))), none⟩
def SE.itms (e : SE) : SE := ⟨fun C ρ => (e.run C ρ).bind fun x ρ => Out.of ρ ((walkD ρ x).bind itmE), none⟩
def SE.vals (e : SE) : SE := ⟨fun C ρ => (e.run C ρ).bind fun x ρ => Out.of ρ ((walkD ρ x).bind valE), none⟩
def SE.keys (e : SE) : SE := ⟨fun C ρ => (e.run C ρ).bind fun x ρ => Out.of ρ ((walkD ρ x).bind keyE), none⟩
def SE.itmF (e : SE) : SE := ⟨fun C ρ => (e.run C ρ).bind fun x ρ => match x with
    | .f (.dct kvs) => Out.of ρ (itmE (.dct kvs))
    | _ => .bad, none⟩
def SE.itmD (e : SE) : SE := ⟨fun C ρ => (e.run C ρ).bind fun x ρ => match x with
    | .d (.dct kvs) => Out.of ρ (itmE (.dct kvs))
    | .f (.dct kvs) => Out.of ρ (itmE (.dct kvs))
    | _ => .bad, none⟩
def sB (C : Cn) : List SS → Env → Out Flow
  | [], ρ => .ok .nx ρ
  | s :: ss, ρ => (s C ρ).bind fun r ρ => match r with
    | .nx => sB C ss ρ
    | r => .ok r ρ
def SS.asg (i : Nat) (e : SE) : SS := fun C ρ => (e.run C ρ).bind fun r ρ => (Out.of ρ (putE ρ i r)).bind fun ρ _ => .ok .nx ρ
def SS.asgO (i : Nat) (e : SE) : SS := fun C ρ => (e.run C ρ).bind fun r ρ => (Out.of ρ (putO ρ i r)).bind fun ρ _ => .ok .nx ρ
def SS.unp (tg : Tg) (e : SE) : SS := fun C ρ => (e.run C ρ).bind fun r ρ => (Out.of ρ (r.dat?.bind fun d => bindT tg d ρ)).bind fun ρ _ => .ok .nx ρ
def SS.par (sw : Bool) (ts : List (Nat × Bool)) (es : List SE) : SS := fun C ρ => (sRs C es ρ).bind fun rs ρ => if (ts.map (·.1)).Nodup then (Out.of ρ (putAll ts rs ρ)).bind fun ρ _ => .ok .nx ρ else .bad
def SS.setI (i : Nat) (k : SE) (e : SE) : SS := fun C ρ => (e.run C ρ).bind fun r ρ => if isO ρ i then (k.run C ρ).bind fun x ρ => match r.dat?, x, gt ρ i with
    | some d, .d (.int j), .own (.lst ds) pin false => match L2.ixN ds.length j with
      | some j => .ok .nx (setE ρ i (.own (.lst (ds.set j d)) pin false))
      | none => .bad
    | some d, .d x, .own (.dct kvs) pin false => match key? x with
      | some k => if kvs.length < SZ then .ok .nx (setE ρ i (.own (.dct (putK kvs k d)) pin false)) else .bad
      | none => .bad
    | _, _, _ => .bad
    else .bad
def SS.aug (neg : Bool) (i : Nat) (e : SE) : SS := fun C ρ => match gt ρ i with
    | .val (.int x) => (e.run C ρ).bind fun r ρ => match r with
      | .d (.int y) => if pinned ρ i then .bad else .ok .nx (setE ρ i (.val (.int (if neg then x - y else x + y))))
      | _ => .bad
    | _ => .bad
def SS.augI (i : Nat) (k : SE) (e : SE) : SS := fun C ρ => if isO ρ i then (k.run C ρ).bind fun x ρ => match gt ρ i, x with
    | .own (.lst ds) _ false, .d (.int j) => match L2.atI ds j with
      | some (.int a) => (e.run C ρ).bind fun y ρ => match y, gt ρ i with
        | .d (.int y), .own (.lst ds) pin false => match L2.ixN ds.length j with
          | some j => .ok .nx (setE ρ i (.own (.lst (ds.set j (.int (a + y)))) pin false))
          | none => .bad
        | _, _ => .bad
      | _ => .bad
    | _, _ => .bad
    else .bad
def SS.app (i : Nat) (e : SE) : SS := fun C ρ => if isL ρ i then (e.run C ρ).bind fun r ρ => match r.dat?, gt ρ i with
    | some d, .own (.lst ds) pin false => if ds.length < SZ then .ok .nx (setE ρ i (.own (.lst (ds ++ [d])) pin false)) else .bad
    | _, _ => .bad
    else .bad
def SS.ext (i : Nat) (e : SE) : SS := fun C ρ => if isL ρ i then (e.run C ρ).bind fun r ρ => match r.dat?, gt ρ i with
    | some (.lst xs), .own (.lst ds) pin false => if ds.length + xs.length ≤ SZ then .ok .nx (setE ρ i (.own (.lst (ds ++ xs)) pin false)) else .bad
    | _, _ => .bad
    else .bad
def SS.upd (i : Nat) (e : SE) : SS := fun C ρ => if isDc ρ i then (e.run C ρ).bind fun r ρ => match r.dat?, gt ρ i with
    | some (.dct xs), .own (.dct kvs) pin false => if kvs.length + xs.length ≤ SZ then .ok .nx (setE ρ i (.own (.dct (mergeK kvs xs)) pin false)) else .bad
    | _, _ => .bad
    else .bad
def SS.delS (i : Nat) (e : SE) : SS := fun C ρ => if isO ρ i then (e.run C ρ).bind fun r ρ => match r, gt ρ i with
    | .d (.int k), .own (.lst ds) pin false => .ok .nx (setE ρ i (.own (.lst (ds.take (HT.sIx ds.length 0 (some k)))) pin false))
    | _, _ => .bad
    else .bad
def SS.ex (e : SE) : SS := fun C ρ => (e.run C ρ).bind fun _ ρ => .ok .nx ρ
def SS.iff (c : SE) (a : List SS) (b : List SS) : SS := fun C ρ => (c.run C ρ).bind fun x ρ => match blOf x with
    | some true => sB C a ρ
    | some false => sB C b ρ
    | none => .bad
def SS.for_ (tg : Tg) (it : SE) (lk : Option Nat) (b : List SS) : SS := fun C ρ => match lockE ρ lk with
    | some ρ => (it.run C ρ).bind fun x ρ => match walk ρ x with
      | some ds => (evFor (fun d ρ => (Out.of ρ (bindT tg d ρ)).bind fun ρ _ => sB C b ρ) ds ρ).bind fun r ρ => .ok r (unlockE ρ lk)
      | none => .bad
    | none => .bad
def SS.whl (c : SE) (b : List SS) : SS := fun C ρ => evWhl (c.run C) (sB C b) C.W ρ
def SS.ret (e : SE) : SS := fun C ρ => (e.run C ρ).bind fun r ρ => if rvOk r then .ok (.rt r) ρ else .bad
def SS.retN  : SS := fun C ρ => .ok (.rt (.d .non)) ρ
def SS.cont  : SS := fun C ρ => .ok .ct ρ
def SS.brk  : SS := fun C ρ => .ok .bk ρ
def SS.pass  : SS := fun C ρ => .ok .nx ρ
def SS.raise  : SS := fun C _ => .bad
def SS.setA (i : Nat) (a : Cs) (e : SE) : SS := fun C ρ => (e.run C ρ).bind fun r ρ => match r.dat?, gt ρ i with
    | some d, .own (.ins c fs) pin false => if C.fld c a && decide (fs.length < 1000) then .ok .nx (setE ρ i (.own (.ins c (putA a d fs)) pin false)) else .bad
    | _, _ => .bad
def SS.hide (ks : List Nat) (ws : List Nat) (b : List SS) : SS := fun C ρ => if ks.all (isV ρ) && ws.all (loose ρ) then match sB C b (wipeE ws (keptE ks ρ)) with
      | .ok .nx ρ' => .ok .nx (showE ρ ks ρ')
      | _ => .bad
    else .bad
mutual
def toS : IE → SE
  | .fx f es => .fx f (toSs es)
  | .att e a => .att (toS e) a
  | .mk c f es => .mk c f (toSs es)
  | .meth c f m o es => .meth c f m (toS o) (toSs es)
  | .prop c f o => .prop c f (toS o)
  | .inKD g neg e => .inKD g neg (toS e)
  | .ixKD g e => .ixKD g (toS e)
  | .lc2 own tg it cs own1 tg1 it1 cs1 e => .lc2 own tg (toS it) (toSs cs) own1 tg1 (toS it1) (toSs cs1) (toS e)
  | .scs own tg it lk cs e => .scs own tg (toS it) lk (toSs cs) (toS e)
  | .dspS e es => .dspS (toS e) (toSs es)
  | .fstr es => .fstr (toSs es)
  | .var i => .var i
  | .peek i => .peek i
  | .take i => .take i
  | .frz i => .frz i
  | .lit d => .lit d
  | .glob g => .glob g
  | .tup es => .tup (toSs es)
  | .lst es => .lst (toSs es)
  | .star e => .star (toS e)
  | .tupS es => .tupS (toSs es)
  | .lstS es => .lstS (toSs es)
  | .dsp kvs => .dsp (toSs kvs)
  | .bin op a b => .bin op (toS a) (toS b)
  | .neg a => .neg (toS a)
  | .cmp op a b => .cmp op (toS a) (toS b)
  | .and a b => .and (toS a) (toS b)
  | .or a b => .or (toS a) (toS b)
  | .not a => .not (toS a)
  | .tru a => .tru (toS a)
  | .ite c a b => .ite (toS c) (toS a) (toS b)
  | .idx a b => .idx (toS a) (toS b)
  | .slc a lo hi => .slc (toS a) (toSo lo) (toSo hi)
  | .bi f es => .bi f (toSs es)
  | .mt m o es => .mt m (toS o) (toSs es)
  | .call f rf es => .call f rf (toSs es)
  | .pop i => .pop i
  | .popAt i e => .popAt i (toS e)
  | .lc own tg it lk cs e => .lc own tg (toS it) lk (toSs cs) (toS e)
  | .dc own tg it lk cs k v => .dc own tg (toS it) lk (toSs cs) (toS k) (toS v)
  | .rng1 e => .rng1 (toS e)
  | .rng2 a b => .rng2 (toS a) (toS b)
  | .enm e => .enm (toS e)
  | .zip a b => .zip (toS a) (toS b)
  | .itms e => .itms (toS e)
  | .vals e => .vals (toS e)
  | .keys e => .keys (toS e)
  | .itmF e => .itmF (toS e)
  | .itmD e => .itmD (toS e)
def toSs : List IE → List SE
  | [] => []
  | e :: es => toS e :: toSs es
def toSo : Option IE → Option SE
  | none => none
  | some e => some (toS e)
end
mutual
def toT : IS → SS
  | .asg i e => SS.asg i (toS e)
  | .asgO i e => SS.asgO i (toS e)
  | .unp tg e => SS.unp tg (toS e)
  | .par sw ts es => SS.par sw ts (toSs es)
  | .setI i k e => SS.setI i (toS k) (toS e)
  | .aug neg i e => SS.aug neg i (toS e)
  | .augI i k e => SS.augI i (toS k) (toS e)
  | .app i e => SS.app i (toS e)
  | .ext i e => SS.ext i (toS e)
  | .upd i e => SS.upd i (toS e)
  | .delS i e => SS.delS i (toS e)
  | .ex e => SS.ex (toS e)
  | .iff c a b => SS.iff (toS c) (toSb a) (toSb b)
  | .for_ tg it lk b => SS.for_ tg (toS it) lk (toSb b)
  | .whl c b => SS.whl (toS c) (toSb b)
  | .ret e => SS.ret (toS e)
  | .retN  => SS.retN 
  | .cont  => SS.cont 
  | .brk  => SS.brk 
  | .pass  => SS.pass 
  | .raise  => SS.raise 
  | .setA i a e => SS.setA i a (toS e)
  | .hide ks ws b => SS.hide ks ws (toSb b)
def toSb : List IS → List SS
  | [] => []
  | s :: ss => toT s :: toSb ss
end
end Ev
end
/-! Shp -/
section
set_option Elab.async false
set_option linter.all false
set_option maxRecDepth 100000
set_option maxHeartbeats 4000000
namespace Ev
mutual
theorem run_toS (C : Cn) : ∀ e : IE, (toS e).run C = ev C e
  | .fx f es => by
    funext ρ
    (rw [toS, ev]; (try simp only [SE.fx, sR_toSs C es, sC_toSs C es, sPs_toSs C es, sSp_toSs C es, sFs_toSs C es]); (try rfl))
  | .att e a => by
    funext ρ
    (rw [toS, ev]; (try simp only [SE.att, run_toS C e]); (try rfl))
  | .mk c f es => by
    funext ρ
    (rw [toS, ev]; (try simp only [SE.mk, sR_toSs C es, sC_toSs C es, sPs_toSs C es, sSp_toSs C es, sFs_toSs C es]); (try rfl))
  | .meth c f m o es => by
    funext ρ
    (rw [toS, ev]; (try simp only [SE.meth, run_toS C o, sR_toSs C es, sC_toSs C es, sPs_toSs C es, sSp_toSs C es, sFs_toSs C es]); (try rfl))
  | .prop c f o => by
    funext ρ
    (rw [toS, ev]; (try simp only [SE.prop, run_toS C o]); (try rfl))
  | .inKD g neg e => by
    funext ρ
    (rw [toS, ev]; (try simp only [SE.inKD, run_toS C e]); (try rfl))
  | .ixKD g e => by
    funext ρ
    (rw [toS, ev]; (try simp only [SE.ixKD, run_toS C e]); (try rfl))
  | .lc2 own tg it cs own1 tg1 it1 cs1 e => by
    funext ρ
    (rw [toS, ev]; (try simp only [SE.lc2, run_toS C it, sR_toSs C cs, sC_toSs C cs, sPs_toSs C cs, sSp_toSs C cs, sFs_toSs C cs, run_toS C it1, sR_toSs C cs1, sC_toSs C cs1, sPs_toSs C cs1, sSp_toSs C cs1, sFs_toSs C cs1, run_toS C e]); (try rfl))
  | .scs own tg it lk cs e => by
    funext ρ
    (rw [toS, ev]; (try simp only [SE.scs, run_toS C it, sR_toSs C cs, sC_toSs C cs, sPs_toSs C cs, sSp_toSs C cs, sFs_toSs C cs, run_toS C e]); (try rfl))
  | .dspS e es => by
    funext ρ
    (rw [toS, ev]; (try simp only [SE.dspS, run_toS C e, sR_toSs C es, sC_toSs C es, sPs_toSs C es, sSp_toSs C es, sFs_toSs C es]); (try rfl))
  | .fstr es => by
    funext ρ
    (rw [toS, ev]; (try simp only [SE.fstr, sR_toSs C es, sC_toSs C es, sPs_toSs C es, sSp_toSs C es, sFs_toSs C es]); (try rfl))
  | .var i => by
    funext ρ
    (rw [toS, ev]; (try simp only [SE.var]); (try rfl))
  | .peek i => by
    funext ρ
    (rw [toS, ev]; (try simp only [SE.peek]); (try rfl))
  | .take i => by
    funext ρ
    (rw [toS, ev]; (try simp only [SE.take]); (try rfl))
  | .frz i => by
    funext ρ
    (rw [toS, ev]; (try simp only [SE.frz]); (try rfl))
  | .lit d => by
    funext ρ
    (rw [toS, ev]; (try simp only [SE.lit]); (try rfl))
  | .glob g => by
    funext ρ
    (rw [toS, ev]; (try simp only [SE.glob]); (try rfl))
  | .tup es => by
    funext ρ
    (rw [toS, ev]; (try simp only [SE.tup, sR_toSs C es, sC_toSs C es, sPs_toSs C es, sSp_toSs C es, sFs_toSs C es]); (try rfl))
  | .lst es => by
    funext ρ
    (rw [toS, ev]; (try simp only [SE.lst, sR_toSs C es, sC_toSs C es, sPs_toSs C es, sSp_toSs C es, sFs_toSs C es]); (try rfl))
  | .star e => by
    funext ρ
    (rw [toS, ev]; (try simp only [SE.star, run_toS C e]); (try rfl))
  | .tupS es => by
    funext ρ
    (rw [toS, ev]; (try simp only [SE.tupS, sR_toSs C es, sC_toSs C es, sPs_toSs C es, sSp_toSs C es, sFs_toSs C es]); (try rfl))
  | .lstS es => by
    funext ρ
    (rw [toS, ev]; (try simp only [SE.lstS, sR_toSs C es, sC_toSs C es, sPs_toSs C es, sSp_toSs C es, sFs_toSs C es]); (try rfl))
  | .dsp kvs => by
    funext ρ
    (rw [toS, ev]; (try simp only [SE.dsp, sR_toSs C kvs, sC_toSs C kvs, sPs_toSs C kvs, sSp_toSs C kvs, sFs_toSs C kvs]); (try rfl))
  | .bin op a b => by
    funext ρ
    (rw [toS, ev]; (try simp only [SE.bin, run_toS C a, run_toS C b]); (try rfl))
  | .neg a => by
    funext ρ
    (rw [toS, ev]; (try simp only [SE.neg, run_toS C a]); (try rfl))
  | .cmp op a b => by
    funext ρ
    (rw [toS, ev]; (try simp only [SE.cmp, run_toS C a, run_toS C b]); (try rfl))
  | .and a b => by
    funext ρ
    (rw [toS, ev]; (try simp only [SE.and, run_toS C a, run_toS C b]); (try rfl))
  | .or a b => by
    funext ρ
    (rw [toS, ev]; (try simp only [SE.or, run_toS C a, run_toS C b]); (try rfl))
  | .not a => by
    funext ρ
    (rw [toS, ev]; (try simp only [SE.not, run_toS C a]); (try rfl))
  | .tru a => by
    funext ρ
    (rw [toS, ev]; (try simp only [SE.tru, run_toS C a]); (try rfl))
  | .ite c a b => by
    funext ρ
    (rw [toS, ev]; (try simp only [SE.ite, run_toS C c, run_toS C a, run_toS C b]); (try rfl))
  | .idx a b => by
    funext ρ
    (rw [toS, ev]; (try simp only [SE.idx, run_toS C a, run_toS C b]); (try rfl))
  | .slc a lo hi => by
    funext ρ
    (rw [toS, ev]; (try simp only [SE.slc, run_toS C a, sO_toSo C lo, sO_toSo C hi]); (try rfl))
  | .bi f es => by
    funext ρ
    (rw [toS, ev]; (try simp only [SE.bi, sR_toSs C es, sC_toSs C es, sPs_toSs C es, sSp_toSs C es, sFs_toSs C es]); (try rfl))
  | .mt m o es => by
    funext ρ
    (rw [toS, ev]; (try simp only [SE.mt, run_toS C o, sR_toSs C es, sC_toSs C es, sPs_toSs C es, sSp_toSs C es, sFs_toSs C es]); (try rfl))
  | .call f rf es => by
    funext ρ
    cases rf <;> (rw [toS, ev]; (try simp only [SE.call, sR_toSs C es, sC_toSs C es, sPs_toSs C es, sSp_toSs C es, sFs_toSs C es]); (try rfl))
  | .pop i => by
    funext ρ
    (rw [toS, ev]; (try simp only [SE.pop]); (try rfl))
  | .popAt i e => by
    funext ρ
    (rw [toS, ev]; (try simp only [SE.popAt, run_toS C e]); (try rfl))
  | .lc own tg it lk cs e => by
    funext ρ
    (rw [toS, ev]; (try simp only [SE.lc, run_toS C it, sR_toSs C cs, sC_toSs C cs, sPs_toSs C cs, sSp_toSs C cs, sFs_toSs C cs, run_toS C e]); (try rfl))
  | .dc own tg it lk cs k v => by
    funext ρ
    (rw [toS, ev]; (try simp only [SE.dc, run_toS C it, sR_toSs C cs, sC_toSs C cs, sPs_toSs C cs, sSp_toSs C cs, sFs_toSs C cs, run_toS C k, run_toS C v]); (try rfl))
  | .rng1 e => by
    funext ρ
    (rw [toS, ev]; (try simp only [SE.rng1, run_toS C e]); (try rfl))
  | .rng2 a b => by
    funext ρ
    (rw [toS, ev]; (try simp only [SE.rng2, run_toS C a, run_toS C b]); (try rfl))
  | .enm e => by
    funext ρ
    (rw [toS, ev]; (try simp only [SE.enm, run_toS C e]); (try rfl))
  | .zip a b => by
    funext ρ
    (rw [toS, ev]; (try simp only [SE.zip, run_toS C a, run_toS C b]); (try rfl))
  | .itms e => by
    funext ρ
    (rw [toS, ev]; (try simp only [SE.itms, run_toS C e]); (try rfl))
  | .vals e => by
    funext ρ
    (rw [toS, ev]; (try simp only [SE.vals, run_toS C e]); (try rfl))
  | .keys e => by
    funext ρ
    (rw [toS, ev]; (try simp only [SE.keys, run_toS C e]); (try rfl))
  | .itmF e => by
    funext ρ
    (rw [toS, ev]; (try simp only [SE.itmF, run_toS C e]); (try rfl))
  | .itmD e => by
    funext ρ
    (rw [toS, ev]; (try simp only [SE.itmD, run_toS C e]); (try rfl))
theorem sR_toSs (C : Cn) : ∀ es : List IE, sR C (toSs es) = evR C es
  | [] => by funext ρ; rw [toSs, sR, evR]
  | e :: es => by funext ρ; rw [toSs, sR, evR]; simp only [run_toS C e, sR_toSs C es]; try rfl
theorem sC_toSs (C : Cn) : ∀ es : List IE, sC C (toSs es) = evC C es
  | [] => by funext ρ; rw [toSs, sC, evC]
  | e :: es => by funext ρ; rw [toSs, sC, evC]; simp only [run_toS C e, sC_toSs C es]; try rfl
theorem sFs_toSs (C : Cn) : ∀ es : List IE, sFs C (toSs es) = evFs C es
  | [] => by funext ρ a; rw [toSs, sFs, evFs]
  | e :: es => by funext ρ a; rw [toSs, sFs, evFs]; simp only [run_toS C e, sFs_toSs C es]; try rfl
theorem sPs_toSs (C : Cn) : ∀ es : List IE, sPs C (toSs es) = evPs C es
  | [] => by funext ρ; rw [toSs, sPs, evPs]
  | [k] => by funext ρ; rw [toSs, toSs, sPs, evPs]
  | k :: v :: vs => by funext ρ; rw [toSs, toSs, sPs, evPs]; simp only [run_toS C k, run_toS C v, sPs_toSs C vs]; try rfl
theorem sSp_toSs (C : Cn) : ∀ es : List IE, sSp C (toSs es) = evSp C es
  | [] => by funext ρ; rw [toSs, sSp, evSp]
  | .star e :: es => by
    funext ρ
    rw [toSs, sSp, evSp, toS]
    simp only [SE.star, run_toS C e, sSp_toSs C es]; try rfl
  | e :: es => by
    funext ρ
    by_cases h : ∃ x, e = .star x
    · obtain ⟨x, rfl⟩ := h
      rw [toSs, sSp, evSp, toS]
      simp only [SE.star, run_toS C x, sSp_toSs C es]; try rfl
    · have hs : (toS e).st = none := by cases e <;> first | (rw [toS]; rfl) | exact absurd ⟨_, rfl⟩ h
      rw [toSs, sSp, evSp]
      · rw [hs]
        simp only [run_toS C e, sSp_toSs C es]
        try rfl
      · exact fun x z => h ⟨x, z⟩
theorem sO_toSo (C : Cn) : ∀ e : Option IE, sO C (toSo e) = evO C e
  | none => by funext ρ; rw [toSo, sO, evO]
  | some e => by funext ρ; rw [toSo, sO, evO]; simp only [run_toS C e]; try rfl
end
theorem sRs_toSs (C : Cn) : ∀ es : List IE, sRs C (toSs es) = evRs C es
  | [] => by funext ρ; rw [toSs, sRs, evRs]
  | e :: es => by funext ρ; rw [toSs, sRs, evRs]; simp only [run_toS C e, sRs_toSs C es]; try rfl
mutual
theorem run_toT (C : Cn) : ∀ s : IS, toT s C = evS C s
  | .asg i e => by
    funext ρ
    (rw [toT, evS]; (try simp only [SS.asg, run_toS C e]); (try rfl))
  | .asgO i e => by
    funext ρ
    (rw [toT, evS]; (try simp only [SS.asgO, run_toS C e]); (try rfl))
  | .unp tg e => by
    funext ρ
    (rw [toT, evS]; (try simp only [SS.unp, run_toS C e]); (try rfl))
  | .par sw ts es => by
    funext ρ
    (rw [toT, evS]; (try simp only [SS.par, sRs_toSs C es]); (try rfl))
  | .setI i k e => by
    funext ρ
    (rw [toT, evS]; (try simp only [SS.setI, run_toS C k, run_toS C e]); (try rfl))
  | .aug neg i e => by
    funext ρ
    (rw [toT, evS]; (try simp only [SS.aug, run_toS C e]); (try rfl))
  | .augI i k e => by
    funext ρ
    (rw [toT, evS]; (try simp only [SS.augI, run_toS C k, run_toS C e]); (try rfl))
  | .app i e => by
    funext ρ
    (rw [toT, evS]; (try simp only [SS.app, run_toS C e]); (try rfl))
  | .ext i e => by
    funext ρ
    (rw [toT, evS]; (try simp only [SS.ext, run_toS C e]); (try rfl))
  | .upd i e => by
    funext ρ
    (rw [toT, evS]; (try simp only [SS.upd, run_toS C e]); (try rfl))
  | .delS i e => by
    funext ρ
    (rw [toT, evS]; (try simp only [SS.delS, run_toS C e]); (try rfl))
  | .ex e => by
    funext ρ
    (rw [toT, evS]; (try simp only [SS.ex, run_toS C e]); (try rfl))
  | .iff c a b => by
    funext ρ
    (rw [toT, evS]; (try simp only [SS.iff, run_toS C c, sB_toSb C a, sB_toSb C b]); (try rfl))
  | .for_ tg it lk b => by
    funext ρ
    (rw [toT, evS]; (try simp only [SS.for_, run_toS C it, sB_toSb C b]); (try rfl))
  | .whl c b => by
    funext ρ
    (rw [toT, evS]; (try simp only [SS.whl, run_toS C c, sB_toSb C b]); (try rfl))
  | .ret e => by
    funext ρ
    (rw [toT, evS]; (try simp only [SS.ret, run_toS C e]); (try rfl))
  | .retN  => by
    funext ρ
    (rw [toT, evS]; (try simp only [SS.retN]); (try rfl))
  | .cont  => by
    funext ρ
    (rw [toT, evS]; (try simp only [SS.cont]); (try rfl))
  | .brk  => by
    funext ρ
    (rw [toT, evS]; (try simp only [SS.brk]); (try rfl))
  | .pass  => by
    funext ρ
    (rw [toT, evS]; (try simp only [SS.pass]); (try rfl))
  | .raise  => by
    funext ρ
    (rw [toT, evS]; (try simp only [SS.raise]); (try rfl))
  | .setA i a e => by
    funext ρ
    (rw [toT, evS]; (try simp only [SS.setA, run_toS C e]); (try rfl))
  | .hide ks ws b => by
    funext ρ
    (rw [toT, evS]; (try simp only [SS.hide, sB_toSb C b]); (try rfl))
theorem sB_toSb (C : Cn) : ∀ b : List IS, sB C (toSb b) = evB C b
  | [] => by funext ρ; rw [toSb, sB, evB]
  | s :: ss => by funext ρ; rw [toSb, sB, evB, run_toT C s, sB_toSb C ss]; (try rfl)
end
/-- a call, its body as functions -/
def callS (P : Pr) (sb : Nat → List SS) : Nat → Nat → List Ar → Res
  | 0, _, _ => .bad
  | n + 1, f, as => match P.defs f with
    | some fd => match entry fd as with
      | some ρ => leave fd (sB ⟨callS P sb n, (match n with
        | 0 => fun _ _ => .bad
        | m + 1 => callS P sb m), P.glob, P.gdic, P.fld, P.W⟩ (sb f) ρ)
      | none => .bad
    | none => extR (P.ext (n + 1) f) as
theorem callS_eq {P : Pr} {sb : Nat → List SS} (h : ∀ f fd, P.defs f = some fd → sb f = toSb fd.body) : ∀ n, callS P sb n = callF P n
  | 0 => by funext f as; unfold callS callF; rfl
  | n + 1 => by
    funext f as
    unfold callS callF
    cases e : P.defs f with
    | none => rfl
    | some fd =>
      dsimp only
      rw [h f fd e, callS_eq h n]
      have e2 : (match (motive := Nat → Nat → List Ar → Res) n with
        | 0 => fun _ _ => Res.bad
        | m + 1 => callS P sb m) = (match (motive := Nat → Nat → List Ar → Res) n with
        | 0 => fun _ _ => Res.bad
        | m + 1 => callF P m) := by
        cases n with
        | zero => rfl
        | succ m => exact callS_eq h m
      cases entry fd as with
      | none => rfl
      | some ρ =>
        dsimp only
        rw [sB_toSb]
        cases n with
        | zero => rfl
        | succ m =>
          dsimp only
          rw [callS_eq h m]
end Ev
end
/-! Ir -/
section
set_option Elab.async false
set_option linter.all false
set_option maxRecDepth 100000
set_option maxHeartbeats 4000000
namespace Pg
open PySem L2 Ev
def fnm : Nat → Option Str
  | 0 => some "law"
  | 1 => some "_law_box"
  | 3 => some "is_sequence"
  | 4 => some "are_names"
  | 5 => some "is_name"
  | 6 => some "parts_within"
  | 7 => some "parts_of"
  | 8 => some "steps_of"
  | 9 => some "tokens_of"
  | 10 => some "_token_at"
  | 11 => some "_leaf"
  | 12 => some "is_numeral"
  | 13 => some "_is_full"
  | 14 => some "names_in"
  | 15 => some "_law_mixed"
  | 16 => some "_law_take"
  | 17 => some "no_wider"
  | 18 => some "_only_in"
  | 19 => some "_counter_in"
  | 20 => some "denials_of"
  | 21 => some "some_in"
  | 22 => some "cases_of"
  | 23 => some "_open_name"
  | 24 => some "steps_in"
  | 25 => some "settle"
  | 26 => some "_lower_bounds"
  | 27 => some "_values_with"
  | 28 => some "bounds_in"
  | 29 => some "sides_of"
  | 30 => some "atoms_in"
  | 31 => some "_greatest"
  | 32 => some "same_tops"
  | 33 => some "follows"
  | 34 => some "counter"
  | 35 => some "excess"
  | 36 => some "rise_in"
  | 37 => some "_rise"
  | 38 => some "read_within"
  | 39 => some "steps_within"
  | 41 => some "_law_ring_right"
  | 42 => some "unlike"
  | 43 => some "_values_with"
  | _ => none
def gnm : Nat → Option Str
  | 0 => some "CALLS"
  | 1 => some "SIGNS"
  | 2 => some "RELATIONS"
  | _ => none
def mnm : Nat → Option (Nat × Cs)
  | 40 => some (6, [98, 117, 116])
  | _ => none
def pnm : Nat → Option (Nat × Cs)
  | _ => none
def inm : Nat → Option (Nat × Str)
  | 2 => some (6, "Book")
  | _ => none
def nms : Nms := ⟨fnm, gnm, mnm, pnm, inm⟩
def glb : Nat → Option D
  | 1 => some (.tup [(.str [109, 97, 120, 40]), (.str [105, 109, 97, 120, 40]), (.str [32, 43, 32]), (.str [44, 32]), (.str [41])])
  | 2 => some (.tup [(.str [60, 61]), (.str [60]), (.str [61])])
  | _ => none
def gdic : Nat → Option (List (Cs × D))
  | 0 => some [([109, 97, 120, 40], (.str [109, 97, 120])), ([105, 109, 97, 120, 40], (.str [105, 109, 97, 120]))]
  | _ => none
def flds : List (Nat × Cs) := [(6, [110, 97, 109, 101, 115]), (6, [100, 101, 109, 97, 110, 100, 115]), (6, [112, 97, 114, 116, 115])]
def fld (c : Nat) (a : Cs) : Bool := decide ((c, a) ∈ flds)
/-- law -/
def fd_0 : FD := ⟨1, 13, none, [.for_ (.n 1) (.rng1 (.bi .max [.lit (.int 1), .bi .min [.lit (.int 3), .bi .len [.var 0]]])) none [.hide [] [2, 3, 4, 5, 6, 7, 8, 9, 10, 11, 12] [.asgO 2 (.call 1 none [.var 0, .var 1]), .unp (.t [.n 9, .n 10, .n 11]) (.slc (.call 15 (some 0) [.peek 2, .lst [.lit (.str [117]), .lit (.str [118]), .lit (.str [119]), .lit (.str [116, 121])]]) none (some (.lit (.int 3)))), .hide [0] [1, 2] [.asg 3 (.mk 6 2 [.lst [.var 9, .var 10, .var 11], .lst [.bin .add (.bin .add (.bin .add (.bin .add (.bin .add (.var 9) (.lit (.str [32, 43, 32, 49, 32, 60, 61, 32, 109, 97, 120, 40]))) (.var 10)) (.lit (.str [44, 32]))) (.var 11)) (.lit (.str [41])), .bin .add (.bin .add (.var 10) (.lit (.str [32, 60, 61, 32]))) (.var 11)]]), .asg 4 (.lst [.bin .add (.bin .add (.var 9) (.lit (.str [32, 60, 32]))) (.var 11), .bin .add (.bin .add (.var 11) (.lit (.str [32, 60, 61, 32]))) (.var 9), .bin .add (.lit (.str [49, 32, 60, 61, 32])) (.var 11), .bin .add (.lit (.str [49, 32, 60, 61, 32])) (.var 10)]), .iff (.cmp .ne (.lc [12] (.n 12) (.var 4) none [] (.call 33 none [.var 3, .var 12])) (.lst [.lit (.bl true), .lit (.bl false), .lit (.bl true), .lit (.bl false)])) [.ret (.lit (.bl false))] [], .iff (.cmp .ne (.lst [.call 35 none [.var 3, .var 9, .var 11], .call 35 none [.var 3, .var 11, .var 9], .call 35 none [.var 3, .bin .add (.bin .add (.bin .add (.bin .add (.lit (.str [109, 97, 120, 40])) (.var 9)) (.lit (.str [44, 32]))) (.var 10)) (.lit (.str [41])), .var 11]]) (.lst [.neg (.lit (.int 1)), .lit .non, .lit (.int 0)])) [.ret (.lit (.bl false))] [], .iff (.or (.not (.tru (.call 17 none [.var 3, .meth 6 40 [98, 117, 116] (.var 3) [.lit (.int 0)]]))) (.or (.tru (.call 17 none [.meth 6 40 [98, 117, 116] (.var 3) [.lit (.int 0)], .var 3])) (.not (.tru (.call 41 none [.var 9, .var 10, .var 11]))))) [.ret (.lit (.bl false))] [], .hide [] [3, 4, 5, 6, 7, 8, 12] [.asg 5 (.mk 6 2 [.lst [.var 9], .lst [.bin .add (.bin .add (.bin .add (.bin .add (.lit (.str [105, 109, 97, 120, 40])) (.var 9)) (.lit (.str [32, 43, 32, 50, 44, 32]))) (.var 9)) (.lit (.str [41, 32, 60, 61, 32, 52]))]]), .iff (.or (.not (.tru (.call 33 none [.var 5, .bin .add (.var 9) (.lit (.str [32, 60, 61, 32, 50]))]))) (.or (.cmp .ne (.call 35 none [.var 5, .var 9, .lit (.str [48])]) (.lit (.int 2))) (.cmp .ne (.call 35 none [.var 5, .bin .add (.bin .add (.lit (.str [105, 109, 97, 120, 40, 51, 44, 32])) (.var 9)) (.lit (.str [41])), .var 9]) (.lit (.int 2))))) [.ret (.lit (.bl false))] [], .asg 6 (.mk 6 2 [.lst [.var 9, .var 10], .lst [.bin .add (.bin .add (.var 9) (.lit (.str [32, 60, 32]))) (.var 10), .bin .add (.bin .add (.var 10) (.lit (.str [32, 60, 32]))) (.var 9)]]), .iff (.or (.not (.tru (.call 33 none [.var 6, .lit (.str [49, 32, 60, 61, 32, 48])]))) (.or (.cmp .nis (.call 35 none [.var 6, .var 9, .var 10]) (.lit .non)) (.cmp .nis (.call 42 none [.var 6, .var 6]) (.lit .non)))) [.ret (.lit (.bl false))] [], .asg 7 (.mk 6 2 [.lst [.var 9, .var 10], .lst [.bin .add (.bin .add (.bin .add (.var 9) (.lit (.str [32, 61, 32]))) (.var 10)) (.lit (.str [32, 43, 32, 50]))]]), .asg 8 (.mk 6 2 [.lst [.var 9, .var 10], .lst [.bin .add (.bin .add (.bin .add (.var 9) (.lit (.str [32, 60, 61, 32]))) (.var 10)) (.lit (.str [32, 43, 32, 50])), .bin .add (.bin .add (.var 10) (.lit (.str [32, 43, 32, 50, 32, 60, 61, 32]))) (.var 9)]]), .iff (.or (.cmp .nis (.call 42 none [.var 7, .var 8]) (.lit .non)) (.cmp .ne (.call 35 none [.var 7, .var 10, .var 9]) (.neg (.lit (.int 2))))) [.ret (.lit (.bl false))] [], .iff (.or (.not (.tru (.call 33 none [.var 7, .bin .add (.bin .add (.bin .add (.bin .add (.bin .add (.lit (.str [109, 97, 120, 40])) (.var 9)) (.lit (.str [44, 32]))) (.var 10)) (.lit (.str [41, 32, 61, 32]))) (.var 9)]))) (.tru (.call 33 none [.var 7, .bin .add (.bin .add (.bin .add (.bin .add (.bin .add (.lit (.str [105, 109, 97, 120, 40])) (.var 9)) (.lit (.str [44, 32]))) (.var 10)) (.lit (.str [41, 32, 61, 32]))) (.var 9)]))) [.ret (.lit (.bl false))] []]]]], .ret (.lit (.bl true))]⟩
def nm_0 : List Str := ["_law_script", "_law_turn", "_law_box_here", "_law_book", "_law_wishes", "_law_lone", "_law_none", "_law_pair", "_law_twin", "_law_u", "_law_v", "_law_w", "_law_one"]
theorem ck_0 : chkB ⟨nms, nm_0, defScope st_law, true⟩ fd_0.body (defBody st_law) = true := by decide +kernel
/-- _law_box -/
def fd_1 : FD := ⟨2, 4, none, [.asg 2 (.bin .add (.bin .mul (.lit (.int 7349)) (.var 1)) (.lit (.int 167))), .iff (.cmp .lt (.var 1) (.bi .len [.var 0])) [.asg 2 (.bi .abs [.idx (.var 0) (.var 1)])] [.iff (.cmp .gt (.bi .len [.var 0]) (.lit (.int 0))) [.asg 2 (.bin .add (.var 2) (.bin .mul (.bin .mod (.bi .int [.bi .abs [.bi .int [.idx (.var 0) (.bin .mod (.bi .int [.var 1]) (.bi .len [.var 0]))]]]) (.lit (.int 2147483629))) (.lit (.int 71503))))] []], .asg 3 (.bin .add (.bin .mod (.bi .int [.bin .add (.bin .mul (.bin .mod (.bi .int [.var 2]) (.lit (.int 2147483629))) (.lit (.int 48271))) (.bin .mul (.lit (.int 42023)) (.var 1))]) (.lit (.int 2147483629))) (.lit (.int 1))), .ret (.lst [.idx (.lst [.lit (.int 0), .var 2]) (.bi .int [.cmp .ge (.var 2) (.bin .pow (.lit (.int 10)) (.lit (.int 18)))]), .var 3, .lit (.int 0)])]⟩
def nm_1 : List Str := ["_law_script", "_law_k", "_law_cell", "_law_seed"]
theorem ck_1 : chkB ⟨nms, nm_1, defScope st__law_box, true⟩ fd_1.body (defBody st__law_box) = true := by decide +kernel
/-- Book.__init__ -/
def fd_2 : FD := ⟨3, 5, some 0, [.iff (.or (.not (.tru (.call 4 none [.var 1]))) (.cmp .eq (.bi .len [.var 1]) (.lit (.int 0)))) [.raise] [], .iff (.not (.tru (.call 3 none [.var 2]))) [.raise] [], .asg 3 (.bi .tuple [.lc [4] (.n 4) (.var 2) none [] (.call 6 none [.var 4, .var 1])]), .iff (.cmp .inn (.lit .non) (.var 3)) [.raise] [], .setA 0 [110, 97, 109, 101, 115] (.bi .tuple [.var 1]), .setA 0 [100, 101, 109, 97, 110, 100, 115] (.bi .tuple [.var 2]), .setA 0 [112, 97, 114, 116, 115] (.var 3)]⟩
def nm_2 : List Str := ["self", "names", "demands", "parts", "demand"]
theorem ck_2 : chkB ⟨nms, nm_2, defScope (inClass cl_Book 0), true⟩ fd_2.body (defBody (inClass cl_Book 0)) = true := by decide +kernel
/-- is_sequence -/
def fd_3 : FD := ⟨1, 1, none, [.ret (.fx (.isiT [4, 3]) [.var 0])]⟩
def nm_3 : List Str := ["thing"]
theorem ck_3 : chkB ⟨nms, nm_3, defScope st_is_sequence, true⟩ fd_3.body (defBody st_is_sequence) = true := by decide +kernel
/-- are_names -/
def fd_4 : FD := ⟨1, 2, none, [.iff (.or (.not (.tru (.call 3 none [.var 0]))) (.not (.tru (.bi .all [.lc [1] (.n 1) (.var 0) none [] (.call 5 none [.var 1])])))) [.ret (.lit (.bl false))] [], .ret (.cmp .eq (.fx .lset [.var 0]) (.bi .len [.var 0]))]⟩
def nm_4 : List Str := ["thing", "name"]
theorem ck_4 : chkB ⟨nms, nm_4, defScope st_are_names, true⟩ fd_4.body (defBody st_are_names) = true := by decide +kernel
/-- is_name -/
def fd_5 : FD := ⟨1, 1, none, [.iff (.or (.not (.tru (.fx (.isi [2]) [.var 0]))) (.cmp .inn (.var 0) (.tup [.lit (.str [109, 97, 120]), .lit (.str [105, 109, 97, 120])]))) [.ret (.lit (.bl false))] [], .ret (.and (.cmp .le (.bi .len [.var 0]) (.lit (.int 4))) (.and (.fx (.m0 .ascii) [.var 0]) (.and (.fx (.m0 .alpha) [.var 0]) (.fx (.m0 .lower) [.var 0]))))]⟩
def nm_5 : List Str := ["thing"]
theorem ck_5 : chkB ⟨nms, nm_5, defScope st_is_name, true⟩ fd_5.body (defBody st_is_name) = true := by decide +kernel
/-- parts_within -/
def fd_6 : FD := ⟨2, 7, none, [.asg 2 (.call 7 none [.var 0]), .iff (.cmp .is (.var 2) (.lit .non)) [.ret (.lit .non)] [], .unp (.t [.n 3, .n 4, .n 5]) (.var 2), .ret (.ite (.tru (.bi .all [.lc [6] (.n 6) (.call 14 none [.bin .add (.var 3) (.var 5)]) none [] (.cmp .inn (.var 6) (.var 1))])) (.var 2) (.lit .non))]⟩
def nm_6 : List Str := ["thing", "names", "parts", "low", "_", "high", "name"]
theorem ck_6 : chkB ⟨nms, nm_6, defScope st_parts_within, true⟩ fd_6.body (defBody st_parts_within) = true := by decide +kernel
/-- parts_of -/
def fd_7 : FD := ⟨1, 7, none, [.iff (.not (.tru (.fx (.isi [2]) [.var 0]))) [.ret (.lit .non)] [], .for_ (.n 1) (.glob 2) none [.unp (.t [.n 2, .n 3, .n 4]) (.fx .parti [.var 0, .fstr [.lit (.str [32]), .var 1, .lit (.str [32])]]), .iff (.tru (.var 3)) [.par true [(5, false), (6, false)] [.call 8 none [.var 2], .call 8 none [.var 4]], .ret (.ite (.or (.cmp .is (.var 5) (.lit .non)) (.cmp .is (.var 6) (.lit .non))) (.lit .non) (.tup [.var 5, .var 1, .var 6]))] []], .ret (.lit .non)]⟩
def nm_7 : List Str := ["thing", "relation", "left", "found", "right", "low", "high"]
theorem ck_7 : chkB ⟨nms, nm_7, defScope st_parts_of, true⟩ fd_7.body (defBody st_parts_of) = true := by decide +kernel
/-- steps_of -/
def fd_8 : FD := ⟨1, 8, none, [.asg 1 (.ite (.tru (.fx (.isi [2]) [.var 0])) (.call 9 none [.var 0]) (.lit .non)), .iff (.cmp .is (.var 1) (.lit .non)) [.ret (.lit .non)] [], .par true [(3, true), (4, true), (5, true), (6, false)] [.lst [], .lst [], .lst [], .lit (.str [108, 101, 118, 101, 108])], .for_ (.n 2) (.var 1) none [.asg 7 (.call 11 none [.var 2, .var 6]), .iff (.cmp .nis (.var 7) (.lit .non)) [.app 3 (.var 7), .asg 6 (.lit (.str [115, 105, 103, 110]))] [.iff (.and (.cmp .eq (.var 6) (.lit (.str [108, 101, 118, 101, 108]))) (.inKD 0 false (.var 2))) [.app 4 (.ixKD 0 (.var 2)), .app 5 (.lit (.int 1))] [.iff (.and (.cmp .eq (.var 6) (.lit (.str [115, 105, 103, 110]))) (.cmp .eq (.var 2) (.lit (.str [32, 43, 32])))) [.asg 6 (.lit (.str [110, 117, 109, 98, 101, 114]))] [.iff (.and (.cmp .eq (.var 6) (.lit (.str [115, 105, 103, 110]))) (.and (.cmp .eq (.var 2) (.lit (.str [44, 32]))) (.tru (.peek 4)))) [.augI 5 (.neg (.lit (.int 1))) (.lit (.int 1)), .asg 6 (.lit (.str [108, 101, 118, 101, 108]))] [.iff (.and (.cmp .eq (.var 6) (.lit (.str [115, 105, 103, 110]))) (.and (.cmp .eq (.var 2) (.lit (.str [41]))) (.and (.tru (.peek 4)) (.tru (.call 13 none [.idx (.peek 4) (.neg (.lit (.int 1))), .idx (.peek 5) (.neg (.lit (.int 1)))]))))) [.app 3 (.tup [.pop 4, .pop 5])] [.ret (.lit .non)]]]]]], .ret (.ite (.and (.cmp .eq (.var 6) (.lit (.str [115, 105, 103, 110]))) (.not (.tru (.peek 4)))) (.bi .tuple [.peek 3]) (.lit .non))]⟩
def nm_8 : List Str := ["thing", "tokens", "token", "steps", "calls", "counts", "wanted", "leaf"]
theorem ck_8 : chkB ⟨nms, nm_8, defScope st_steps_of, true⟩ fd_8.body (defBody st_steps_of) = true := by decide +kernel
/-- tokens_of -/
def fd_9 : FD := ⟨1, 4, none, [.asgO 1 (.lst []), .asg 2 (.lit (.int 0)), .whl (.cmp .lt (.var 2) (.bi .len [.var 0])) [.asg 3 (.call 10 none [.var 0, .var 2]), .iff (.cmp .eq (.var 3) (.lit (.str []))) [.ret (.lit .non)] [], .app 1 (.var 3), .aug false 2 (.bi .len [.var 3])], .ret (.take 1)]⟩
def nm_9 : List Str := ["text", "tokens", "at", "token"]
theorem ck_9 : chkB ⟨nms, nm_9, defScope st_tokens_of, true⟩ fd_9.body (defBody st_tokens_of) = true := by decide +kernel
/-- _token_at -/
def fd_10 : FD := ⟨2, 4, none, [.for_ (.n 2) (.glob 1) none [.iff (.tru (.fx .sw3 [.var 0, .var 2, .var 1])) [.ret (.var 2)] []], .asg 3 (.var 1), .whl (.and (.cmp .lt (.var 3) (.bi .len [.var 0])) (.tru (.fx (.m0 .alnum) [.idx (.var 0) (.var 3)]))) [.aug false 3 (.lit (.int 1))], .ret (.slc (.var 0) (some (.var 1)) (some (.var 3)))]⟩
def nm_10 : List Str := ["text", "at", "sign", "end"]
theorem ck_10 : chkB ⟨nms, nm_10, defScope st__token_at, true⟩ fd_10.body (defBody st__token_at) = true := by decide +kernel
/-- _leaf -/
def fd_11 : FD := ⟨2, 2, none, [.iff (.and (.cmp .eq (.var 1) (.lit (.str [108, 101, 118, 101, 108]))) (.tru (.call 5 none [.var 0]))) [.ret (.tup [.lit (.str [110, 97, 109, 101]), .var 0])] [], .iff (.and (.cmp .eq (.var 1) (.lit (.str [108, 101, 118, 101, 108]))) (.tru (.call 12 none [.var 0]))) [.ret (.tup [.lit (.str [110, 117, 109, 98, 101, 114]), .bi .int [.var 0]])] [], .iff (.and (.cmp .eq (.var 1) (.lit (.str [110, 117, 109, 98, 101, 114]))) (.tru (.call 12 none [.var 0]))) [.ret (.tup [.lit (.str [43]), .bi .int [.var 0]])] [], .ret (.lit .non)]⟩
def nm_11 : List Str := ["token", "wanted"]
theorem ck_11 : chkB ⟨nms, nm_11, defScope st__leaf, true⟩ fd_11.body (defBody st__leaf) = true := by decide +kernel
/-- is_numeral -/
def fd_12 : FD := ⟨1, 1, none, [.iff (.or (.not (.tru (.fx (.m0 .ascii) [.var 0]))) (.not (.tru (.fx (.m0 .digit) [.var 0])))) [.ret (.lit (.bl false))] [], .ret (.and (.cmp .le (.bi .len [.var 0]) (.lit (.int 4))) (.or (.cmp .eq (.var 0) (.lit (.str [48]))) (.cmp .ne (.idx (.var 0) (.lit (.int 0))) (.lit (.str [48])))))]⟩
def nm_12 : List Str := ["word"]
theorem ck_12 : chkB ⟨nms, nm_12, defScope st_is_numeral, true⟩ fd_12.body (defBody st_is_numeral) = true := by decide +kernel
/-- _is_full -/
def fd_13 : FD := ⟨2, 2, none, [.ret (.ite (.cmp .eq (.var 0) (.lit (.str [109, 97, 120]))) (.cmp .ge (.var 1) (.lit (.int 2))) (.cmp .eq (.var 1) (.lit (.int 2))))]⟩
def nm_13 : List Str := ["call", "count"]
theorem ck_13 : chkB ⟨nms, nm_13, defScope st__is_full, true⟩ fd_13.body (defBody st__is_full) = true := by decide +kernel
/-- names_in -/
def fd_14 : FD := ⟨1, 3, none, [.ret (.bi .tuple [.scs [1, 2] (.t [.n 1, .n 2]) (.var 0) none [.cmp .eq (.var 1) (.lit (.str [110, 97, 109, 101]))] (.var 2)])]⟩
def nm_14 : List Str := ["steps", "kind", "thing"]
theorem ck_14 : chkB ⟨nms, nm_14, defScope st_names_in, true⟩ fd_14.body (defBody st_names_in) = true := by decide +kernel
/-- _law_mixed -/
def fd_15 : FD := ⟨2, 4, some 0, [.par true [(2, true), (3, true)] [.bi .list [.var 1], .lst []], .whl (.cmp .ne (.peek 2) (.lst [])) [.app 3 (.popAt 2 (.call 16 (some 0) [.peek 0, .bi .len [.peek 2]]))], .ret (.take 3)]⟩
def nm_15 : List Str := ["_law_box_here", "_law_some", "_law_left", "_law_found"]
theorem ck_15 : chkB ⟨nms, nm_15, defScope st__law_mixed, true⟩ fd_15.body (defBody st__law_mixed) = true := by decide +kernel
/-- _law_take -/
def fd_16 : FD := ⟨2, 4, some 0, [.iff (.cmp .gt (.idx (.peek 0) (.lit (.int 0))) (.lit (.int 0))) [.asg 3 (.bin .mod (.bi .int [.idx (.peek 0) (.lit (.int 0))]) (.var 1)), .setI 0 (.lit (.int 0)) (.bin .fdiv (.idx (.peek 0) (.lit (.int 0))) (.var 1)), .ret (.var 3)] [], .setI 0 (.lit (.int 2)) (.bin .add (.idx (.peek 0) (.lit (.int 2))) (.lit (.int 1))), .asg 2 (.bin .mod (.bi .int [.bin .mul (.bin .add (.idx (.peek 0) (.lit (.int 1))) (.bin .mul (.lit (.int 106907)) (.idx (.peek 0) (.lit (.int 2))))) (.lit (.int 71711))]) (.lit (.int 2147483647))), .setI 0 (.lit (.int 1)) (.bin .add (.bin .mod (.bi .int [.bin .add (.bin .mul (.var 2) (.lit (.int 48271))) (.lit (.int 32009))]) (.lit (.int 2147483629))) (.lit (.int 1))), .ret (.bin .mod (.bi .int [.bin .fdiv (.bin .add (.bin .mul (.var 2) (.lit (.int 2147483647))) (.idx (.peek 0) (.lit (.int 1)))) (.lit (.int 8191))]) (.var 1))]⟩
def nm_16 : List Str := ["_law_box_here", "_law_many", "_law_one", "_law_digit"]
theorem ck_16 : chkB ⟨nms, nm_16, defScope st__law_take, true⟩ fd_16.body (defBody st__law_take) = true := by decide +kernel
/-- no_wider -/
def fd_17 : FD := ⟨2, 2, none, [.ret (.cmp .is (.call 18 none [.var 0, .var 1]) (.lit .non))]⟩
def nm_17 : List Str := ["one", "other"]
theorem ck_17 : chkB ⟨nms, nm_17, defScope st_no_wider, true⟩ fd_17.body (defBody st_no_wider) = true := by decide +kernel
/-- _only_in -/
def fd_18 : FD := ⟨2, 4, none, [.for_ (.n 2) (.att (.var 1) [112, 97, 114, 116, 115]) none [.asg 3 (.call 19 none [.var 0, .var 2]), .iff (.cmp .nis (.var 3) (.lit .non)) [.ret (.var 3)] []], .ret (.lit .non)]⟩
def nm_18 : List Str := ["one", "other", "parts", "numbers"]
theorem ck_18 : chkB ⟨nms, nm_18, defScope st__only_in, true⟩ fd_18.body (defBody st__only_in) = true := by decide +kernel
/-- _counter_in -/
def fd_19 : FD := ⟨2, 4, none, [.for_ (.n 2) (.call 20 none [.var 1]) none [.asg 3 (.call 21 none [.att (.var 0) [110, 97, 109, 101, 115], .bin .add (.att (.var 0) [112, 97, 114, 116, 115]) (.tup [.var 2])]), .iff (.cmp .nis (.var 3) (.lit .non)) [.ret (.var 3)] []], .ret (.lit .non)]⟩
def nm_19 : List Str := ["book", "parts", "denial", "numbers"]
theorem ck_19 : chkB ⟨nms, nm_19, defScope st__counter_in, true⟩ fd_19.body (defBody st__counter_in) = true := by decide +kernel
/-- denials_of -/
def fd_20 : FD := ⟨1, 4, none, [.unp (.t [.n 1, .n 2, .n 3]) (.var 0), .iff (.cmp .eq (.var 2) (.lit (.str [61]))) [.ret (.tup [.tup [.var 1, .lit (.str [60]), .var 3], .tup [.var 3, .lit (.str [60]), .var 1]])] [], .ret (.tup [.tup [.var 3, .ite (.cmp .eq (.var 2) (.lit (.str [60, 61]))) (.lit (.str [60])) (.lit (.str [60, 61])), .var 1]])]⟩
def nm_20 : List Str := ["parts", "low", "relation", "high"]
theorem ck_20 : chkB ⟨nms, nm_20, defScope st_denials_of, true⟩ fd_20.body (defBody st_denials_of) = true := by decide +kernel
/-- some_in -/
def fd_21 : FD := ⟨2, 6, none, [.for_ (.n 2) (.call 22 none [.call 24 none [.var 1]]) none [.unp (.t [.n 3, .n 4]) (.call 25 none [.call 28 none [.var 2, .var 0, .var 1], .call 32 none [.var 0, .var 2, .lit (.int 0)]]), .iff (.cmp .nis (.var 3) (.lit .non)) [.ret (.bi .tuple [.lc [5] (.n 5) (.var 0) none [] (.ite (.cmp .inn (.var 5) (.var 3)) (.bin .sub (.idx (.var 3) (.var 5)) (.idx (.var 3) (.lit (.str [])))) (.lit (.int 0)))])] []], .ret (.lit .non)]⟩
def nm_21 : List Str := ["names", "demands", "case", "values", "_", "name"]
theorem ck_21 : chkB ⟨nms, nm_21, defScope st_some_in, true⟩ fd_21.body (defBody st_some_in) = true := by decide +kernel
/-- cases_of -/
def fd_22 : FD := ⟨1, 5, none, [.asgO 1 (.lst []), .asgO 2 (.lst [.dsp []]), .whl (.tru (.peek 2)) [.asg 3 (.pop 2), .asg 4 (.call 23 none [.var 0, .var 3]), .iff (.cmp .is (.var 4) (.lit .non)) [.app 1 (.var 3)] [.app 2 (.dspS (.var 3) [.var 4, .lit (.int 1)]), .app 2 (.dspS (.var 3) [.var 4, .lit (.int 0)])]], .ret (.take 1)]⟩
def nm_22 : List Str := ["steps", "cases", "started", "case", "name"]
theorem ck_22 : chkB ⟨nms, nm_22, defScope st_cases_of, true⟩ fd_22.body (defBody st_cases_of) = true := by decide +kernel
/-- _open_name -/
def fd_23 : FD := ⟨2, 9, none, [.asgO 2 (.lst []), .for_ (.t [.n 3, .n 4]) (.var 0) none [.iff (.cmp .eq (.var 3) (.lit (.str [110, 117, 109, 98, 101, 114]))) [.app 2 (.bi .min [.var 4, .lit (.int 1)])] [.iff (.cmp .eq (.var 3) (.lit (.str [110, 97, 109, 101]))) [.app 2 (.mt .get2 (.var 1) [.var 4, .var 4])] [.iff (.cmp .eq (.var 3) (.lit (.str [43]))) [.asg 5 (.pop 2), .app 2 (.ite (.cmp .eq (.var 4) (.lit (.int 0))) (.var 5) (.lit (.int 1)))] [.asg 6 (.ite (.cmp .eq (.var 3) (.lit (.str [109, 97, 120]))) (.slc (.peek 2) (some (.neg (.var 4))) none) (.slc (.peek 2) (some (.neg (.lit (.int 1)))) none)), .delS 2 (.neg (.var 4)), .asg 7 (.lc [8] (.n 8) (.var 6) none [.cmp .nin (.var 8) (.tup [.lit (.int 0), .lit (.int 1)])] (.var 8)), .iff (.and (.cmp .eq (.var 3) (.lit (.str [105, 109, 97, 120]))) (.tru (.var 7))) [.ret (.idx (.var 7) (.lit (.int 0)))] [], .app 2 (.ite (.cmp .inn (.lit (.int 1)) (.var 6)) (.lit (.int 1)) (.ite (.tru (.var 7)) (.idx (.var 7) (.lit (.int 0))) (.lit (.int 0))))]]]], .ret (.lit .non)]⟩
def nm_23 : List Str := ["steps", "case", "pile", "kind", "thing", "last", "taken", "undecided", "name"]
theorem ck_23 : chkB ⟨nms, nm_23, defScope st__open_name, true⟩ fd_23.body (defBody st__open_name) = true := by decide +kernel
/-- steps_in -/
def fd_24 : FD := ⟨1, 5, none, [.ret (.bi .tuple [.lc2 [2, 3, 4, 1] (.t [.n 2, .n 3, .n 4]) (.var 0) [] [1] (.n 1) (.bin .add (.var 2) (.var 4)) [] (.var 1)])]⟩
def nm_24 : List Str := ["demands", "step", "low", "_", "high"]
theorem ck_24 : chkB ⟨nms, nm_24, defScope st_steps_in, true⟩ fd_24.body (defBody st_steps_in) = true := by decide +kernel
/-- settle -/
def fd_25 : FD := ⟨2, 7, none, [.par true [(2, false), (3, true)] [.bi .dict [.var 1], .dsp []], .whl (.tru (.lit (.bl true))) [.asg 4 (.call 26 none [.var 0, .var 2]), .iff (.not (.tru (.var 4))) [.ret (.tup [.var 2, .dsp []])] [], .upd 3 (.var 4), .asg 2 (.call 43 (some 0) [.peek 3, .var 1]), .iff (.cmp .lt (.bi .len [.var 2]) (.bi .len [.var 1])) [.ret (.tup [.lit .non, .dc [5, 6] (.t [.n 5, .n 6]) (.itms (.peek 3)) (some 3) [.cmp .nin (.var 5) (.var 2)] (.var 5) (.var 6)])] []]]⟩
def nm_25 : List Str := ["bounds", "tops", "values", "chosen", "lower", "x", "bound"]
theorem ck_25 : chkB ⟨nms, nm_25, defScope st_settle, true⟩ fd_25.body (defBody st_settle) = true := by decide +kernel
/-- _lower_bounds -/
def fd_26 : FD := ⟨2, 11, none, [.asgO 2 (.bi .dict [.var 1]), .asgO 3 (.dsp []), .for_ (.n 4) (.var 0) none [.unp (.t [.n 6, .n 7, .n 8]) (.var 4), .asg 5 (.bin .sub (.bi .max [.lc [9, 10] (.t [.n 9, .n 10]) (.var 8) none [] (.bin .add (.idx (.var 1) (.var 9)) (.var 10))]) (.var 7)), .iff (.cmp .lt (.var 5) (.idx (.peek 2) (.var 6))) [.setI 2 (.var 6) (.var 5), .setI 3 (.var 6) (.var 4)] []], .ret (.take 3)]⟩
def nm_26 : List Str := ["bounds", "values", "lowest", "found", "bound", "most", "x", "number", "right", "y", "more"]
theorem ck_26 : chkB ⟨nms, nm_26, defScope st__lower_bounds, true⟩ fd_26.body (defBody st__lower_bounds) = true := by decide +kernel
/-- _values_with -/
def fd_27 : FD := ⟨2, 10, none, [.asgO 2 (.dc [4] (.n 4) (.keys (.var 1)) none [.cmp .nin (.var 4) (.var 0)] (.var 4) (.idx (.var 1) (.var 4))), .for_ (.n 3) (.rng1 (.bi .len [.var 0])) none [.for_ (.t [.n 4, .n 5, .n 6]) (.vals (.var 0)) none [.asg 7 (.lc [8, 9] (.t [.n 8, .n 9]) (.var 6) none [.cmp .inn (.var 8) (.peek 2)] (.bin .add (.idx (.peek 2) (.var 8)) (.var 9))), .iff (.tru (.var 7)) [.setI 2 (.var 4) (.bin .sub (.bi .max [.var 7]) (.var 5))] []]], .ret (.take 2)]⟩
def nm_27 : List Str := ["chosen", "tops", "values", "_", "x", "number", "right", "led", "y", "more"]
theorem ck_27 : chkB ⟨nms, nm_27, defScope st__values_with, true⟩ fd_27.body (defBody st__values_with) = true := by decide +kernel
/-- bounds_in -/
def fd_28 : FD := ⟨3, 13, none, [.asg 3 (.lc [6] (.n 6) (.keys (.var 0)) none [.cmp .eq (.idx (.var 0) (.var 6)) (.lit (.int 0))] (.var 6)), .asgO 4 (.lc [6] (.n 6) (.var 1) none [.cmp .nin (.var 6) (.var 3)] (.tup [.lit (.str []), .mt .get2 (.var 0) [.var 6, .lit (.int 0)], .tup [.tup [.var 6, .lit (.int 0)]]])), .for_ (.n 5) (.var 2) none [.for_ (.t [.n 7, .n 8, .n 9]) (.call 29 none [.var 5]) none [.asg 10 (.call 30 none [.var 9, .var 3]), .for_ (.t [.n 11, .n 12]) (.itmD (.call 30 none [.var 7, .var 3])) none [.iff (.cmp .lt (.mt .get2 (.var 10) [.var 11, .neg (.lit (.int 1))]) (.bin .add (.var 12) (.var 8))) [.app 4 (.tup [.var 11, .bin .add (.var 12) (.var 8), .fx .tupI [.var 10]])] []]]], .ret (.take 4)]⟩
def nm_28 : List Str := ["case", "names", "demands", "zeros", "bounds", "parts", "name", "low", "more", "high", "right", "x", "number"]
theorem ck_28 : chkB ⟨nms, nm_28, defScope st_bounds_in, true⟩ fd_28.body (defBody st_bounds_in) = true := by decide +kernel
/-- sides_of -/
def fd_29 : FD := ⟨1, 4, none, [.unp (.t [.n 1, .n 2, .n 3]) (.var 0), .iff (.cmp .eq (.var 2) (.lit (.str [61]))) [.ret (.tup [.tup [.var 1, .lit (.int 0), .var 3], .tup [.var 3, .lit (.int 0), .var 1]])] [], .ret (.tup [.tup [.var 1, .ite (.cmp .eq (.var 2) (.lit (.str [60]))) (.lit (.int 1)) (.lit (.int 0)), .var 3]])]⟩
def nm_29 : List Str := ["parts", "low", "relation", "high"]
theorem ck_29 : chkB ⟨nms, nm_29, defScope st_sides_of, true⟩ fd_29.body (defBody st_sides_of) = true := by decide +kernel
/-- atoms_in -/
def fd_30 : FD := ⟨2, 9, none, [.asgO 2 (.lst []), .for_ (.t [.n 3, .n 4]) (.var 0) none [.iff (.cmp .eq (.var 3) (.lit (.str [110, 117, 109, 98, 101, 114]))) [.app 2 (.dsp [.lit (.str []), .var 4])] [.iff (.cmp .eq (.var 3) (.lit (.str [110, 97, 109, 101]))) [.app 2 (.ite (.cmp .inn (.var 4) (.var 1)) (.dsp [.lit (.str []), .lit (.int 0)]) (.dsp [.var 4, .lit (.int 0)]))] [.iff (.cmp .eq (.var 3) (.lit (.str [43]))) [.asg 5 (.pop 2), .app 2 (.dc [7, 8] (.t [.n 7, .n 8]) (.itms (.var 5)) none [] (.var 7) (.bin .add (.var 8) (.var 4)))] [.asg 6 (.slc (.peek 2) (some (.neg (.var 4))) none), .delS 2 (.neg (.var 4)), .app 2 (.ite (.and (.cmp .eq (.var 3) (.lit (.str [105, 109, 97, 120]))) (.cmp .eq (.idx (.var 6) (.neg (.lit (.int 1)))) (.dsp [.lit (.str []), .lit (.int 0)]))) (.dsp [.lit (.str []), .lit (.int 0)]) (.call 31 none [.var 6]))]]]], .ret (.idx (.peek 2) (.lit (.int 0)))]⟩
def nm_30 : List Str := ["steps", "zeros", "pile", "kind", "thing", "last", "taken", "name", "number"]
theorem ck_30 : chkB ⟨nms, nm_30, defScope st_atoms_in, true⟩ fd_30.body (defBody st_atoms_in) = true := by decide +kernel
/-- _greatest -/
def fd_31 : FD := ⟨1, 5, none, [.asgO 1 (.dsp []), .for_ (.n 2) (.var 0) none [.for_ (.t [.n 3, .n 4]) (.itms (.var 2)) none [.setI 1 (.var 3) (.bi .max [.var 4, .mt .get2 (.peek 1) [.var 3, .lit (.int 0)]])]], .ret (.take 1)]⟩
def nm_31 : List Str := ["dicts", "best", "found", "name", "number"]
theorem ck_31 : chkB ⟨nms, nm_31, defScope st__greatest, true⟩ fd_31.body (defBody st__greatest) = true := by decide +kernel
/-- same_tops -/
def fd_32 : FD := ⟨3, 4, none, [.ret (.dc [3] (.n 3) (.lstS [.lit (.str []), .star (.var 0)]) none [.cmp .ne (.mt .get1 (.var 1) [.var 3]) (.lit (.int 0))] (.var 3) (.var 2))]⟩
def nm_32 : List Str := ["names", "case", "top", "x"]
theorem ck_32 : chkB ⟨nms, nm_32, defScope st_same_tops, true⟩ fd_32.body (defBody st_same_tops) = true := by decide +kernel
/-- follows -/
def fd_33 : FD := ⟨2, 2, none, [.ret (.cmp .is (.call 34 none [.var 0, .var 1]) (.lit .non))]⟩
def nm_33 : List Str := ["book", "demand"]
theorem ck_33 : chkB ⟨nms, nm_33, defScope st_follows, true⟩ fd_33.body (defBody st_follows) = true := by decide +kernel
/-- counter -/
def fd_34 : FD := ⟨2, 3, none, [.asg 2 (.call 6 none [.var 1, .att (.var 0) [110, 97, 109, 101, 115]]), .iff (.cmp .is (.var 2) (.lit .non)) [.raise] [], .ret (.call 19 none [.var 0, .var 2])]⟩
def nm_34 : List Str := ["book", "demand", "parts"]
theorem ck_34 : chkB ⟨nms, nm_34, defScope st_counter, true⟩ fd_34.body (defBody st_counter) = true := by decide +kernel
/-- excess -/
def fd_35 : FD := ⟨3, 7, none, [.par true [(3, false), (4, false)] [.call 38 none [.var 1, .att (.var 0) [110, 97, 109, 101, 115]], .call 38 none [.var 2, .att (.var 0) [110, 97, 109, 101, 115]]], .unp (.t [.n 5, .n 6]) (.call 36 none [.att (.var 0) [110, 97, 109, 101, 115], .att (.var 0) [112, 97, 114, 116, 115], .var 3, .var 4]), .ret (.var 6)]⟩
def nm_35 : List Str := ["book", "level", "other", "high", "low", "_", "most"]
theorem ck_35 : chkB ⟨nms, nm_35, defScope st_excess, true⟩ fd_35.body (defBody st_excess) = true := by decide +kernel
/-- rise_in -/
def fd_36 : FD := ⟨4, 8, none, [.asg 4 (.lit .non), .for_ (.n 5) (.call 22 none [.bin .add (.bin .add (.call 24 none [.var 1]) (.var 2)) (.var 3)]) none [.unp (.t [.n 6, .n 7]) (.call 37 none [.call 28 none [.var 5, .var 0, .var 1], .var 0, .var 5, .var 2, .var 3]), .iff (.and (.cmp .nis (.var 6) (.lit .non)) (.cmp .gt (.var 6) (.var 7))) [.ret (.tup [.lit (.bl true), .lit .non])] [], .iff (.and (.cmp .nis (.var 6) (.lit .non)) (.or (.cmp .is (.var 4) (.lit .non)) (.cmp .gt (.var 6) (.var 4)))) [.asg 4 (.var 6)] []], .ret (.tup [.cmp .nis (.var 4) (.lit .non), .var 4])]⟩
def nm_36 : List Str := ["names", "demands", "high", "low", "best", "case", "most", "far"]
theorem ck_36 : chkB ⟨nms, nm_36, defScope st_rise_in, true⟩ fd_36.body (defBody st_rise_in) = true := by decide +kernel
/-- _rise -/
def fd_37 : FD := ⟨5, 18, none, [.asg 5 (.lc [15] (.n 15) (.keys (.var 2)) none [.cmp .eq (.idx (.var 2) (.var 15)) (.lit (.int 0))] (.var 15)), .par true [(9, false), (10, false)] [.call 30 none [.var 3, .var 5], .call 30 none [.var 4, .var 5]], .asgO 6 (.bin .add (.fx .lstV [.var 9]) (.fx .lstV [.var 10])), .for_ (.t [.n 11, .n 12, .n 13]) (.var 0) none [.ext 6 (.bin .add (.lst [.var 12]) (.lc [11, 17] (.t [.n 11, .n 17]) (.var 13) none [] (.var 17)))], .asg 7 (.bin .mul (.bin .add (.bi .len [.var 1]) (.lit (.int 3))) (.bin .add (.bi .max [.peek 6]) (.lit (.int 1)))), .asgO 8 (.call 32 none [.var 1, .var 2, .bin .mul (.lit (.int 3)) (.var 7)]), .upd 8 (.dc [16, 17] (.t [.n 16, .n 17]) (.itms (.var 10)) none [] (.var 16) (.neg (.var 17))), .unp (.t [.n 14, .n 11]) (.call 25 none [.var 0, .frz 8]), .iff (.cmp .is (.var 14) (.lit .non)) [.ret (.tup [.lit .non, .var 7])] [], .ret (.tup [.bi .max [.lc [16, 17] (.t [.n 16, .n 17]) (.itms (.var 9)) none [] (.bin .add (.idx (.var 14) (.var 16)) (.var 17))], .var 7])]⟩
def nm_37 : List Str := ["bounds", "names", "case", "high", "low", "zeros", "used", "far", "tops", "lefts", "rights", "_", "number", "right", "values", "name", "x", "more"]
theorem ck_37 : chkB ⟨nms, nm_37, defScope st__rise, true⟩ fd_37.body (defBody st__rise) = true := by decide +kernel
/-- read_within -/
def fd_38 : FD := ⟨2, 3, none, [.asg 2 (.call 39 none [.var 0, .var 1]), .iff (.cmp .is (.var 2) (.lit .non)) [.raise] [], .ret (.var 2)]⟩
def nm_38 : List Str := ["level", "names", "steps"]
theorem ck_38 : chkB ⟨nms, nm_38, defScope st_read_within, true⟩ fd_38.body (defBody st_read_within) = true := by decide +kernel
/-- steps_within -/
def fd_39 : FD := ⟨2, 4, none, [.asg 2 (.call 8 none [.var 0]), .iff (.or (.cmp .is (.var 2) (.lit .non)) (.not (.tru (.bi .all [.lc [3] (.n 3) (.call 14 none [.var 2]) none [] (.cmp .inn (.var 3) (.var 1))])))) [.ret (.lit .non)] [], .ret (.var 2)]⟩
def nm_39 : List Str := ["thing", "names", "steps", "name"]
theorem ck_39 : chkB ⟨nms, nm_39, defScope st_steps_within, true⟩ fd_39.body (defBody st_steps_within) = true := by decide +kernel
/-- Book.but -/
def fd_40 : FD := ⟨2, 2, none, [.ret (.mk 6 2 [.att (.var 0) [110, 97, 109, 101, 115], .bin .add (.slc (.att (.var 0) [100, 101, 109, 97, 110, 100, 115]) none (some (.var 1))) (.slc (.att (.var 0) [100, 101, 109, 97, 110, 100, 115]) (some (.bin .add (.var 1) (.lit (.int 1)))) none)])]⟩
def nm_40 : List Str := ["self", "at"]
theorem ck_40 : chkB ⟨nms, nm_40, defScope (inClass cl_Book 8), true⟩ fd_40.body (defBody (inClass cl_Book 8)) = true := by decide +kernel
/-- _law_ring_right -/
def fd_41 : FD := ⟨3, 5, none, [.asg 3 (.mk 6 2 [.lst [.var 0, .var 1, .var 2], .lst [.bin .add (.bin .add (.bin .add (.bin .add (.bin .add (.var 0) (.lit (.str [32, 60, 61, 32, 109, 97, 120, 40]))) (.var 1)) (.lit (.str [44, 32]))) (.var 2)) (.lit (.str [41])), .bin .add (.bin .add (.bin .add (.bin .add (.bin .add (.var 1) (.lit (.str [32, 60, 61, 32, 109, 97, 120, 40]))) (.var 2)) (.lit (.str [44, 32]))) (.var 0)) (.lit (.str [41]))]]), .iff (.or (.tru (.call 33 none [.var 3, .bin .add (.bin .add (.var 0) (.lit (.str [32, 60, 61, 32]))) (.var 2)])) (.not (.tru (.call 33 none [.var 3, .bin .add (.bin .add (.bin .add (.bin .add (.bin .add (.bin .add (.bin .add (.bin .add (.lit (.str [109, 97, 120, 40])) (.var 0)) (.lit (.str [44, 32]))) (.var 1)) (.lit (.str [41, 32, 60, 61, 32, 109, 97, 120, 40]))) (.var 1)) (.lit (.str [44, 32]))) (.var 2)) (.lit (.str [41]))])))) [.ret (.lit (.bl false))] [], .asg 4 (.call 34 none [.var 3, .bin .add (.bin .add (.var 0) (.lit (.str [32, 60, 61, 32]))) (.var 2)]), .iff (.or (.cmp .is (.var 4) (.lit .non)) (.or (.cmp .ne (.idx (.var 4) (.lit (.int 0))) (.idx (.var 4) (.lit (.int 1)))) (.cmp .le (.idx (.var 4) (.lit (.int 0))) (.idx (.var 4) (.lit (.int 2)))))) [.ret (.lit (.bl false))] [], .ret (.and (.cmp .is (.call 35 none [.var 3, .var 0, .var 1]) (.lit .non)) (.cmp .eq (.call 35 none [.var 3, .var 0, .bin .add (.bin .add (.bin .add (.bin .add (.lit (.str [109, 97, 120, 40])) (.var 1)) (.lit (.str [44, 32]))) (.var 2)) (.lit (.str [41]))]) (.lit (.int 0))))]⟩
def nm_41 : List Str := ["_law_u", "_law_v", "_law_w", "_law_book", "_law_told"]
theorem ck_41 : chkB ⟨nms, nm_41, defScope st__law_ring_right, true⟩ fd_41.body (defBody st__law_ring_right) = true := by decide +kernel
/-- unlike -/
def fd_42 : FD := ⟨2, 3, none, [.asg 2 (.call 18 none [.var 0, .var 1]), .ret (.ite (.cmp .is (.var 2) (.lit .non)) (.call 18 none [.var 1, .var 0]) (.var 2))]⟩
def nm_42 : List Str := ["one", "other", "numbers"]
theorem ck_42 : chkB ⟨nms, nm_42, defScope st_unlike, true⟩ fd_42.body (defBody st_unlike) = true := by decide +kernel
/-- _values_with -/
def fd_43 : FD := ⟨2, 10, some 0, [.asgO 2 (.dc [4] (.n 4) (.keys (.var 1)) none [.cmp .nin (.var 4) (.peek 0)] (.var 4) (.idx (.var 1) (.var 4))), .for_ (.n 3) (.rng1 (.bi .len [.peek 0])) none [.for_ (.t [.n 4, .n 5, .n 6]) (.vals (.peek 0)) (some 0) [.asg 7 (.lc [8, 9] (.t [.n 8, .n 9]) (.var 6) none [.cmp .inn (.var 8) (.peek 2)] (.bin .add (.idx (.peek 2) (.var 8)) (.var 9))), .iff (.tru (.var 7)) [.setI 2 (.var 4) (.bin .sub (.bi .max [.var 7]) (.var 5))] []]], .ret (.take 2)]⟩
def nm_43 : List Str := ["chosen", "tops", "values", "_", "x", "number", "right", "led", "y", "more"]
theorem ck_43 : chkB ⟨nms, nm_43, defScope st__values_with, true⟩ fd_43.body (defBody st__values_with) = true := by decide +kernel
def sb_0 : List SS := [.for_ (.n 1) (.rng1 (.bi .max [.lit (.int 1), .bi .min [.lit (.int 3), .bi .len [.var 0]]])) none [.hide [] [2, 3, 4, 5, 6, 7, 8, 9, 10, 11, 12] [.asgO 2 (.call 1 none [.var 0, .var 1]), .unp (.t [.n 9, .n 10, .n 11]) (.slc (.call 15 (some 0) [.peek 2, .lst [.lit (.str [117]), .lit (.str [118]), .lit (.str [119]), .lit (.str [116, 121])]]) none (some (.lit (.int 3)))), .hide [0] [1, 2] [.asg 3 (.mk 6 2 [.lst [.var 9, .var 10, .var 11], .lst [.bin .add (.bin .add (.bin .add (.bin .add (.bin .add (.var 9) (.lit (.str [32, 43, 32, 49, 32, 60, 61, 32, 109, 97, 120, 40]))) (.var 10)) (.lit (.str [44, 32]))) (.var 11)) (.lit (.str [41])), .bin .add (.bin .add (.var 10) (.lit (.str [32, 60, 61, 32]))) (.var 11)]]), .asg 4 (.lst [.bin .add (.bin .add (.var 9) (.lit (.str [32, 60, 32]))) (.var 11), .bin .add (.bin .add (.var 11) (.lit (.str [32, 60, 61, 32]))) (.var 9), .bin .add (.lit (.str [49, 32, 60, 61, 32])) (.var 11), .bin .add (.lit (.str [49, 32, 60, 61, 32])) (.var 10)]), .iff (.cmp .ne (.lc [12] (.n 12) (.var 4) none [] (.call 33 none [.var 3, .var 12])) (.lst [.lit (.bl true), .lit (.bl false), .lit (.bl true), .lit (.bl false)])) [.ret (.lit (.bl false))] [], .iff (.cmp .ne (.lst [.call 35 none [.var 3, .var 9, .var 11], .call 35 none [.var 3, .var 11, .var 9], .call 35 none [.var 3, .bin .add (.bin .add (.bin .add (.bin .add (.lit (.str [109, 97, 120, 40])) (.var 9)) (.lit (.str [44, 32]))) (.var 10)) (.lit (.str [41])), .var 11]]) (.lst [.neg (.lit (.int 1)), .lit .non, .lit (.int 0)])) [.ret (.lit (.bl false))] [], .iff (.or (.not (.tru (.call 17 none [.var 3, .meth 6 40 [98, 117, 116] (.var 3) [.lit (.int 0)]]))) (.or (.tru (.call 17 none [.meth 6 40 [98, 117, 116] (.var 3) [.lit (.int 0)], .var 3])) (.not (.tru (.call 41 none [.var 9, .var 10, .var 11]))))) [.ret (.lit (.bl false))] [], .hide [] [3, 4, 5, 6, 7, 8, 12] [.asg 5 (.mk 6 2 [.lst [.var 9], .lst [.bin .add (.bin .add (.bin .add (.bin .add (.lit (.str [105, 109, 97, 120, 40])) (.var 9)) (.lit (.str [32, 43, 32, 50, 44, 32]))) (.var 9)) (.lit (.str [41, 32, 60, 61, 32, 52]))]]), .iff (.or (.not (.tru (.call 33 none [.var 5, .bin .add (.var 9) (.lit (.str [32, 60, 61, 32, 50]))]))) (.or (.cmp .ne (.call 35 none [.var 5, .var 9, .lit (.str [48])]) (.lit (.int 2))) (.cmp .ne (.call 35 none [.var 5, .bin .add (.bin .add (.lit (.str [105, 109, 97, 120, 40, 51, 44, 32])) (.var 9)) (.lit (.str [41])), .var 9]) (.lit (.int 2))))) [.ret (.lit (.bl false))] [], .asg 6 (.mk 6 2 [.lst [.var 9, .var 10], .lst [.bin .add (.bin .add (.var 9) (.lit (.str [32, 60, 32]))) (.var 10), .bin .add (.bin .add (.var 10) (.lit (.str [32, 60, 32]))) (.var 9)]]), .iff (.or (.not (.tru (.call 33 none [.var 6, .lit (.str [49, 32, 60, 61, 32, 48])]))) (.or (.cmp .nis (.call 35 none [.var 6, .var 9, .var 10]) (.lit .non)) (.cmp .nis (.call 42 none [.var 6, .var 6]) (.lit .non)))) [.ret (.lit (.bl false))] [], .asg 7 (.mk 6 2 [.lst [.var 9, .var 10], .lst [.bin .add (.bin .add (.bin .add (.var 9) (.lit (.str [32, 61, 32]))) (.var 10)) (.lit (.str [32, 43, 32, 50]))]]), .asg 8 (.mk 6 2 [.lst [.var 9, .var 10], .lst [.bin .add (.bin .add (.bin .add (.var 9) (.lit (.str [32, 60, 61, 32]))) (.var 10)) (.lit (.str [32, 43, 32, 50])), .bin .add (.bin .add (.var 10) (.lit (.str [32, 43, 32, 50, 32, 60, 61, 32]))) (.var 9)]]), .iff (.or (.cmp .nis (.call 42 none [.var 7, .var 8]) (.lit .non)) (.cmp .ne (.call 35 none [.var 7, .var 10, .var 9]) (.neg (.lit (.int 2))))) [.ret (.lit (.bl false))] [], .iff (.or (.not (.tru (.call 33 none [.var 7, .bin .add (.bin .add (.bin .add (.bin .add (.bin .add (.lit (.str [109, 97, 120, 40])) (.var 9)) (.lit (.str [44, 32]))) (.var 10)) (.lit (.str [41, 32, 61, 32]))) (.var 9)]))) (.tru (.call 33 none [.var 7, .bin .add (.bin .add (.bin .add (.bin .add (.bin .add (.lit (.str [105, 109, 97, 120, 40])) (.var 9)) (.lit (.str [44, 32]))) (.var 10)) (.lit (.str [41, 32, 61, 32]))) (.var 9)]))) [.ret (.lit (.bl false))] []]]]], .ret (.lit (.bl true))]
theorem sbk_0 : sb_0 = toSb fd_0.body := by rfl
def sb_1 : List SS := [.asg 2 (.bin .add (.bin .mul (.lit (.int 7349)) (.var 1)) (.lit (.int 167))), .iff (.cmp .lt (.var 1) (.bi .len [.var 0])) [.asg 2 (.bi .abs [.idx (.var 0) (.var 1)])] [.iff (.cmp .gt (.bi .len [.var 0]) (.lit (.int 0))) [.asg 2 (.bin .add (.var 2) (.bin .mul (.bin .mod (.bi .int [.bi .abs [.bi .int [.idx (.var 0) (.bin .mod (.bi .int [.var 1]) (.bi .len [.var 0]))]]]) (.lit (.int 2147483629))) (.lit (.int 71503))))] []], .asg 3 (.bin .add (.bin .mod (.bi .int [.bin .add (.bin .mul (.bin .mod (.bi .int [.var 2]) (.lit (.int 2147483629))) (.lit (.int 48271))) (.bin .mul (.lit (.int 42023)) (.var 1))]) (.lit (.int 2147483629))) (.lit (.int 1))), .ret (.lst [.idx (.lst [.lit (.int 0), .var 2]) (.bi .int [.cmp .ge (.var 2) (.bin .pow (.lit (.int 10)) (.lit (.int 18)))]), .var 3, .lit (.int 0)])]
theorem sbk_1 : sb_1 = toSb fd_1.body := by rfl
def sb_2 : List SS := [.iff (.or (.not (.tru (.call 4 none [.var 1]))) (.cmp .eq (.bi .len [.var 1]) (.lit (.int 0)))) [.raise] [], .iff (.not (.tru (.call 3 none [.var 2]))) [.raise] [], .asg 3 (.bi .tuple [.lc [4] (.n 4) (.var 2) none [] (.call 6 none [.var 4, .var 1])]), .iff (.cmp .inn (.lit .non) (.var 3)) [.raise] [], .setA 0 [110, 97, 109, 101, 115] (.bi .tuple [.var 1]), .setA 0 [100, 101, 109, 97, 110, 100, 115] (.bi .tuple [.var 2]), .setA 0 [112, 97, 114, 116, 115] (.var 3)]
theorem sbk_2 : sb_2 = toSb fd_2.body := by rfl
def sb_3 : List SS := [.ret (.fx (.isiT [4, 3]) [.var 0])]
theorem sbk_3 : sb_3 = toSb fd_3.body := by rfl
def sb_4 : List SS := [.iff (.or (.not (.tru (.call 3 none [.var 0]))) (.not (.tru (.bi .all [.lc [1] (.n 1) (.var 0) none [] (.call 5 none [.var 1])])))) [.ret (.lit (.bl false))] [], .ret (.cmp .eq (.fx .lset [.var 0]) (.bi .len [.var 0]))]
theorem sbk_4 : sb_4 = toSb fd_4.body := by rfl
def sb_5 : List SS := [.iff (.or (.not (.tru (.fx (.isi [2]) [.var 0]))) (.cmp .inn (.var 0) (.tup [.lit (.str [109, 97, 120]), .lit (.str [105, 109, 97, 120])]))) [.ret (.lit (.bl false))] [], .ret (.and (.cmp .le (.bi .len [.var 0]) (.lit (.int 4))) (.and (.fx (.m0 .ascii) [.var 0]) (.and (.fx (.m0 .alpha) [.var 0]) (.fx (.m0 .lower) [.var 0]))))]
theorem sbk_5 : sb_5 = toSb fd_5.body := by rfl
def sb_6 : List SS := [.asg 2 (.call 7 none [.var 0]), .iff (.cmp .is (.var 2) (.lit .non)) [.ret (.lit .non)] [], .unp (.t [.n 3, .n 4, .n 5]) (.var 2), .ret (.ite (.tru (.bi .all [.lc [6] (.n 6) (.call 14 none [.bin .add (.var 3) (.var 5)]) none [] (.cmp .inn (.var 6) (.var 1))])) (.var 2) (.lit .non))]
theorem sbk_6 : sb_6 = toSb fd_6.body := by rfl
def sb_7 : List SS := [.iff (.not (.tru (.fx (.isi [2]) [.var 0]))) [.ret (.lit .non)] [], .for_ (.n 1) (.glob 2) none [.unp (.t [.n 2, .n 3, .n 4]) (.fx .parti [.var 0, .fstr [.lit (.str [32]), .var 1, .lit (.str [32])]]), .iff (.tru (.var 3)) [.par true [(5, false), (6, false)] [.call 8 none [.var 2], .call 8 none [.var 4]], .ret (.ite (.or (.cmp .is (.var 5) (.lit .non)) (.cmp .is (.var 6) (.lit .non))) (.lit .non) (.tup [.var 5, .var 1, .var 6]))] []], .ret (.lit .non)]
theorem sbk_7 : sb_7 = toSb fd_7.body := by rfl
def sb_8 : List SS := [.asg 1 (.ite (.tru (.fx (.isi [2]) [.var 0])) (.call 9 none [.var 0]) (.lit .non)), .iff (.cmp .is (.var 1) (.lit .non)) [.ret (.lit .non)] [], .par true [(3, true), (4, true), (5, true), (6, false)] [.lst [], .lst [], .lst [], .lit (.str [108, 101, 118, 101, 108])], .for_ (.n 2) (.var 1) none [.asg 7 (.call 11 none [.var 2, .var 6]), .iff (.cmp .nis (.var 7) (.lit .non)) [.app 3 (.var 7), .asg 6 (.lit (.str [115, 105, 103, 110]))] [.iff (.and (.cmp .eq (.var 6) (.lit (.str [108, 101, 118, 101, 108]))) (.inKD 0 false (.var 2))) [.app 4 (.ixKD 0 (.var 2)), .app 5 (.lit (.int 1))] [.iff (.and (.cmp .eq (.var 6) (.lit (.str [115, 105, 103, 110]))) (.cmp .eq (.var 2) (.lit (.str [32, 43, 32])))) [.asg 6 (.lit (.str [110, 117, 109, 98, 101, 114]))] [.iff (.and (.cmp .eq (.var 6) (.lit (.str [115, 105, 103, 110]))) (.and (.cmp .eq (.var 2) (.lit (.str [44, 32]))) (.tru (.peek 4)))) [.augI 5 (.neg (.lit (.int 1))) (.lit (.int 1)), .asg 6 (.lit (.str [108, 101, 118, 101, 108]))] [.iff (.and (.cmp .eq (.var 6) (.lit (.str [115, 105, 103, 110]))) (.and (.cmp .eq (.var 2) (.lit (.str [41]))) (.and (.tru (.peek 4)) (.tru (.call 13 none [.idx (.peek 4) (.neg (.lit (.int 1))), .idx (.peek 5) (.neg (.lit (.int 1)))]))))) [.app 3 (.tup [.pop 4, .pop 5])] [.ret (.lit .non)]]]]]], .ret (.ite (.and (.cmp .eq (.var 6) (.lit (.str [115, 105, 103, 110]))) (.not (.tru (.peek 4)))) (.bi .tuple [.peek 3]) (.lit .non))]
theorem sbk_8 : sb_8 = toSb fd_8.body := by rfl
def sb_9 : List SS := [.asgO 1 (.lst []), .asg 2 (.lit (.int 0)), .whl (.cmp .lt (.var 2) (.bi .len [.var 0])) [.asg 3 (.call 10 none [.var 0, .var 2]), .iff (.cmp .eq (.var 3) (.lit (.str []))) [.ret (.lit .non)] [], .app 1 (.var 3), .aug false 2 (.bi .len [.var 3])], .ret (.take 1)]
theorem sbk_9 : sb_9 = toSb fd_9.body := by rfl
def sb_10 : List SS := [.for_ (.n 2) (.glob 1) none [.iff (.tru (.fx .sw3 [.var 0, .var 2, .var 1])) [.ret (.var 2)] []], .asg 3 (.var 1), .whl (.and (.cmp .lt (.var 3) (.bi .len [.var 0])) (.tru (.fx (.m0 .alnum) [.idx (.var 0) (.var 3)]))) [.aug false 3 (.lit (.int 1))], .ret (.slc (.var 0) (some (.var 1)) (some (.var 3)))]
theorem sbk_10 : sb_10 = toSb fd_10.body := by rfl
def sb_11 : List SS := [.iff (.and (.cmp .eq (.var 1) (.lit (.str [108, 101, 118, 101, 108]))) (.tru (.call 5 none [.var 0]))) [.ret (.tup [.lit (.str [110, 97, 109, 101]), .var 0])] [], .iff (.and (.cmp .eq (.var 1) (.lit (.str [108, 101, 118, 101, 108]))) (.tru (.call 12 none [.var 0]))) [.ret (.tup [.lit (.str [110, 117, 109, 98, 101, 114]), .bi .int [.var 0]])] [], .iff (.and (.cmp .eq (.var 1) (.lit (.str [110, 117, 109, 98, 101, 114]))) (.tru (.call 12 none [.var 0]))) [.ret (.tup [.lit (.str [43]), .bi .int [.var 0]])] [], .ret (.lit .non)]
theorem sbk_11 : sb_11 = toSb fd_11.body := by rfl
def sb_12 : List SS := [.iff (.or (.not (.tru (.fx (.m0 .ascii) [.var 0]))) (.not (.tru (.fx (.m0 .digit) [.var 0])))) [.ret (.lit (.bl false))] [], .ret (.and (.cmp .le (.bi .len [.var 0]) (.lit (.int 4))) (.or (.cmp .eq (.var 0) (.lit (.str [48]))) (.cmp .ne (.idx (.var 0) (.lit (.int 0))) (.lit (.str [48])))))]
theorem sbk_12 : sb_12 = toSb fd_12.body := by rfl
def sb_13 : List SS := [.ret (.ite (.cmp .eq (.var 0) (.lit (.str [109, 97, 120]))) (.cmp .ge (.var 1) (.lit (.int 2))) (.cmp .eq (.var 1) (.lit (.int 2))))]
theorem sbk_13 : sb_13 = toSb fd_13.body := by rfl
def sb_14 : List SS := [.ret (.bi .tuple [.scs [1, 2] (.t [.n 1, .n 2]) (.var 0) none [.cmp .eq (.var 1) (.lit (.str [110, 97, 109, 101]))] (.var 2)])]
theorem sbk_14 : sb_14 = toSb fd_14.body := by rfl
def sb_15 : List SS := [.par true [(2, true), (3, true)] [.bi .list [.var 1], .lst []], .whl (.cmp .ne (.peek 2) (.lst [])) [.app 3 (.popAt 2 (.call 16 (some 0) [.peek 0, .bi .len [.peek 2]]))], .ret (.take 3)]
theorem sbk_15 : sb_15 = toSb fd_15.body := by rfl
def sb_16 : List SS := [.iff (.cmp .gt (.idx (.peek 0) (.lit (.int 0))) (.lit (.int 0))) [.asg 3 (.bin .mod (.bi .int [.idx (.peek 0) (.lit (.int 0))]) (.var 1)), .setI 0 (.lit (.int 0)) (.bin .fdiv (.idx (.peek 0) (.lit (.int 0))) (.var 1)), .ret (.var 3)] [], .setI 0 (.lit (.int 2)) (.bin .add (.idx (.peek 0) (.lit (.int 2))) (.lit (.int 1))), .asg 2 (.bin .mod (.bi .int [.bin .mul (.bin .add (.idx (.peek 0) (.lit (.int 1))) (.bin .mul (.lit (.int 106907)) (.idx (.peek 0) (.lit (.int 2))))) (.lit (.int 71711))]) (.lit (.int 2147483647))), .setI 0 (.lit (.int 1)) (.bin .add (.bin .mod (.bi .int [.bin .add (.bin .mul (.var 2) (.lit (.int 48271))) (.lit (.int 32009))]) (.lit (.int 2147483629))) (.lit (.int 1))), .ret (.bin .mod (.bi .int [.bin .fdiv (.bin .add (.bin .mul (.var 2) (.lit (.int 2147483647))) (.idx (.peek 0) (.lit (.int 1)))) (.lit (.int 8191))]) (.var 1))]
theorem sbk_16 : sb_16 = toSb fd_16.body := by rfl
def sb_17 : List SS := [.ret (.cmp .is (.call 18 none [.var 0, .var 1]) (.lit .non))]
theorem sbk_17 : sb_17 = toSb fd_17.body := by rfl
def sb_18 : List SS := [.for_ (.n 2) (.att (.var 1) [112, 97, 114, 116, 115]) none [.asg 3 (.call 19 none [.var 0, .var 2]), .iff (.cmp .nis (.var 3) (.lit .non)) [.ret (.var 3)] []], .ret (.lit .non)]
theorem sbk_18 : sb_18 = toSb fd_18.body := by rfl
def sb_19 : List SS := [.for_ (.n 2) (.call 20 none [.var 1]) none [.asg 3 (.call 21 none [.att (.var 0) [110, 97, 109, 101, 115], .bin .add (.att (.var 0) [112, 97, 114, 116, 115]) (.tup [.var 2])]), .iff (.cmp .nis (.var 3) (.lit .non)) [.ret (.var 3)] []], .ret (.lit .non)]
theorem sbk_19 : sb_19 = toSb fd_19.body := by rfl
def sb_20 : List SS := [.unp (.t [.n 1, .n 2, .n 3]) (.var 0), .iff (.cmp .eq (.var 2) (.lit (.str [61]))) [.ret (.tup [.tup [.var 1, .lit (.str [60]), .var 3], .tup [.var 3, .lit (.str [60]), .var 1]])] [], .ret (.tup [.tup [.var 3, .ite (.cmp .eq (.var 2) (.lit (.str [60, 61]))) (.lit (.str [60])) (.lit (.str [60, 61])), .var 1]])]
theorem sbk_20 : sb_20 = toSb fd_20.body := by rfl
def sb_21 : List SS := [.for_ (.n 2) (.call 22 none [.call 24 none [.var 1]]) none [.unp (.t [.n 3, .n 4]) (.call 25 none [.call 28 none [.var 2, .var 0, .var 1], .call 32 none [.var 0, .var 2, .lit (.int 0)]]), .iff (.cmp .nis (.var 3) (.lit .non)) [.ret (.bi .tuple [.lc [5] (.n 5) (.var 0) none [] (.ite (.cmp .inn (.var 5) (.var 3)) (.bin .sub (.idx (.var 3) (.var 5)) (.idx (.var 3) (.lit (.str [])))) (.lit (.int 0)))])] []], .ret (.lit .non)]
theorem sbk_21 : sb_21 = toSb fd_21.body := by rfl
def sb_22 : List SS := [.asgO 1 (.lst []), .asgO 2 (.lst [.dsp []]), .whl (.tru (.peek 2)) [.asg 3 (.pop 2), .asg 4 (.call 23 none [.var 0, .var 3]), .iff (.cmp .is (.var 4) (.lit .non)) [.app 1 (.var 3)] [.app 2 (.dspS (.var 3) [.var 4, .lit (.int 1)]), .app 2 (.dspS (.var 3) [.var 4, .lit (.int 0)])]], .ret (.take 1)]
theorem sbk_22 : sb_22 = toSb fd_22.body := by rfl
def sb_23 : List SS := [.asgO 2 (.lst []), .for_ (.t [.n 3, .n 4]) (.var 0) none [.iff (.cmp .eq (.var 3) (.lit (.str [110, 117, 109, 98, 101, 114]))) [.app 2 (.bi .min [.var 4, .lit (.int 1)])] [.iff (.cmp .eq (.var 3) (.lit (.str [110, 97, 109, 101]))) [.app 2 (.mt .get2 (.var 1) [.var 4, .var 4])] [.iff (.cmp .eq (.var 3) (.lit (.str [43]))) [.asg 5 (.pop 2), .app 2 (.ite (.cmp .eq (.var 4) (.lit (.int 0))) (.var 5) (.lit (.int 1)))] [.asg 6 (.ite (.cmp .eq (.var 3) (.lit (.str [109, 97, 120]))) (.slc (.peek 2) (some (.neg (.var 4))) none) (.slc (.peek 2) (some (.neg (.lit (.int 1)))) none)), .delS 2 (.neg (.var 4)), .asg 7 (.lc [8] (.n 8) (.var 6) none [.cmp .nin (.var 8) (.tup [.lit (.int 0), .lit (.int 1)])] (.var 8)), .iff (.and (.cmp .eq (.var 3) (.lit (.str [105, 109, 97, 120]))) (.tru (.var 7))) [.ret (.idx (.var 7) (.lit (.int 0)))] [], .app 2 (.ite (.cmp .inn (.lit (.int 1)) (.var 6)) (.lit (.int 1)) (.ite (.tru (.var 7)) (.idx (.var 7) (.lit (.int 0))) (.lit (.int 0))))]]]], .ret (.lit .non)]
theorem sbk_23 : sb_23 = toSb fd_23.body := by rfl
def sb_24 : List SS := [.ret (.bi .tuple [.lc2 [2, 3, 4, 1] (.t [.n 2, .n 3, .n 4]) (.var 0) [] [1] (.n 1) (.bin .add (.var 2) (.var 4)) [] (.var 1)])]
theorem sbk_24 : sb_24 = toSb fd_24.body := by rfl
def sb_25 : List SS := [.par true [(2, false), (3, true)] [.bi .dict [.var 1], .dsp []], .whl (.tru (.lit (.bl true))) [.asg 4 (.call 26 none [.var 0, .var 2]), .iff (.not (.tru (.var 4))) [.ret (.tup [.var 2, .dsp []])] [], .upd 3 (.var 4), .asg 2 (.call 43 (some 0) [.peek 3, .var 1]), .iff (.cmp .lt (.bi .len [.var 2]) (.bi .len [.var 1])) [.ret (.tup [.lit .non, .dc [5, 6] (.t [.n 5, .n 6]) (.itms (.peek 3)) (some 3) [.cmp .nin (.var 5) (.var 2)] (.var 5) (.var 6)])] []]]
theorem sbk_25 : sb_25 = toSb fd_25.body := by rfl
def sb_26 : List SS := [.asgO 2 (.bi .dict [.var 1]), .asgO 3 (.dsp []), .for_ (.n 4) (.var 0) none [.unp (.t [.n 6, .n 7, .n 8]) (.var 4), .asg 5 (.bin .sub (.bi .max [.lc [9, 10] (.t [.n 9, .n 10]) (.var 8) none [] (.bin .add (.idx (.var 1) (.var 9)) (.var 10))]) (.var 7)), .iff (.cmp .lt (.var 5) (.idx (.peek 2) (.var 6))) [.setI 2 (.var 6) (.var 5), .setI 3 (.var 6) (.var 4)] []], .ret (.take 3)]
theorem sbk_26 : sb_26 = toSb fd_26.body := by rfl
def sb_27 : List SS := [.asgO 2 (.dc [4] (.n 4) (.keys (.var 1)) none [.cmp .nin (.var 4) (.var 0)] (.var 4) (.idx (.var 1) (.var 4))), .for_ (.n 3) (.rng1 (.bi .len [.var 0])) none [.for_ (.t [.n 4, .n 5, .n 6]) (.vals (.var 0)) none [.asg 7 (.lc [8, 9] (.t [.n 8, .n 9]) (.var 6) none [.cmp .inn (.var 8) (.peek 2)] (.bin .add (.idx (.peek 2) (.var 8)) (.var 9))), .iff (.tru (.var 7)) [.setI 2 (.var 4) (.bin .sub (.bi .max [.var 7]) (.var 5))] []]], .ret (.take 2)]
theorem sbk_27 : sb_27 = toSb fd_27.body := by rfl
def sb_28 : List SS := [.asg 3 (.lc [6] (.n 6) (.keys (.var 0)) none [.cmp .eq (.idx (.var 0) (.var 6)) (.lit (.int 0))] (.var 6)), .asgO 4 (.lc [6] (.n 6) (.var 1) none [.cmp .nin (.var 6) (.var 3)] (.tup [.lit (.str []), .mt .get2 (.var 0) [.var 6, .lit (.int 0)], .tup [.tup [.var 6, .lit (.int 0)]]])), .for_ (.n 5) (.var 2) none [.for_ (.t [.n 7, .n 8, .n 9]) (.call 29 none [.var 5]) none [.asg 10 (.call 30 none [.var 9, .var 3]), .for_ (.t [.n 11, .n 12]) (.itmD (.call 30 none [.var 7, .var 3])) none [.iff (.cmp .lt (.mt .get2 (.var 10) [.var 11, .neg (.lit (.int 1))]) (.bin .add (.var 12) (.var 8))) [.app 4 (.tup [.var 11, .bin .add (.var 12) (.var 8), .fx .tupI [.var 10]])] []]]], .ret (.take 4)]
theorem sbk_28 : sb_28 = toSb fd_28.body := by rfl
def sb_29 : List SS := [.unp (.t [.n 1, .n 2, .n 3]) (.var 0), .iff (.cmp .eq (.var 2) (.lit (.str [61]))) [.ret (.tup [.tup [.var 1, .lit (.int 0), .var 3], .tup [.var 3, .lit (.int 0), .var 1]])] [], .ret (.tup [.tup [.var 1, .ite (.cmp .eq (.var 2) (.lit (.str [60]))) (.lit (.int 1)) (.lit (.int 0)), .var 3]])]
theorem sbk_29 : sb_29 = toSb fd_29.body := by rfl
def sb_30 : List SS := [.asgO 2 (.lst []), .for_ (.t [.n 3, .n 4]) (.var 0) none [.iff (.cmp .eq (.var 3) (.lit (.str [110, 117, 109, 98, 101, 114]))) [.app 2 (.dsp [.lit (.str []), .var 4])] [.iff (.cmp .eq (.var 3) (.lit (.str [110, 97, 109, 101]))) [.app 2 (.ite (.cmp .inn (.var 4) (.var 1)) (.dsp [.lit (.str []), .lit (.int 0)]) (.dsp [.var 4, .lit (.int 0)]))] [.iff (.cmp .eq (.var 3) (.lit (.str [43]))) [.asg 5 (.pop 2), .app 2 (.dc [7, 8] (.t [.n 7, .n 8]) (.itms (.var 5)) none [] (.var 7) (.bin .add (.var 8) (.var 4)))] [.asg 6 (.slc (.peek 2) (some (.neg (.var 4))) none), .delS 2 (.neg (.var 4)), .app 2 (.ite (.and (.cmp .eq (.var 3) (.lit (.str [105, 109, 97, 120]))) (.cmp .eq (.idx (.var 6) (.neg (.lit (.int 1)))) (.dsp [.lit (.str []), .lit (.int 0)]))) (.dsp [.lit (.str []), .lit (.int 0)]) (.call 31 none [.var 6]))]]]], .ret (.idx (.peek 2) (.lit (.int 0)))]
theorem sbk_30 : sb_30 = toSb fd_30.body := by rfl
def sb_31 : List SS := [.asgO 1 (.dsp []), .for_ (.n 2) (.var 0) none [.for_ (.t [.n 3, .n 4]) (.itms (.var 2)) none [.setI 1 (.var 3) (.bi .max [.var 4, .mt .get2 (.peek 1) [.var 3, .lit (.int 0)]])]], .ret (.take 1)]
theorem sbk_31 : sb_31 = toSb fd_31.body := by rfl
def sb_32 : List SS := [.ret (.dc [3] (.n 3) (.lstS [.lit (.str []), .star (.var 0)]) none [.cmp .ne (.mt .get1 (.var 1) [.var 3]) (.lit (.int 0))] (.var 3) (.var 2))]
theorem sbk_32 : sb_32 = toSb fd_32.body := by rfl
def sb_33 : List SS := [.ret (.cmp .is (.call 34 none [.var 0, .var 1]) (.lit .non))]
theorem sbk_33 : sb_33 = toSb fd_33.body := by rfl
def sb_34 : List SS := [.asg 2 (.call 6 none [.var 1, .att (.var 0) [110, 97, 109, 101, 115]]), .iff (.cmp .is (.var 2) (.lit .non)) [.raise] [], .ret (.call 19 none [.var 0, .var 2])]
theorem sbk_34 : sb_34 = toSb fd_34.body := by rfl
def sb_35 : List SS := [.par true [(3, false), (4, false)] [.call 38 none [.var 1, .att (.var 0) [110, 97, 109, 101, 115]], .call 38 none [.var 2, .att (.var 0) [110, 97, 109, 101, 115]]], .unp (.t [.n 5, .n 6]) (.call 36 none [.att (.var 0) [110, 97, 109, 101, 115], .att (.var 0) [112, 97, 114, 116, 115], .var 3, .var 4]), .ret (.var 6)]
theorem sbk_35 : sb_35 = toSb fd_35.body := by rfl
def sb_36 : List SS := [.asg 4 (.lit .non), .for_ (.n 5) (.call 22 none [.bin .add (.bin .add (.call 24 none [.var 1]) (.var 2)) (.var 3)]) none [.unp (.t [.n 6, .n 7]) (.call 37 none [.call 28 none [.var 5, .var 0, .var 1], .var 0, .var 5, .var 2, .var 3]), .iff (.and (.cmp .nis (.var 6) (.lit .non)) (.cmp .gt (.var 6) (.var 7))) [.ret (.tup [.lit (.bl true), .lit .non])] [], .iff (.and (.cmp .nis (.var 6) (.lit .non)) (.or (.cmp .is (.var 4) (.lit .non)) (.cmp .gt (.var 6) (.var 4)))) [.asg 4 (.var 6)] []], .ret (.tup [.cmp .nis (.var 4) (.lit .non), .var 4])]
theorem sbk_36 : sb_36 = toSb fd_36.body := by rfl
def sb_37 : List SS := [.asg 5 (.lc [15] (.n 15) (.keys (.var 2)) none [.cmp .eq (.idx (.var 2) (.var 15)) (.lit (.int 0))] (.var 15)), .par true [(9, false), (10, false)] [.call 30 none [.var 3, .var 5], .call 30 none [.var 4, .var 5]], .asgO 6 (.bin .add (.fx .lstV [.var 9]) (.fx .lstV [.var 10])), .for_ (.t [.n 11, .n 12, .n 13]) (.var 0) none [.ext 6 (.bin .add (.lst [.var 12]) (.lc [11, 17] (.t [.n 11, .n 17]) (.var 13) none [] (.var 17)))], .asg 7 (.bin .mul (.bin .add (.bi .len [.var 1]) (.lit (.int 3))) (.bin .add (.bi .max [.peek 6]) (.lit (.int 1)))), .asgO 8 (.call 32 none [.var 1, .var 2, .bin .mul (.lit (.int 3)) (.var 7)]), .upd 8 (.dc [16, 17] (.t [.n 16, .n 17]) (.itms (.var 10)) none [] (.var 16) (.neg (.var 17))), .unp (.t [.n 14, .n 11]) (.call 25 none [.var 0, .frz 8]), .iff (.cmp .is (.var 14) (.lit .non)) [.ret (.tup [.lit .non, .var 7])] [], .ret (.tup [.bi .max [.lc [16, 17] (.t [.n 16, .n 17]) (.itms (.var 9)) none [] (.bin .add (.idx (.var 14) (.var 16)) (.var 17))], .var 7])]
theorem sbk_37 : sb_37 = toSb fd_37.body := by rfl
def sb_38 : List SS := [.asg 2 (.call 39 none [.var 0, .var 1]), .iff (.cmp .is (.var 2) (.lit .non)) [.raise] [], .ret (.var 2)]
theorem sbk_38 : sb_38 = toSb fd_38.body := by rfl
def sb_39 : List SS := [.asg 2 (.call 8 none [.var 0]), .iff (.or (.cmp .is (.var 2) (.lit .non)) (.not (.tru (.bi .all [.lc [3] (.n 3) (.call 14 none [.var 2]) none [] (.cmp .inn (.var 3) (.var 1))])))) [.ret (.lit .non)] [], .ret (.var 2)]
theorem sbk_39 : sb_39 = toSb fd_39.body := by rfl
def sb_40 : List SS := [.ret (.mk 6 2 [.att (.var 0) [110, 97, 109, 101, 115], .bin .add (.slc (.att (.var 0) [100, 101, 109, 97, 110, 100, 115]) none (some (.var 1))) (.slc (.att (.var 0) [100, 101, 109, 97, 110, 100, 115]) (some (.bin .add (.var 1) (.lit (.int 1)))) none)])]
theorem sbk_40 : sb_40 = toSb fd_40.body := by rfl
def sb_41 : List SS := [.asg 3 (.mk 6 2 [.lst [.var 0, .var 1, .var 2], .lst [.bin .add (.bin .add (.bin .add (.bin .add (.bin .add (.var 0) (.lit (.str [32, 60, 61, 32, 109, 97, 120, 40]))) (.var 1)) (.lit (.str [44, 32]))) (.var 2)) (.lit (.str [41])), .bin .add (.bin .add (.bin .add (.bin .add (.bin .add (.var 1) (.lit (.str [32, 60, 61, 32, 109, 97, 120, 40]))) (.var 2)) (.lit (.str [44, 32]))) (.var 0)) (.lit (.str [41]))]]), .iff (.or (.tru (.call 33 none [.var 3, .bin .add (.bin .add (.var 0) (.lit (.str [32, 60, 61, 32]))) (.var 2)])) (.not (.tru (.call 33 none [.var 3, .bin .add (.bin .add (.bin .add (.bin .add (.bin .add (.bin .add (.bin .add (.bin .add (.lit (.str [109, 97, 120, 40])) (.var 0)) (.lit (.str [44, 32]))) (.var 1)) (.lit (.str [41, 32, 60, 61, 32, 109, 97, 120, 40]))) (.var 1)) (.lit (.str [44, 32]))) (.var 2)) (.lit (.str [41]))])))) [.ret (.lit (.bl false))] [], .asg 4 (.call 34 none [.var 3, .bin .add (.bin .add (.var 0) (.lit (.str [32, 60, 61, 32]))) (.var 2)]), .iff (.or (.cmp .is (.var 4) (.lit .non)) (.or (.cmp .ne (.idx (.var 4) (.lit (.int 0))) (.idx (.var 4) (.lit (.int 1)))) (.cmp .le (.idx (.var 4) (.lit (.int 0))) (.idx (.var 4) (.lit (.int 2)))))) [.ret (.lit (.bl false))] [], .ret (.and (.cmp .is (.call 35 none [.var 3, .var 0, .var 1]) (.lit .non)) (.cmp .eq (.call 35 none [.var 3, .var 0, .bin .add (.bin .add (.bin .add (.bin .add (.lit (.str [109, 97, 120, 40])) (.var 1)) (.lit (.str [44, 32]))) (.var 2)) (.lit (.str [41]))]) (.lit (.int 0))))]
theorem sbk_41 : sb_41 = toSb fd_41.body := by rfl
def sb_42 : List SS := [.asg 2 (.call 18 none [.var 0, .var 1]), .ret (.ite (.cmp .is (.var 2) (.lit .non)) (.call 18 none [.var 1, .var 0]) (.var 2))]
theorem sbk_42 : sb_42 = toSb fd_42.body := by rfl
def sb_43 : List SS := [.asgO 2 (.dc [4] (.n 4) (.keys (.var 1)) none [.cmp .nin (.var 4) (.peek 0)] (.var 4) (.idx (.var 1) (.var 4))), .for_ (.n 3) (.rng1 (.bi .len [.peek 0])) none [.for_ (.t [.n 4, .n 5, .n 6]) (.vals (.peek 0)) (some 0) [.asg 7 (.lc [8, 9] (.t [.n 8, .n 9]) (.var 6) none [.cmp .inn (.var 8) (.peek 2)] (.bin .add (.idx (.peek 2) (.var 8)) (.var 9))), .iff (.tru (.var 7)) [.setI 2 (.var 4) (.bin .sub (.bi .max [.var 7]) (.var 5))] []]], .ret (.take 2)]
theorem sbk_43 : sb_43 = toSb fd_43.body := by rfl
def sbs : Nat → List SS
  | 0 => sb_0
  | 1 => sb_1
  | 2 => sb_2
  | 3 => sb_3
  | 4 => sb_4
  | 5 => sb_5
  | 6 => sb_6
  | 7 => sb_7
  | 8 => sb_8
  | 9 => sb_9
  | 10 => sb_10
  | 11 => sb_11
  | 12 => sb_12
  | 13 => sb_13
  | 14 => sb_14
  | 15 => sb_15
  | 16 => sb_16
  | 17 => sb_17
  | 18 => sb_18
  | 19 => sb_19
  | 20 => sb_20
  | 21 => sb_21
  | 22 => sb_22
  | 23 => sb_23
  | 24 => sb_24
  | 25 => sb_25
  | 26 => sb_26
  | 27 => sb_27
  | 28 => sb_28
  | 29 => sb_29
  | 30 => sb_30
  | 31 => sb_31
  | 32 => sb_32
  | 33 => sb_33
  | 34 => sb_34
  | 35 => sb_35
  | 36 => sb_36
  | 37 => sb_37
  | 38 => sb_38
  | 39 => sb_39
  | 40 => sb_40
  | 41 => sb_41
  | 42 => sb_42
  | 43 => sb_43
  | _ => []
def dfs : Nat → Option FD
  | 0 => some fd_0
  | 1 => some fd_1
  | 2 => some fd_2
  | 3 => some fd_3
  | 4 => some fd_4
  | 5 => some fd_5
  | 6 => some fd_6
  | 7 => some fd_7
  | 8 => some fd_8
  | 9 => some fd_9
  | 10 => some fd_10
  | 11 => some fd_11
  | 12 => some fd_12
  | 13 => some fd_13
  | 14 => some fd_14
  | 15 => some fd_15
  | 16 => some fd_16
  | 17 => some fd_17
  | 18 => some fd_18
  | 19 => some fd_19
  | 20 => some fd_20
  | 21 => some fd_21
  | 22 => some fd_22
  | 23 => some fd_23
  | 24 => some fd_24
  | 25 => some fd_25
  | 26 => some fd_26
  | 27 => some fd_27
  | 28 => some fd_28
  | 29 => some fd_29
  | 30 => some fd_30
  | 31 => some fd_31
  | 32 => some fd_32
  | 33 => some fd_33
  | 34 => some fd_34
  | 35 => some fd_35
  | 36 => some fd_36
  | 37 => some fd_37
  | 38 => some fd_38
  | 39 => some fd_39
  | 40 => some fd_40
  | 41 => some fd_41
  | 42 => some fd_42
  | 43 => some fd_43
  | _ => none
def pr (W : Nat) : Pr := ⟨dfs, glb, gdic, fld, W, fun _ _ _ => none⟩
theorem sbs_ok : ∀ (W f : Nat) (fd : FD), (pr W).defs f = some fd → sbs f = toSb fd.body := by
  intro W f fd h
  have h : dfs f = some fd := h
  unfold dfs at h
  split at h <;> first | (cases h; done) | skip
  · cases h
    exact sbk_0
  · cases h
    exact sbk_1
  · cases h
    exact sbk_2
  · cases h
    exact sbk_3
  · cases h
    exact sbk_4
  · cases h
    exact sbk_5
  · cases h
    exact sbk_6
  · cases h
    exact sbk_7
  · cases h
    exact sbk_8
  · cases h
    exact sbk_9
  · cases h
    exact sbk_10
  · cases h
    exact sbk_11
  · cases h
    exact sbk_12
  · cases h
    exact sbk_13
  · cases h
    exact sbk_14
  · cases h
    exact sbk_15
  · cases h
    exact sbk_16
  · cases h
    exact sbk_17
  · cases h
    exact sbk_18
  · cases h
    exact sbk_19
  · cases h
    exact sbk_20
  · cases h
    exact sbk_21
  · cases h
    exact sbk_22
  · cases h
    exact sbk_23
  · cases h
    exact sbk_24
  · cases h
    exact sbk_25
  · cases h
    exact sbk_26
  · cases h
    exact sbk_27
  · cases h
    exact sbk_28
  · cases h
    exact sbk_29
  · cases h
    exact sbk_30
  · cases h
    exact sbk_31
  · cases h
    exact sbk_32
  · cases h
    exact sbk_33
  · cases h
    exact sbk_34
  · cases h
    exact sbk_35
  · cases h
    exact sbk_36
  · cases h
    exact sbk_37
  · cases h
    exact sbk_38
  · cases h
    exact sbk_39
  · cases h
    exact sbk_40
  · cases h
    exact sbk_41
  · cases h
    exact sbk_42
  · cases h
    exact sbk_43
end Pg
end
/-! Ln -/
section
set_option Elab.async false
set_option linter.all false
set_option maxRecDepth 100000
set_option maxHeartbeats 1000000
/-! what a law needs of the engine's values -/
namespace Ev
open L2
def cnF (P : Pr) (n : Nat) : Cn := ⟨callF P n, (match n with
        | 0 => fun _ _ => .bad
        | m + 1 => callF P m), P.glob, P.gdic, P.fld, P.W⟩
theorem callF_eq {P : Pr} {n i : Nat} {as : List Ar} {fd : FD} {ρ : Env} (h1 : P.defs i = some fd) (h2 : entry fd as = some ρ) : callF P (n + 1) i as = leave fd (evB (cnF P n) fd.body ρ) := by
  unfold callF
  rw [h1]
  dsimp only
  rw [h2]
  rfl
theorem atI_of {α : Type} {t : List α} {j : Int} (h1 : 0 ≤ j) (h2 : j < t.length) : ∃ x, atI t j = some x := by
  unfold atI ixN
  rw [if_pos h1, if_pos h2]
  have h : j.toNat < t.length := by omega
  exact ⟨t[j.toNat], by simp [h]⟩
/-- the orders of k of some values -/
def orders : Nat → List D → List (List D)
  | 0, _ => [[]]
  | k + 1, ds => (List.range ds.length).flatMap fun j => match ds[j]? with
    | some d => (orders k (ds.eraseIdx j)).map (d :: ·)
    | none => []
/-- a def that takes one of so many -/
def Takes1 (f : List Ar → Res) : Prop := ∀ a b c m : Int, 0 < m → m < 1073741824 → ∃ r a' b' c' : Int, 0 ≤ r ∧ r < m ∧ f [.m (.lst [.int a, .int b, .int c]), .d (.int m)] = .ok (.d (.int r)) (some (.lst [.int a', .int b', .int c']))
theorem plains_erase {n : Nat} : ∀ {ds : List D} {j : Nat}, plains n ds = true → plains n (ds.eraseIdx j) = true
  | [], _, _ => rfl
  | d :: ds, 0, h => by
    rw [plains, Bool.and_eq_true] at h
    exact h.2
  | d :: ds, j + 1, h => by
    rw [plains, Bool.and_eq_true] at h
    rw [List.eraseIdx_cons_succ, plains, h.1, plains_erase h.2]
    rfl
theorem mix_loop {C : Cn} {tk : Nat} (hC : Takes1 (C.call tk)) {L : D} : ∀ (k : Nat) (ds : List D), ds.length = k → plains 39 ds = true → ∀ (w : Nat) (a b c : Int) (acc : List D), acc.length + k < 1000 →
    ∃ perm ∈ orders k ds, ∃ a' b' c' : Int, evWhl (ev C (.cmp .ne (.peek 2) (.lst []))) (evB C [.app 3 (.popAt 2 (.call tk (some 0) [.peek 0, .bi .len [.peek 2]]))]) (w + k + 1) [.own (.lst [.int a, .int b, .int c]) true false, .val L, .own (.lst ds) false false, .own (.lst acc) false false] =
      .ok .nx [.own (.lst [.int a', .int b', .int c']) true false, .val L, .own (.lst []) false false, .own (.lst (acc ++ perm)) false false]
  | 0, ds, hl, hp, w, a, b, c, acc, hs => by
    have e : ds = [] := List.length_eq_zero_iff.mp hl
    subst e
    refine ⟨[], by simp [orders], a, b, c, ?_⟩
    simp [evWhl, ev, evR, gt_def, Out.bind, Out.of, look, cmpE, eqE, plain, plains, eqv, eqvs, RV.hold, datAll, M.dat, blOf]
  | k + 1, [], hl, _, _, _, _, _, _, _ => by cases hl
  | k + 1, d0 :: ds, hl, hp, w, a, b, c, acc, hs => by
    have hk : ds.length = k := by simpa using hl
    obtain ⟨r, a1, b1, c1, r0, r1, er⟩ := hC a b c ((d0 :: ds).length : Int) (by rw [List.length_cons]; omega) (by rw [List.length_cons]; omega)
    have hj : r.toNat < (d0 :: ds).length := by omega
    have hx : L2.ixN (d0 :: ds).length r = some r.toNat := by
      unfold ixN
      rw [if_pos r0, if_pos r1]
    have hget : (d0 :: ds)[r.toNat]? = some (d0 :: ds)[r.toNat] := List.getElem?_eq_getElem hj
    generalize hd : (d0 :: ds)[r.toNat] = d at hget
    obtain ⟨perm, hm, a', b', c', run⟩ := mix_loop hC k ((d0 :: ds).eraseIdx r.toNat) (by rw [List.length_eraseIdx_of_lt hj]; simpa using hl) (plains_erase hp) w a1 b1 c1 (acc ++ [d]) (by rw [List.length_append]; simp; omega)
    refine ⟨d :: perm, ?_, a', b', c', ?_⟩
    · rw [orders]
      refine List.mem_flatMap.mpr ⟨r.toNat, List.mem_range.mpr hj, ?_⟩
      rw [hget]
      exact List.mem_map.mpr ⟨perm, hm, rfl⟩
    · have ea : acc ++ d :: perm = acc ++ [d] ++ perm := by simp
      rw [ea, ← run]
      have e1 : w + (k + 1) + 1 = (w + k + 1) + 1 := by omega
      rw [e1]
      generalize hL : d0 :: ds = l at *
      have ec : eqv (.lst l) (.lst []) = false := by rw [← hL]; rfl
      have sz : acc.length < SZ := by unfold SZ; omega
      rw [evWhl]
      simp [ev, evR, evB, evS, gt_def, setE_def, Out.bind, Out.of, look, lookAll, biE, cmpE, eqE, plain, plains, hp, ec, RV.hold, datAll, M.dat, blOf, isL, argsAt, er, rvOk, hx, hget, RV.dat?, sz]
theorem orders_len : ∀ {k : Nat} {ds perm : List D}, perm ∈ orders k ds → perm.length = k
  | 0, _, _, h => by
    rw [orders] at h
    cases List.mem_singleton.mp h
    rfl
  | k + 1, ds, perm, h => by
    rw [orders] at h
    obtain ⟨j, _, h⟩ := List.mem_flatMap.mp h
    split at h
    · obtain ⟨p, hp, rfl⟩ := List.mem_map.mp h
      rw [List.length_cons, orders_len hp]
    · cases h
/-- what is neither handed in to be changed nor locked is not pinned -/
theorem not_pinned {ρ : Env} {i : Nat} (h : loose ρ i = true) : pinned ρ i = false := by
  unfold loose at h
  unfold pinned
  cases g : gt ρ i with
  | own m p l =>
    rw [g] at h
    cases p
    · rfl
    · cases h
  | kept => rw [g] at h; cases h
  | no => rfl
  | val d => rfl
theorem evB_app {C : Cn} {B : List IS} {ρ1 : Env} : ∀ {A : List IS} {ρ : Env}, evB C A ρ = .ok .nx ρ1 → evB C (A ++ B) ρ = evB C B ρ1
  | [], _, h => by
    rw [evB] at h
    cases h
    rfl
  | s :: A, ρ, h => by
    rw [evB] at h
    obtain ⟨f1, ρ2, e1, h⟩ := Out.bind_inv h
    rw [List.cons_append, evB, e1, Out.bind_ok]
    cases f1 with
    | nx => exact evB_app h
    | bk => cases h
    | ct => cases h
    | rt r => cases h
end Ev
end
/-! B3 -/
section
set_option linter.all false
set_option maxRecDepth 100000
set_option maxHeartbeats 4000000
namespace Pg
open Ev L2
theorem box_ok {W n : Nat} (t : List Int) (i : Int) (hi : 0 ≤ i) : ∃ a b, callF (pr W) (n + 1) 1 [.d (.scr t), .d (.int i)] = .ok (.f (.lst [.int a, .int b, .int 0])) none := by
  rw [callF_eq (P := pr W) (fd := fd_1) (ρ := [.val (.scr t), .val (.int i), .no, .no]) rfl rfl]
  have fin : ∀ x : Int, atI [D.int 0, D.int x] (if 1000000000000000000 ≤ x then 1 else 0) = some (if 1000000000000000000 ≤ x then D.int x else D.int 0) := by
    intro x
    split <;> rfl
  have fin2 : ∀ x : Int, ∃ a : Int, (if 1000000000000000000 ≤ x then D.int x else D.int 0) = D.int a := by
    intro x
    split <;> exact ⟨_, rfl⟩
  by_cases c : i < (t.length : Int)
  · obtain ⟨x, hx⟩ := atI_of hi c
    obtain ⟨a, ha⟩ := fin2 (if x < 0 then -x else x)
    refine ⟨a, ?_⟩
    simp [fd_1, evB, evS, ev, evR, gt_def, setE_def, putE, pinned, Out.bind, Out.of, look, lookAll, biE, binE, cmpE, idxE, RV.hold, blOf, rvOk, c, hx, M.dat, datAll, leave, backs, fin, ha]
  · by_cases c2 : 0 < (t.length : Int)
    · obtain ⟨x, hx⟩ := atI_of (t := t) (j := i % (t.length : Int)) (Int.emod_nonneg _ (by omega)) (Int.emod_lt_of_pos _ c2)
      have c3 : 0 < t.length := by omega
      obtain ⟨a, ha⟩ := fin2 (7349 * i + 167 + (if x < 0 then -x else x) % 2147483629 * 71503)
      refine ⟨a, ?_⟩
      simp [fd_1, evB, evS, ev, evR, gt_def, setE_def, putE, pinned, Out.bind, Out.of, look, lookAll, biE, binE, cmpE, idxE, RV.hold, blOf, rvOk, c, c3, hx, M.dat, datAll, leave, backs, fin, ha]
    · have c3 : ¬ 0 < t.length := by omega
      obtain ⟨a, ha⟩ := fin2 (7349 * i + 167)
      refine ⟨a, ?_⟩
      simp [fd_1, evB, evS, ev, evR, gt_def, setE_def, putE, pinned, Out.bind, Out.of, look, lookAll, biE, binE, cmpE, idxE, RV.hold, blOf, rvOk, c, c3, M.dat, datAll, leave, backs, fin, ha]

theorem take_ok {W n : Nat} (a b c m : Int) (h0 : 0 < m) (h1 : m < 1073741824) : ∃ r a' b' c', 0 ≤ r ∧ r < m ∧ callF (pr W) (n + 1) 16 [.m (.lst [.int a, .int b, .int c]), .d (.int m)] = .ok (.d (.int r)) (some (.lst [.int a', .int b', .int c'])) := by
  rw [callF_eq (P := pr W) (fd := fd_16) (ρ := [.own (.lst [.int a, .int b, .int c]) true false, .val (.int m), .no, .no]) rfl rfl]
  have i0 : atI [D.int a, D.int b, D.int c] 0 = some (D.int a) := rfl
  have i1 : ∀ a b c : Int, atI [D.int a, D.int b, D.int c] 1 = some (D.int b) := fun _ _ _ => rfl
  have i2 : ∀ a b c : Int, atI [D.int a, D.int b, D.int c] 2 = some (D.int c) := fun _ _ _ => rfl
  have x0 : ixN 3 0 = some 0 := rfl
  have x1 : ixN 3 1 = some 1 := rfl
  have x2 : ixN 3 2 = some 2 := rfl
  have nn : ∀ x : Int, 0 ≤ x % m := fun x => Int.emod_nonneg _ (by omega)
  have nl : ∀ x : Int, x % m < m := fun x => Int.emod_lt_of_pos _ h0
  by_cases c1 : 0 < a
  · refine ⟨a % m, a / m, b, c, nn _, nl _, ?_⟩
    simp [fd_16, evB, evS, ev, evR, gt_def, setE_def, putE, pinned, Out.bind, Out.of, look, lookAll, biE, binE, cmpE, idxE, RV.hold, blOf, rvOk, i0, i1, i2, x0, x1, x2, c1, h0, h1, M.dat, datAll, leave, backs, RV.dat?, isO]
  · let d := (b + 106907 * (c + 1)) * 71711 % 2147483647
    refine ⟨(d * 2147483647 + ((d * 48271 + 32009) % 2147483629 + 1)) / 8191 % m, a, (d * 48271 + 32009) % 2147483629 + 1, c + 1, nn _, nl _, ?_⟩
    simp [fd_16, evB, evS, ev, evR, gt_def, setE_def, putE, pinned, Out.bind, Out.of, look, lookAll, biE, binE, cmpE, idxE, RV.hold, blOf, rvOk, i0, i1, i2, x0, x1, x2, c1, h0, h1, M.dat, datAll, leave, backs, RV.dat?, isO, d]

theorem takes {W n : Nat} : Takes1 (callF (pr W) (n + 1) 16) := fun a b c m h0 h1 => take_ok a b c m h0 h1
theorem mixed_ok {w n : Nat} (a b c : Int) (ds : List D) (hp : plains 39 ds = true) (hl : ds.length < 1000) : ∃ perm ∈ orders ds.length ds, ∃ a' b' c' : Int, callF (pr (w + ds.length + 1)) (n + 2) 15 [.m (.lst [.int a, .int b, .int c]), .d (.lst ds)] = .ok (.f (.lst perm)) (some (.lst [.int a', .int b', .int c'])) := by
  rw [callF_eq (P := pr (w + ds.length + 1)) (fd := fd_15) (ρ := [.own (.lst [.int a, .int b, .int c]) true false, .val (.lst ds), .no, .no]) rfl rfl]
  obtain ⟨perm, hm, a', b', c', run⟩ := mix_loop (C := cnF (pr (w + ds.length + 1)) (n + 1)) (tk := 16) takes (L := .lst ds) ds.length ds rfl hp w a b c [] (by rw [List.length_nil]; omega)
  refine ⟨perm, hm, a', b', c', ?_⟩
  have hb : evB (cnF (pr (w + ds.length + 1)) (n + 1)) fd_15.body [.own (.lst [.int a, .int b, .int c]) true false, .val (.lst ds), .no, .no] = .ok (.rt (.f (.lst perm))) [.own (.lst [.int a', .int b', .int c']) true false, .val (.lst ds), .own (.lst []) false false, .no] := by
    have e1 : evS (cnF (pr (w + ds.length + 1)) (n + 1)) (.par true [(2, true), (3, true)] [.bi .list [.var 1], .lst []]) [.own (.lst [.int a, .int b, .int c]) true false, .val (.lst ds), .no, .no] = .ok .nx [.own (.lst [.int a, .int b, .int c]) true false, .val (.lst ds), .own (.lst ds) false false, .own (.lst []) false false] := by
      simp [evS, evRs, ev, evR, gt_def, setE_def, Out.bind, Out.of, look, lookAll, biE, seqOf, RV.hold, datAll, rvOk, putAll, putO, pinned]
    have e2 : evS (cnF (pr (w + ds.length + 1)) (n + 1)) (.whl (.cmp .ne (.peek 2) (.lst [])) [.app 3 (.popAt 2 (.call 16 (some 0) [.peek 0, .bi .len [.peek 2]]))]) [.own (.lst [.int a, .int b, .int c]) true false, .val (.lst ds), .own (.lst ds) false false, .own (.lst []) false false] = .ok .nx [.own (.lst [.int a', .int b', .int c']) true false, .val (.lst ds), .own (.lst []) false false, .own (.lst perm) false false] := by
      rw [evS]
      exact run
    show evB (cnF (pr (w + ds.length + 1)) (n + 1)) [_, _, _] _ = _
    rw [evB, e1, Out.bind_ok]
    dsimp only
    rw [evB, e2, Out.bind_ok]
    dsimp only
    simp [evB, evS, ev, gt_def, setE_def, Out.bind, rvOk]
  rw [hb]
  simp [leave, backs, gt_def, fd_15, rvOk]
end Pg
end
/-! T5 -/
section
set_option linter.all false
set_option maxRecDepth 100000
set_option maxHeartbeats 4000000
namespace Pg
open Ev L2
def rest_0 : List IS := match fd_0.body with
  | [.for_ _ _ _ [.hide _ _ [_, _, .hide _ _ b]], _] => b
  | _ => []
def okF : Out Flow → Bool
  | .ok .nx ρ => decide (ρ.length = 13) && [1, 2, 3, 4, 5, 6, 7, 8, 9, 10, 11, 12].all (loose ρ)
  | _ => false
def cnS (n : Nat) : Cn := ⟨callS (pr 1000) sbs n, (match n with
        | 0 => fun _ _ => .bad
        | m + 1 => callS (pr 1000) sbs m), (pr 1000).glob, (pr 1000).gdic, (pr 1000).fld, (pr 1000).W⟩
theorem cnS_eq : ∀ n, cnS n = cnF (pr 1000) n
  | 0 => by
    unfold cnS cnF
    rw [callS_eq (sbs_ok 1000) 0]
  | n + 1 => by
    unfold cnS cnF
    dsimp only
    rw [callS_eq (sbs_ok 1000) (n + 1), callS_eq (sbs_ok 1000) n]
def restA : List IS := rest_0.take 5
def restB : List IS := match rest_0.drop 5 with
  | [.hide _ _ b] => b
  | _ => []
theorem rest_parts : rest_0 = restA ++ [.hide [] [3, 4, 5, 6, 7, 8, 12] restB] := rfl
def start3 (a b c : D) : Ev.Env := [.kept, .no, .no, .no, .no, .no, .no, .no, .no, .val a, .val b, .val c, .no]
def okA (a b c : Cs) : Out Flow → Bool
  | .ok .nx [.kept, .no, .no, e3, e4, e5, e6, e7, e8, .val (.str x), .val (.str y), .val (.str z), e12] => decide (x = a) && (decide (y = b) && (decide (z = c) && [3, 4, 5, 6, 7, 8, 12].all (loose [.kept, .no, .no, e3, e4, e5, e6, e7, e8, .val (.str a), .val (.str b), .val (.str c), e12])))
  | _ => false
def pqA (p : List D) : Bool := match p with
  | .str a :: .str b :: .str c :: _ => okA a b c (sB (cnS 39) (toSb restA) (start3 (.str a) (.str b) (.str c)))
  | _ => false
def pqB (p : List D) : Bool := match p with
  | .str a :: .str b :: .str c :: _ => okF (sB (cnS 39) (toSb restB) (start3 (.str a) (.str b) (.str c)))
  | _ => false
def pq (p : List D) : Bool := pqA p && pqB p
def names4 : List D := [.str [117], .str [118], .str [119], .str [116, 121]]
/-- a state in which a turn may start -/
def Rdy (t : List Int) (ρ : Env) : Prop := ∃ e1 e2 e3 e4 e5 e6 e7 e8 e9 e10 e11 e12 : EV, ρ = [.val (.scr t), e1, e2, e3, e4, e5, e6, e7, e8, e9, e10, e11, e12] ∧ [1, 2, 3, 4, 5, 6, 7, 8, 9, 10, 11, 12].all (loose ρ) = true
theorem okA_inv {a b c : Cs} {o : Out Flow} (h : okA a b c o = true) : ∃ e3 e4 e5 e6 e7 e8 e12, o = .ok .nx [.kept, .no, .no, e3, e4, e5, e6, e7, e8, .val (.str a), .val (.str b), .val (.str c), e12] ∧ [3, 4, 5, 6, 7, 8, 12].all (loose [.kept, .no, .no, e3, e4, e5, e6, e7, e8, .val (.str a), .val (.str b), .val (.str c), e12]) = true := by
  unfold okA at h
  split at h
  · rw [Bool.and_eq_true, Bool.and_eq_true, Bool.and_eq_true, decide_eq_true_eq, decide_eq_true_eq, decide_eq_true_eq] at h
    obtain ⟨rfl, rfl, rfl, h⟩ := h
    exact ⟨_, _, _, _, _, _, _, rfl, h⟩
  · cases h
theorem okF_inv {o : Out Flow} (h : okF o = true) : ∃ e0 e1 e2 e3 e4 e5 e6 e7 e8 e9 e10 e11 e12 : EV, o = .ok .nx [e0, e1, e2, e3, e4, e5, e6, e7, e8, e9, e10, e11, e12] ∧ ∀ s, [1, 2, 3, 4, 5, 6, 7, 8, 9, 10, 11, 12].all (loose [s, e1, e2, e3, e4, e5, e6, e7, e8, e9, e10, e11, e12]) = true := by
  unfold okF at h
  split at h
  · rename_i ρ
    rw [Bool.and_eq_true, decide_eq_true_eq] at h
    obtain ⟨hl, h⟩ := h
    match ρ, hl, h with
    | [e0, e1, e2, e3, e4, e5, e6, e7, e8, e9, e10, e11, e12], _, h => exact ⟨e0, e1, e2, e3, e4, e5, e6, e7, e8, e9, e10, e11, e12, rfl, fun s => h⟩
  · cases h
theorem rest_ok {a b c : D} {q : List D} (h : pq (a :: b :: c :: q) = true) : ∃ e1 e2 e3 e4 e5 e6 e7 e8 e9 e10 e11 e12 : EV, ∃ e0, evB (cnF (pr 1000) 39) rest_0 [.kept, .no, .no, .no, .no, .no, .no, .no, .no, .val a, .val b, .val c, .no] = .ok .nx [e0, e1, e2, e3, e4, e5, e6, e7, e8, e9, e10, e11, e12] ∧ ∀ s, [1, 2, 3, 4, 5, 6, 7, 8, 9, 10, 11, 12].all (loose [s, e1, e2, e3, e4, e5, e6, e7, e8, e9, e10, e11, e12]) = true := by
  unfold pq at h
  rw [Bool.and_eq_true] at h
  obtain ⟨hA, hB⟩ := h
  unfold pqA at hA
  split at hA
  · rename_i a b c q he
    cases he
    have hB : okF (sB (cnS 39) (toSb restB) (start3 (.str a) (.str b) (.str c))) = true := hB
    rw [sB_toSb, cnS_eq] at hA hB
    obtain ⟨e3, e4, e5, e6, e7, e8, e12, eA, lA⟩ := okA_inv hA
    obtain ⟨f0, f1, f2, f3, f4, f5, f6, f7, f8, f9, f10, f11, f12, eB, lB⟩ := okF_inv hB
    refine ⟨f1, f2, f3, f4, f5, f6, f7, f8, f9, f10, f11, f12, f0, ?_, lB⟩
    show evB (cnF (pr 1000) 39) rest_0 (start3 (.str a) (.str b) (.str c)) = _
    rw [rest_parts, evB_app eA, evB, evS, if_pos (by rw [lA]; rfl)]
    have hw : wipeE [3, 4, 5, 6, 7, 8, 12] (keptE [] [.kept, .no, .no, e3, e4, e5, e6, e7, e8, .val (.str a), .val (.str b), .val (.str c), e12]) = start3 (.str a) (.str b) (.str c) := rfl
    rw [hw, eB]
    dsimp only
    rw [Out.bind_ok]
    dsimp only
    rw [evB]
    rfl
  · cases hA
theorem turn_ok (HP : ∀ p ∈ orders 4 names4, pq p = true) {t : List Int} {i : Int} (hi : 0 ≤ i) {ρ : Env} (r : Rdy t ρ) : ∃ ρ', Rdy t ρ' ∧
    ((Out.of ρ (bindT (.n 1) (.int i) ρ)).bind fun ρ _ => evB (cnF (pr 1000) 39) [.hide [] [2, 3, 4, 5, 6, 7, 8, 9, 10, 11, 12] [.asgO 2 (.call 1 none [.var 0, .var 1]), .unp (.t [.n 9, .n 10, .n 11]) (.slc (.call 15 (some 0) [.peek 2, .lst [.lit (.str [117]), .lit (.str [118]), .lit (.str [119]), .lit (.str [116, 121])]]) none (some (.lit (.int 3)))), .hide [0] [1, 2] rest_0]] ρ) = .ok .nx ρ' := by
  obtain ⟨e1, e2, e3, e4, e5, e6, e7, e8, e9, e10, e11, e12, rfl, hl⟩ := r
  have hp : pinned [.val (.scr t), e1, e2, e3, e4, e5, e6, e7, e8, e9, e10, e11, e12] 1 = false := not_pinned (List.all_eq_true.mp hl 1 (by simp))
  have b1 : bindT (.n 1) (.int i) [.val (.scr t), e1, e2, e3, e4, e5, e6, e7, e8, e9, e10, e11, e12] = some [.val (.scr t), .val (.int i), e2, e3, e4, e5, e6, e7, e8, e9, e10, e11, e12] := by
    rw [bindT, hp]
    rfl
  rw [b1, Out.of_some, Out.bind_ok]
  have hl2 : [2, 3, 4, 5, 6, 7, 8, 9, 10, 11, 12].all (loose [.val (.scr t), .val (.int i), e2, e3, e4, e5, e6, e7, e8, e9, e10, e11, e12]) = true := by
    simp only [List.all_cons, Bool.and_eq_true] at hl
    simp only [List.all_cons, Bool.and_eq_true]
    exact hl.2
  obtain ⟨a, b, hbox⟩ := box_ok (W := 1000) (n := 38) t i hi
  obtain ⟨perm, hm, a', b', c', hmix⟩ := mixed_ok (w := 995) (n := 37) a b 0 names4 rfl (by decide)
  have hq := HP perm hm
  have h4 : ∃ x y z q, perm = [x, y, z, q] := by
    match perm, orders_len hm with
    | [x, y, z, q], _ => exact ⟨x, y, z, q, rfl⟩
  obtain ⟨x, y, z, q, rfl⟩ := h4
  obtain ⟨f1, f2, f3, f4, f5, f6, f7, f8, f9, f10, f11, f12, f0, run, hf⟩ := rest_ok hq
  have s1 : evS (cnF (pr 1000) 39) (.asgO 2 (.call 1 none [.var 0, .var 1])) [.val (.scr t), .val (.int i), .no, .no, .no, .no, .no, .no, .no, .no, .no, .no, .no] = .ok .nx [.val (.scr t), .val (.int i), .own (.lst [.int a, .int b, .int 0]) false false, .no, .no, .no, .no, .no, .no, .no, .no, .no, .no] := by
    have hb : (cnF (pr 1000) 39).call 1 [.d (.scr t), .d (.int i)] = .ok (.f (.lst [.int a, .int b, .int 0])) none := hbox
    simp [evS, ev, evR, gt_def, setE_def, putO, pinned, Out.bind, Out.of, datAll, rvOk, RV.hold, hb]
  have s2 : evS (cnF (pr 1000) 39) (.unp (.t [.n 9, .n 10, .n 11]) (.slc (.call 15 (some 0) [.peek 2, .lst [.lit (.str [117]), .lit (.str [118]), .lit (.str [119]), .lit (.str [116, 121])]]) none (some (.lit (.int 3))))) [.val (.scr t), .val (.int i), .own (.lst [.int a, .int b, .int 0]) false false, .no, .no, .no, .no, .no, .no, .no, .no, .no, .no] =
      .ok .nx [.val (.scr t), .val (.int i), .own (.lst [.int a', .int b', .int c']) false false, .no, .no, .no, .no, .no, .no, .val x, .val y, .val z, .no] := by
    have hb : (cnF (pr 1000) 39).call 15 [.m (.lst [.int a, .int b, .int 0]), .d (.lst [.str [117], .str [118], .str [119], .str [116, 121]])] = .ok (.f (.lst [x, y, z, q])) (some (.lst [.int a', .int b', .int c'])) := hmix
    have hc : cut [x, y, z, q] none (some 3) = [x, y, z] := rfl
    have he : ev (cnF (pr 1000) 39) (.slc (.call 15 (some 0) [.peek 2, .lst [.lit (.str [117]), .lit (.str [118]), .lit (.str [119]), .lit (.str [116, 121])]]) none (some (.lit (.int 3)))) [.val (.scr t), .val (.int i), .own (.lst [.int a, .int b, .int 0]) false false, .no, .no, .no, .no, .no, .no, .no, .no, .no, .no] = .ok (.f (.lst [x, y, z])) [.val (.scr t), .val (.int i), .own (.lst [.int a', .int b', .int c']) false false, .no, .no, .no, .no, .no, .no, .no, .no, .no, .no] := by
      simp [ev, evR, evO, gt_def, setE_def, Out.bind, Out.of, datAll, argsAt, rvOk, RV.hold, look, partE, slcE, hc, M.dat, hb]
    have hbt : bindT (.t [.n 9, .n 10, .n 11]) (.lst [x, y, z]) [.val (.scr t), .val (.int i), .own (.lst [.int a', .int b', .int c']) false false, .no, .no, .no, .no, .no, .no, .no, .no, .no, .no] = some [.val (.scr t), .val (.int i), .own (.lst [.int a', .int b', .int c']) false false, .no, .no, .no, .no, .no, .no, .val x, .val y, .val z, .no] := rfl
    rw [evS, he, Out.bind_ok]
    show (Out.of _ (bindT (.t [.n 9, .n 10, .n 11]) (.lst [x, y, z]) _)).bind _ = _
    rw [hbt]
    rfl
  have s3 : evS (cnF (pr 1000) 39) (.hide [0] [1, 2] rest_0) [.val (.scr t), .val (.int i), .own (.lst [.int a', .int b', .int c']) false false, .no, .no, .no, .no, .no, .no, .val x, .val y, .val z, .no] = .ok .nx [.val (.scr t), f1, f2, f3, f4, f5, f6, f7, f8, f9, f10, f11, f12] := by
    have hw : wipeE [1, 2] (keptE [0] [.val (.scr t), .val (.int i), .own (.lst [.int a', .int b', .int c']) false false, .no, .no, .no, .no, .no, .no, .val x, .val y, .val z, .no]) = [.kept, .no, .no, .no, .no, .no, .no, .no, .no, .val x, .val y, .val z, .no] := rfl
    rw [evS, if_pos (by rfl), hw, run]
    rfl
  have hk : wipeE [2, 3, 4, 5, 6, 7, 8, 9, 10, 11, 12] (keptE [] [.val (.scr t), .val (.int i), e2, e3, e4, e5, e6, e7, e8, e9, e10, e11, e12]) = [.val (.scr t), .val (.int i), .no, .no, .no, .no, .no, .no, .no, .no, .no, .no, .no] := rfl
  refine ⟨[.val (.scr t), f1, f2, f3, f4, f5, f6, f7, f8, f9, f10, f11, f12], ⟨f1, f2, f3, f4, f5, f6, f7, f8, f9, f10, f11, f12, rfl, hf _⟩, ?_⟩
  rw [evB, evS, if_pos (by rw [hl2]; rfl), hk, evB, s1, Out.bind_ok]
  dsimp only
  rw [evB, s2, Out.bind_ok]
  dsimp only
  rw [evB, s3, Out.bind_ok]
  dsimp only
  rw [evB]
  dsimp only
  rw [Out.bind_ok]
  dsimp only
  rw [evB]
  rfl
theorem for_ok (HP : ∀ p ∈ orders 4 names4, pq p = true) {t : List Int} : ∀ (ds : List D), (∀ d ∈ ds, ∃ i : Int, 0 ≤ i ∧ d = .int i) → ∀ ρ, Rdy t ρ → ∃ ρ', evFor (fun d ρ => (Out.of ρ (bindT (.n 1) d ρ)).bind fun ρ _ => evB (cnF (pr 1000) 39) [.hide [] [2, 3, 4, 5, 6, 7, 8, 9, 10, 11, 12] [.asgO 2 (.call 1 none [.var 0, .var 1]), .unp (.t [.n 9, .n 10, .n 11]) (.slc (.call 15 (some 0) [.peek 2, .lst [.lit (.str [117]), .lit (.str [118]), .lit (.str [119]), .lit (.str [116, 121])]]) none (some (.lit (.int 3)))), .hide [0] [1, 2] rest_0]] ρ) ds ρ = .ok .nx ρ'
  | [], _, ρ, _ => ⟨ρ, rfl⟩
  | d :: ds, h, ρ, r => by
    obtain ⟨i, hi, rfl⟩ := h d List.mem_cons_self
    obtain ⟨ρ1, r1, e1⟩ := turn_ok HP hi r
    obtain ⟨ρ2, e2⟩ := for_ok HP ds (fun x m => h x (List.mem_cons_of_mem _ m)) ρ1 r1
    refine ⟨ρ2, ?_⟩
    rw [evFor, e1, Out.bind_ok]
    exact e2
theorem law_val (HP : ∀ p ∈ orders 4 names4, pq p = true) (t : List Int) : callF (pr 1000) 40 0 [.d (.scr t)] = .ok (.d (.bl true)) none := by
  rw [callF_eq (P := pr 1000) (n := 39) (fd := fd_0) (ρ := [.val (.scr t), .no, .no, .no, .no, .no, .no, .no, .no, .no, .no, .no, .no]) rfl rfl]
  have r0 : Rdy t [.val (.scr t), .no, .no, .no, .no, .no, .no, .no, .no, .no, .no, .no, .no] := ⟨_, _, _, _, _, _, _, _, _, _, _, _, rfl, rfl⟩
  let k : Int := if (if (t.length : Int) < 3 then (t.length : Int) else 3) > 1 then (if (t.length : Int) < 3 then (t.length : Int) else 3) else 1
  have hk : k = 1 ∨ k = 2 ∨ k = 3 := by
    show (if (if (t.length : Int) < 3 then (t.length : Int) else 3) > 1 then (if (t.length : Int) < 3 then (t.length : Int) else 3) else 1) = 1 ∨ (if (if (t.length : Int) < 3 then (t.length : Int) else 3) > 1 then (if (t.length : Int) < 3 then (t.length : Int) else 3) else 1) = 2 ∨ (if (if (t.length : Int) < 3 then (t.length : Int) else 3) > 1 then (if (t.length : Int) < 3 then (t.length : Int) else 3) else 1) = 3
    split <;> split <;> omega
  have hds : ∃ ds, rngE 0 k = some ds ∧ ∀ d ∈ ds, ∃ i : Int, 0 ≤ i ∧ d = .int i := by
    rcases hk with h | h | h <;> rw [h]
    · exact ⟨[.int 0], rfl, by simp⟩
    · exact ⟨[.int 0, .int 1], rfl, by simp⟩
    · exact ⟨[.int 0, .int 1, .int 2], rfl, by simp⟩
  obtain ⟨ds, hds, hall⟩ := hds
  obtain ⟨ρ', hf⟩ := for_ok HP (t := t) ds hall _ r0
  have hb : fd_0.body = [.for_ (.n 1) (.rng1 (.bi .max [.lit (.int 1), .bi .min [.lit (.int 3), .bi .len [.var 0]]])) none [.hide [] [2, 3, 4, 5, 6, 7, 8, 9, 10, 11, 12] [.asgO 2 (.call 1 none [.var 0, .var 1]), .unp (.t [.n 9, .n 10, .n 11]) (.slc (.call 15 (some 0) [.peek 2, .lst [.lit (.str [117]), .lit (.str [118]), .lit (.str [119]), .lit (.str [116, 121])]]) none (some (.lit (.int 3)))), .hide [0] [1, 2] rest_0]], .ret (.lit (.bl true))] := rfl
  have hr : ev (cnF (pr 1000) 39) (.rng1 (.bi .max [.lit (.int 1), .bi .min [.lit (.int 3), .bi .len [.var 0]]])) [.val (.scr t), .no, .no, .no, .no, .no, .no, .no, .no, .no, .no, .no, .no] = .ok (.d (.lst ds)) [.val (.scr t), .no, .no, .no, .no, .no, .no, .no, .no, .no, .no, .no, .no] := by
    have h2 : rngE 0 (if 1 < if (t.length : Int) < 3 then (t.length : Int) else 3 then if (t.length : Int) < 3 then (t.length : Int) else 3 else 1) = some ds := hds
    simp [ev, evR, gt_def, Out.bind, Out.of, lookAll, look, biE, RV.hold, h2]
  rw [hb, evB, evS]
  dsimp only [lockE]
  rw [hr, Out.bind_ok]
  dsimp only [walk, walkD, items, Option.bind]
  rw [hf]
  simp [Out.bind, evB, evS, ev, rvOk, leave, backs, fd_0]
end Pg
end
/-! T6 -/
section
set_option Elab.async false
set_option linter.all false
set_option maxRecDepth 100000
set_option maxHeartbeats 0
namespace Pg
open Ev L2
theorem hq_0A : pqA [.str [117], .str [118], .str [119], .str [116, 121]] = true := by decide +kernel
theorem hq_0B : pqB [.str [117], .str [118], .str [119], .str [116, 121]] = true := by decide +kernel
theorem hq_0 : pq [.str [117], .str [118], .str [119], .str [116, 121]] = true := by
  unfold pq
  rw [hq_0A, hq_0B]
  rfl
theorem hq_1A : pqA [.str [117], .str [118], .str [116, 121], .str [119]] = true := by decide +kernel
theorem hq_1B : pqB [.str [117], .str [118], .str [116, 121], .str [119]] = true := by decide +kernel
theorem hq_1 : pq [.str [117], .str [118], .str [116, 121], .str [119]] = true := by
  unfold pq
  rw [hq_1A, hq_1B]
  rfl
theorem hq_2A : pqA [.str [117], .str [119], .str [118], .str [116, 121]] = true := by decide +kernel
theorem hq_2B : pqB [.str [117], .str [119], .str [118], .str [116, 121]] = true := by decide +kernel
theorem hq_2 : pq [.str [117], .str [119], .str [118], .str [116, 121]] = true := by
  unfold pq
  rw [hq_2A, hq_2B]
  rfl
theorem hq_3A : pqA [.str [117], .str [119], .str [116, 121], .str [118]] = true := by decide +kernel
theorem hq_3B : pqB [.str [117], .str [119], .str [116, 121], .str [118]] = true := by decide +kernel
theorem hq_3 : pq [.str [117], .str [119], .str [116, 121], .str [118]] = true := by
  unfold pq
  rw [hq_3A, hq_3B]
  rfl
theorem hq_4A : pqA [.str [117], .str [116, 121], .str [118], .str [119]] = true := by decide +kernel
theorem hq_4B : pqB [.str [117], .str [116, 121], .str [118], .str [119]] = true := by decide +kernel
theorem hq_4 : pq [.str [117], .str [116, 121], .str [118], .str [119]] = true := by
  unfold pq
  rw [hq_4A, hq_4B]
  rfl
theorem hq_5A : pqA [.str [117], .str [116, 121], .str [119], .str [118]] = true := by decide +kernel
theorem hq_5B : pqB [.str [117], .str [116, 121], .str [119], .str [118]] = true := by decide +kernel
theorem hq_5 : pq [.str [117], .str [116, 121], .str [119], .str [118]] = true := by
  unfold pq
  rw [hq_5A, hq_5B]
  rfl
theorem hq_6A : pqA [.str [118], .str [117], .str [119], .str [116, 121]] = true := by decide +kernel
theorem hq_6B : pqB [.str [118], .str [117], .str [119], .str [116, 121]] = true := by decide +kernel
theorem hq_6 : pq [.str [118], .str [117], .str [119], .str [116, 121]] = true := by
  unfold pq
  rw [hq_6A, hq_6B]
  rfl
theorem hq_7A : pqA [.str [118], .str [117], .str [116, 121], .str [119]] = true := by decide +kernel
theorem hq_7B : pqB [.str [118], .str [117], .str [116, 121], .str [119]] = true := by decide +kernel
theorem hq_7 : pq [.str [118], .str [117], .str [116, 121], .str [119]] = true := by
  unfold pq
  rw [hq_7A, hq_7B]
  rfl
theorem hq_8A : pqA [.str [118], .str [119], .str [117], .str [116, 121]] = true := by decide +kernel
theorem hq_8B : pqB [.str [118], .str [119], .str [117], .str [116, 121]] = true := by decide +kernel
theorem hq_8 : pq [.str [118], .str [119], .str [117], .str [116, 121]] = true := by
  unfold pq
  rw [hq_8A, hq_8B]
  rfl
theorem hq_9A : pqA [.str [118], .str [119], .str [116, 121], .str [117]] = true := by decide +kernel
theorem hq_9B : pqB [.str [118], .str [119], .str [116, 121], .str [117]] = true := by decide +kernel
theorem hq_9 : pq [.str [118], .str [119], .str [116, 121], .str [117]] = true := by
  unfold pq
  rw [hq_9A, hq_9B]
  rfl
theorem hq_10A : pqA [.str [118], .str [116, 121], .str [117], .str [119]] = true := by decide +kernel
theorem hq_10B : pqB [.str [118], .str [116, 121], .str [117], .str [119]] = true := by decide +kernel
theorem hq_10 : pq [.str [118], .str [116, 121], .str [117], .str [119]] = true := by
  unfold pq
  rw [hq_10A, hq_10B]
  rfl
theorem hq_11A : pqA [.str [118], .str [116, 121], .str [119], .str [117]] = true := by decide +kernel
theorem hq_11B : pqB [.str [118], .str [116, 121], .str [119], .str [117]] = true := by decide +kernel
theorem hq_11 : pq [.str [118], .str [116, 121], .str [119], .str [117]] = true := by
  unfold pq
  rw [hq_11A, hq_11B]
  rfl
theorem hq_12A : pqA [.str [119], .str [117], .str [118], .str [116, 121]] = true := by decide +kernel
theorem hq_12B : pqB [.str [119], .str [117], .str [118], .str [116, 121]] = true := by decide +kernel
theorem hq_12 : pq [.str [119], .str [117], .str [118], .str [116, 121]] = true := by
  unfold pq
  rw [hq_12A, hq_12B]
  rfl
theorem hq_13A : pqA [.str [119], .str [117], .str [116, 121], .str [118]] = true := by decide +kernel
theorem hq_13B : pqB [.str [119], .str [117], .str [116, 121], .str [118]] = true := by decide +kernel
theorem hq_13 : pq [.str [119], .str [117], .str [116, 121], .str [118]] = true := by
  unfold pq
  rw [hq_13A, hq_13B]
  rfl
theorem hq_14A : pqA [.str [119], .str [118], .str [117], .str [116, 121]] = true := by decide +kernel
theorem hq_14B : pqB [.str [119], .str [118], .str [117], .str [116, 121]] = true := by decide +kernel
theorem hq_14 : pq [.str [119], .str [118], .str [117], .str [116, 121]] = true := by
  unfold pq
  rw [hq_14A, hq_14B]
  rfl
theorem hq_15A : pqA [.str [119], .str [118], .str [116, 121], .str [117]] = true := by decide +kernel
theorem hq_15B : pqB [.str [119], .str [118], .str [116, 121], .str [117]] = true := by decide +kernel
theorem hq_15 : pq [.str [119], .str [118], .str [116, 121], .str [117]] = true := by
  unfold pq
  rw [hq_15A, hq_15B]
  rfl
theorem hq_16A : pqA [.str [119], .str [116, 121], .str [117], .str [118]] = true := by decide +kernel
theorem hq_16B : pqB [.str [119], .str [116, 121], .str [117], .str [118]] = true := by decide +kernel
theorem hq_16 : pq [.str [119], .str [116, 121], .str [117], .str [118]] = true := by
  unfold pq
  rw [hq_16A, hq_16B]
  rfl
theorem hq_17A : pqA [.str [119], .str [116, 121], .str [118], .str [117]] = true := by decide +kernel
theorem hq_17B : pqB [.str [119], .str [116, 121], .str [118], .str [117]] = true := by decide +kernel
theorem hq_17 : pq [.str [119], .str [116, 121], .str [118], .str [117]] = true := by
  unfold pq
  rw [hq_17A, hq_17B]
  rfl
theorem hq_18A : pqA [.str [116, 121], .str [117], .str [118], .str [119]] = true := by decide +kernel
theorem hq_18B : pqB [.str [116, 121], .str [117], .str [118], .str [119]] = true := by decide +kernel
theorem hq_18 : pq [.str [116, 121], .str [117], .str [118], .str [119]] = true := by
  unfold pq
  rw [hq_18A, hq_18B]
  rfl
theorem hq_19A : pqA [.str [116, 121], .str [117], .str [119], .str [118]] = true := by decide +kernel
theorem hq_19B : pqB [.str [116, 121], .str [117], .str [119], .str [118]] = true := by decide +kernel
theorem hq_19 : pq [.str [116, 121], .str [117], .str [119], .str [118]] = true := by
  unfold pq
  rw [hq_19A, hq_19B]
  rfl
theorem hq_20A : pqA [.str [116, 121], .str [118], .str [117], .str [119]] = true := by decide +kernel
theorem hq_20B : pqB [.str [116, 121], .str [118], .str [117], .str [119]] = true := by decide +kernel
theorem hq_20 : pq [.str [116, 121], .str [118], .str [117], .str [119]] = true := by
  unfold pq
  rw [hq_20A, hq_20B]
  rfl
theorem hq_21A : pqA [.str [116, 121], .str [118], .str [119], .str [117]] = true := by decide +kernel
theorem hq_21B : pqB [.str [116, 121], .str [118], .str [119], .str [117]] = true := by decide +kernel
theorem hq_21 : pq [.str [116, 121], .str [118], .str [119], .str [117]] = true := by
  unfold pq
  rw [hq_21A, hq_21B]
  rfl
theorem hq_22A : pqA [.str [116, 121], .str [119], .str [117], .str [118]] = true := by decide +kernel
theorem hq_22B : pqB [.str [116, 121], .str [119], .str [117], .str [118]] = true := by decide +kernel
theorem hq_22 : pq [.str [116, 121], .str [119], .str [117], .str [118]] = true := by
  unfold pq
  rw [hq_22A, hq_22B]
  rfl
theorem hq_23A : pqA [.str [116, 121], .str [119], .str [118], .str [117]] = true := by decide +kernel
theorem hq_23B : pqB [.str [116, 121], .str [119], .str [118], .str [117]] = true := by decide +kernel
theorem hq_23 : pq [.str [116, 121], .str [119], .str [118], .str [117]] = true := by
  unfold pq
  rw [hq_23A, hq_23B]
  rfl
theorem orders_are : orders 4 names4 = [[.str [117], .str [118], .str [119], .str [116, 121]], [.str [117], .str [118], .str [116, 121], .str [119]], [.str [117], .str [119], .str [118], .str [116, 121]], [.str [117], .str [119], .str [116, 121], .str [118]], [.str [117], .str [116, 121], .str [118], .str [119]], [.str [117], .str [116, 121], .str [119], .str [118]], [.str [118], .str [117], .str [119], .str [116, 121]], [.str [118], .str [117], .str [116, 121], .str [119]], [.str [118], .str [119], .str [117], .str [116, 121]], [.str [118], .str [119], .str [116, 121], .str [117]], [.str [118], .str [116, 121], .str [117], .str [119]], [.str [118], .str [116, 121], .str [119], .str [117]], [.str [119], .str [117], .str [118], .str [116, 121]], [.str [119], .str [117], .str [116, 121], .str [118]], [.str [119], .str [118], .str [117], .str [116, 121]], [.str [119], .str [118], .str [116, 121], .str [117]], [.str [119], .str [116, 121], .str [117], .str [118]], [.str [119], .str [116, 121], .str [118], .str [117]], [.str [116, 121], .str [117], .str [118], .str [119]], [.str [116, 121], .str [117], .str [119], .str [118]], [.str [116, 121], .str [118], .str [117], .str [119]], [.str [116, 121], .str [118], .str [119], .str [117]], [.str [116, 121], .str [119], .str [117], .str [118]], [.str [116, 121], .str [119], .str [118], .str [117]]] := rfl
theorem all_orders : ∀ p ∈ orders 4 names4, pq p = true := by
  intro p hp
  rw [orders_are] at hp
  simp only [List.mem_cons, List.not_mem_nil, or_false] at hp
  rcases hp with rfl | rfl | rfl | rfl | rfl | rfl | rfl | rfl | rfl | rfl | rfl | rfl | rfl | rfl | rfl | rfl | rfl | rfl | rfl | rfl | rfl | rfl | rfl | rfl
  · exact hq_0
  · exact hq_1
  · exact hq_2
  · exact hq_3
  · exact hq_4
  · exact hq_5
  · exact hq_6
  · exact hq_7
  · exact hq_8
  · exact hq_9
  · exact hq_10
  · exact hq_11
  · exact hq_12
  · exact hq_13
  · exact hq_14
  · exact hq_15
  · exact hq_16
  · exact hq_17
  · exact hq_18
  · exact hq_19
  · exact hq_20
  · exact hq_21
  · exact hq_22
  · exact hq_23
theorem law_is (t : List Int) : callF (pr 1000) 40 0 [.d (.scr t)] = .ok (.d (.bl true)) none := law_val all_orders t
end Pg
end
/-! Z -/
section
set_option Elab.async false
set_option linter.all false
set_option maxRecDepth 100000
set_option maxHeartbeats 8000000
namespace Pg
open PySem L2 Ev
theorem rep_tupS {K : PySem.W.Frag} {cA : Nat → Addr} {ls : List Cs} {a : Addr} {its : Array Value} {n : Nat} (l : K.lookup a = some ⟨.type "tuple", none, .seq its n, #[]⟩) (hs : its.size ≤ sizeLine) (hv : Vals (ls.map fun l => V.str (SX.S l)) its.toList) (ok : ls.all (fun l => l.all (· < 0x110000) && decide (l.length ≤ SZ)) = true) (hl : ls.length ≤ SZ) : ∀ Av H, Rep K cA Av H (.tup (ls.map .str)) (.ref a) := by
  intro Av H
  rw [Rep]
  refine ⟨a, ls.map fun l => V.str (SX.S l), rfl, by rw [List.length_map]; exact hl, .inr ⟨_, its, n, l, rfl, rfl, hs, hv⟩, ?_⟩
  clear hv l hl
  induction ls with
  | nil => rw [List.map_nil, Reps]; rfl
  | cons x xs ih =>
    rw [List.all_cons, Bool.and_eq_true] at ok
    rw [List.map_cons, Reps]
    refine ⟨_, _, rfl, ?_, ih ok.2⟩
    rw [Rep]
    have := ok.1
    rw [Bool.and_eq_true, decide_eq_true_eq] at this
    exact ⟨rfl, this.1, this.2⟩
theorem gvals_1 {tg1_0 tg1_1 tg1_2 tg1_3 tg1_4 : Nat} : Vals ([[109, 97, 120, 40], [105, 109, 97, 120, 40], [32, 43, 32], [44, 32], [41]].map fun l => V.str (SX.S l)) (#[.str "max(" tg1_0, .str "imax(" tg1_1, .str " + " tg1_2, .str ", " tg1_3, .str ")" tg1_4] : Array Value).toList := by
  have e : ([[109, 97, 120, 40], [105, 109, 97, 120, 40], [32, 43, 32], [44, 32], [41]].map fun l => V.str (SX.S l)) = [.str "max(", .str "imax(", .str " + ", .str ", ", .str ")"] := by decide +kernel
  rw [e]
  exact .cons ⟨_, rfl⟩ (.cons ⟨_, rfl⟩ (.cons ⟨_, rfl⟩ (.cons ⟨_, rfl⟩ (.cons ⟨_, rfl⟩ (.nil)))))
theorem gvals_2 {tg2_0 tg2_1 tg2_2 : Nat} : Vals ([[60, 61], [60], [61]].map fun l => V.str (SX.S l)) (#[.str "<=" tg2_0, .str "<" tg2_1, .str "=" tg2_2] : Array Value).toList := by
  have e : ([[60, 61], [60], [61]].map fun l => V.str (SX.S l)) = [.str "<=", .str "<", .str "="] := by decide +kernel
  rw [e]
  exact .cons ⟨_, rfl⟩ (.cons ⟨_, rfl⟩ (.cons ⟨_, rfl⟩ (.nil)))
theorem sc_0 : FnScope nm_0 ["_law_script"] (defScope st_law) := ⟨rfl, rfl, rfl, by decide +kernel, rfl, by decide +kernel, by decide +kernel⟩
theorem sc_1 : FnScope nm_1 ["_law_script", "_law_k"] (defScope st__law_box) := ⟨rfl, rfl, rfl, by decide +kernel, rfl, by decide +kernel, by decide +kernel⟩
theorem sc_2 : FnScope nm_2 ["self", "names", "demands"] (defScope (inClass cl_Book 0)) := ⟨rfl, rfl, rfl, by decide +kernel, rfl, by decide +kernel, by decide +kernel⟩
theorem sc_3 : FnScope nm_3 ["thing"] (defScope st_is_sequence) := ⟨rfl, rfl, rfl, by decide +kernel, rfl, by decide +kernel, by decide +kernel⟩
theorem sc_4 : FnScope nm_4 ["thing"] (defScope st_are_names) := ⟨rfl, rfl, rfl, by decide +kernel, rfl, by decide +kernel, by decide +kernel⟩
theorem sc_5 : FnScope nm_5 ["thing"] (defScope st_is_name) := ⟨rfl, rfl, rfl, by decide +kernel, rfl, by decide +kernel, by decide +kernel⟩
theorem sc_6 : FnScope nm_6 ["thing", "names"] (defScope st_parts_within) := ⟨rfl, rfl, rfl, by decide +kernel, rfl, by decide +kernel, by decide +kernel⟩
theorem sc_7 : FnScope nm_7 ["thing"] (defScope st_parts_of) := ⟨rfl, rfl, rfl, by decide +kernel, rfl, by decide +kernel, by decide +kernel⟩
theorem sc_8 : FnScope nm_8 ["thing"] (defScope st_steps_of) := ⟨rfl, rfl, rfl, by decide +kernel, rfl, by decide +kernel, by decide +kernel⟩
theorem sc_9 : FnScope nm_9 ["text"] (defScope st_tokens_of) := ⟨rfl, rfl, rfl, by decide +kernel, rfl, by decide +kernel, by decide +kernel⟩
theorem sc_10 : FnScope nm_10 ["text", "at"] (defScope st__token_at) := ⟨rfl, rfl, rfl, by decide +kernel, rfl, by decide +kernel, by decide +kernel⟩
theorem sc_11 : FnScope nm_11 ["token", "wanted"] (defScope st__leaf) := ⟨rfl, rfl, rfl, by decide +kernel, rfl, by decide +kernel, by decide +kernel⟩
theorem sc_12 : FnScope nm_12 ["word"] (defScope st_is_numeral) := ⟨rfl, rfl, rfl, by decide +kernel, rfl, by decide +kernel, by decide +kernel⟩
theorem sc_13 : FnScope nm_13 ["call", "count"] (defScope st__is_full) := ⟨rfl, rfl, rfl, by decide +kernel, rfl, by decide +kernel, by decide +kernel⟩
theorem sc_14 : FnScope nm_14 ["steps"] (defScope st_names_in) := ⟨rfl, rfl, rfl, by decide +kernel, rfl, by decide +kernel, by decide +kernel⟩
theorem sc_15 : FnScope nm_15 ["_law_box_here", "_law_some"] (defScope st__law_mixed) := ⟨rfl, rfl, rfl, by decide +kernel, rfl, by decide +kernel, by decide +kernel⟩
theorem sc_16 : FnScope nm_16 ["_law_box_here", "_law_many"] (defScope st__law_take) := ⟨rfl, rfl, rfl, by decide +kernel, rfl, by decide +kernel, by decide +kernel⟩
theorem sc_17 : FnScope nm_17 ["one", "other"] (defScope st_no_wider) := ⟨rfl, rfl, rfl, by decide +kernel, rfl, by decide +kernel, by decide +kernel⟩
theorem sc_18 : FnScope nm_18 ["one", "other"] (defScope st__only_in) := ⟨rfl, rfl, rfl, by decide +kernel, rfl, by decide +kernel, by decide +kernel⟩
theorem sc_19 : FnScope nm_19 ["book", "parts"] (defScope st__counter_in) := ⟨rfl, rfl, rfl, by decide +kernel, rfl, by decide +kernel, by decide +kernel⟩
theorem sc_20 : FnScope nm_20 ["parts"] (defScope st_denials_of) := ⟨rfl, rfl, rfl, by decide +kernel, rfl, by decide +kernel, by decide +kernel⟩
theorem sc_21 : FnScope nm_21 ["names", "demands"] (defScope st_some_in) := ⟨rfl, rfl, rfl, by decide +kernel, rfl, by decide +kernel, by decide +kernel⟩
theorem sc_22 : FnScope nm_22 ["steps"] (defScope st_cases_of) := ⟨rfl, rfl, rfl, by decide +kernel, rfl, by decide +kernel, by decide +kernel⟩
theorem sc_23 : FnScope nm_23 ["steps", "case"] (defScope st__open_name) := ⟨rfl, rfl, rfl, by decide +kernel, rfl, by decide +kernel, by decide +kernel⟩
theorem sc_24 : FnScope nm_24 ["demands"] (defScope st_steps_in) := ⟨rfl, rfl, rfl, by decide +kernel, rfl, by decide +kernel, by decide +kernel⟩
theorem sc_25 : FnScope nm_25 ["bounds", "tops"] (defScope st_settle) := ⟨rfl, rfl, rfl, by decide +kernel, rfl, by decide +kernel, by decide +kernel⟩
theorem sc_26 : FnScope nm_26 ["bounds", "values"] (defScope st__lower_bounds) := ⟨rfl, rfl, rfl, by decide +kernel, rfl, by decide +kernel, by decide +kernel⟩
theorem sc_27 : FnScope nm_27 ["chosen", "tops"] (defScope st__values_with) := ⟨rfl, rfl, rfl, by decide +kernel, rfl, by decide +kernel, by decide +kernel⟩
theorem sc_28 : FnScope nm_28 ["case", "names", "demands"] (defScope st_bounds_in) := ⟨rfl, rfl, rfl, by decide +kernel, rfl, by decide +kernel, by decide +kernel⟩
theorem sc_29 : FnScope nm_29 ["parts"] (defScope st_sides_of) := ⟨rfl, rfl, rfl, by decide +kernel, rfl, by decide +kernel, by decide +kernel⟩
theorem sc_30 : FnScope nm_30 ["steps", "zeros"] (defScope st_atoms_in) := ⟨rfl, rfl, rfl, by decide +kernel, rfl, by decide +kernel, by decide +kernel⟩
theorem sc_31 : FnScope nm_31 ["dicts"] (defScope st__greatest) := ⟨rfl, rfl, rfl, by decide +kernel, rfl, by decide +kernel, by decide +kernel⟩
theorem sc_32 : FnScope nm_32 ["names", "case", "top"] (defScope st_same_tops) := ⟨rfl, rfl, rfl, by decide +kernel, rfl, by decide +kernel, by decide +kernel⟩
theorem sc_33 : FnScope nm_33 ["book", "demand"] (defScope st_follows) := ⟨rfl, rfl, rfl, by decide +kernel, rfl, by decide +kernel, by decide +kernel⟩
theorem sc_34 : FnScope nm_34 ["book", "demand"] (defScope st_counter) := ⟨rfl, rfl, rfl, by decide +kernel, rfl, by decide +kernel, by decide +kernel⟩
theorem sc_35 : FnScope nm_35 ["book", "level", "other"] (defScope st_excess) := ⟨rfl, rfl, rfl, by decide +kernel, rfl, by decide +kernel, by decide +kernel⟩
theorem sc_36 : FnScope nm_36 ["names", "demands", "high", "low"] (defScope st_rise_in) := ⟨rfl, rfl, rfl, by decide +kernel, rfl, by decide +kernel, by decide +kernel⟩
theorem sc_37 : FnScope nm_37 ["bounds", "names", "case", "high", "low"] (defScope st__rise) := ⟨rfl, rfl, rfl, by decide +kernel, rfl, by decide +kernel, by decide +kernel⟩
theorem sc_38 : FnScope nm_38 ["level", "names"] (defScope st_read_within) := ⟨rfl, rfl, rfl, by decide +kernel, rfl, by decide +kernel, by decide +kernel⟩
theorem sc_39 : FnScope nm_39 ["thing", "names"] (defScope st_steps_within) := ⟨rfl, rfl, rfl, by decide +kernel, rfl, by decide +kernel, by decide +kernel⟩
theorem sc_40 : FnScope nm_40 ["self", "at"] (defScope (inClass cl_Book 8)) := ⟨rfl, rfl, rfl, by decide +kernel, rfl, by decide +kernel, by decide +kernel⟩
theorem sc_41 : FnScope nm_41 ["_law_u", "_law_v", "_law_w"] (defScope st__law_ring_right) := ⟨rfl, rfl, rfl, by decide +kernel, rfl, by decide +kernel, by decide +kernel⟩
theorem sc_42 : FnScope nm_42 ["one", "other"] (defScope st_unlike) := ⟨rfl, rfl, rfl, by decide +kernel, rfl, by decide +kernel, by decide +kernel⟩
theorem sc_43 : FnScope nm_43 ["chosen", "tops"] (defScope st__values_with) := ⟨rfl, rfl, rfl, by decide +kernel, rfl, by decide +kernel, by decide +kernel⟩
theorem all_mk {l : PySem.W.OpenLaw} {w : World} {K : PySem.W.Frag} {h : Heap} {mg : Str → Option Value} {fa f0 f1 f2 dO2 te2 f3 f4 f5 f6 f7 f8 f9 f10 f11 f12 f13 f14 f15 f16 f17 f18 f19 f20 f21 f22 f23 f24 f25 f26 f27 f28 f29 f30 f31 f32 f33 f34 f35 f36 f37 f38 f39 f40 f41 f42 qC6 fg0 fg1 fg2 : Addr} (X : K.In h) (G : h.Ns mainGlobals mg) (hfa : mg "law" = some (.ref fa))
    {od0 an0 od1 an1 od2 an2 od3 an3 od4 an4 od5 an5 od6 an6 od7 an7 od8 an8 od9 an9 od10 an10 od11 an11 od12 an12 od13 an13 od14 an14 od15 an15 od16 an16 od17 an17 od18 an18 od19 an19 od20 an20 od21 an21 od22 an22 od23 an23 od24 an24 od25 an25 od26 an26 od27 an27 od28 an28 od29 an29 od30 an30 od31 an31 od32 an32 od33 an33 od34 an34 od35 an35 od36 an36 od37 an37 od38 an38 od39 an39 od40 an40 od41 an41 od42 an42 : Option Addr} {sl0 sl1 sl2 sd2 se2 sl3 sl4 sl5 sl6 sl7 sl8 sl9 sl10 sl11 sl12 sl13 sl14 sl15 sl16 sl17 sl18 sl19 sl20 sl21 sl22 sl23 sl24 sl25 sl26 sl27 sl28 sl29 sl30 sl31 sl32 sl33 sl34 sl35 sl36 sl37 sl38 sl39 sl40 sl41 sl42 : Array (Option Value)} {oc0 kV0 dc0 pm0 cd0 ct0 oc1 kV1 dc1 pm1 cd1 ct1 oc2 kV2 dc2 pm2 cd2 ct2 oc3 kV3 dc3 pm3 cd3 ct3 oc4 kV4 dc4 pm4 cd4 ct4 oc5 kV5 dc5 pm5 cd5 ct5 oc6 kV6 dc6 pm6 cd6 ct6 oc7 kV7 dc7 pm7 cd7 ct7 oc8 kV8 dc8 pm8 cd8 ct8 oc9 kV9 dc9 pm9 cd9 ct9 oc10 kV10 dc10 pm10 cd10 ct10 oc11 kV11 dc11 pm11 cd11 ct11 oc12 kV12 dc12 pm12 cd12 ct12 oc13 kV13 dc13 pm13 cd13 ct13 oc14 kV14 dc14 pm14 cd14 ct14 oc15 kV15 dc15 pm15 cd15 ct15 oc16 kV16 dc16 pm16 cd16 ct16 oc17 kV17 dc17 pm17 cd17 ct17 oc18 kV18 dc18 pm18 cd18 ct18 oc19 kV19 dc19 pm19 cd19 ct19 oc20 kV20 dc20 pm20 cd20 ct20 oc21 kV21 dc21 pm21 cd21 ct21 oc22 kV22 dc22 pm22 cd22 ct22 oc23 kV23 dc23 pm23 cd23 ct23 oc24 kV24 dc24 pm24 cd24 ct24 oc25 kV25 dc25 pm25 cd25 ct25 oc26 kV26 dc26 pm26 cd26 ct26 oc27 kV27 dc27 pm27 cd27 ct27 oc28 kV28 dc28 pm28 cd28 ct28 oc29 kV29 dc29 pm29 cd29 ct29 oc30 kV30 dc30 pm30 cd30 ct30 oc31 kV31 dc31 pm31 cd31 ct31 oc32 kV32 dc32 pm32 cd32 ct32 oc33 kV33 dc33 pm33 cd33 ct33 oc34 kV34 dc34 pm34 cd34 ct34 oc35 kV35 dc35 pm35 cd35 ct35 oc36 kV36 dc36 pm36 cd36 ct36 oc37 kV37 dc37 pm37 cd37 ct37 oc38 kV38 dc38 pm38 cd38 ct38 oc39 kV39 dc39 pm39 cd39 ct39 oc40 kV40 dc40 pm40 cd40 ct40 oc41 kV41 dc41 pm41 cd41 ct41 oc42 kV42 dc42 pm42 cd42 ct42 : Value}
    {nd2 ne2 ng0 tg1_0 tg1_1 tg1_2 tg1_3 tg1_4 ng1 tg2_0 tg2_1 tg2_2 ng2 : Nat} {es0 : Array DictEntry}
    (a0 : PySem.W.nsIn K mainGlobals "law" = some (some (.ref f0))) (l0 : K.lookup f0 = some ⟨oc0, od0, .func (PySem.W.fnOf "law" "law" (defArgs st_law) (defBody st_law) (defScope st_law) .none kV0 dc0 pm0 an0 cd0 ct0), sl0⟩) (c0 : PySem.W.codeIn K cd0 "law" = true) (k0 : PySem.W.keepIn K (.ref f0) = true)
    (a1 : PySem.W.nsIn K mainGlobals "_law_box" = some (some (.ref f1))) (l1 : K.lookup f1 = some ⟨oc1, od1, .func (PySem.W.fnOf "_law_box" "_law_box" (defArgs st__law_box) (defBody st__law_box) (defScope st__law_box) .none kV1 dc1 pm1 an1 cd1 ct1), sl1⟩) (c1 : PySem.W.codeIn K cd1 "_law_box" = true) (k1 : PySem.W.keepIn K (.ref f1) = true)
    (q2 : PySem.W.findIn K (.ref qC6) "__init__" = some (some (.ref f2))) (i2 : PySem.W.isFn K (.ref f2) = true) (l2 : K.lookup f2 = some ⟨oc2, od2, .func (PySem.W.fnOf "__init__" "Book.__init__" (defArgs (inClass cl_Book 0)) (defBody (inClass cl_Book 0)) (defScope (inClass cl_Book 0)) (.ref dO2) kV2 dc2 pm2 an2 cd2 ct2), sl2⟩) (c2 : PySem.W.codeIn K cd2 "Book.__init__" = true) (k2 : PySem.W.keepIn K (.ref f2) = true)
    (u2 : K.lookup dO2 = some ⟨.type "tuple", none, .seq #[.ref te2] nd2, sd2⟩) (v2 : K.lookup te2 = some ⟨.type "tuple", none, .seq #[] ne2, se2⟩)
    (a3 : PySem.W.nsIn K mainGlobals "is_sequence" = some (some (.ref f3))) (l3 : K.lookup f3 = some ⟨oc3, od3, .func (PySem.W.fnOf "is_sequence" "is_sequence" (defArgs st_is_sequence) (defBody st_is_sequence) (defScope st_is_sequence) .none kV3 dc3 pm3 an3 cd3 ct3), sl3⟩) (c3 : PySem.W.codeIn K cd3 "is_sequence" = true) (k3 : PySem.W.keepIn K (.ref f3) = true)
    (a4 : PySem.W.nsIn K mainGlobals "are_names" = some (some (.ref f4))) (l4 : K.lookup f4 = some ⟨oc4, od4, .func (PySem.W.fnOf "are_names" "are_names" (defArgs st_are_names) (defBody st_are_names) (defScope st_are_names) .none kV4 dc4 pm4 an4 cd4 ct4), sl4⟩) (c4 : PySem.W.codeIn K cd4 "are_names" = true) (k4 : PySem.W.keepIn K (.ref f4) = true)
    (a5 : PySem.W.nsIn K mainGlobals "is_name" = some (some (.ref f5))) (l5 : K.lookup f5 = some ⟨oc5, od5, .func (PySem.W.fnOf "is_name" "is_name" (defArgs st_is_name) (defBody st_is_name) (defScope st_is_name) .none kV5 dc5 pm5 an5 cd5 ct5), sl5⟩) (c5 : PySem.W.codeIn K cd5 "is_name" = true) (k5 : PySem.W.keepIn K (.ref f5) = true)
    (a6 : PySem.W.nsIn K mainGlobals "parts_within" = some (some (.ref f6))) (l6 : K.lookup f6 = some ⟨oc6, od6, .func (PySem.W.fnOf "parts_within" "parts_within" (defArgs st_parts_within) (defBody st_parts_within) (defScope st_parts_within) .none kV6 dc6 pm6 an6 cd6 ct6), sl6⟩) (c6 : PySem.W.codeIn K cd6 "parts_within" = true) (k6 : PySem.W.keepIn K (.ref f6) = true)
    (a7 : PySem.W.nsIn K mainGlobals "parts_of" = some (some (.ref f7))) (l7 : K.lookup f7 = some ⟨oc7, od7, .func (PySem.W.fnOf "parts_of" "parts_of" (defArgs st_parts_of) (defBody st_parts_of) (defScope st_parts_of) .none kV7 dc7 pm7 an7 cd7 ct7), sl7⟩) (c7 : PySem.W.codeIn K cd7 "parts_of" = true) (k7 : PySem.W.keepIn K (.ref f7) = true)
    (a8 : PySem.W.nsIn K mainGlobals "steps_of" = some (some (.ref f8))) (l8 : K.lookup f8 = some ⟨oc8, od8, .func (PySem.W.fnOf "steps_of" "steps_of" (defArgs st_steps_of) (defBody st_steps_of) (defScope st_steps_of) .none kV8 dc8 pm8 an8 cd8 ct8), sl8⟩) (c8 : PySem.W.codeIn K cd8 "steps_of" = true) (k8 : PySem.W.keepIn K (.ref f8) = true)
    (a9 : PySem.W.nsIn K mainGlobals "tokens_of" = some (some (.ref f9))) (l9 : K.lookup f9 = some ⟨oc9, od9, .func (PySem.W.fnOf "tokens_of" "tokens_of" (defArgs st_tokens_of) (defBody st_tokens_of) (defScope st_tokens_of) .none kV9 dc9 pm9 an9 cd9 ct9), sl9⟩) (c9 : PySem.W.codeIn K cd9 "tokens_of" = true) (k9 : PySem.W.keepIn K (.ref f9) = true)
    (a10 : PySem.W.nsIn K mainGlobals "_token_at" = some (some (.ref f10))) (l10 : K.lookup f10 = some ⟨oc10, od10, .func (PySem.W.fnOf "_token_at" "_token_at" (defArgs st__token_at) (defBody st__token_at) (defScope st__token_at) .none kV10 dc10 pm10 an10 cd10 ct10), sl10⟩) (c10 : PySem.W.codeIn K cd10 "_token_at" = true) (k10 : PySem.W.keepIn K (.ref f10) = true)
    (a11 : PySem.W.nsIn K mainGlobals "_leaf" = some (some (.ref f11))) (l11 : K.lookup f11 = some ⟨oc11, od11, .func (PySem.W.fnOf "_leaf" "_leaf" (defArgs st__leaf) (defBody st__leaf) (defScope st__leaf) .none kV11 dc11 pm11 an11 cd11 ct11), sl11⟩) (c11 : PySem.W.codeIn K cd11 "_leaf" = true) (k11 : PySem.W.keepIn K (.ref f11) = true)
    (a12 : PySem.W.nsIn K mainGlobals "is_numeral" = some (some (.ref f12))) (l12 : K.lookup f12 = some ⟨oc12, od12, .func (PySem.W.fnOf "is_numeral" "is_numeral" (defArgs st_is_numeral) (defBody st_is_numeral) (defScope st_is_numeral) .none kV12 dc12 pm12 an12 cd12 ct12), sl12⟩) (c12 : PySem.W.codeIn K cd12 "is_numeral" = true) (k12 : PySem.W.keepIn K (.ref f12) = true)
    (a13 : PySem.W.nsIn K mainGlobals "_is_full" = some (some (.ref f13))) (l13 : K.lookup f13 = some ⟨oc13, od13, .func (PySem.W.fnOf "_is_full" "_is_full" (defArgs st__is_full) (defBody st__is_full) (defScope st__is_full) .none kV13 dc13 pm13 an13 cd13 ct13), sl13⟩) (c13 : PySem.W.codeIn K cd13 "_is_full" = true) (k13 : PySem.W.keepIn K (.ref f13) = true)
    (a14 : PySem.W.nsIn K mainGlobals "names_in" = some (some (.ref f14))) (l14 : K.lookup f14 = some ⟨oc14, od14, .func (PySem.W.fnOf "names_in" "names_in" (defArgs st_names_in) (defBody st_names_in) (defScope st_names_in) .none kV14 dc14 pm14 an14 cd14 ct14), sl14⟩) (c14 : PySem.W.codeIn K cd14 "names_in" = true) (k14 : PySem.W.keepIn K (.ref f14) = true)
    (a15 : PySem.W.nsIn K mainGlobals "_law_mixed" = some (some (.ref f15))) (l15 : K.lookup f15 = some ⟨oc15, od15, .func (PySem.W.fnOf "_law_mixed" "_law_mixed" (defArgs st__law_mixed) (defBody st__law_mixed) (defScope st__law_mixed) .none kV15 dc15 pm15 an15 cd15 ct15), sl15⟩) (c15 : PySem.W.codeIn K cd15 "_law_mixed" = true) (k15 : PySem.W.keepIn K (.ref f15) = true)
    (a16 : PySem.W.nsIn K mainGlobals "_law_take" = some (some (.ref f16))) (l16 : K.lookup f16 = some ⟨oc16, od16, .func (PySem.W.fnOf "_law_take" "_law_take" (defArgs st__law_take) (defBody st__law_take) (defScope st__law_take) .none kV16 dc16 pm16 an16 cd16 ct16), sl16⟩) (c16 : PySem.W.codeIn K cd16 "_law_take" = true) (k16 : PySem.W.keepIn K (.ref f16) = true)
    (a17 : PySem.W.nsIn K mainGlobals "no_wider" = some (some (.ref f17))) (l17 : K.lookup f17 = some ⟨oc17, od17, .func (PySem.W.fnOf "no_wider" "no_wider" (defArgs st_no_wider) (defBody st_no_wider) (defScope st_no_wider) .none kV17 dc17 pm17 an17 cd17 ct17), sl17⟩) (c17 : PySem.W.codeIn K cd17 "no_wider" = true) (k17 : PySem.W.keepIn K (.ref f17) = true)
    (a18 : PySem.W.nsIn K mainGlobals "_only_in" = some (some (.ref f18))) (l18 : K.lookup f18 = some ⟨oc18, od18, .func (PySem.W.fnOf "_only_in" "_only_in" (defArgs st__only_in) (defBody st__only_in) (defScope st__only_in) .none kV18 dc18 pm18 an18 cd18 ct18), sl18⟩) (c18 : PySem.W.codeIn K cd18 "_only_in" = true) (k18 : PySem.W.keepIn K (.ref f18) = true)
    (a19 : PySem.W.nsIn K mainGlobals "_counter_in" = some (some (.ref f19))) (l19 : K.lookup f19 = some ⟨oc19, od19, .func (PySem.W.fnOf "_counter_in" "_counter_in" (defArgs st__counter_in) (defBody st__counter_in) (defScope st__counter_in) .none kV19 dc19 pm19 an19 cd19 ct19), sl19⟩) (c19 : PySem.W.codeIn K cd19 "_counter_in" = true) (k19 : PySem.W.keepIn K (.ref f19) = true)
    (a20 : PySem.W.nsIn K mainGlobals "denials_of" = some (some (.ref f20))) (l20 : K.lookup f20 = some ⟨oc20, od20, .func (PySem.W.fnOf "denials_of" "denials_of" (defArgs st_denials_of) (defBody st_denials_of) (defScope st_denials_of) .none kV20 dc20 pm20 an20 cd20 ct20), sl20⟩) (c20 : PySem.W.codeIn K cd20 "denials_of" = true) (k20 : PySem.W.keepIn K (.ref f20) = true)
    (a21 : PySem.W.nsIn K mainGlobals "some_in" = some (some (.ref f21))) (l21 : K.lookup f21 = some ⟨oc21, od21, .func (PySem.W.fnOf "some_in" "some_in" (defArgs st_some_in) (defBody st_some_in) (defScope st_some_in) .none kV21 dc21 pm21 an21 cd21 ct21), sl21⟩) (c21 : PySem.W.codeIn K cd21 "some_in" = true) (k21 : PySem.W.keepIn K (.ref f21) = true)
    (a22 : PySem.W.nsIn K mainGlobals "cases_of" = some (some (.ref f22))) (l22 : K.lookup f22 = some ⟨oc22, od22, .func (PySem.W.fnOf "cases_of" "cases_of" (defArgs st_cases_of) (defBody st_cases_of) (defScope st_cases_of) .none kV22 dc22 pm22 an22 cd22 ct22), sl22⟩) (c22 : PySem.W.codeIn K cd22 "cases_of" = true) (k22 : PySem.W.keepIn K (.ref f22) = true)
    (a23 : PySem.W.nsIn K mainGlobals "_open_name" = some (some (.ref f23))) (l23 : K.lookup f23 = some ⟨oc23, od23, .func (PySem.W.fnOf "_open_name" "_open_name" (defArgs st__open_name) (defBody st__open_name) (defScope st__open_name) .none kV23 dc23 pm23 an23 cd23 ct23), sl23⟩) (c23 : PySem.W.codeIn K cd23 "_open_name" = true) (k23 : PySem.W.keepIn K (.ref f23) = true)
    (a24 : PySem.W.nsIn K mainGlobals "steps_in" = some (some (.ref f24))) (l24 : K.lookup f24 = some ⟨oc24, od24, .func (PySem.W.fnOf "steps_in" "steps_in" (defArgs st_steps_in) (defBody st_steps_in) (defScope st_steps_in) .none kV24 dc24 pm24 an24 cd24 ct24), sl24⟩) (c24 : PySem.W.codeIn K cd24 "steps_in" = true) (k24 : PySem.W.keepIn K (.ref f24) = true)
    (a25 : PySem.W.nsIn K mainGlobals "settle" = some (some (.ref f25))) (l25 : K.lookup f25 = some ⟨oc25, od25, .func (PySem.W.fnOf "settle" "settle" (defArgs st_settle) (defBody st_settle) (defScope st_settle) .none kV25 dc25 pm25 an25 cd25 ct25), sl25⟩) (c25 : PySem.W.codeIn K cd25 "settle" = true) (k25 : PySem.W.keepIn K (.ref f25) = true)
    (a26 : PySem.W.nsIn K mainGlobals "_lower_bounds" = some (some (.ref f26))) (l26 : K.lookup f26 = some ⟨oc26, od26, .func (PySem.W.fnOf "_lower_bounds" "_lower_bounds" (defArgs st__lower_bounds) (defBody st__lower_bounds) (defScope st__lower_bounds) .none kV26 dc26 pm26 an26 cd26 ct26), sl26⟩) (c26 : PySem.W.codeIn K cd26 "_lower_bounds" = true) (k26 : PySem.W.keepIn K (.ref f26) = true)
    (a27 : PySem.W.nsIn K mainGlobals "_values_with" = some (some (.ref f27))) (l27 : K.lookup f27 = some ⟨oc27, od27, .func (PySem.W.fnOf "_values_with" "_values_with" (defArgs st__values_with) (defBody st__values_with) (defScope st__values_with) .none kV27 dc27 pm27 an27 cd27 ct27), sl27⟩) (c27 : PySem.W.codeIn K cd27 "_values_with" = true) (k27 : PySem.W.keepIn K (.ref f27) = true)
    (a28 : PySem.W.nsIn K mainGlobals "bounds_in" = some (some (.ref f28))) (l28 : K.lookup f28 = some ⟨oc28, od28, .func (PySem.W.fnOf "bounds_in" "bounds_in" (defArgs st_bounds_in) (defBody st_bounds_in) (defScope st_bounds_in) .none kV28 dc28 pm28 an28 cd28 ct28), sl28⟩) (c28 : PySem.W.codeIn K cd28 "bounds_in" = true) (k28 : PySem.W.keepIn K (.ref f28) = true)
    (a29 : PySem.W.nsIn K mainGlobals "sides_of" = some (some (.ref f29))) (l29 : K.lookup f29 = some ⟨oc29, od29, .func (PySem.W.fnOf "sides_of" "sides_of" (defArgs st_sides_of) (defBody st_sides_of) (defScope st_sides_of) .none kV29 dc29 pm29 an29 cd29 ct29), sl29⟩) (c29 : PySem.W.codeIn K cd29 "sides_of" = true) (k29 : PySem.W.keepIn K (.ref f29) = true)
    (a30 : PySem.W.nsIn K mainGlobals "atoms_in" = some (some (.ref f30))) (l30 : K.lookup f30 = some ⟨oc30, od30, .func (PySem.W.fnOf "atoms_in" "atoms_in" (defArgs st_atoms_in) (defBody st_atoms_in) (defScope st_atoms_in) .none kV30 dc30 pm30 an30 cd30 ct30), sl30⟩) (c30 : PySem.W.codeIn K cd30 "atoms_in" = true) (k30 : PySem.W.keepIn K (.ref f30) = true)
    (a31 : PySem.W.nsIn K mainGlobals "_greatest" = some (some (.ref f31))) (l31 : K.lookup f31 = some ⟨oc31, od31, .func (PySem.W.fnOf "_greatest" "_greatest" (defArgs st__greatest) (defBody st__greatest) (defScope st__greatest) .none kV31 dc31 pm31 an31 cd31 ct31), sl31⟩) (c31 : PySem.W.codeIn K cd31 "_greatest" = true) (k31 : PySem.W.keepIn K (.ref f31) = true)
    (a32 : PySem.W.nsIn K mainGlobals "same_tops" = some (some (.ref f32))) (l32 : K.lookup f32 = some ⟨oc32, od32, .func (PySem.W.fnOf "same_tops" "same_tops" (defArgs st_same_tops) (defBody st_same_tops) (defScope st_same_tops) .none kV32 dc32 pm32 an32 cd32 ct32), sl32⟩) (c32 : PySem.W.codeIn K cd32 "same_tops" = true) (k32 : PySem.W.keepIn K (.ref f32) = true)
    (a33 : PySem.W.nsIn K mainGlobals "follows" = some (some (.ref f33))) (l33 : K.lookup f33 = some ⟨oc33, od33, .func (PySem.W.fnOf "follows" "follows" (defArgs st_follows) (defBody st_follows) (defScope st_follows) .none kV33 dc33 pm33 an33 cd33 ct33), sl33⟩) (c33 : PySem.W.codeIn K cd33 "follows" = true) (k33 : PySem.W.keepIn K (.ref f33) = true)
    (a34 : PySem.W.nsIn K mainGlobals "counter" = some (some (.ref f34))) (l34 : K.lookup f34 = some ⟨oc34, od34, .func (PySem.W.fnOf "counter" "counter" (defArgs st_counter) (defBody st_counter) (defScope st_counter) .none kV34 dc34 pm34 an34 cd34 ct34), sl34⟩) (c34 : PySem.W.codeIn K cd34 "counter" = true) (k34 : PySem.W.keepIn K (.ref f34) = true)
    (a35 : PySem.W.nsIn K mainGlobals "excess" = some (some (.ref f35))) (l35 : K.lookup f35 = some ⟨oc35, od35, .func (PySem.W.fnOf "excess" "excess" (defArgs st_excess) (defBody st_excess) (defScope st_excess) .none kV35 dc35 pm35 an35 cd35 ct35), sl35⟩) (c35 : PySem.W.codeIn K cd35 "excess" = true) (k35 : PySem.W.keepIn K (.ref f35) = true)
    (a36 : PySem.W.nsIn K mainGlobals "rise_in" = some (some (.ref f36))) (l36 : K.lookup f36 = some ⟨oc36, od36, .func (PySem.W.fnOf "rise_in" "rise_in" (defArgs st_rise_in) (defBody st_rise_in) (defScope st_rise_in) .none kV36 dc36 pm36 an36 cd36 ct36), sl36⟩) (c36 : PySem.W.codeIn K cd36 "rise_in" = true) (k36 : PySem.W.keepIn K (.ref f36) = true)
    (a37 : PySem.W.nsIn K mainGlobals "_rise" = some (some (.ref f37))) (l37 : K.lookup f37 = some ⟨oc37, od37, .func (PySem.W.fnOf "_rise" "_rise" (defArgs st__rise) (defBody st__rise) (defScope st__rise) .none kV37 dc37 pm37 an37 cd37 ct37), sl37⟩) (c37 : PySem.W.codeIn K cd37 "_rise" = true) (k37 : PySem.W.keepIn K (.ref f37) = true)
    (a38 : PySem.W.nsIn K mainGlobals "read_within" = some (some (.ref f38))) (l38 : K.lookup f38 = some ⟨oc38, od38, .func (PySem.W.fnOf "read_within" "read_within" (defArgs st_read_within) (defBody st_read_within) (defScope st_read_within) .none kV38 dc38 pm38 an38 cd38 ct38), sl38⟩) (c38 : PySem.W.codeIn K cd38 "read_within" = true) (k38 : PySem.W.keepIn K (.ref f38) = true)
    (a39 : PySem.W.nsIn K mainGlobals "steps_within" = some (some (.ref f39))) (l39 : K.lookup f39 = some ⟨oc39, od39, .func (PySem.W.fnOf "steps_within" "steps_within" (defArgs st_steps_within) (defBody st_steps_within) (defScope st_steps_within) .none kV39 dc39 pm39 an39 cd39 ct39), sl39⟩) (c39 : PySem.W.codeIn K cd39 "steps_within" = true) (k39 : PySem.W.keepIn K (.ref f39) = true)
    (q40 : PySem.W.findIn K (.ref qC6) "but" = some (some (.ref f40))) (i40 : PySem.W.isFn K (.ref f40) = true) (l40 : K.lookup f40 = some ⟨oc40, od40, .func (PySem.W.fnOf "but" "Book.but" (defArgs (inClass cl_Book 8)) (defBody (inClass cl_Book 8)) (defScope (inClass cl_Book 8)) .none kV40 dc40 pm40 an40 cd40 ct40), sl40⟩) (c40 : PySem.W.codeIn K cd40 "Book.but" = true) (k40 : PySem.W.keepIn K (.ref f40) = true)
    (a41 : PySem.W.nsIn K mainGlobals "_law_ring_right" = some (some (.ref f41))) (l41 : K.lookup f41 = some ⟨oc41, od41, .func (PySem.W.fnOf "_law_ring_right" "_law_ring_right" (defArgs st__law_ring_right) (defBody st__law_ring_right) (defScope st__law_ring_right) .none kV41 dc41 pm41 an41 cd41 ct41), sl41⟩) (c41 : PySem.W.codeIn K cd41 "_law_ring_right" = true) (k41 : PySem.W.keepIn K (.ref f41) = true)
    (a42 : PySem.W.nsIn K mainGlobals "unlike" = some (some (.ref f42))) (l42 : K.lookup f42 = some ⟨oc42, od42, .func (PySem.W.fnOf "unlike" "unlike" (defArgs st_unlike) (defBody st_unlike) (defScope st_unlike) .none kV42 dc42 pm42 an42 cd42 ct42), sl42⟩) (c42 : PySem.W.codeIn K cd42 "unlike" = true) (k42 : PySem.W.keepIn K (.ref f42) = true)
    (qa6 : PySem.W.nsIn K mainGlobals "Book" = some (some (.ref qC6))) (qpg6 : PySem.W.plainGet K qC6 Str.empty = true) (qhd6 : PySem.W.hasDictIn K qC6 = true) (qpo6 : PySem.W.plainOver K qC6 = true) (qsa6 : PySem.W.findIn K (.ref qC6) "__setattr__" = some (some (.builtin "object.__setattr__"))) (qmk6 : PySem.W.makesIn K qC6 = true) (qkc6 : PySem.W.keepIn K (.ref qC6) = true)
    (qn6_0 : PySem.W.findIn K (.ref qC6) "names" = some none)
    (qn6_1 : PySem.W.findIn K (.ref qC6) "demands" = some none)
    (qn6_2 : PySem.W.findIn K (.ref qC6) "parts" = some none)
    (z0 : PySem.W.nsIn K mainGlobals "len" = some none)
    (z1 : PySem.W.nsIn K mainGlobals "abs" = some none)
    (z2 : PySem.W.nsIn K mainGlobals "int" = some none)
    (z3 : PySem.W.nsIn K mainGlobals "str" = some none)
    (z4 : PySem.W.nsIn K mainGlobals "max" = some none)
    (z5 : PySem.W.nsIn K mainGlobals "min" = some none)
    (z6 : PySem.W.nsIn K mainGlobals "list" = some none)
    (z7 : PySem.W.nsIn K mainGlobals "tuple" = some none)
    (z8 : PySem.W.nsIn K mainGlobals "any" = some none)
    (z9 : PySem.W.nsIn K mainGlobals "all" = some none)
    (z10 : PySem.W.nsIn K mainGlobals "sum" = some none)
    (z11 : PySem.W.nsIn K mainGlobals "dict" = some none)
    (z12 : PySem.W.nsIn K mainGlobals "sorted" = some none)
    (z13 : PySem.W.nsIn K mainGlobals "bool" = some none)
    (z14 : PySem.W.nsIn K mainGlobals "range" = some none)
    (z15 : PySem.W.nsIn K mainGlobals "enumerate" = some none)
    (z16 : PySem.W.nsIn K mainGlobals "isinstance" = some none)
    (z17 : PySem.W.nsIn K mainGlobals "zip" = some none)
    (z18 : PySem.W.nsIn K mainGlobals "repr" = some none)
    (z19 : PySem.W.nsIn K mainGlobals "set" = some none)
    (z20 : PySem.W.nsIn K mainGlobals "reversed" = some none)
    (ag0 : PySem.W.nsIn K mainGlobals "CALLS" = some (some (.ref fg0))) (lg0 : K.lookup fg0 = some ⟨.type "dict", none, .dict es0 ng0, #[]⟩) (kg0 : PySem.W.KeysLit w.params es0.toList) (sg0 : (fg0 == sysModules) = false)
    (pg0 : Paired (fun (kv : Str × V) (e : DictEntry) => (∃ t, e.key = .str kv.1 t) ∧ RelV kv.2 e.val) [("max(", .str "max"), ("imax(", .str "imax")] es0.toList)
    (ag1 : PySem.W.nsIn K mainGlobals "SIGNS" = some (some (.ref fg1))) (lg1 : K.lookup fg1 = some ⟨.type "tuple", none, .seq #[.str "max(" tg1_0, .str "imax(" tg1_1, .str " + " tg1_2, .str ", " tg1_3, .str ")" tg1_4] ng1, #[]⟩)
    (ag2 : PySem.W.nsIn K mainGlobals "RELATIONS" = some (some (.ref fg2))) (lg2 : K.lookup fg2 = some ⟨.type "tuple", none, .seq #[.str "<=" tg2_0, .str "<" tg2_1, .str "=" tg2_2] ng2, #[]⟩) :
    ∃ fd : FuncData, (∀ (s : Shared) (v : Value), BindsTo s fd ⟨[v], []⟩ [("_law_script", v)]) ∧ ∀ base : Heap, K.In base → base.Ns mainGlobals mg → FnOk l.prog w K mg base CX0 40 fa fd ["_law_script"] (Ev.spLaw 63 K) := by
  have e := hfa.symm.trans (PySem.W.mg_of X G a0)
  have e0 : f0 = fa := by cases e; rfl
  subst e0
  have C6 : Cls K qC6 := ⟨qpg6, qhd6, qpo6, qsa6⟩
  have F0 := fun_toD (fun_mk (st := st_law) l0 c0 k0)
  have b0 := (fun_mk (st := st_law) l0 c0 k0).binds (ps := ["_law_script"]) fun _ _ _ _ _ _ us hl => match us, hl with | [_], _ => rfl
  have D0 : DefAt K nms fd_0 f0 _ ["_law_script"] := ⟨⟨st_law, nm_0, _, _, _, _, F0, sc_0, b0, rfl, rfl, ck_0⟩⟩
  have W0 : WhoAt K (fun i => if i = 6 then qC6 else 0) mg nms 0 f0 := ⟨(fun x h => by have h' : some ("law" : Str) = some x := h; cases h'; exact PySem.W.mg_of X G a0), (fun c m h => by have h' : (none : Option (Nat × Cs)) = some (c, m) := h; cases h'), (fun c m h => by have h' : (none : Option (Nat × Cs)) = some (c, m) := h; cases h'), (fun c x h => by have h' : (none : Option (Nat × Str)) = some (c, x) := h; cases h')⟩
  have F1 := fun_toD (fun_mk (st := st__law_box) l1 c1 k1)
  have b1 := (fun_mk (st := st__law_box) l1 c1 k1).binds (ps := ["_law_script", "_law_k"]) fun _ _ _ _ _ _ us hl => match us, hl with | [_, _], _ => rfl
  have D1 : DefAt K nms fd_1 f1 _ ["_law_script", "_law_k"] := ⟨⟨st__law_box, nm_1, _, _, _, _, F1, sc_1, b1, rfl, rfl, ck_1⟩⟩
  have W1 : WhoAt K (fun i => if i = 6 then qC6 else 0) mg nms 1 f1 := ⟨(fun x h => by have h' : some ("_law_box" : Str) = some x := h; cases h'; exact PySem.W.mg_of X G a1), (fun c m h => by have h' : (none : Option (Nat × Cs)) = some (c, m) := h; cases h'), (fun c m h => by have h' : (none : Option (Nat × Cs)) = some (c, m) := h; cases h'), (fun c x h => by have h' : (none : Option (Nat × Str)) = some (c, x) := h; cases h')⟩
  have F2 : L2.FunD K "__init__" "Book.__init__" (defArgs (inClass cl_Book 0)) (defBody (inClass cl_Book 0)) (defScope (inClass cl_Book 0)) [V.ref te2] [] f2 _ := ⟨⟨_, _, _, _, _, _, _, _, _, _, rfl, l2, c2, .inr ⟨List.cons_ne_nil _ _, dO2, _, [.ref te2], _, rfl, u2, rfl, .cons rfl .nil⟩, .inl rfl⟩, k2⟩
  obtain ⟨ds2, r2, bI2⟩ := F2.binds1 (ps := ["self", "names", "demands"]) 3 1 (List.cons_ne_nil _ _) rfl fun T kV doc pm an cdv ct us its h1 h2 => match us, its, h1, h2 with | [_, _, _], [_], _, _ => ⟨_, rfl, rfl⟩
  have b2 : Binds K (PySem.W.fnOf "__init__" "Book.__init__" (defArgs (inClass cl_Book 0)) (defBody (inClass cl_Book 0)) (defScope (inClass cl_Book 0)) (.ref dO2) kV2 dc2 pm2 an2 cd2 ct2) ["self", "names", "demands"] [] := by
    cases r2
    exact bI2
  have D2 : DefAt K nms fd_2 f2 _ ["self", "names", "demands"] := ⟨⟨(inClass cl_Book 0), nm_2, _, _, _, _, F2, sc_2, b2, rfl, rfl, ck_2⟩⟩
  have W2 : WhoAt K (fun i => if i = 6 then qC6 else 0) mg nms 2 f2 := ⟨(fun x h => by have h' : (none : Option (Str)) = some x := h; cases h'), (fun c m h => by have h' : (none : Option (Nat × Cs)) = some (c, m) := h; cases h'), (fun c m h => by have h' : (none : Option (Nat × Cs)) = some (c, m) := h; cases h'), (fun c x h => by have h' : some ((6, "Book") : Nat × Str) = some (c, x) := h; cases h'; exact ⟨⟨qmk6, q2, i2, qkc6⟩, PySem.W.mg_of X G qa6⟩)⟩
  have F3 := fun_toD (fun_mk (st := st_is_sequence) l3 c3 k3)
  have b3 := (fun_mk (st := st_is_sequence) l3 c3 k3).binds (ps := ["thing"]) fun _ _ _ _ _ _ us hl => match us, hl with | [_], _ => rfl
  have D3 : DefAt K nms fd_3 f3 _ ["thing"] := ⟨⟨st_is_sequence, nm_3, _, _, _, _, F3, sc_3, b3, rfl, rfl, ck_3⟩⟩
  have W3 : WhoAt K (fun i => if i = 6 then qC6 else 0) mg nms 3 f3 := ⟨(fun x h => by have h' : some ("is_sequence" : Str) = some x := h; cases h'; exact PySem.W.mg_of X G a3), (fun c m h => by have h' : (none : Option (Nat × Cs)) = some (c, m) := h; cases h'), (fun c m h => by have h' : (none : Option (Nat × Cs)) = some (c, m) := h; cases h'), (fun c x h => by have h' : (none : Option (Nat × Str)) = some (c, x) := h; cases h')⟩
  have F4 := fun_toD (fun_mk (st := st_are_names) l4 c4 k4)
  have b4 := (fun_mk (st := st_are_names) l4 c4 k4).binds (ps := ["thing"]) fun _ _ _ _ _ _ us hl => match us, hl with | [_], _ => rfl
  have D4 : DefAt K nms fd_4 f4 _ ["thing"] := ⟨⟨st_are_names, nm_4, _, _, _, _, F4, sc_4, b4, rfl, rfl, ck_4⟩⟩
  have W4 : WhoAt K (fun i => if i = 6 then qC6 else 0) mg nms 4 f4 := ⟨(fun x h => by have h' : some ("are_names" : Str) = some x := h; cases h'; exact PySem.W.mg_of X G a4), (fun c m h => by have h' : (none : Option (Nat × Cs)) = some (c, m) := h; cases h'), (fun c m h => by have h' : (none : Option (Nat × Cs)) = some (c, m) := h; cases h'), (fun c x h => by have h' : (none : Option (Nat × Str)) = some (c, x) := h; cases h')⟩
  have F5 := fun_toD (fun_mk (st := st_is_name) l5 c5 k5)
  have b5 := (fun_mk (st := st_is_name) l5 c5 k5).binds (ps := ["thing"]) fun _ _ _ _ _ _ us hl => match us, hl with | [_], _ => rfl
  have D5 : DefAt K nms fd_5 f5 _ ["thing"] := ⟨⟨st_is_name, nm_5, _, _, _, _, F5, sc_5, b5, rfl, rfl, ck_5⟩⟩
  have W5 : WhoAt K (fun i => if i = 6 then qC6 else 0) mg nms 5 f5 := ⟨(fun x h => by have h' : some ("is_name" : Str) = some x := h; cases h'; exact PySem.W.mg_of X G a5), (fun c m h => by have h' : (none : Option (Nat × Cs)) = some (c, m) := h; cases h'), (fun c m h => by have h' : (none : Option (Nat × Cs)) = some (c, m) := h; cases h'), (fun c x h => by have h' : (none : Option (Nat × Str)) = some (c, x) := h; cases h')⟩
  have F6 := fun_toD (fun_mk (st := st_parts_within) l6 c6 k6)
  have b6 := (fun_mk (st := st_parts_within) l6 c6 k6).binds (ps := ["thing", "names"]) fun _ _ _ _ _ _ us hl => match us, hl with | [_, _], _ => rfl
  have D6 : DefAt K nms fd_6 f6 _ ["thing", "names"] := ⟨⟨st_parts_within, nm_6, _, _, _, _, F6, sc_6, b6, rfl, rfl, ck_6⟩⟩
  have W6 : WhoAt K (fun i => if i = 6 then qC6 else 0) mg nms 6 f6 := ⟨(fun x h => by have h' : some ("parts_within" : Str) = some x := h; cases h'; exact PySem.W.mg_of X G a6), (fun c m h => by have h' : (none : Option (Nat × Cs)) = some (c, m) := h; cases h'), (fun c m h => by have h' : (none : Option (Nat × Cs)) = some (c, m) := h; cases h'), (fun c x h => by have h' : (none : Option (Nat × Str)) = some (c, x) := h; cases h')⟩
  have F7 := fun_toD (fun_mk (st := st_parts_of) l7 c7 k7)
  have b7 := (fun_mk (st := st_parts_of) l7 c7 k7).binds (ps := ["thing"]) fun _ _ _ _ _ _ us hl => match us, hl with | [_], _ => rfl
  have D7 : DefAt K nms fd_7 f7 _ ["thing"] := ⟨⟨st_parts_of, nm_7, _, _, _, _, F7, sc_7, b7, rfl, rfl, ck_7⟩⟩
  have W7 : WhoAt K (fun i => if i = 6 then qC6 else 0) mg nms 7 f7 := ⟨(fun x h => by have h' : some ("parts_of" : Str) = some x := h; cases h'; exact PySem.W.mg_of X G a7), (fun c m h => by have h' : (none : Option (Nat × Cs)) = some (c, m) := h; cases h'), (fun c m h => by have h' : (none : Option (Nat × Cs)) = some (c, m) := h; cases h'), (fun c x h => by have h' : (none : Option (Nat × Str)) = some (c, x) := h; cases h')⟩
  have F8 := fun_toD (fun_mk (st := st_steps_of) l8 c8 k8)
  have b8 := (fun_mk (st := st_steps_of) l8 c8 k8).binds (ps := ["thing"]) fun _ _ _ _ _ _ us hl => match us, hl with | [_], _ => rfl
  have D8 : DefAt K nms fd_8 f8 _ ["thing"] := ⟨⟨st_steps_of, nm_8, _, _, _, _, F8, sc_8, b8, rfl, rfl, ck_8⟩⟩
  have W8 : WhoAt K (fun i => if i = 6 then qC6 else 0) mg nms 8 f8 := ⟨(fun x h => by have h' : some ("steps_of" : Str) = some x := h; cases h'; exact PySem.W.mg_of X G a8), (fun c m h => by have h' : (none : Option (Nat × Cs)) = some (c, m) := h; cases h'), (fun c m h => by have h' : (none : Option (Nat × Cs)) = some (c, m) := h; cases h'), (fun c x h => by have h' : (none : Option (Nat × Str)) = some (c, x) := h; cases h')⟩
  have F9 := fun_toD (fun_mk (st := st_tokens_of) l9 c9 k9)
  have b9 := (fun_mk (st := st_tokens_of) l9 c9 k9).binds (ps := ["text"]) fun _ _ _ _ _ _ us hl => match us, hl with | [_], _ => rfl
  have D9 : DefAt K nms fd_9 f9 _ ["text"] := ⟨⟨st_tokens_of, nm_9, _, _, _, _, F9, sc_9, b9, rfl, rfl, ck_9⟩⟩
  have W9 : WhoAt K (fun i => if i = 6 then qC6 else 0) mg nms 9 f9 := ⟨(fun x h => by have h' : some ("tokens_of" : Str) = some x := h; cases h'; exact PySem.W.mg_of X G a9), (fun c m h => by have h' : (none : Option (Nat × Cs)) = some (c, m) := h; cases h'), (fun c m h => by have h' : (none : Option (Nat × Cs)) = some (c, m) := h; cases h'), (fun c x h => by have h' : (none : Option (Nat × Str)) = some (c, x) := h; cases h')⟩
  have F10 := fun_toD (fun_mk (st := st__token_at) l10 c10 k10)
  have b10 := (fun_mk (st := st__token_at) l10 c10 k10).binds (ps := ["text", "at"]) fun _ _ _ _ _ _ us hl => match us, hl with | [_, _], _ => rfl
  have D10 : DefAt K nms fd_10 f10 _ ["text", "at"] := ⟨⟨st__token_at, nm_10, _, _, _, _, F10, sc_10, b10, rfl, rfl, ck_10⟩⟩
  have W10 : WhoAt K (fun i => if i = 6 then qC6 else 0) mg nms 10 f10 := ⟨(fun x h => by have h' : some ("_token_at" : Str) = some x := h; cases h'; exact PySem.W.mg_of X G a10), (fun c m h => by have h' : (none : Option (Nat × Cs)) = some (c, m) := h; cases h'), (fun c m h => by have h' : (none : Option (Nat × Cs)) = some (c, m) := h; cases h'), (fun c x h => by have h' : (none : Option (Nat × Str)) = some (c, x) := h; cases h')⟩
  have F11 := fun_toD (fun_mk (st := st__leaf) l11 c11 k11)
  have b11 := (fun_mk (st := st__leaf) l11 c11 k11).binds (ps := ["token", "wanted"]) fun _ _ _ _ _ _ us hl => match us, hl with | [_, _], _ => rfl
  have D11 : DefAt K nms fd_11 f11 _ ["token", "wanted"] := ⟨⟨st__leaf, nm_11, _, _, _, _, F11, sc_11, b11, rfl, rfl, ck_11⟩⟩
  have W11 : WhoAt K (fun i => if i = 6 then qC6 else 0) mg nms 11 f11 := ⟨(fun x h => by have h' : some ("_leaf" : Str) = some x := h; cases h'; exact PySem.W.mg_of X G a11), (fun c m h => by have h' : (none : Option (Nat × Cs)) = some (c, m) := h; cases h'), (fun c m h => by have h' : (none : Option (Nat × Cs)) = some (c, m) := h; cases h'), (fun c x h => by have h' : (none : Option (Nat × Str)) = some (c, x) := h; cases h')⟩
  have F12 := fun_toD (fun_mk (st := st_is_numeral) l12 c12 k12)
  have b12 := (fun_mk (st := st_is_numeral) l12 c12 k12).binds (ps := ["word"]) fun _ _ _ _ _ _ us hl => match us, hl with | [_], _ => rfl
  have D12 : DefAt K nms fd_12 f12 _ ["word"] := ⟨⟨st_is_numeral, nm_12, _, _, _, _, F12, sc_12, b12, rfl, rfl, ck_12⟩⟩
  have W12 : WhoAt K (fun i => if i = 6 then qC6 else 0) mg nms 12 f12 := ⟨(fun x h => by have h' : some ("is_numeral" : Str) = some x := h; cases h'; exact PySem.W.mg_of X G a12), (fun c m h => by have h' : (none : Option (Nat × Cs)) = some (c, m) := h; cases h'), (fun c m h => by have h' : (none : Option (Nat × Cs)) = some (c, m) := h; cases h'), (fun c x h => by have h' : (none : Option (Nat × Str)) = some (c, x) := h; cases h')⟩
  have F13 := fun_toD (fun_mk (st := st__is_full) l13 c13 k13)
  have b13 := (fun_mk (st := st__is_full) l13 c13 k13).binds (ps := ["call", "count"]) fun _ _ _ _ _ _ us hl => match us, hl with | [_, _], _ => rfl
  have D13 : DefAt K nms fd_13 f13 _ ["call", "count"] := ⟨⟨st__is_full, nm_13, _, _, _, _, F13, sc_13, b13, rfl, rfl, ck_13⟩⟩
  have W13 : WhoAt K (fun i => if i = 6 then qC6 else 0) mg nms 13 f13 := ⟨(fun x h => by have h' : some ("_is_full" : Str) = some x := h; cases h'; exact PySem.W.mg_of X G a13), (fun c m h => by have h' : (none : Option (Nat × Cs)) = some (c, m) := h; cases h'), (fun c m h => by have h' : (none : Option (Nat × Cs)) = some (c, m) := h; cases h'), (fun c x h => by have h' : (none : Option (Nat × Str)) = some (c, x) := h; cases h')⟩
  have F14 := fun_toD (fun_mk (st := st_names_in) l14 c14 k14)
  have b14 := (fun_mk (st := st_names_in) l14 c14 k14).binds (ps := ["steps"]) fun _ _ _ _ _ _ us hl => match us, hl with | [_], _ => rfl
  have D14 : DefAt K nms fd_14 f14 _ ["steps"] := ⟨⟨st_names_in, nm_14, _, _, _, _, F14, sc_14, b14, rfl, rfl, ck_14⟩⟩
  have W14 : WhoAt K (fun i => if i = 6 then qC6 else 0) mg nms 14 f14 := ⟨(fun x h => by have h' : some ("names_in" : Str) = some x := h; cases h'; exact PySem.W.mg_of X G a14), (fun c m h => by have h' : (none : Option (Nat × Cs)) = some (c, m) := h; cases h'), (fun c m h => by have h' : (none : Option (Nat × Cs)) = some (c, m) := h; cases h'), (fun c x h => by have h' : (none : Option (Nat × Str)) = some (c, x) := h; cases h')⟩
  have F15 := fun_toD (fun_mk (st := st__law_mixed) l15 c15 k15)
  have b15 := (fun_mk (st := st__law_mixed) l15 c15 k15).binds (ps := ["_law_box_here", "_law_some"]) fun _ _ _ _ _ _ us hl => match us, hl with | [_, _], _ => rfl
  have D15 : DefAt K nms fd_15 f15 _ ["_law_box_here", "_law_some"] := ⟨⟨st__law_mixed, nm_15, _, _, _, _, F15, sc_15, b15, rfl, rfl, ck_15⟩⟩
  have W15 : WhoAt K (fun i => if i = 6 then qC6 else 0) mg nms 15 f15 := ⟨(fun x h => by have h' : some ("_law_mixed" : Str) = some x := h; cases h'; exact PySem.W.mg_of X G a15), (fun c m h => by have h' : (none : Option (Nat × Cs)) = some (c, m) := h; cases h'), (fun c m h => by have h' : (none : Option (Nat × Cs)) = some (c, m) := h; cases h'), (fun c x h => by have h' : (none : Option (Nat × Str)) = some (c, x) := h; cases h')⟩
  have F16 := fun_toD (fun_mk (st := st__law_take) l16 c16 k16)
  have b16 := (fun_mk (st := st__law_take) l16 c16 k16).binds (ps := ["_law_box_here", "_law_many"]) fun _ _ _ _ _ _ us hl => match us, hl with | [_, _], _ => rfl
  have D16 : DefAt K nms fd_16 f16 _ ["_law_box_here", "_law_many"] := ⟨⟨st__law_take, nm_16, _, _, _, _, F16, sc_16, b16, rfl, rfl, ck_16⟩⟩
  have W16 : WhoAt K (fun i => if i = 6 then qC6 else 0) mg nms 16 f16 := ⟨(fun x h => by have h' : some ("_law_take" : Str) = some x := h; cases h'; exact PySem.W.mg_of X G a16), (fun c m h => by have h' : (none : Option (Nat × Cs)) = some (c, m) := h; cases h'), (fun c m h => by have h' : (none : Option (Nat × Cs)) = some (c, m) := h; cases h'), (fun c x h => by have h' : (none : Option (Nat × Str)) = some (c, x) := h; cases h')⟩
  have F17 := fun_toD (fun_mk (st := st_no_wider) l17 c17 k17)
  have b17 := (fun_mk (st := st_no_wider) l17 c17 k17).binds (ps := ["one", "other"]) fun _ _ _ _ _ _ us hl => match us, hl with | [_, _], _ => rfl
  have D17 : DefAt K nms fd_17 f17 _ ["one", "other"] := ⟨⟨st_no_wider, nm_17, _, _, _, _, F17, sc_17, b17, rfl, rfl, ck_17⟩⟩
  have W17 : WhoAt K (fun i => if i = 6 then qC6 else 0) mg nms 17 f17 := ⟨(fun x h => by have h' : some ("no_wider" : Str) = some x := h; cases h'; exact PySem.W.mg_of X G a17), (fun c m h => by have h' : (none : Option (Nat × Cs)) = some (c, m) := h; cases h'), (fun c m h => by have h' : (none : Option (Nat × Cs)) = some (c, m) := h; cases h'), (fun c x h => by have h' : (none : Option (Nat × Str)) = some (c, x) := h; cases h')⟩
  have F18 := fun_toD (fun_mk (st := st__only_in) l18 c18 k18)
  have b18 := (fun_mk (st := st__only_in) l18 c18 k18).binds (ps := ["one", "other"]) fun _ _ _ _ _ _ us hl => match us, hl with | [_, _], _ => rfl
  have D18 : DefAt K nms fd_18 f18 _ ["one", "other"] := ⟨⟨st__only_in, nm_18, _, _, _, _, F18, sc_18, b18, rfl, rfl, ck_18⟩⟩
  have W18 : WhoAt K (fun i => if i = 6 then qC6 else 0) mg nms 18 f18 := ⟨(fun x h => by have h' : some ("_only_in" : Str) = some x := h; cases h'; exact PySem.W.mg_of X G a18), (fun c m h => by have h' : (none : Option (Nat × Cs)) = some (c, m) := h; cases h'), (fun c m h => by have h' : (none : Option (Nat × Cs)) = some (c, m) := h; cases h'), (fun c x h => by have h' : (none : Option (Nat × Str)) = some (c, x) := h; cases h')⟩
  have F19 := fun_toD (fun_mk (st := st__counter_in) l19 c19 k19)
  have b19 := (fun_mk (st := st__counter_in) l19 c19 k19).binds (ps := ["book", "parts"]) fun _ _ _ _ _ _ us hl => match us, hl with | [_, _], _ => rfl
  have D19 : DefAt K nms fd_19 f19 _ ["book", "parts"] := ⟨⟨st__counter_in, nm_19, _, _, _, _, F19, sc_19, b19, rfl, rfl, ck_19⟩⟩
  have W19 : WhoAt K (fun i => if i = 6 then qC6 else 0) mg nms 19 f19 := ⟨(fun x h => by have h' : some ("_counter_in" : Str) = some x := h; cases h'; exact PySem.W.mg_of X G a19), (fun c m h => by have h' : (none : Option (Nat × Cs)) = some (c, m) := h; cases h'), (fun c m h => by have h' : (none : Option (Nat × Cs)) = some (c, m) := h; cases h'), (fun c x h => by have h' : (none : Option (Nat × Str)) = some (c, x) := h; cases h')⟩
  have F20 := fun_toD (fun_mk (st := st_denials_of) l20 c20 k20)
  have b20 := (fun_mk (st := st_denials_of) l20 c20 k20).binds (ps := ["parts"]) fun _ _ _ _ _ _ us hl => match us, hl with | [_], _ => rfl
  have D20 : DefAt K nms fd_20 f20 _ ["parts"] := ⟨⟨st_denials_of, nm_20, _, _, _, _, F20, sc_20, b20, rfl, rfl, ck_20⟩⟩
  have W20 : WhoAt K (fun i => if i = 6 then qC6 else 0) mg nms 20 f20 := ⟨(fun x h => by have h' : some ("denials_of" : Str) = some x := h; cases h'; exact PySem.W.mg_of X G a20), (fun c m h => by have h' : (none : Option (Nat × Cs)) = some (c, m) := h; cases h'), (fun c m h => by have h' : (none : Option (Nat × Cs)) = some (c, m) := h; cases h'), (fun c x h => by have h' : (none : Option (Nat × Str)) = some (c, x) := h; cases h')⟩
  have F21 := fun_toD (fun_mk (st := st_some_in) l21 c21 k21)
  have b21 := (fun_mk (st := st_some_in) l21 c21 k21).binds (ps := ["names", "demands"]) fun _ _ _ _ _ _ us hl => match us, hl with | [_, _], _ => rfl
  have D21 : DefAt K nms fd_21 f21 _ ["names", "demands"] := ⟨⟨st_some_in, nm_21, _, _, _, _, F21, sc_21, b21, rfl, rfl, ck_21⟩⟩
  have W21 : WhoAt K (fun i => if i = 6 then qC6 else 0) mg nms 21 f21 := ⟨(fun x h => by have h' : some ("some_in" : Str) = some x := h; cases h'; exact PySem.W.mg_of X G a21), (fun c m h => by have h' : (none : Option (Nat × Cs)) = some (c, m) := h; cases h'), (fun c m h => by have h' : (none : Option (Nat × Cs)) = some (c, m) := h; cases h'), (fun c x h => by have h' : (none : Option (Nat × Str)) = some (c, x) := h; cases h')⟩
  have F22 := fun_toD (fun_mk (st := st_cases_of) l22 c22 k22)
  have b22 := (fun_mk (st := st_cases_of) l22 c22 k22).binds (ps := ["steps"]) fun _ _ _ _ _ _ us hl => match us, hl with | [_], _ => rfl
  have D22 : DefAt K nms fd_22 f22 _ ["steps"] := ⟨⟨st_cases_of, nm_22, _, _, _, _, F22, sc_22, b22, rfl, rfl, ck_22⟩⟩
  have W22 : WhoAt K (fun i => if i = 6 then qC6 else 0) mg nms 22 f22 := ⟨(fun x h => by have h' : some ("cases_of" : Str) = some x := h; cases h'; exact PySem.W.mg_of X G a22), (fun c m h => by have h' : (none : Option (Nat × Cs)) = some (c, m) := h; cases h'), (fun c m h => by have h' : (none : Option (Nat × Cs)) = some (c, m) := h; cases h'), (fun c x h => by have h' : (none : Option (Nat × Str)) = some (c, x) := h; cases h')⟩
  have F23 := fun_toD (fun_mk (st := st__open_name) l23 c23 k23)
  have b23 := (fun_mk (st := st__open_name) l23 c23 k23).binds (ps := ["steps", "case"]) fun _ _ _ _ _ _ us hl => match us, hl with | [_, _], _ => rfl
  have D23 : DefAt K nms fd_23 f23 _ ["steps", "case"] := ⟨⟨st__open_name, nm_23, _, _, _, _, F23, sc_23, b23, rfl, rfl, ck_23⟩⟩
  have W23 : WhoAt K (fun i => if i = 6 then qC6 else 0) mg nms 23 f23 := ⟨(fun x h => by have h' : some ("_open_name" : Str) = some x := h; cases h'; exact PySem.W.mg_of X G a23), (fun c m h => by have h' : (none : Option (Nat × Cs)) = some (c, m) := h; cases h'), (fun c m h => by have h' : (none : Option (Nat × Cs)) = some (c, m) := h; cases h'), (fun c x h => by have h' : (none : Option (Nat × Str)) = some (c, x) := h; cases h')⟩
  have F24 := fun_toD (fun_mk (st := st_steps_in) l24 c24 k24)
  have b24 := (fun_mk (st := st_steps_in) l24 c24 k24).binds (ps := ["demands"]) fun _ _ _ _ _ _ us hl => match us, hl with | [_], _ => rfl
  have D24 : DefAt K nms fd_24 f24 _ ["demands"] := ⟨⟨st_steps_in, nm_24, _, _, _, _, F24, sc_24, b24, rfl, rfl, ck_24⟩⟩
  have W24 : WhoAt K (fun i => if i = 6 then qC6 else 0) mg nms 24 f24 := ⟨(fun x h => by have h' : some ("steps_in" : Str) = some x := h; cases h'; exact PySem.W.mg_of X G a24), (fun c m h => by have h' : (none : Option (Nat × Cs)) = some (c, m) := h; cases h'), (fun c m h => by have h' : (none : Option (Nat × Cs)) = some (c, m) := h; cases h'), (fun c x h => by have h' : (none : Option (Nat × Str)) = some (c, x) := h; cases h')⟩
  have F25 := fun_toD (fun_mk (st := st_settle) l25 c25 k25)
  have b25 := (fun_mk (st := st_settle) l25 c25 k25).binds (ps := ["bounds", "tops"]) fun _ _ _ _ _ _ us hl => match us, hl with | [_, _], _ => rfl
  have D25 : DefAt K nms fd_25 f25 _ ["bounds", "tops"] := ⟨⟨st_settle, nm_25, _, _, _, _, F25, sc_25, b25, rfl, rfl, ck_25⟩⟩
  have W25 : WhoAt K (fun i => if i = 6 then qC6 else 0) mg nms 25 f25 := ⟨(fun x h => by have h' : some ("settle" : Str) = some x := h; cases h'; exact PySem.W.mg_of X G a25), (fun c m h => by have h' : (none : Option (Nat × Cs)) = some (c, m) := h; cases h'), (fun c m h => by have h' : (none : Option (Nat × Cs)) = some (c, m) := h; cases h'), (fun c x h => by have h' : (none : Option (Nat × Str)) = some (c, x) := h; cases h')⟩
  have F26 := fun_toD (fun_mk (st := st__lower_bounds) l26 c26 k26)
  have b26 := (fun_mk (st := st__lower_bounds) l26 c26 k26).binds (ps := ["bounds", "values"]) fun _ _ _ _ _ _ us hl => match us, hl with | [_, _], _ => rfl
  have D26 : DefAt K nms fd_26 f26 _ ["bounds", "values"] := ⟨⟨st__lower_bounds, nm_26, _, _, _, _, F26, sc_26, b26, rfl, rfl, ck_26⟩⟩
  have W26 : WhoAt K (fun i => if i = 6 then qC6 else 0) mg nms 26 f26 := ⟨(fun x h => by have h' : some ("_lower_bounds" : Str) = some x := h; cases h'; exact PySem.W.mg_of X G a26), (fun c m h => by have h' : (none : Option (Nat × Cs)) = some (c, m) := h; cases h'), (fun c m h => by have h' : (none : Option (Nat × Cs)) = some (c, m) := h; cases h'), (fun c x h => by have h' : (none : Option (Nat × Str)) = some (c, x) := h; cases h')⟩
  have F27 := fun_toD (fun_mk (st := st__values_with) l27 c27 k27)
  have b27 := (fun_mk (st := st__values_with) l27 c27 k27).binds (ps := ["chosen", "tops"]) fun _ _ _ _ _ _ us hl => match us, hl with | [_, _], _ => rfl
  have D27 : DefAt K nms fd_27 f27 _ ["chosen", "tops"] := ⟨⟨st__values_with, nm_27, _, _, _, _, F27, sc_27, b27, rfl, rfl, ck_27⟩⟩
  have W27 : WhoAt K (fun i => if i = 6 then qC6 else 0) mg nms 27 f27 := ⟨(fun x h => by have h' : some ("_values_with" : Str) = some x := h; cases h'; exact PySem.W.mg_of X G a27), (fun c m h => by have h' : (none : Option (Nat × Cs)) = some (c, m) := h; cases h'), (fun c m h => by have h' : (none : Option (Nat × Cs)) = some (c, m) := h; cases h'), (fun c x h => by have h' : (none : Option (Nat × Str)) = some (c, x) := h; cases h')⟩
  have F28 := fun_toD (fun_mk (st := st_bounds_in) l28 c28 k28)
  have b28 := (fun_mk (st := st_bounds_in) l28 c28 k28).binds (ps := ["case", "names", "demands"]) fun _ _ _ _ _ _ us hl => match us, hl with | [_, _, _], _ => rfl
  have D28 : DefAt K nms fd_28 f28 _ ["case", "names", "demands"] := ⟨⟨st_bounds_in, nm_28, _, _, _, _, F28, sc_28, b28, rfl, rfl, ck_28⟩⟩
  have W28 : WhoAt K (fun i => if i = 6 then qC6 else 0) mg nms 28 f28 := ⟨(fun x h => by have h' : some ("bounds_in" : Str) = some x := h; cases h'; exact PySem.W.mg_of X G a28), (fun c m h => by have h' : (none : Option (Nat × Cs)) = some (c, m) := h; cases h'), (fun c m h => by have h' : (none : Option (Nat × Cs)) = some (c, m) := h; cases h'), (fun c x h => by have h' : (none : Option (Nat × Str)) = some (c, x) := h; cases h')⟩
  have F29 := fun_toD (fun_mk (st := st_sides_of) l29 c29 k29)
  have b29 := (fun_mk (st := st_sides_of) l29 c29 k29).binds (ps := ["parts"]) fun _ _ _ _ _ _ us hl => match us, hl with | [_], _ => rfl
  have D29 : DefAt K nms fd_29 f29 _ ["parts"] := ⟨⟨st_sides_of, nm_29, _, _, _, _, F29, sc_29, b29, rfl, rfl, ck_29⟩⟩
  have W29 : WhoAt K (fun i => if i = 6 then qC6 else 0) mg nms 29 f29 := ⟨(fun x h => by have h' : some ("sides_of" : Str) = some x := h; cases h'; exact PySem.W.mg_of X G a29), (fun c m h => by have h' : (none : Option (Nat × Cs)) = some (c, m) := h; cases h'), (fun c m h => by have h' : (none : Option (Nat × Cs)) = some (c, m) := h; cases h'), (fun c x h => by have h' : (none : Option (Nat × Str)) = some (c, x) := h; cases h')⟩
  have F30 := fun_toD (fun_mk (st := st_atoms_in) l30 c30 k30)
  have b30 := (fun_mk (st := st_atoms_in) l30 c30 k30).binds (ps := ["steps", "zeros"]) fun _ _ _ _ _ _ us hl => match us, hl with | [_, _], _ => rfl
  have D30 : DefAt K nms fd_30 f30 _ ["steps", "zeros"] := ⟨⟨st_atoms_in, nm_30, _, _, _, _, F30, sc_30, b30, rfl, rfl, ck_30⟩⟩
  have W30 : WhoAt K (fun i => if i = 6 then qC6 else 0) mg nms 30 f30 := ⟨(fun x h => by have h' : some ("atoms_in" : Str) = some x := h; cases h'; exact PySem.W.mg_of X G a30), (fun c m h => by have h' : (none : Option (Nat × Cs)) = some (c, m) := h; cases h'), (fun c m h => by have h' : (none : Option (Nat × Cs)) = some (c, m) := h; cases h'), (fun c x h => by have h' : (none : Option (Nat × Str)) = some (c, x) := h; cases h')⟩
  have F31 := fun_toD (fun_mk (st := st__greatest) l31 c31 k31)
  have b31 := (fun_mk (st := st__greatest) l31 c31 k31).binds (ps := ["dicts"]) fun _ _ _ _ _ _ us hl => match us, hl with | [_], _ => rfl
  have D31 : DefAt K nms fd_31 f31 _ ["dicts"] := ⟨⟨st__greatest, nm_31, _, _, _, _, F31, sc_31, b31, rfl, rfl, ck_31⟩⟩
  have W31 : WhoAt K (fun i => if i = 6 then qC6 else 0) mg nms 31 f31 := ⟨(fun x h => by have h' : some ("_greatest" : Str) = some x := h; cases h'; exact PySem.W.mg_of X G a31), (fun c m h => by have h' : (none : Option (Nat × Cs)) = some (c, m) := h; cases h'), (fun c m h => by have h' : (none : Option (Nat × Cs)) = some (c, m) := h; cases h'), (fun c x h => by have h' : (none : Option (Nat × Str)) = some (c, x) := h; cases h')⟩
  have F32 := fun_toD (fun_mk (st := st_same_tops) l32 c32 k32)
  have b32 := (fun_mk (st := st_same_tops) l32 c32 k32).binds (ps := ["names", "case", "top"]) fun _ _ _ _ _ _ us hl => match us, hl with | [_, _, _], _ => rfl
  have D32 : DefAt K nms fd_32 f32 _ ["names", "case", "top"] := ⟨⟨st_same_tops, nm_32, _, _, _, _, F32, sc_32, b32, rfl, rfl, ck_32⟩⟩
  have W32 : WhoAt K (fun i => if i = 6 then qC6 else 0) mg nms 32 f32 := ⟨(fun x h => by have h' : some ("same_tops" : Str) = some x := h; cases h'; exact PySem.W.mg_of X G a32), (fun c m h => by have h' : (none : Option (Nat × Cs)) = some (c, m) := h; cases h'), (fun c m h => by have h' : (none : Option (Nat × Cs)) = some (c, m) := h; cases h'), (fun c x h => by have h' : (none : Option (Nat × Str)) = some (c, x) := h; cases h')⟩
  have F33 := fun_toD (fun_mk (st := st_follows) l33 c33 k33)
  have b33 := (fun_mk (st := st_follows) l33 c33 k33).binds (ps := ["book", "demand"]) fun _ _ _ _ _ _ us hl => match us, hl with | [_, _], _ => rfl
  have D33 : DefAt K nms fd_33 f33 _ ["book", "demand"] := ⟨⟨st_follows, nm_33, _, _, _, _, F33, sc_33, b33, rfl, rfl, ck_33⟩⟩
  have W33 : WhoAt K (fun i => if i = 6 then qC6 else 0) mg nms 33 f33 := ⟨(fun x h => by have h' : some ("follows" : Str) = some x := h; cases h'; exact PySem.W.mg_of X G a33), (fun c m h => by have h' : (none : Option (Nat × Cs)) = some (c, m) := h; cases h'), (fun c m h => by have h' : (none : Option (Nat × Cs)) = some (c, m) := h; cases h'), (fun c x h => by have h' : (none : Option (Nat × Str)) = some (c, x) := h; cases h')⟩
  have F34 := fun_toD (fun_mk (st := st_counter) l34 c34 k34)
  have b34 := (fun_mk (st := st_counter) l34 c34 k34).binds (ps := ["book", "demand"]) fun _ _ _ _ _ _ us hl => match us, hl with | [_, _], _ => rfl
  have D34 : DefAt K nms fd_34 f34 _ ["book", "demand"] := ⟨⟨st_counter, nm_34, _, _, _, _, F34, sc_34, b34, rfl, rfl, ck_34⟩⟩
  have W34 : WhoAt K (fun i => if i = 6 then qC6 else 0) mg nms 34 f34 := ⟨(fun x h => by have h' : some ("counter" : Str) = some x := h; cases h'; exact PySem.W.mg_of X G a34), (fun c m h => by have h' : (none : Option (Nat × Cs)) = some (c, m) := h; cases h'), (fun c m h => by have h' : (none : Option (Nat × Cs)) = some (c, m) := h; cases h'), (fun c x h => by have h' : (none : Option (Nat × Str)) = some (c, x) := h; cases h')⟩
  have F35 := fun_toD (fun_mk (st := st_excess) l35 c35 k35)
  have b35 := (fun_mk (st := st_excess) l35 c35 k35).binds (ps := ["book", "level", "other"]) fun _ _ _ _ _ _ us hl => match us, hl with | [_, _, _], _ => rfl
  have D35 : DefAt K nms fd_35 f35 _ ["book", "level", "other"] := ⟨⟨st_excess, nm_35, _, _, _, _, F35, sc_35, b35, rfl, rfl, ck_35⟩⟩
  have W35 : WhoAt K (fun i => if i = 6 then qC6 else 0) mg nms 35 f35 := ⟨(fun x h => by have h' : some ("excess" : Str) = some x := h; cases h'; exact PySem.W.mg_of X G a35), (fun c m h => by have h' : (none : Option (Nat × Cs)) = some (c, m) := h; cases h'), (fun c m h => by have h' : (none : Option (Nat × Cs)) = some (c, m) := h; cases h'), (fun c x h => by have h' : (none : Option (Nat × Str)) = some (c, x) := h; cases h')⟩
  have F36 := fun_toD (fun_mk (st := st_rise_in) l36 c36 k36)
  have b36 := (fun_mk (st := st_rise_in) l36 c36 k36).binds (ps := ["names", "demands", "high", "low"]) fun _ _ _ _ _ _ us hl => match us, hl with | [_, _, _, _], _ => rfl
  have D36 : DefAt K nms fd_36 f36 _ ["names", "demands", "high", "low"] := ⟨⟨st_rise_in, nm_36, _, _, _, _, F36, sc_36, b36, rfl, rfl, ck_36⟩⟩
  have W36 : WhoAt K (fun i => if i = 6 then qC6 else 0) mg nms 36 f36 := ⟨(fun x h => by have h' : some ("rise_in" : Str) = some x := h; cases h'; exact PySem.W.mg_of X G a36), (fun c m h => by have h' : (none : Option (Nat × Cs)) = some (c, m) := h; cases h'), (fun c m h => by have h' : (none : Option (Nat × Cs)) = some (c, m) := h; cases h'), (fun c x h => by have h' : (none : Option (Nat × Str)) = some (c, x) := h; cases h')⟩
  have F37 := fun_toD (fun_mk (st := st__rise) l37 c37 k37)
  have b37 := (fun_mk (st := st__rise) l37 c37 k37).binds (ps := ["bounds", "names", "case", "high", "low"]) fun _ _ _ _ _ _ us hl => match us, hl with | [_, _, _, _, _], _ => rfl
  have D37 : DefAt K nms fd_37 f37 _ ["bounds", "names", "case", "high", "low"] := ⟨⟨st__rise, nm_37, _, _, _, _, F37, sc_37, b37, rfl, rfl, ck_37⟩⟩
  have W37 : WhoAt K (fun i => if i = 6 then qC6 else 0) mg nms 37 f37 := ⟨(fun x h => by have h' : some ("_rise" : Str) = some x := h; cases h'; exact PySem.W.mg_of X G a37), (fun c m h => by have h' : (none : Option (Nat × Cs)) = some (c, m) := h; cases h'), (fun c m h => by have h' : (none : Option (Nat × Cs)) = some (c, m) := h; cases h'), (fun c x h => by have h' : (none : Option (Nat × Str)) = some (c, x) := h; cases h')⟩
  have F38 := fun_toD (fun_mk (st := st_read_within) l38 c38 k38)
  have b38 := (fun_mk (st := st_read_within) l38 c38 k38).binds (ps := ["level", "names"]) fun _ _ _ _ _ _ us hl => match us, hl with | [_, _], _ => rfl
  have D38 : DefAt K nms fd_38 f38 _ ["level", "names"] := ⟨⟨st_read_within, nm_38, _, _, _, _, F38, sc_38, b38, rfl, rfl, ck_38⟩⟩
  have W38 : WhoAt K (fun i => if i = 6 then qC6 else 0) mg nms 38 f38 := ⟨(fun x h => by have h' : some ("read_within" : Str) = some x := h; cases h'; exact PySem.W.mg_of X G a38), (fun c m h => by have h' : (none : Option (Nat × Cs)) = some (c, m) := h; cases h'), (fun c m h => by have h' : (none : Option (Nat × Cs)) = some (c, m) := h; cases h'), (fun c x h => by have h' : (none : Option (Nat × Str)) = some (c, x) := h; cases h')⟩
  have F39 := fun_toD (fun_mk (st := st_steps_within) l39 c39 k39)
  have b39 := (fun_mk (st := st_steps_within) l39 c39 k39).binds (ps := ["thing", "names"]) fun _ _ _ _ _ _ us hl => match us, hl with | [_, _], _ => rfl
  have D39 : DefAt K nms fd_39 f39 _ ["thing", "names"] := ⟨⟨st_steps_within, nm_39, _, _, _, _, F39, sc_39, b39, rfl, rfl, ck_39⟩⟩
  have W39 : WhoAt K (fun i => if i = 6 then qC6 else 0) mg nms 39 f39 := ⟨(fun x h => by have h' : some ("steps_within" : Str) = some x := h; cases h'; exact PySem.W.mg_of X G a39), (fun c m h => by have h' : (none : Option (Nat × Cs)) = some (c, m) := h; cases h'), (fun c m h => by have h' : (none : Option (Nat × Cs)) = some (c, m) := h; cases h'), (fun c x h => by have h' : (none : Option (Nat × Str)) = some (c, x) := h; cases h')⟩
  have F40 := fun_toD (fun_mk (st := (inClass cl_Book 8)) l40 c40 k40)
  have b40 := (fun_mk (st := (inClass cl_Book 8)) l40 c40 k40).binds (ps := ["self", "at"]) fun _ _ _ _ _ _ us hl => match us, hl with | [_, _], _ => rfl
  have D40 : DefAt K nms fd_40 f40 _ ["self", "at"] := ⟨⟨(inClass cl_Book 8), nm_40, _, _, _, _, F40, sc_40, b40, rfl, rfl, ck_40⟩⟩
  have W40 : WhoAt K (fun i => if i = 6 then qC6 else 0) mg nms 40 f40 := ⟨(fun x h => by have h' : (none : Option (Str)) = some x := h; cases h'), (fun c m h => by have h' : some ((6, [98, 117, 116]) : Nat × Cs) = some (c, m) := h; cases h'; exact ⟨C6, ⟨(show SX.S [98, 117, 116] = "but" from by decide +kernel) ▸ q40, i40, k40⟩⟩), (fun c m h => by have h' : (none : Option (Nat × Cs)) = some (c, m) := h; cases h'), (fun c x h => by have h' : (none : Option (Nat × Str)) = some (c, x) := h; cases h')⟩
  have F41 := fun_toD (fun_mk (st := st__law_ring_right) l41 c41 k41)
  have b41 := (fun_mk (st := st__law_ring_right) l41 c41 k41).binds (ps := ["_law_u", "_law_v", "_law_w"]) fun _ _ _ _ _ _ us hl => match us, hl with | [_, _, _], _ => rfl
  have D41 : DefAt K nms fd_41 f41 _ ["_law_u", "_law_v", "_law_w"] := ⟨⟨st__law_ring_right, nm_41, _, _, _, _, F41, sc_41, b41, rfl, rfl, ck_41⟩⟩
  have W41 : WhoAt K (fun i => if i = 6 then qC6 else 0) mg nms 41 f41 := ⟨(fun x h => by have h' : some ("_law_ring_right" : Str) = some x := h; cases h'; exact PySem.W.mg_of X G a41), (fun c m h => by have h' : (none : Option (Nat × Cs)) = some (c, m) := h; cases h'), (fun c m h => by have h' : (none : Option (Nat × Cs)) = some (c, m) := h; cases h'), (fun c x h => by have h' : (none : Option (Nat × Str)) = some (c, x) := h; cases h')⟩
  have F42 := fun_toD (fun_mk (st := st_unlike) l42 c42 k42)
  have b42 := (fun_mk (st := st_unlike) l42 c42 k42).binds (ps := ["one", "other"]) fun _ _ _ _ _ _ us hl => match us, hl with | [_, _], _ => rfl
  have D42 : DefAt K nms fd_42 f42 _ ["one", "other"] := ⟨⟨st_unlike, nm_42, _, _, _, _, F42, sc_42, b42, rfl, rfl, ck_42⟩⟩
  have W42 : WhoAt K (fun i => if i = 6 then qC6 else 0) mg nms 42 f42 := ⟨(fun x h => by have h' : some ("unlike" : Str) = some x := h; cases h'; exact PySem.W.mg_of X G a42), (fun c m h => by have h' : (none : Option (Nat × Cs)) = some (c, m) := h; cases h'), (fun c m h => by have h' : (none : Option (Nat × Cs)) = some (c, m) := h; cases h'), (fun c x h => by have h' : (none : Option (Nat × Str)) = some (c, x) := h; cases h')⟩
  have D43 : DefAt K nms fd_43 f27 _ ["chosen", "tops"] := ⟨⟨st__values_with, nm_43, _, _, _, _, F27, sc_43, b27, rfl, rfl, ck_43⟩⟩
  have W43 : WhoAt K (fun i => if i = 6 then qC6 else 0) mg nms 43 f27 := ⟨(fun x h => by have h' : some ("_values_with" : Str) = some x := h; cases h'; exact PySem.W.mg_of X G a27), (fun c m h => by have h' : (none : Option (Nat × Cs)) = some (c, m) := h; cases h'), (fun c m h => by have h' : (none : Option (Nat × Cs)) = some (c, m) := h; cases h'), (fun c x h => by have h' : (none : Option (Nat × Str)) = some (c, x) := h; cases h')⟩
  have T : TabAt K w (fun i => if i = 6 then qC6 else 0) mg (pr 1000) nms := by
    refine ⟨?_, ?_, ?_, ?_, ?_⟩
    case refine_1 =>
      intro f fd h
      have h : dfs f = some fd := h
      unfold dfs at h
      split at h <;> first | (cases h; done) | skip
      · cases h
        exact ⟨_, _, _, D0, W0⟩
      · cases h
        exact ⟨_, _, _, D1, W1⟩
      · cases h
        exact ⟨_, _, _, D2, W2⟩
      · cases h
        exact ⟨_, _, _, D3, W3⟩
      · cases h
        exact ⟨_, _, _, D4, W4⟩
      · cases h
        exact ⟨_, _, _, D5, W5⟩
      · cases h
        exact ⟨_, _, _, D6, W6⟩
      · cases h
        exact ⟨_, _, _, D7, W7⟩
      · cases h
        exact ⟨_, _, _, D8, W8⟩
      · cases h
        exact ⟨_, _, _, D9, W9⟩
      · cases h
        exact ⟨_, _, _, D10, W10⟩
      · cases h
        exact ⟨_, _, _, D11, W11⟩
      · cases h
        exact ⟨_, _, _, D12, W12⟩
      · cases h
        exact ⟨_, _, _, D13, W13⟩
      · cases h
        exact ⟨_, _, _, D14, W14⟩
      · cases h
        exact ⟨_, _, _, D15, W15⟩
      · cases h
        exact ⟨_, _, _, D16, W16⟩
      · cases h
        exact ⟨_, _, _, D17, W17⟩
      · cases h
        exact ⟨_, _, _, D18, W18⟩
      · cases h
        exact ⟨_, _, _, D19, W19⟩
      · cases h
        exact ⟨_, _, _, D20, W20⟩
      · cases h
        exact ⟨_, _, _, D21, W21⟩
      · cases h
        exact ⟨_, _, _, D22, W22⟩
      · cases h
        exact ⟨_, _, _, D23, W23⟩
      · cases h
        exact ⟨_, _, _, D24, W24⟩
      · cases h
        exact ⟨_, _, _, D25, W25⟩
      · cases h
        exact ⟨_, _, _, D26, W26⟩
      · cases h
        exact ⟨_, _, _, D27, W27⟩
      · cases h
        exact ⟨_, _, _, D28, W28⟩
      · cases h
        exact ⟨_, _, _, D29, W29⟩
      · cases h
        exact ⟨_, _, _, D30, W30⟩
      · cases h
        exact ⟨_, _, _, D31, W31⟩
      · cases h
        exact ⟨_, _, _, D32, W32⟩
      · cases h
        exact ⟨_, _, _, D33, W33⟩
      · cases h
        exact ⟨_, _, _, D34, W34⟩
      · cases h
        exact ⟨_, _, _, D35, W35⟩
      · cases h
        exact ⟨_, _, _, D36, W36⟩
      · cases h
        exact ⟨_, _, _, D37, W37⟩
      · cases h
        exact ⟨_, _, _, D38, W38⟩
      · cases h
        exact ⟨_, _, _, D39, W39⟩
      · cases h
        exact ⟨_, _, _, D40, W40⟩
      · cases h
        exact ⟨_, _, _, D41, W41⟩
      · cases h
        exact ⟨_, _, _, D42, W42⟩
      · cases h
        exact ⟨_, _, _, D43, W43⟩
    case refine_2 =>
      intro x hx
      simp only [bnames, List.mem_cons, List.not_mem_nil, or_false] at hx
      rcases hx with rfl | rfl | rfl | rfl | rfl | rfl | rfl | rfl | rfl | rfl | rfl | rfl | rfl | rfl | rfl | rfl | rfl | rfl | rfl | rfl | rfl
      · exact PySem.W.mg_none_of X G z0
      · exact PySem.W.mg_none_of X G z1
      · exact PySem.W.mg_none_of X G z2
      · exact PySem.W.mg_none_of X G z3
      · exact PySem.W.mg_none_of X G z4
      · exact PySem.W.mg_none_of X G z5
      · exact PySem.W.mg_none_of X G z6
      · exact PySem.W.mg_none_of X G z7
      · exact PySem.W.mg_none_of X G z8
      · exact PySem.W.mg_none_of X G z9
      · exact PySem.W.mg_none_of X G z10
      · exact PySem.W.mg_none_of X G z11
      · exact PySem.W.mg_none_of X G z12
      · exact PySem.W.mg_none_of X G z13
      · exact PySem.W.mg_none_of X G z14
      · exact PySem.W.mg_none_of X G z15
      · exact PySem.W.mg_none_of X G z16
      · exact PySem.W.mg_none_of X G z17
      · exact PySem.W.mg_none_of X G z18
      · exact PySem.W.mg_none_of X G z19
      · exact PySem.W.mg_none_of X G z20
    case refine_3 =>
      intro g x h d hd
      have h : gnm g = some x := h
      have hd : glb g = some d := hd
      unfold gnm at h
      unfold glb at hd
      split at h <;> first | (cases h; done) | skip
      · cases h
        cases hd
      · cases h
        cases hd
        exact ⟨.ref fg1, .ref fg1, PySem.W.mg_of X G ag1, rfl, rep_tupS (ls := [[109, 97, 120, 40], [105, 109, 97, 120, 40], [32, 43, 32], [44, 32], [41]]) lg1 (by show 5 ≤ sizeLine; decide) gvals_1 (by decide +kernel) (by decide +kernel)⟩
      · cases h
        cases hd
        exact ⟨.ref fg2, .ref fg2, PySem.W.mg_of X G ag2, rfl, rep_tupS (ls := [[60, 61], [60], [61]]) lg2 (by show 3 ≤ sizeLine; decide) gvals_2 (by decide +kernel) (by decide +kernel)⟩
    case refine_4 =>
      intro c a h
      have h := of_decide_eq_true h
      simp only [flds, List.mem_cons, List.not_mem_nil, or_false, Prod.mk.injEq] at h
      rcases h with ⟨rfl, rfl⟩ | ⟨rfl, rfl⟩ | ⟨rfl, rfl⟩
      · exact ⟨C6, (show SX.S [110, 97, 109, 101, 115] = "names" from by decide +kernel) ▸ qn6_0⟩
      · exact ⟨C6, (show SX.S [100, 101, 109, 97, 110, 100, 115] = "demands" from by decide +kernel) ▸ qn6_1⟩
      · exact ⟨C6, (show SX.S [112, 97, 114, 116, 115] = "parts" from by decide +kernel) ▸ qn6_2⟩
    case refine_5 =>
      intro g x kvs h hd
      have h : gnm g = some x := h
      have hd : gdic g = some kvs := hd
      unfold gnm at h
      unfold gdic at hd
      split at h <;> first | (cases h; done) | skip
      · cases h
        cases hd
        exact ⟨fg0, [("max(", .str "max"), ("imax(", .str "imax")], PySem.W.mg_of X G ag0, ⟨es0, ng0, lg0, kg0, sg0, pg0⟩, .cons ⟨by decide +kernel, fun Av H => by rw [Rep]; exact ⟨by decide +kernel, by unfold okC; decide +kernel⟩⟩ (.cons ⟨by decide +kernel, fun Av H => by rw [Rep]; exact ⟨by decide +kernel, by unfold okC; decide +kernel⟩⟩ (.nil))⟩
      · cases h
        cases hd
      · cases h
        cases hd
  refine ⟨PySem.W.fnOf "law" "law" (defArgs st_law) (defBody st_law) (defScope st_law) .none kV0 dc0 pm0 an0 cd0 ct0, fun s v => .of_eq rfl, fun base _ _ => ?_⟩
  refine law_ok (p := pr 1000) (nm := nms) (n := 39) (f := 0) (fd := fd_0) T ?_ rfl D0 (by decide) fun ns _ => law_is ns
  intro n f hn hd
  have hd : dfs f = none := hd
  exfalso
  unfold dfs at hd
  split at hd <;> first | (cases hd; done) | skip
  rename_i x0 x1 x2 x3 x4 x5 x6 x7 x8 x9 x10 x11 x12 x13 x14 x15 x16 x17 x18 x19 x20 x21 x22 x23 x24 x25 x26 x27 x28 x29 x30 x31 x32 x33 x34 x35 x36 x37 x38 x39 x40 x41 x42 x43
  have no : ∀ {α : Type} {g : Nat → Option α}, (g f = none) → ∀ x, ¬ g f = some x := fun e x z => by rw [e] at z; cases z
  have e1 : fnm f = none := by unfold fnm; split <;> first | rfl | exact absurd rfl (by assumption)
  have e2 : mnm f = none := by unfold mnm; split <;> first | rfl | exact absurd rfl (by assumption)
  have e3 : pnm f = none := by unfold pnm; split <;> first | rfl | exact absurd rfl (by assumption)
  have e4 : inm f = none := by unfold inm; split <;> first | rfl | exact absurd rfl (by assumption)
  rcases hn with ⟨x, h⟩ | ⟨c, m, h⟩ | ⟨c, m, h⟩ | ⟨c, x, h⟩
  · exact no e1 _ h
  · exact no e2 _ h
  · exact no e3 _ h
  · exact no e4 _ h
end Pg
end
set_option Elab.async false
open PySem PySem.W PyProof.Rows
set_option maxHeartbeats 0
open_top hd40 for PySem.Challenge.rw_everylevel_k40_following_known_by_hand
set_option Elab.async false
set_option maxRecDepth 100000
open PySem PySem.W PyProof.Rows
set_option maxHeartbeats 0
theorem PySem.Challenge.cw_everylevel_k40_following_known_by_hand_holds : PySem.Challenge.rw_everylevel_k40_following_known_by_hand.Holds :=
  hd40 (by
    k_fill
    refine L2.walk_ofK (n := 63) (k := 40) (x := "_law_script") (l := PySem.Challenge.rw_everylevel_k40_following_known_by_hand) (CX := L2.CX0) (sp := Ev.spLaw 63) rfl (by decide) rfl ⟨rfl, by decide, by decide⟩ (fun w h Y => PySem.W.kIn_of Y) ?F (fun K H a ns hl _ hS => ⟨a, ns, rfl, hS, hl, fun _ => rfl⟩) (fun _ _ _ _ z => z)
    case F =>
      intro w mg fa h KX G hmg
      refine' Pg.all_mk KX G hmg ?a0 ?l0 ?c0 ?k0 ?a1 ?l1 ?c1 ?k1 ?q2 ?i2 ?l2 ?c2 ?k2 ?u2 ?v2 ?a3 ?l3 ?c3 ?k3 ?a4 ?l4 ?c4 ?k4 ?a5 ?l5 ?c5 ?k5 ?a6 ?l6 ?c6 ?k6 ?a7 ?l7 ?c7 ?k7 ?a8 ?l8 ?c8 ?k8 ?a9 ?l9 ?c9 ?k9 ?a10 ?l10 ?c10 ?k10 ?a11 ?l11 ?c11 ?k11 ?a12 ?l12 ?c12 ?k12 ?a13 ?l13 ?c13 ?k13 ?a14 ?l14 ?c14 ?k14 ?a15 ?l15 ?c15 ?k15 ?a16 ?l16 ?c16 ?k16 ?a17 ?l17 ?c17 ?k17 ?a18 ?l18 ?c18 ?k18 ?a19 ?l19 ?c19 ?k19 ?a20 ?l20 ?c20 ?k20 ?a21 ?l21 ?c21 ?k21 ?a22 ?l22 ?c22 ?k22 ?a23 ?l23 ?c23 ?k23 ?a24 ?l24 ?c24 ?k24 ?a25 ?l25 ?c25 ?k25 ?a26 ?l26 ?c26 ?k26 ?a27 ?l27 ?c27 ?k27 ?a28 ?l28 ?c28 ?k28 ?a29 ?l29 ?c29 ?k29 ?a30 ?l30 ?c30 ?k30 ?a31 ?l31 ?c31 ?k31 ?a32 ?l32 ?c32 ?k32 ?a33 ?l33 ?c33 ?k33 ?a34 ?l34 ?c34 ?k34 ?a35 ?l35 ?c35 ?k35 ?a36 ?l36 ?c36 ?k36 ?a37 ?l37 ?c37 ?k37 ?a38 ?l38 ?c38 ?k38 ?a39 ?l39 ?c39 ?k39 ?q40 ?i40 ?l40 ?c40 ?k40 ?a41 ?l41 ?c41 ?k41 ?a42 ?l42 ?c42 ?k42 ?qa6 ?qpg6 ?qhd6 ?qpo6 ?qsa6 ?qmk6 ?qkc6 ?qn6_0 ?qn6_1 ?qn6_2 ?z0 ?z1 ?z2 ?z3 ?z4 ?z5 ?z6 ?z7 ?z8 ?z9 ?z10 ?z11 ?z12 ?z13 ?z14 ?z15 ?z16 ?z17 ?z18 ?z19 ?z20 ?ag0 ?lg0 ?kg0 ?sg0 ?pg0 ?ag1 ?lg1 ?ag2 ?lg2
      (case a0 => k_is)
      (case a1 => k_is)
      (case a3 => k_is)
      (case a4 => k_is)
      (case a5 => k_is)
      (case a6 => k_is)
      (case a7 => k_is)
      (case a8 => k_is)
      (case a9 => k_is)
      (case a10 => k_is)
      (case a11 => k_is)
      (case a12 => k_is)
      (case a13 => k_is)
      (case a14 => k_is)
      (case a15 => k_is)
      (case a16 => k_is)
      (case a17 => k_is)
      (case a18 => k_is)
      (case a19 => k_is)
      (case a20 => k_is)
      (case a21 => k_is)
      (case a22 => k_is)
      (case a23 => k_is)
      (case a24 => k_is)
      (case a25 => k_is)
      (case a26 => k_is)
      (case a27 => k_is)
      (case a28 => k_is)
      (case a29 => k_is)
      (case a30 => k_is)
      (case a31 => k_is)
      (case a32 => k_is)
      (case a33 => k_is)
      (case a34 => k_is)
      (case a35 => k_is)
      (case a36 => k_is)
      (case a37 => k_is)
      (case a38 => k_is)
      (case a39 => k_is)
      (case a41 => k_is)
      (case a42 => k_is)
      (case qa6 => k_is)
      (case ag0 => k_is)
      (case ag1 => k_is)
      (case ag2 => k_is)
      (case q2 => k_is)
      (case i2 => k_is)
      (case q40 => k_is)
      (case i40 => k_is)
      (case l0 => k_is)
      (case c0 => k_is)
      (case k0 => k_is)
      (case l1 => k_is)
      (case c1 => k_is)
      (case k1 => k_is)
      (case l2 => k_is)
      (case c2 => k_is)
      (case k2 => k_is)
      (case u2 => k_is)
      (case v2 => k_is)
      (case l3 => k_is)
      (case c3 => k_is)
      (case k3 => k_is)
      (case l4 => k_is)
      (case c4 => k_is)
      (case k4 => k_is)
      (case l5 => k_is)
      (case c5 => k_is)
      (case k5 => k_is)
      (case l6 => k_is)
      (case c6 => k_is)
      (case k6 => k_is)
      (case l7 => k_is)
      (case c7 => k_is)
      (case k7 => k_is)
      (case l8 => k_is)
      (case c8 => k_is)
      (case k8 => k_is)
      (case l9 => k_is)
      (case c9 => k_is)
      (case k9 => k_is)
      (case l10 => k_is)
      (case c10 => k_is)
      (case k10 => k_is)
      (case l11 => k_is)
      (case c11 => k_is)
      (case k11 => k_is)
      (case l12 => k_is)
      (case c12 => k_is)
      (case k12 => k_is)
      (case l13 => k_is)
      (case c13 => k_is)
      (case k13 => k_is)
      (case l14 => k_is)
      (case c14 => k_is)
      (case k14 => k_is)
      (case l15 => k_is)
      (case c15 => k_is)
      (case k15 => k_is)
      (case l16 => k_is)
      (case c16 => k_is)
      (case k16 => k_is)
      (case l17 => k_is)
      (case c17 => k_is)
      (case k17 => k_is)
      (case l18 => k_is)
      (case c18 => k_is)
      (case k18 => k_is)
      (case l19 => k_is)
      (case c19 => k_is)
      (case k19 => k_is)
      (case l20 => k_is)
      (case c20 => k_is)
      (case k20 => k_is)
      (case l21 => k_is)
      (case c21 => k_is)
      (case k21 => k_is)
      (case l22 => k_is)
      (case c22 => k_is)
      (case k22 => k_is)
      (case l23 => k_is)
      (case c23 => k_is)
      (case k23 => k_is)
      (case l24 => k_is)
      (case c24 => k_is)
      (case k24 => k_is)
      (case l25 => k_is)
      (case c25 => k_is)
      (case k25 => k_is)
      (case l26 => k_is)
      (case c26 => k_is)
      (case k26 => k_is)
      (case l27 => k_is)
      (case c27 => k_is)
      (case k27 => k_is)
      (case l28 => k_is)
      (case c28 => k_is)
      (case k28 => k_is)
      (case l29 => k_is)
      (case c29 => k_is)
      (case k29 => k_is)
      (case l30 => k_is)
      (case c30 => k_is)
      (case k30 => k_is)
      (case l31 => k_is)
      (case c31 => k_is)
      (case k31 => k_is)
      (case l32 => k_is)
      (case c32 => k_is)
      (case k32 => k_is)
      (case l33 => k_is)
      (case c33 => k_is)
      (case k33 => k_is)
      (case l34 => k_is)
      (case c34 => k_is)
      (case k34 => k_is)
      (case l35 => k_is)
      (case c35 => k_is)
      (case k35 => k_is)
      (case l36 => k_is)
      (case c36 => k_is)
      (case k36 => k_is)
      (case l37 => k_is)
      (case c37 => k_is)
      (case k37 => k_is)
      (case l38 => k_is)
      (case c38 => k_is)
      (case k38 => k_is)
      (case l39 => k_is)
      (case c39 => k_is)
      (case k39 => k_is)
      (case l40 => k_is)
      (case c40 => k_is)
      (case k40 => k_is)
      (case l41 => k_is)
      (case c41 => k_is)
      (case k41 => k_is)
      (case l42 => k_is)
      (case c42 => k_is)
      (case k42 => k_is)
      (case qpg6 => k_is)
      (case qhd6 => k_is)
      (case qpo6 => k_is)
      (case qsa6 => k_is)
      (case qmk6 => k_is)
      (case qkc6 => k_is)
      (case qn6_0 => k_is)
      (case qn6_1 => k_is)
      (case qn6_2 => k_is)
      (case z0 => k_is)
      (case z1 => k_is)
      (case z2 => k_is)
      (case z3 => k_is)
      (case z4 => k_is)
      (case z5 => k_is)
      (case z6 => k_is)
      (case z7 => k_is)
      (case z8 => k_is)
      (case z9 => k_is)
      (case z10 => k_is)
      (case z11 => k_is)
      (case z12 => k_is)
      (case z13 => k_is)
      (case z14 => k_is)
      (case z15 => k_is)
      (case z16 => k_is)
      (case z17 => k_is)
      (case z18 => k_is)
      (case z19 => k_is)
      (case z20 => k_is)
      (case lg0 => k_is)
      (case kg0 => exact ⟨⟨_, _, rfl, rfl⟩, ⟨_, _, rfl, rfl⟩, trivial⟩)
      (case sg0 => rfl)
      (case pg0 => exact .cons ⟨⟨_, rfl⟩, ⟨_, rfl⟩⟩ (.cons ⟨⟨_, rfl⟩, ⟨_, rfl⟩⟩ (.nil)))
      (case lg1 => k_is)
      (case lg2 => k_is))
