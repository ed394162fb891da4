import PyProof.Rows.All
import Wide.All
import OpenK.AllK
import Wide.FinOn
import HandS.ClsMeth
import HandS.Codes
import HandS.Defaults
import HandS.DictComp
import HandS.Exc
import HandS.ExcField
import HandS.ExcInit
import HandS.ExcIs
import HandS.ExcOwn
import HandS.FStr
import HandS.FStrTup
import HandS.ForMost
import HandS.IsInst
import HandS.IterVal
import HandS.List
import HandS.ListItems
import HandS.More
import HandS.OwnEq
import HandS.Property
import HandS.RaiseMore
import HandS.Set
import HandS.SetBool
import HandS.SetFor
import HandS.Star
import HandS.StrMore
import HandS.Strs
import HandS.Text
import HandS.TryMany
import HandS.TupAny
import HandS.TupSets
import HandS.Walk
import HandS.WordsExc
import HandS.Zip
import HandS.Zip0
import KE.GoesEnumKw
import KE.GoesMore
import KE.KCallOwn
import KE.KUnpackStar
import OpenK.KOps
import PyProof.EnumMake
import PyProof.ExcBaseAll.LookupError
import PyProof.InstNe
import PyProof.ReprRoads
import PySem.Challenge.RW_everylevel_k13_long_texts_that_are_no_le
/-! P0 -/
set_option Elab.async false
set_option linter.all false
set_option maxRecDepth 100000
namespace Pg
open PySem L2
def top (i : Nat) : Stmt := PySem.Challenge.pw_everylevel_k13_long_texts_that_are_no_le.main.body.getD i (.Pass ⟨0, 0, 0, 0⟩)
abbrev st__wall : Stmt := top 0
abbrev cl_LevelError : Stmt := top 2
abbrev cl_InvalidLevel : Stmt := top 3
abbrev cl_InvalidDemand : Stmt := top 4
abbrev cl_InvalidBook : Stmt := top 5
abbrev cl_InvalidText : Stmt := top 6
abbrev st_is_sequence : Stmt := top 11
abbrev st_is_name : Stmt := top 12
abbrev st_are_names : Stmt := top 13
abbrev st_tokens_of : Stmt := top 14
abbrev st__token_at : Stmt := top 15
abbrev st_steps_of : Stmt := top 16
abbrev st__leaf : Stmt := top 17
abbrev st_is_numeral : Stmt := top 18
abbrev st__is_full : Stmt := top 19
abbrev st_read_level : Stmt := top 20
abbrev st_parts_of : Stmt := top 21
abbrev st_parts_within : Stmt := top 22
abbrev st_names_in : Stmt := top 23
abbrev st_names_of : Stmt := top 25
abbrev cl_Book : Stmt := top 27
abbrev st__law_box : Stmt := top 29
abbrev st__law_take : Stmt := top 30
abbrev st__law_pick : Stmt := top 31
abbrev st__law_mixed : Stmt := top 32
abbrev st__law_heard : Stmt := top 33
abbrev st_law : Stmt := top 34
end Pg
/-! Mr -/
set_option Elab.async false
set_option linter.all false
set_option maxRecDepth 100000
set_option maxHeartbeats 2000000
/-! What the program's reader of levels computes, over lists of code points. -/
namespace Mr
open PySem
abbrev Cs := List Nat
def S (l : Cs) : Str := ⟨l.toArray⟩
theorem S_inj {a b : Cs} : S a = S b ↔ a = b := by
  unfold S
  constructor
  · intro h; injection h with h; simpa using h
  · rintro rfl; rfl
theorem S_of (z : Str) : S z.cps.toList = z := by unfold S; rw [Array.toArray_toList]
theorem len_S (a : Cs) : (S a).length = a.length := by unfold S Str.length; simp
def cMax : Cs := [109, 97, 120, 40]
def cImax : Cs := [105, 109, 97, 120, 40]
def cPlus : Cs := [32, 43, 32]
def cSep : Cs := [44, 32]
def cEnd : Cs := [41]
def signs : List Cs := [cMax, cImax, cPlus, cSep, cEnd]
def isAl (c : Nat) : Bool := Unicode.isAlnum c
def tokAt (r : Cs) : Cs := match signs.find? (fun g => g.isPrefixOf r) with
  | some g => g
  | none => r.takeWhile isAl
def toksF : Nat → Cs → Option (List Cs)
  | 0, r => if r.isEmpty then some [] else none
  | n + 1, r => if r.isEmpty then some [] else if (tokAt r).isEmpty then none else (toksF n (r.drop (tokAt r).length)).map (tokAt r :: ·)
def toks (z : Cs) : Option (List Cs) := toksF z.length z
theorem toksF_fuel : ∀ (n m : Nat) (r : Cs), r.length ≤ n → r.length ≤ m → toksF n r = toksF m r
  | 0, 0, _, _, _ => rfl
  | 0, m + 1, r, h, _ => by
    have e : r = [] := List.length_eq_zero_iff.mp (by omega)
    subst e; rfl
  | n + 1, 0, r, _, h => by
    have e : r = [] := List.length_eq_zero_iff.mp (by omega)
    subst e; rfl
  | n + 1, m + 1, r, h, h' => by
    unfold toksF
    by_cases c : r.isEmpty = true
    · rw [if_pos c, if_pos c]
    · rw [if_neg c, if_neg c]
      by_cases d : (tokAt r).isEmpty = true
      · rw [if_pos d, if_pos d]
      · rw [if_neg d, if_neg d]
        have l0 : 0 < r.length := by cases r with | nil => exact absurd rfl c | cons => simp
        have l1 : 0 < (tokAt r).length := by cases q : tokAt r with | nil => rw [q] at d; exact absurd rfl d | cons => simp
        have l2 : (r.drop (tokAt r).length).length < r.length := by rw [List.length_drop]; omega
        rw [toksF_fuel n m _ (by omega) (by omega)]

inductive W where | level | sign | number
  deriving DecidableEq
inductive Stp where
  | num (k : Int) | nam (s : Cs) | plus (k : Int) | call (b : Bool) (n : Int)
  deriving DecidableEq
def isName (t : Cs) : Bool := (!(decide (t = [109, 97, 120]) || decide (t = [105, 109, 97, 120]))) && (decide (t.length ≤ 4) && (Txt.isascii (S t) && (Txt.isalpha (S t) && Txt.islower (S t))))
def isNum (t : Cs) : Bool := (Txt.isascii (S t) && Txt.isdigit (S t)) && (decide (t.length ≤ 4) && (decide (t = [48]) || decide (t[0]? ≠ some 48)))
def valOf (t : Cs) : Int := (PySem.intText? (S t)).getD 0
def leaf (t : Cs) (w : W) : Option Stp :=
  if w = .level && isName t then some (.nam t) else if w = .level && isNum t then some (.num (valOf t)) else if w = .number && isNum t then some (.plus (valOf t)) else none
structure PSt where
  ss : List Stp
  st : List (Bool × Int)
  w : W
def full (b : Bool) (n : Int) : Bool := if b then decide (2 ≤ n) else decide (n = 2)
def turn (p : PSt) (t : Cs) : Option PSt := match leaf t p.w with
  | some l => some ⟨p.ss ++ [l], p.st, .sign⟩
  | none =>
    if p.w = .level && (t = cMax) then some ⟨p.ss, (true, 1) :: p.st, .level⟩
    else if p.w = .level && (t = cImax) then some ⟨p.ss, (false, 1) :: p.st, .level⟩
    else if p.w = .sign && (t = cPlus) then some ⟨p.ss, p.st, .number⟩
    else if p.w = .sign && (t = cSep) then match p.st with
      | (b, n) :: r => some ⟨p.ss, (b, n + 1) :: r, .level⟩
      | [] => none
    else if p.w = .sign && (t = cEnd) then match p.st with
      | (b, n) :: r => if full b n then some ⟨p.ss ++ [.call b n], r, .sign⟩ else none
      | [] => none
    else none
def parse (p : PSt) : List Cs → Option PSt
  | [] => some p
  | t :: r => match turn p t with
    | some q => parse q r
    | none => none
def ended (p : PSt) : Option (List Stp) := if p.w = .sign && p.st.isEmpty then some p.ss else none
def stepsT (ts : List Cs) : Option (List Stp) := (parse ⟨[], [], .level⟩ ts).bind ended
def stepsOf (z : Cs) : Option (List Stp) := (toks z).bind stepsT
theorem parse_append : ∀ (a b : List Cs) (p : PSt), parse p (a ++ b) = (parse p a).bind fun q => parse q b
  | [], b, p => rfl
  | t :: a, b, p => by
    show (match turn p t with | some q => parse q (a ++ b) | none => none) = (match turn p t with | some q => parse q a | none => none).bind _
    cases turn p t with
    | none => rfl
    | some q => exact parse_append a b q

/-! ### trees -/
inductive T where
  | num (k : Nat) | nam (s : Cs) | plus (t : T) (k : Nat) | node (b : Bool) (ts : List T)
def D (k : Nat) : Cs := (((toString (k : Int) : String) : Str)).cps.toList
def glue : List (List Cs) → List Cs
  | [] => []
  | [a] => a
  | a :: b :: r => a ++ cSep :: glue (b :: r)
def opn (b : Bool) : Cs := if b then cMax else cImax
def T.tok : T → List Cs
  | .num k => [D k]
  | .nam s => [s]
  | .plus t k => t.tok ++ [cPlus, D k]
  | .node b ts => opn b :: (glue (ts.map fun t => t.tok) ++ [cEnd])
def T.stp : T → List Stp
  | .num k => [.num k]
  | .nam s => [.nam s]
  | .plus t k => t.stp ++ [.plus k]
  | .node b ts => (ts.map fun t => t.stp).flatten ++ [.call b ts.length]
def T.text (t : T) : Cs := t.tok.flatten
def T.ok : T → Prop
  | .num k => k < 100
  | .nam s => isName s = true
  | .plus t k => t.ok ∧ k < 100
  | .node b ts => full b ts.length = true ∧ ∀ t ∈ ts, t.ok

/-! ### numerals -/
def numFacts (k : Nat) : Bool := (D k).all isAl && !(D k).isEmpty && isNum (D k) && !isName (D k) && decide (PySem.intText? (S (D k)) = some (k : Int)) && decide ((D k).length ≤ 2)
theorem num_all : ∀ k : Fin 100, numFacts k.val = true := by decide +kernel
theorem num_ok {k : Nat} (h : k < 100) : numFacts k = true := num_all ⟨k, h⟩
end Mr
/-! Mt -/
set_option Elab.async false
set_option linter.all false
set_option maxRecDepth 100000
set_option maxHeartbeats 2000000
/-! The reader reads what is written of a tree. -/
namespace Mr
open PySem
def sepHd (c : Nat) : Bool := decide (c = 32) || decide (c = 44) || decide (c = 41)
def sep0 (r : Cs) : Prop := ∀ c, r[0]? = some c → sepHd c = true
theorem sep_al : isAl 32 = false ∧ isAl 44 = false ∧ isAl 41 = false ∧ isAl 40 = false := by decide +kernel
theorem sep_not_al {c : Nat} (h : sepHd c = true) : isAl c = false := by
  unfold sepHd at h
  simp only [Bool.or_eq_true, decide_eq_true_eq] at h
  rcases h with (rfl | rfl) | rfl
  · exact sep_al.1
  · exact sep_al.2.1
  · exact sep_al.2.2.1
def word (t : Cs) : Prop := t ≠ [] ∧ ∀ c ∈ t, isAl c = true
theorem no_sign {g t r : Cs} (hw : word t) (hr : sep0 r) (h40 : ∃ i : Nat, g[i]? = some 40) (hg : ∀ c ∈ g, sepHd c = false) : g.isPrefixOf (t ++ r) = false := by
  cases q : g.isPrefixOf (t ++ r) with
  | false => rfl
  | true =>
    obtain ⟨k, e⟩ := List.isPrefixOf_iff_prefix.mp q
    have at_ : ∀ (i : Nat) (c : Nat), g[i]? = some c → (t ++ r)[i]? = some c := fun i c h => by
      rw [← e, List.getElem?_append_left (List.getElem?_eq_some_iff.mp h).1]; exact h
    obtain ⟨i, hi⟩ := h40
    have h1 := at_ i 40 hi
    by_cases c : i < t.length
    · rw [List.getElem?_append_left c] at h1
      have := hw.2 40 (List.mem_of_getElem? h1)
      rw [sep_al.2.2.2] at this; cases this
    · have lt : t.length < g.length := Nat.lt_of_le_of_lt (Nat.le_of_not_lt c) (List.getElem?_eq_some_iff.mp hi).1
      have h2 := at_ t.length g[t.length] (List.getElem?_eq_getElem lt)
      rw [List.getElem?_append_right (Nat.le_refl _), Nat.sub_self] at h2
      have h3 := hr _ h2
      rw [hg _ (List.getElem_mem lt)] at h3; cases h3
theorem tok_word {t r : Cs} (hw : word t) (hr : sep0 r) : tokAt (t ++ r) = t := by
  obtain ⟨c, t', rfl⟩ : ∃ c t', t = c :: t' := by
    cases t with
    | nil => exact absurd rfl hw.1
    | cons c t' => exact ⟨c, t', rfl⟩
  have hc := hw.2 c (List.mem_cons_self)
  have n1 : (c :: t' ++ r) = c :: (t' ++ r) := rfl
  have ne : ∀ d, isAl d = false → (d == c) = false := fun d hd => by
    cases q : d == c with
    | false => rfl
    | true => rw [beq_iff_eq.mp q, hc] at hd; cases hd
  have f1 : cMax.isPrefixOf (c :: t' ++ r) = false := no_sign hw hr ⟨3, rfl⟩ (by decide)
  have f2 : cImax.isPrefixOf (c :: t' ++ r) = false := no_sign hw hr ⟨4, rfl⟩ (by decide)
  have f3 : cPlus.isPrefixOf (c :: t' ++ r) = false := by rw [n1]; unfold cPlus List.isPrefixOf; rw [ne 32 sep_al.1]; rfl
  have f4 : cSep.isPrefixOf (c :: t' ++ r) = false := by rw [n1]; unfold cSep List.isPrefixOf; rw [ne 44 sep_al.2.1]; rfl
  have f5 : cEnd.isPrefixOf (c :: t' ++ r) = false := by rw [n1]; unfold cEnd List.isPrefixOf; rw [ne 41 sep_al.2.2.1]; rfl
  have fd : signs.find? (fun g => g.isPrefixOf (c :: t' ++ r)) = none := by
    unfold signs
    rw [List.find?_cons, f1, List.find?_cons, f2, List.find?_cons, f3, List.find?_cons, f4, List.find?_cons, f5, List.find?_nil]
  unfold tokAt
  rw [fd]
  show (c :: t' ++ r).takeWhile isAl = c :: t'
  rw [List.takeWhile_append_of_pos (fun x hx => hw.2 x hx)]
  have : r.takeWhile isAl = [] := by
    cases r with
    | nil => rfl
    | cons d r' => rw [List.takeWhile_cons, sep_not_al (hr d rfl)]; rfl
  rw [this, List.append_nil]
theorem tok_sign {g : Cs} (hg : g ∈ signs) (r : Cs) : tokAt (g ++ r) = g := by
  unfold signs at hg
  simp only [List.mem_cons, List.not_mem_nil, or_false] at hg
  rcases hg with rfl | rfl | rfl | rfl | rfl <;> rfl
theorem toks_nil : toks [] = some [] := rfl
theorem toks_cons {t r : Cs} (h : tokAt (t ++ r) = t) (h0 : t ≠ []) {rs : List Cs} (hr : toks r = some rs) : toks (t ++ r) = some (t :: rs) := by
  have l0 : 0 < t.length := List.length_pos_iff.mpr h0
  have ht : t.isEmpty = false := by cases t with | nil => exact absurd rfl h0 | cons => rfl
  have he : (t ++ r).isEmpty = false := by cases t with | nil => exact absurd rfl h0 | cons => rfl
  have e : (t ++ r).length = ((t ++ r).length - 1) + 1 := by rw [List.length_append]; omega
  unfold toks
  rw [e]
  unfold toksF
  rw [he, h, ht]
  simp only [Bool.false_eq_true, if_false]
  rw [List.drop_left, toksF_fuel _ r.length r (by rw [List.length_append]; omega) (Nat.le_refl _)]
  show (toks r).map _ = _
  rw [hr]; rfl
theorem all_word {t : Cs} (h0 : t ≠ []) (h : t.all isAl = true) : word t := ⟨h0, fun c hc => List.all_eq_true.mp h c hc⟩
theorem num_word {k : Nat} (h : k < 100) : word (D k) := by
  have q := num_ok h
  unfold numFacts at q
  simp only [Bool.and_eq_true] at q
  refine all_word (fun z => ?_) q.1.1.1.1.1
  have := q.1.1.1.1.2
  rw [z] at this; cases this
theorem name_word {s : Cs} (h : isName s = true) : word s := by
  unfold isName at h
  simp only [Bool.and_eq_true] at h
  have q := h.2.2.2.1
  unfold Txt.isalpha at q
  rw [Bool.and_eq_true, decide_eq_true_eq, len_S] at q
  refine ⟨fun z => ?_, fun c hc => ?_⟩
  · rw [z] at q; exact absurd q.1 (Nat.lt_irrefl _)
  · have := q.2
    unfold S at this
    rw [List.all_toArray, List.all_eq_true] at this
    unfold isAl Unicode.isAlnum
    rw [this c hc]; rfl
theorem sign_ne {g : Cs} (hg : g ∈ signs) : g ≠ [] := by
  unfold signs at hg
  simp only [List.mem_cons, List.not_mem_nil, or_false] at hg
  rcases hg with rfl | rfl | rfl | rfl | rfl <;> decide
theorem toks_sign {g r : Cs} (hg : g ∈ signs) {rs : List Cs} (hr : toks r = some rs) : toks (g ++ r) = some (g :: rs) := toks_cons (tok_sign hg r) (sign_ne hg) hr
theorem toks_word {t r : Cs} (hw : word t) (h : sep0 r) {rs : List Cs} (hr : toks r = some rs) : toks (t ++ r) = some (t :: rs) := toks_cons (tok_word hw h) hw.1 hr
theorem sep_plus (r : Cs) : sep0 (cPlus ++ r) := fun c h => by cases h; rfl
theorem sep_sep (r : Cs) : sep0 (cSep ++ r) := fun c h => by cases h; rfl
theorem sep_end (r : Cs) : sep0 (cEnd ++ r) := fun c h => by cases h; rfl
theorem sep_nil : sep0 [] := fun c h => by cases h
theorem mem_sign (b : Bool) : opn b ∈ signs := by cases b <;> decide
/-- a list of tokens is read back, whatever is read behind a sign -/
def Reads (ts : List Cs) : Prop := ∀ r rs, toks r = some rs → sep0 r → toks (ts.flatten ++ r) = some (ts ++ rs)
theorem reads_glue : ∀ l : List (List Cs), (∀ ts ∈ l, Reads ts) → Reads (glue l)
  | [], _ => fun r rs h _ => h
  | [a], h => h a List.mem_cons_self
  | a :: b :: l, h => fun r rs hr h0 => by
    have ih := reads_glue (b :: l) fun ts hts => h ts (List.mem_cons_of_mem _ hts)
    have h1 := ih r rs hr h0
    have h2 := toks_sign (g := cSep) (by decide) h1
    have h3 := h a List.mem_cons_self _ _ h2 (sep_sep _)
    show toks ((a ++ cSep :: glue (b :: l)).flatten ++ r) = some (a ++ cSep :: glue (b :: l) ++ rs)
    rw [List.flatten_append, List.flatten_cons, List.append_assoc, List.append_assoc, h3]
    simp
theorem T.reads : ∀ t : T, t.ok → Reads t.tok
  | .num k, h => fun r rs hr h0 => by
    rw [T.tok]
    rw [List.flatten_cons, List.flatten_nil, List.append_nil]
    exact toks_word (num_word (by unfold T.ok at h; exact h)) h0 hr
  | .nam s, h => fun r rs hr h0 => by
    rw [T.tok]
    rw [List.flatten_cons, List.flatten_nil, List.append_nil]
    exact toks_word (name_word (by unfold T.ok at h; exact h)) h0 hr
  | .plus t k, h => fun r rs hr h0 => by
    unfold T.ok at h
    have h1 := toks_sign (g := cPlus) (by decide) (toks_word (num_word h.2) h0 hr)
    have h2 := T.reads t h.1 _ _ h1 (sep_plus _)
    unfold T.tok
    rw [List.flatten_append, List.append_assoc]
    simp only [List.flatten_cons, List.flatten_nil, List.append_nil, List.append_assoc] at h2 ⊢
    rw [h2]; simp
  | .node b ts, h => fun r rs hr h0 => by
    unfold T.ok at h
    have g : Reads (glue (ts.map fun t => t.tok)) := reads_glue _ fun x hx => by
      obtain ⟨t, ht, rfl⟩ := List.mem_map.mp hx
      exact T.reads t (h.2 t ht)
    have h1 := g _ _ (toks_sign (g := cEnd) (by decide) hr) (sep_end r)
    have h2 := toks_sign (mem_sign b) h1
    unfold T.tok
    rw [List.flatten_cons, List.flatten_append, List.append_assoc, List.append_assoc]
    simp only [List.flatten_cons, List.flatten_nil, List.append_nil, List.append_assoc] at h2 ⊢
    rw [h2]; simp
theorem T.toks_text (t : T) (h : t.ok) : toks t.text = some t.tok := by
  have q := T.reads t h [] [] toks_nil sep_nil
  rw [List.append_nil, List.append_nil] at q
  exact q

/-! ### parsing -/
theorem leaf_name {s : Cs} (h : isName s = true) : leaf s .level = some (.nam s) := by unfold leaf; rw [h]; rfl
theorem leaf_num {k : Nat} (h : k < 100) : leaf (D k) .level = some (.num k) ∧ leaf (D k) .number = some (.plus k) := by
  have q := num_ok h
  unfold numFacts at q
  simp only [Bool.and_eq_true, decide_eq_true_eq, Bool.not_eq_true'] at q
  have v : valOf (D k) = (k : Int) := by unfold valOf; rw [q.1.2]; rfl
  unfold leaf
  rw [q.1.1.2, q.1.1.1.2, v]
  exact ⟨rfl, rfl⟩
theorem leaf_sign {w : W} {g : Cs} (hg : g ∈ signs) : leaf g w = none := by
  have f : ∀ g ∈ signs, isName g = false ∧ isNum g = false := by decide +kernel
  unfold leaf
  rw [(f g hg).1, (f g hg).2]
  cases w <;> rfl
theorem turn_plus (ss : List Stp) (st : List (Bool × Int)) : turn ⟨ss, st, .sign⟩ cPlus = some ⟨ss, st, .number⟩ := by
  unfold turn; rw [leaf_sign (by decide)]; rfl
theorem turn_sep (ss : List Stp) (b : Bool) (n : Int) (st : List (Bool × Int)) : turn ⟨ss, (b, n) :: st, .sign⟩ cSep = some ⟨ss, (b, n + 1) :: st, .level⟩ := by
  unfold turn; rw [leaf_sign (by decide)]; rfl
theorem turn_end (ss : List Stp) (b : Bool) (n : Int) (st : List (Bool × Int)) (h : full b n = true) : turn ⟨ss, (b, n) :: st, .sign⟩ cEnd = some ⟨ss ++ [.call b n], st, .sign⟩ := by
  unfold turn; rw [leaf_sign (by decide)]
  show (if full b n = true then _ else _) = _
  rw [if_pos h]
theorem turn_opn (ss : List Stp) (b : Bool) (st : List (Bool × Int)) : turn ⟨ss, st, .level⟩ (opn b) = some ⟨ss, (b, 1) :: st, .level⟩ := by
  unfold turn; rw [leaf_sign (mem_sign b)]; cases b <;> rfl
theorem parse_step {p q : PSt} {t : Cs} (h : turn p t = some q) (r : List Cs) : parse p (t :: r) = parse q r := by
  unfold parse; rw [h]; cases r <;> rfl
theorem turn_leaf {ss : List Stp} {st : List (Bool × Int)} {w : W} {t : Cs} {l : Stp} (h : leaf t w = some l) : turn ⟨ss, st, w⟩ t = some ⟨ss ++ [l], st, .sign⟩ := by
  unfold turn; rw [h]
def Parses (ts : List Cs) (o : List Stp) : Prop := ∀ ss st, parse ⟨ss, st, .level⟩ ts = some ⟨ss ++ o, st, .sign⟩
theorem parse_glue : ∀ l : List (List Cs × List Stp), l ≠ [] → (∀ p ∈ l, Parses p.1 p.2) → ∀ ss b n st,
    parse ⟨ss, (b, n) :: st, .level⟩ (glue (l.map (·.1))) = some ⟨ss ++ (l.map (·.2)).flatten, (b, n + (l.length : Int) - 1) :: st, .sign⟩
  | [], h, _ => absurd rfl h
  | [p], _, h => fun ss b n st => by
    have := h p List.mem_cons_self ss ((b, n) :: st)
    have e : n + (([p] : List (List Cs × List Stp)).length : Int) - 1 = n := by simp
    rw [e]
    simpa [glue] using this
  | p :: q :: l, _, h => fun ss b n st => by
    have h1 := h p List.mem_cons_self ss ((b, n) :: st)
    have ih := parse_glue (q :: l) (by simp) (fun x hx => h x (List.mem_cons_of_mem _ hx)) (ss ++ p.2) b (n + 1) st
    have e : n + 1 + (((q :: l).length : Nat) : Int) - 1 = n + (((p :: q :: l).length : Nat) : Int) - 1 := by simp only [List.length_cons]; omega
    rw [e] at ih
    show parse _ (p.1 ++ cSep :: glue ((q :: l).map (·.1))) = _
    rw [parse_append, h1, Option.bind_some, parse_step (turn_sep _ _ _ _)]
    refine ih.trans ?_
    simp [List.append_assoc]
theorem T.parses : ∀ t : T, t.ok → Parses t.tok t.stp
  | .num k, h => fun ss st => by
    unfold T.ok at h
    rw [T.tok, T.stp, parse_step (turn_leaf (leaf_num h).1)]
    rfl
  | .nam s, h => fun ss st => by
    unfold T.ok at h
    rw [T.tok, T.stp, parse_step (turn_leaf (leaf_name h))]
    rfl
  | .plus t k, h => fun ss st => by
    unfold T.ok at h
    rw [T.tok, T.stp, parse_append, T.parses t h.1, Option.bind_some, parse_step (turn_plus _ _), parse_step (turn_leaf (leaf_num h.2).2)]
    show some (PSt.mk (ss ++ t.stp ++ [Stp.plus k]) st W.sign) = _
    rw [List.append_assoc]
  | .node b ts, h => fun ss st => by
    unfold T.ok at h
    rw [T.tok, T.stp]
    have g := parse_glue (ts.map fun t => (t.tok, t.stp)) (fun z => ?_) (fun p hp => ?_) ss b 1 st
    · rw [parse_step (turn_opn _ _ _), parse_append]
      simp only [List.map_map, List.length_map] at g
      have e : (1 : Int) + (ts.length : Int) - 1 = ts.length := by omega
      rw [e] at g
      have g1 : parse ⟨ss, (b, 1) :: st, .level⟩ (glue (ts.map fun t => t.tok)) = some ⟨ss ++ (ts.map fun t => t.stp).flatten, (b, (ts.length : Int)) :: st, .sign⟩ := g
      rw [g1, Option.bind_some, parse_step (turn_end _ _ _ _ h.1)]
      show some (PSt.mk _ _ _) = _
      rw [List.append_assoc]
    · have : ts = [] := List.map_eq_nil_iff.mp z
      subst this
      have := h.1
      cases b <;> cases this
    · obtain ⟨t, ht, rfl⟩ := List.mem_map.mp hp
      exact T.parses t (h.2 t ht)
theorem T.steps (t : T) (h : t.ok) : stepsOf t.text = some t.stp := by
  unfold stepsOf
  rw [T.toks_text t h]
  show (parse ⟨[], [], .level⟩ t.tok).bind ended = _
  rw [T.parses t h]
  rfl
end Mr
/-! Sx -/
set_option Elab.async false
set_option linter.all false
set_option maxRecDepth 100000
set_option maxHeartbeats 2000000
/-! Sets of texts over the layer: made by a comprehension, sorted. -/
namespace Sx
open PySem PySem.Spec PyProof.Rows L2

def elName (e : Int × Value) : Str := strOf e.2
def ElOk (w : World) (e : Int × Value) : Prop := ∃ x tk, e.2 = Value.str x tk ∧ e.1 = hashStr w x
theorem kdIs (P : Program) (w : World) (x : Str) (tk : Tok) : (strKind P w).is x (.str x tk) = true := by
  show Value.isStrOf x (.str x tk) = true
  simp [Value.isStrOf]
/-- the texts ks stand in the set at a (at most n places are taken) -/
def TSet (w : World) (h : Heap) (a : Addr) (ks : List Str) (n : Nat) : Prop := ∃ (o : Obj) (es : Array (Int × Value)) (ep : Nat) (t : SetTable),
  (h.get? a = some o ∧ o.ExactSet ∧ o.data = .set es ep t) ∧ (∀ e ∈ es.toList, ElOk w e) ∧ (es.toList.map elName).Nodup ∧ (∀ x, x ∈ ks ↔ x ∈ es.toList.map elName) ∧
  (es.size ≤ n ∧ n < scanBound) ∧ t.fits es.size = true ∧ Ris t.place.toList ∧ (w.params.followText "set-order" = true ∨ t.led = true)
section
variable {P : Program} {w : World} {h h' : Heap} {a : Addr} {ks : List Str} {n : Nat}
theorem TSet.stay (R : TSet w h a ks n) (k : ∀ o, h.get? a = some o → h'.get? a = some o) : TSet w h' a ks n :=
  let ⟨o, es, ep, t, ⟨h1, h2⟩, r⟩ := R
  ⟨o, es, ep, t, ⟨k o h1, h2⟩, r⟩
theorem elemsOk {l : List (Int × Value)} (g : ∀ e ∈ l, ElOk w e) : ElemsOf (strKind P w) l := fun e he =>
  let ⟨x, tk, p, q⟩ := g e he
  ⟨⟨x, (by rw [p]; exact kdIs P w x tk), q⟩, by rw [p] <;> rfl⟩
theorem elIs {e : Int × Value} (g : ElOk w e) (x : Str) : (strKind P w).is x e.2 = true ↔ elName e = x := by
  obtain ⟨y, tk, p, _⟩ := g
  unfold elName
  rw [p]
  constructor
  · intro z
    obtain ⟨t, q⟩ := Value.isStrOf_shape (show Value.isStrOf x (.str y tk) = true from z)
    injection q
  · rintro rfl
    exact kdIs P w y tk
theorem elMem {l : List (Int × Value)} (g : ∀ e ∈ l, ElOk w e) (x : Str) : x ∈ l.map elName ↔ ∃ e ∈ l, (strKind P w).is x e.2 = true := by
  rw [List.mem_map]
  exact ⟨fun ⟨e, he, q⟩ => ⟨e, he, (elIs (g e he) x).2 q⟩, fun ⟨e, he, q⟩ => ⟨e, he, (elIs (g e he) x).1 q⟩⟩
theorem TSet.setOf (R : TSet w h a ks n) : ∃ S m, h.SetOf (strKind P w) a S m := by
  obtain ⟨o, es, ep, t, ⟨h1, h2, h3⟩, g, nd, hm, hb, hf, _⟩ := R
  exact ⟨fun x => decide (x ∈ ks), es.size, o, es, ep, t, h1, h2, h3, elemsOk g, fun x => (by rw [decide_eq_true_eq]; exact (hm x).trans (elMem g x)), Nat.lt_of_le_of_lt hb.1 hb.2, hf, rfl⟩
end

section
variable {P : Program} {w : World} {A : Around} {E : Value → Shared → Prop} {s : Shared} {a : Addr} {ks : List Str} {n : Nat}
/-- behind the store of a new element -/
theorem addTail {gv : Bool → Sem Unit} (hg : ∀ (b : Bool) (s₁ : Shared) (Q' : Unit → Shared → Prop), Q' () s₁ → wpAny (model P w) A (gv b) Q' E s₁)
    {o : Obj} {es es1 : Array (Int × Value)} {ep : Nat} {t t2 : SetTable} {wd : Bool} {kk : List Str} {m : Nat} {R : Option Bool → Shared → Prop} (ob : s.heap.get? a = some o ∧ o.ExactSet ∧ o.data = .set es ep t)
    (g1 : ∀ e ∈ es1.toList, ElOk w e) (nd1 : (es1.toList.map elName).Nodup) (m1 : ∀ x, x ∈ kk ↔ x ∈ es1.toList.map elName) (hb : es1.size ≤ m ∧ m < scanBound)
    (hf : t2.fits es1.size = true) (hr : Ris t2.place.toList) (hl : w.params.followText "set-order" = true ∨ t2.led = true)
    (hR : ∀ h', Heap.SameBut a s.heap h' → TSet w h' a kk m → R (some true) { s with heap := h' }) :
    wpAny (model P w) A (do
      storeSet a es1 t2
      if (!wd && t2.tooFull) = true then do
        gv (relayAll t2 es1 (SetTable.grown es1.size)).2.2; storeSet a (relayAll t2 es1 (SetTable.grown es1.size)).1 (relayAll t2 es1 (SetTable.grown es1.size)).2.1; pure (some true)
      else pure (some true)) R E s := by
  obtain ⟨ho, hex, hd⟩ := ob
  have lt1 : es1.size < scanBound := Nat.lt_of_le_of_lt hb.1 hb.2
  have o1 := store_at (es' := es1) (t' := t2) ho hd
  have b1 := Heap.SameBut.update s.heap a (Obj.putSet es1 t2)
  refine wpAny_bind (wpAny_storeSet_of ho hd ?_ (fits_of_scanBound lt1))
  split
  · have pm := relayAll_perm t2 es1 (SetTable.grown es1.size); have f3 := relayAll_fits t2 es1 (SetTable.grown es1.size); have r3 := relayAll_ris t2 es1 (SetTable.grown es1.size); have l3 := relayAll_led t2 es1 (SetTable.grown es1.size)
    generalize relayAll t2 es1 (SetTable.grown es1.size) = Z at pm f3 r3 l3 ⊢
    obtain ⟨es2, t3, gave⟩ := Z
    dsimp only at pm f3 r3 l3 ⊢
    have sz2 : es2.size = es1.size := by rw [← Array.length_toList, pm.length_eq, Array.length_toList]
    refine wpAny_bind (hg _ _ _ (wpAny_bind (wpAny_storeSet_of o1 rfl ?_ (fits_of_scanBound (by rw [sz2]; exact lt1)))))
    refine wpAny_pure (hR _ (b1.trans (Heap.SameBut.update _ a _)) ⟨_, es2, _, t3, ⟨store_at (es' := es2) (t' := t3) o1 rfl, hex, rfl⟩, fun e he => g1 e (pm.mem_iff.mp he), ?_, ?_, ?_, f3, r3, ?_⟩)
    · exact (pm.map elName).nodup_iff.mpr nd1
    · exact fun x => (m1 x).trans (pm.map elName).mem_iff.symm
    · rw [sz2]; exact hb
    · exact hl.imp id fun z => (by rw [l3]; exact z)
  · exact wpAny_pure (hR _ b1 ⟨_, es1, _, t2, ⟨o1, hex, rfl⟩, g1, nd1, m1, hb, hf, hr, hl⟩)
theorem addHashed {x : Str} {tk : Tok} {Q : Bool → Shared → Prop} (R : TSet w s.heap a ks n) (room : n + 1 < scanBound)
    (hQ : ∀ b h', Heap.SameBut a s.heap h' → TSet w h' a (ks ++ [x]) (n + 1) → Q b { s with heap := h' }) : wpAny (model P w) A (setAddHashed a (.str x tk) ((strKind P w).hash x)) Q E s := by
  obtain ⟨o, es, ep, t, ⟨ho, hex, hd⟩, g, nd, hm, ⟨hb, hbn⟩, hf, hr, hl⟩ := R
  have lt0 : es.size < scanBound := Nat.lt_of_le_of_lt hb hbn
  have el : ElemsOf (strKind P w) es.toList := elemsOk g
  have hsc : (Value.str x tk).scannable = true := rfl
  unfold setAddHashed setAddHashedIn
  refine wpAny_holding (wpAny_bind (wpAny_setState_of ho hd hf ?_))
  dsimp only
  rw [byScan_of hsc lt0 el]
  simp only [↓reduceIte]
  unfold setAddByScan
  refine wpAny_bind (wpAny_bind (wpAny_rule (wpAny_bind (wpAny_setScan_of (kdIs P w x tk) ho hd hf el ?_))))
  cases fi : List.findIdx? (fun e => (strKind P w).is x e.2) es.toList with
  | some j =>
    dsimp only
    obtain ⟨hj, pj, _⟩ := List.findIdx?_eq_some_iff_getElem.mp fi
    have xin : x ∈ ks := (hm x).2 ((elMem (P := P) (w := w) g x).2 ⟨es.toList[j], List.getElem_mem hj, pj⟩)
    refine wpAny_pure (wpAny_pure (hQ _ s.heap (Heap.SameBut.refl a s.heap) ⟨o, es, ep, t, ⟨ho, hex, hd⟩, g, nd, fun y => ?_, ⟨Nat.le_succ_of_le hb, room⟩, hf, hr, hl⟩))
    rw [List.mem_append, List.mem_singleton, ← hm y]
    exact ⟨fun z => z.elim id fun e => e ▸ xin, .inl⟩
  | none =>
    dsimp only
    have xout : x ∉ es.toList.map elName := fun z => by
      obtain ⟨e, he, q⟩ := (elMem (P := P) (w := w) g x).1 z
      exact absurd q (by rw [List.findIdx?_eq_none_iff.mp fi e he]; exact Bool.false_ne_true)
    have way : ∀ (b : Bool) {s₁ : Shared} {Q' : Unit → Shared → Prop}, Q' () s₁ → wpAny (model P w) A (match b with | true => rule "set.scan.the-table-gave-way" | false => pure ()) Q' E s₁ := fun b s₁ Q' q => by
      cases b
      · exact wpAny_pure q
      · exact wpAny_rule q
    have pm := layNew_perm t es ((strKind P w).hash x) (.str x tk); have f1 := layNew_fits t es ((strKind P w).hash x) (.str x tk); have r1 := layNew_ris t es ((strKind P w).hash x) (.str x tk) hr; have l1 := layNew_led t es ((strKind P w).hash x) (.str x tk)
    generalize layNew t es ((strKind P w).hash x) (.str x tk) = Z at pm f1 r1 l1 ⊢
    obtain ⟨es1, t1, wd, gave⟩ := Z
    dsimp only at pm f1 r1 l1 ⊢
    rw [Array.toList_push] at pm
    have pc : es1.toList.Perm (((strKind P w).hash x, Value.str x tk) :: es.toList) := pm.trans (List.perm_append_singleton _ _)
    have pk : (es1.toList.map elName).Perm (x :: es.toList.map elName) := pc.map elName
    have g1 : ∀ e ∈ es1.toList, ElOk w e := fun e he => (List.mem_cons.mp (pc.mem_iff.mp he)).elim (fun z => z ▸ ⟨x, tk, rfl, rfl⟩) (g e)
    have nd1 : (es1.toList.map elName).Nodup := pk.nodup_iff.mpr (List.nodup_cons.mpr ⟨xout, nd⟩)
    have m1 : ∀ y, y ∈ ks ++ [x] ↔ y ∈ es1.toList.map elName := fun y => by rw [List.mem_append, List.mem_singleton, hm y, pk.mem_iff, List.mem_cons]; exact Or.comm
    have sz1 : es1.size ≤ n + 1 := by rw [← Array.length_toList, pc.length_eq, List.length_cons, Array.length_toList]; exact Nat.succ_le_succ hb
    have led1 : w.params.followText "set-order" = true ∨ t1.led = true := hl.imp id fun z => (by rw [l1]; exact z)
    have gw : ∀ (b : Bool) (s₁ : Shared) (Q' : Unit → Shared → Prop), Q' () s₁ → wpAny (model P w) A ((fun b : Bool => (match b with | true => rule "set.scan.the-table-gave-way" | false => pure () : Sem Unit)) b) Q' E s₁ := fun b s₁ Q' q => way b q
    refine wpAny_bind (way _ ?_)
    split
    · refine wpAny_bind ?_
      rw [hashByValue_scannable 8 hsc]
      refine wpAny_pure (addTail gw ⟨ho, hex, hd⟩ g1 nd1 m1 ⟨sz1, room⟩ ?_ ?_ ?_ fun h' sb r => ?_)
      · first | (split <;> first | exact f1 | exact SetTable.fits_plain_off f1) | exact f1
      · first | (split <;> exact r1) | exact r1
      · first | (split <;> exact led1) | exact led1
      · dsimp only; exact wpAny_pure (hQ _ h' sb r)
    · refine wpAny_bind (wpAny_pure ?_)
      simp only [↓reduceIte]
      refine addTail gw ⟨ho, hex, hd⟩ g1 nd1 m1 ⟨sz1, room⟩ f1 r1 led1 fun h' sb r => ?_
      dsimp only; exact wpAny_pure (hQ _ h' sb r)
/-- set.add of a text -/
theorem addText {x : Str} {tk : Tok} {Q : Value → Shared → Prop} (R : TSet w s.heap a ks n) (room : n + 1 < scanBound)
    (hQ : ∀ h', Heap.SameBut a s.heap h' → TSet w h' a (ks ++ [x]) (n + 1) → Q .none { s with heap := h', toks := s.toks + 1 }) : wpAny (model P w) A (call (.builtin "set.add") [.ref a, .str x tk]) Q E s := by
  obtain ⟨S, m, hS⟩ := TSet.setOf (P := P) R
  refine wpAny_call_entry F.slot_set_add hS.typeIs F.entry_set_add ?_ (F.args_set_add_2 _ _)
  unfold Builtin.«set.add» Builtin.Frozenset.oneOther; simp only [List.isEmpty_nil, bind_assoc]; unfold Builtin.Frozenset.addrOf setAdd
  refine wpAny_bind (wpAny_pure ?_); try dsimp only
  refine wpAny_bind (wpAny_pure ?_); try dsimp only
  refine wpAny_bind (wpAny_holding (wpAny_bind ((strKind P w).pyHash (kdIs P w x tk) ?_)))
  refine addHashed (s := { s with toks := s.toks + 1 }) R room fun b h' sb r => ?_
  exact wpAny_pure ⟨_, rfl, hQ h' sb r⟩
theorem emptySet (w : World) (h : Heap) : TSet w (h.push { cls := .type "set", dict := none, data := .set #[] 0 (.fresh 0 0 (!w.params.followText "set-order")) }) h.objs.size [] 0 := by
  refine ⟨_, #[], 0, _, ⟨Heap.get?_push_size _ rfl, ⟨rfl, rfl, rfl⟩, rfl⟩, fun e he => by simp at he, by simp, fun x => by simp, ⟨Nat.le_refl _, by decide⟩, by rfl, List.Pairwise.nil, ?_⟩
  show _ ∨ (!w.params.followText "set-order") = true
  cases w.params.followText "set-order"
  · exact .inr rfl
  · exact .inl rfl
/-- sorted(set of fewer than 64 texts): a new list -/
theorem sortedSet {Q : Value → Shared → Prop} (R : TSet w s.heap a ks n) (hh : A.handled = none) (few : n < 64)
    (hQ : ∀ s' p (out : Array Value) (c : Nat) (ys : List Str), (∀ b o, s.heap.get? b = some o → s'.heap.get? b = some o) → s'.gens = s.gens → s'.os = s.os → s.heap.objs.size ≤ p →
      s'.heap.get? p = some (seqObj "list" out c) → StrsAre out.toList ys → sortedS ys = true → ys.Nodup → (∀ x, x ∈ ys ↔ x ∈ ks) → ys.length ≤ n → Q (.ref p) s') : wpAny (model P w) A (call (.builtin "sorted") [.ref a]) Q E s := by
  obtain ⟨o, es, ep, t, ⟨ho, hex, hd⟩, g, nd, hm, ⟨hb, hbn⟩, hf, hr, hl⟩ := R
  refine Calls.call_function_entry kind_sorted plain_sorted entry_sorted (args_sorted1 _) ?_
  unfold Builtin.«sorted»
  refine wpAny_bind (m := checkCount "sorted" 1 1 _) (wpAny_pure (wpAny_bind (collect_set (A := A.in1) hh ⟨o, ho, hex.1, hd⟩ hf (Nat.lt_of_le_of_lt hb hbn) hr hl fun s1 vs k1 hz g1 o1 pm => ?_)))
  have lv : vs.length ≤ n := by rw [pm.length_eq, List.length_map, Array.length_toList]; exact hb
  have hS : StrsAre vs (vs.map strOf) := strsAre_map vs fun v hv => by
    obtain ⟨e, he, q⟩ := List.mem_map.mp (pm.mem_iff.mp hv)
    obtain ⟨x, tk, z, _⟩ := g e he
    exact ⟨x, tk, by rw [← q]; exact z⟩
  have pk : (vs.map strOf).Perm (es.toList.map elName) := by
    have q := pm.map strOf
    rw [List.map_map] at q
    exact q
  refine wpAny_bind (wpAny_newList ?_ (by rw [sizeLine_eq]; omega))
  have hoL : (s1.heap.push (seqObj "list" vs.toArray 0)).get? s1.heap.objs.size = some (seqObj "list" vs.toArray 0) := Heap.get?_push_size _ rfl
  refine wpAny_bind (wpAny_holding (wpAny_call_entry slot_list_sort ⟨_, hoL, rfl⟩ entry_list_sort (list_sort_treeK strKind_oneLt hoL hS.keysOf (fun v₁ v₂ rest e => keyKind_strs (by rw [← e]; exact hS)) (by omega) fun st' a1 a2 => ⟨_, rfl, ?_⟩) (args_list_sort _)))
  obtain ⟨ys, y1, y2, y3⟩ := sorted_out_str hS a1 a2
  obtain ⟨c, hc⟩ := sortedHeap_at (vs := vs) (out := (arrOf st').map (·.2)) hoL
  have py : ys.Perm (es.toList.map elName) := y2.trans pk
  refine wpAny_pure ⟨_, rfl, hQ _ s1.heap.objs.size _ c ys (fun b u e => ?_) g1 o1 hz hc y1 y3 (py.nodup_iff.mpr nd) (fun x => by rw [py.mem_iff, ← hm x]) ?_⟩
  · have q := k1 b u e
    have lt := Heap.lt_size q
    show (sortedHeap (s1.heap.push (seqObj "list" vs.toArray 0)) s1.heap.objs.size vs _).get? b = some u
    rw [sortedHeap_old (Nat.ne_of_lt lt) (by rw [size_push']; exact Nat.lt_succ_of_lt lt)]; exact Heap.get?_push_of_some _ q
  · rw [py.length_eq, List.length_map, Array.length_toList]; exact hb
end

/-! ### over the layer -/
def TxS (w : World) (a : Addr) (ks : List Str) (n : Nat) : HO := .ext fun h => TSet w h a ks n
theorem to_ok {w : World} {P : Program} {H : Hp} {h : Heap} {a : Addr} {ks : List Str} {n : Nat} (R : TSet w h a ks n) : ObjOk P w H h a (TxS w a ks n) :=
  let ⟨o, _, _, _, ⟨ho, _⟩, _⟩ := R
  ⟨R, ⟨o, ho⟩, fun h1 h2 p k => TSet.stay p k⟩
section
variable {X : Cx}
theorem to_get {pins : List (Addr × Obj)} {σ : L2.St} {H : Hp} {s : Shared} {a : Addr} {ks : List Str} {n : Nat} (I : Inv X pins σ H s) (ha : H a = some (TxS X.w a ks n)) : TSet X.w s.heap a ks n := (I.hok a _ ha).1
theorem to_add {pins : List (Addr × Obj)} {σ : L2.St} {H : Hp} {s : Shared} {E : Value → Shared → Prop} {D : Addr} {ks : List Str} {n : Nat} {x : Str} {tk : Tok} {Q : Value → Shared → Prop} (I : Inv X pins σ H s) (hD : H D = some (TxS X.w D ks n)) (room : n + 1 < scanBound)
    (h : ∀ s', Inv X pins σ (upd H D (TxS X.w D (ks ++ [x]) (n + 1))) s' → Q .none s') : wpAny (model X.prog X.w) X.A (call (.builtin "set.add") [.ref D, .str x tk]) Q E s := by
  refine addText (to_get I hD) room fun h' sb new => h _ ?_
  have he : ∃ u, h'.get? D = some u := let ⟨o, _, _, _, ⟨ho, _⟩, _⟩ := new; ⟨o, ho⟩
  exact I.write (e := D) (t' := s.toks + 1) (by rw [hD]; trivial) (.inl rfl) (fun b u hb hu => (sb.2 b hb).trans hu) he (to_ok new)
/-- sorted(s), s a set of texts -/
def rSortTO (w : World) : List V → Hp → VK → Prop := fun vs H Q => ∃ (a : Addr) (ks : List Str) (n : Nat), vs = [V.ref a] ∧ H a = some (TxS w a ks n) ∧ n < 64 ∧
  ∀ (ys : List Str) (p : Addr), sortedS ys = true → ys.Nodup → (∀ x, x ∈ ys ↔ x ∈ ks) → ys.length ≤ n → H p = none → Q (.ref p) (upd H p (.lst (ys.map V.str)))
theorem cr_sortTO (hc : X.calm = true) : CallR X (.builtin "sorted") (rSortTO X.w) := by
  intro pins s σ H vs us Q I r h
  obtain ⟨a, ks, n, rfl, ha, few, q⟩ := h
  rw [Vals.ref1 r]
  refine sortedSet (to_get I ha) (I.ok.hd hc) few fun s' p out c ys k g o hp hg hi h1 h2 h3 h4 => ?_
  have lz : (ys.map V.str).length ≤ sizeLine := by rw [List.length_map, sizeLine_eq]; omega
  have hn : H p = none := I.hok.fresh hp
  have J : Inv X pins σ (upd H p (.lst (ys.map V.str))) { s with heap := s'.heap, gens := s'.gens, drawn := s'.drawn, toks := s'.toks } :=
    I.call (ch := []) (Un.laid k hp hn) (I.hok.laid k hp ⟨lz, out.toList, c, vals_of_strs hi, hg⟩) (by rw [g]; exact I.bare) (fun _ z => nomatch z)
  have e : s' = { s with heap := s'.heap, gens := s'.gens, drawn := s'.drawn, toks := s'.toks } := by cases s'; cases s; cases o; rfl
  rw [e]
  exact ⟨.ref p, _, J, rfl, q ys p h1 h2 h3 h4 hn⟩
end
end Sx
/-! Sc -/
set_option Elab.async false
set_option linter.all false
set_option maxRecDepth 100000
set_option maxHeartbeats 2000000
/-! {e for .. in .. if ..} of texts. -/
namespace Sx
open PySem PySem.Spec PyProof.Rows L2
section
variable {X : Cx}
/-- what a turn does with the member that it made -/
def kAdd (w : World) (D : Addr) (Nx : Hp → Prop) : VK := fun y H => ∃ (z : Str) (ks : List Str) (n : Nat), y = .str z ∧ H D = some (TxS w D ks n) ∧ n + 1 < scanBound ∧ Nx (upd H D (TxS w D (ks ++ [z]) (n + 1)))
def turnOf (w : World) (g : TG) (tt : TT) (te : TE) (vs : List Nat) (σ : L2.St) (D : Addr) (Nx : Hp → Prop) : V → Hp → Prop := fun x H => g x (wipe σ vs) H fun σ2 H2 => wipe σ2 vs = wipe σ vs ∧ tt σ2 H2 fun b H3 => if b = true then te σ2 H3 (kAdd w D Nx) else Nx H3
def tSs (w : World) (wi : TI) (g : TG) (tt : TT) (te : TE) (vs : List Nat) : TE := fun σ H Q => wi σ H fun J H1 => ∀ D, H1 D = none → ∃ W : Nat → Nat → Hp → Prop, (∃ m, W 0 m (upd H1 D (TxS w D [] 0))) ∧
  ∀ i m H, W i m H → (J.stop i H ∧ Q (.ref D) H) ∨ (J.go i H ∧ ∃ Nx : Hp → Prop, (∀ H', Nx H' → ∃ m', m' < m ∧ W (i + 1) m' H') ∧ ∀ x H', J.yld i H x H' → turnOf w g tt te vs σ D Nx x H')
theorem pe_ss {elt tg iter : Expr} {ifs : List Expr} {scope : Scope} {own : List (PySem.Str × Nat)} {pos : Pos} {wi : TI} {g : TG} {tt : TT} {te : TE} (hc : X.calm = true) (hN : X.N.Nodup) (hi : PI X tg iter wi) (ok : BlkOk X.N X.env.scope scope own)
    (hg : ∀ (s : Shared) (H : Hp) (C : Addr) (cl : List (PySem.Str × Addr)) (fp : List Addr), PG (X.blk s H scope (compEnvC scope cl C X.env) fp) tg g)
    (ht : ∀ (s : Shared) (H : Hp) (C : Addr) (cl : List (PySem.Str × Addr)) (fp : List Addr), PTs (X.blk s H scope (compEnvC scope cl C X.env) fp) ifs tt)
    (he : ∀ (s : Shared) (H : Hp) (C : Addr) (cl : List (PySem.Str × Addr)) (fp : List Addr), PE (X.blk s H scope (compEnvC scope cl C X.env) fp) elt te)
    (hs : ∀ x, foldedSetIterable iter X.env x = pure x := by intro _; rfl) : PE X (.SetComp elt [⟨tg, iter, ifs, 0⟩] scope pos) (tSs X.w wi g tt te (own.map (·.2))) := by
  refine ⟨fun pins s σ H Q I h => ?_⟩
  rw [PpSet.eval_SetComp]
  have frees : ∀ y ∈ scope.names, y.2 = .free → ∃ c, X.env.cells.lookup y.1 = some c := fun y hy e => I.ok.has _ ((ok.free y hy e).imp id id)
  refine wpAny_comprehension_free rfl hs (closure_ok frees) ok.kind (fun y hy e => by rw [ok.uniq y hy, e]) (thn (hi.run pins s σ H _ I h) fun xv s1 hx => thn hx fun itv s2 h2 => ?_)
  obtain ⟨it, fp, tn, J, H2, rfl, I2, T, st2, f2, q⟩ := h2
  refine PpSet.newSet_ok (newEnv_comp ?_)
  generalize hD : s2.heap.objs.size = D
  generalize ho : ({ cls := .type "set", dict := none, data := .set #[] 0 (.fresh 0 0 (!X.w.params.followText "set-order")) } : Obj) = oD
  obtain ⟨W, ⟨m0, w0⟩, turn⟩ := q D (I2.hok.fresh (Nat.le_of_eq hD))
  generalize hs3 : ({ s2 with heap := s2.heap.push oD } : Shared) = s3
  have e3 : s3.heap = s2.heap.push oD := by rw [← hs3]
  have I3 : Inv X pins σ (upd H2 D (TxS X.w D [] 0)) s3 := by
    rw [← hs3]
    refine I2.laid (t' := s2.toks) (fun b o e => Heap.get?_push_of_some _ e) (Nat.le_of_eq hD) (to_ok ?_)
    rw [← hD, ← ho]; exact emptySet X.w s2.heap
  have lt : ∀ b ∈ fp, b < s2.heap.objs.size := fun b hb => let ⟨o, e, _⟩ := T.obj _ _ st2 b hb; Heap.lt_size e
  have f3 : ∀ b ∈ fp, FpOk X pins (upd H2 D (TxS X.w D [] 0)) b ∧ b < s3.heap.objs.size := fun b hb => by
    refine ⟨⟨(upd_ne (by rw [← hD]; exact Nat.ne_of_lt (lt b hb))).trans (f2 b hb).1, (f2 b hb).2⟩, ?_⟩
    rw [e3, Heap.size_push]; exact Nat.lt_succ_of_lt (lt b hb)
  have st3 : tn 0 s3.heap := T.keep _ _ _ st2 fun b _ o e => by rw [e3]; exact Heap.get?_push_of_some _ e
  have I4 := block_start I3 ok hN f3
  generalize hcl : cellsFrom (s3.heap.objs.size + 1) scope.names (cloFrom X.env.cells scope.names []) = cl at I4 ⊢
  have pg := hg s3 (upd H2 D (TxS X.w D [] 0)) s3.heap.objs.size cl fp
  have pt := ht s3 (upd H2 D (TxS X.w D [] 0)) s3.heap.objs.size cl fp
  have pe := he s3 (upd H2 D (TxS X.w D [] 0)) s3.heap.objs.size cl fp
  show codeAny _ _ (.compStart (.SetComp elt [⟨tg, iter, ifs, 0⟩] scope pos) 0 (.ref it) (.ref D) (compEnvC scope cl s3.heap.objs.size X.env)) (compPost (model X.prog X.w) X.A X.xe none (EP X pins σ Q) (.ref D) s3.heap.objs.size)
    { s3 with heap := pushCells (s3.heap.push { cls := .type "dict", data := .dict #[] }) scope.names }
  generalize hce : compEnvC scope cl s3.heap.objs.size X.env = ce at I4 pg pt pe ⊢
  have loc : ce.locals = s3.heap.objs.size := by subst hce; rfl
  generalize hH3 : upd H2 D (TxS X.w D [] 0) = H3 at I3 I4 pg pt pe w0 f3
  generalize hs4 : ({ s3 with heap := pushCells (s3.heap.push { cls := .type "dict", data := .dict #[] }) scope.names } : Shared) = s4 at I4 ⊢
  have st4 : tn 0 s4.heap := T.keep _ _ _ st3 fun b _ o e => by rw [← hs4]; exact pushCells_keeps _ _ _ _ (Heap.get?_push_of_some _ e)
  generalize hY : X.blk s3 H3 scope ce fp = Y at I4 pg pt pe
  have yA : Y.A = X.A := by subst hY; rfl
  have still : ∀ {σ' : L2.St} {H' : Hp} {s' : Shared}, Inv Y [] σ' H' s' → (∀ b ∈ fp, H' b = none) → ∀ b ∈ fp, FpOk Y [] H' b := fun {σ' H' s'} I' hn b hb => by
    subst hY
    exact ⟨hn b hb, (I'.ok.exf b hb).1, I'.ok.exfs b hb, .inl hb, fun x c e => (I'.ok.exf b hb).2 x c e, fun p hp => absurd (show p ∈ ([] : List (Addr × Obj)) ++ [] from hp) (by simp)⟩
  have loop : codeAny (model X.prog X.w) X.A (.compLoop (.SetComp elt [⟨tg, iter, ifs, 0⟩] scope pos) 0 (.ref it) (.ref D) ce) (compPost (model X.prog X.w) X.A X.xe none (EP X pins σ Q) (.ref D) s3.heap.objs.size) s4 := by
    refine PpSet.compLoopS_any (fun n s' => ∃ i H', Inv Y [] (wipe σ (own.map (·.2))) H' s' ∧ tn i s'.heap ∧ (∀ b ∈ fp, H' b = none) ∧ W i n H') ?_ m0 ⟨0, H3, I4, st4, fun b hb => (f3 b hb).1.1, w0⟩
    rintro n s5 ⟨i, H5, I5, st5, n5, w5⟩
    rcases turn i n H5 w5 with ⟨stop, qq⟩ | ⟨go, Nx, hNx, step⟩
    · have td := T.done Y (by subst hY; rfl) (by subst hY; rfl) (by subst hY; rfl) (by subst hY; exact hc) i [] s5 _ H5 (fun _ _ => False) I5 (still I5 n5) st5 stop
      rw [yA] at td
      subst hY
      refine thnF td fun r s6 ⟨hr, I6⟩ => ?_
      subst hr
      have I7 : Inv X pins σ H5 s6 := I3.call' (ch := fp) I6.os I6.base I6.hok I6.bare fun b hb => let z := (f3 b hb).1.2; ⟨z.2.2.1, z.1, z.2.2.2.1, z.2.2.2.2⟩
      have nC : H5 s3.heap.objs.size = none := by rw [← loc]; exact I6.free
      obtain ⟨m, hn, _⟩ := I6.loc
      have hn : s6.heap.Ns ce.locals m := hn
      rw [loc] at hn
      refine ⟨m, hn, fun h'' sb => ?_⟩
      obtain ⟨f0, f1, f2, f3, f4, f5⟩ := I3.fpOk (Nat.le_refl _) nC
      exact ⟨.ref D, H5, I7.turned (t' := s6.toks) (fun b o hb e => (sb.2 b hb).trans e) f0 f1 f3 f4 f5, rfl, qq⟩
    · have ti := T.item Y (by subst hY; rfl) (by subst hY; rfl) (by subst hY; rfl) (by subst hY; exact hc) i [] s5 _ H5 (fun _ _ => False) I5 (still I5 n5) st5 go
      rw [yA] at ti
      subst hY
      refine thnF ti fun r s6 ⟨u, hr, h6⟩ => ?_
      subst hr
      refine thnF h6 fun _ s7 ⟨x, H7, I7, r7, y7, st7, n7⟩ => ?_
      have I8 := I7.pinned (still I7 n7) (T.obj _ _ st7)
      refine thnF (pg.run _ s7 _ H7 x u _ I8 r7 (step x H7 y7)) fun _ s8 ⟨σ8, H8, I9, hw8, q8⟩ => ?_
      refine thnF (pt.run _ s8 σ8 H8 _ I9 q8) fun b s9 ⟨H9, I10, q9⟩ => ?_
      have nxt : ∀ {s' : Shared} {H' : Hp}, Inv (X.blk s3 H3 scope ce fp) ([] ++ pinsAt fp s7.heap) σ8 H' s' → Nx H' → ∃ m, m < n ∧ ∃ i H', Inv (X.blk s3 H3 scope ce fp) [] (wipe σ (own.map (·.2))) H' s' ∧ tn i s'.heap ∧ (∀ b ∈ fp, H' b = none) ∧ W i m H' := fun {s' H'} I' nx => by
        obtain ⟨m', hm, w'⟩ := hNx H' nx
        have pinned : ∀ b ∈ fp, ∀ o, s7.heap.get? b = some o → s'.heap.get? b = some o ∧ H' b = none := fun b hb o e => by
          have z := I'.pin (b, o) (List.mem_append_right _ (List.mem_append_right _ (mem_pinsAt hb e)))
          exact ⟨z.1, z.2.1⟩
        have hl : (wipe σ (own.map (·.2))).length = σ8.length := by rw [← hw8, wipe_length]
        have wk := (I'.unpinned (pins := [])).weak hl fun j v e => by rw [← hw8] at e; exact (wipe_some e).1
        refine ⟨m', hm, i + 1, H', wk, T.keep _ _ _ st7 fun b hb o e => (pinned b hb o e).1, fun b hb => ?_, w'⟩
        obtain ⟨o, e, _⟩ := T.obj _ _ st7 b hb
        exact (pinned b hb o e).2
      cases b with
      | false => simp only [Bool.false_eq_true, if_false] at q9 ⊢; exact nxt I10 q9
      | true =>
        simp only [if_true] at q9 ⊢
        refine thnF (pe.run _ s9 σ8 H9 _ I10 q9) fun z s10 ⟨yv, H10, I11, r10, zt, ks, n0, ey, hD10, room, nx⟩ => ?_
        subst ey
        obtain ⟨tk, rfl⟩ := (show ∃ t, z = Value.str zt t from r10)
        exact to_add (X := X.blk s3 H3 scope ce fp) I11 hD10 room fun s11 I12 => nxt I12 nx
  exact PpSet.codeAny_compStart_set loop (T.self X.A 0 _ _ _ st4 loop)
end
/-- over a tuple that the block leaves as it is: the invariant Pv i says what stands when i items are gone through -/
theorem ss_tup {w : World} {K : PySem.W.Frag} {a : Addr} {xs : List V} {g : TG} {tt : TT} {te : TE} {vs : List Nat} {σ : L2.St} {H1 : Hp} {D : Addr} {Qd : Hp → Prop} (Pv : Nat → Hp → Prop)
    (h0 : Pv 0 (upd H1 D (TxS w D [] 0))) (hl : ∀ i H, i ≤ xs.length → Pv i H → SqT K H a xs) (hs : ∀ i x H, xs[i]? = some x → Pv i H → turnOf w g tt te vs σ D (Pv (i + 1)) x H) (hd : ∀ H, Pv xs.length H → Qd H) :
    ∃ W : Nat → Nat → Hp → Prop, (∃ m, W 0 m (upd H1 D (TxS w D [] 0))) ∧ ∀ i m H, W i m H → ((Itt K a).stop i H ∧ Qd H) ∨
      ((Itt K a).go i H ∧ ∃ Nx : Hp → Prop, (∀ H', Nx H' → ∃ m', m' < m ∧ W (i + 1) m' H') ∧ ∀ x H', (Itt K a).yld i H x H' → turnOf w g tt te vs σ D Nx x H') := by
  refine ⟨fun i m H => (m = xs.length - i ∧ i ≤ xs.length) ∧ Pv i H, ⟨xs.length, ⟨by simp, Nat.zero_le _⟩, h0⟩, ?_⟩
  rintro i m H ⟨⟨rfl, hi⟩, p⟩
  have q := hl i H hi p
  by_cases lt : i < xs.length
  · refine .inr ⟨⟨xs, xs[i], q, by simp [lt]⟩, Pv (i + 1), fun H' p' => ⟨xs.length - (i + 1), by omega, ⟨rfl, lt⟩, p'⟩, ?_⟩
    rintro x H' ⟨rfl, y⟩
    exact hs i x _ (y xs q) p
  · obtain rfl : i = xs.length := by omega
    exact .inl ⟨⟨xs, q, Nat.le_refl _⟩, hd H p⟩
end Sx
/-! Dl -/
set_option Elab.async false
set_option linter.all false
set_option maxRecDepth 100000
set_option maxHeartbeats 2000000
/-! del xs[a:] -/
namespace Sx
open PySem PySem.Spec PyProof.Rows L2
/-- what is left when the places from k on are taken out -/
theorem keep_front (p : Nat → Bool) (k : Nat) : ∀ (xs : List Value) (i : Nat), (∀ j, j < i + xs.length → (p j = true ↔ i + k ≤ j) ∨ j < i) →
    ((xs.zipIdx i).filterMap fun x => if p x.2 = true then none else some x.1) = xs.take k
  | [], i, _ => by simp
  | x :: xs, i, h => by
    rw [List.zipIdx_cons, List.filterMap_cons]
    have h0 := (h i (by simp)).resolve_right (Nat.lt_irrefl _)
    cases k with
    | zero =>
      have hp : p i = true := h0.2 (by omega)
      simp only [hp, if_true, List.take_zero]
      refine (keep_front p 0 xs (i + 1) fun j hj => ?_).trans (by simp)
      rcases h j (by simp only [List.length_cons]; omega) with z | z
      · by_cases c : j < i + 1
        · exact .inr c
        · refine .inl (z.trans ?_); omega
      · exact .inr (by omega)
    | succ k =>
      have hp : p i = false := by
        cases q : p i with
        | false => rfl
        | true => have := h0.1 q; omega
      simp only [hp, Bool.false_eq_true, if_false, List.take_succ_cons]
      congr 1
      refine keep_front p k xs (i + 1) fun j hj => ?_
      rcases h j (by simp only [List.length_cons]; omega) with z | z
      · by_cases c : j < i + 1
        · exact .inr c
        · refine .inl (z.trans ?_); omega
      · exact .inr (by omega)
def back (a c : Int) (j : Nat) : Bool := decide (c < (j : Int)) && decide ((j : Int) ≤ a) && (a - (j : Int)) % (-1) == 0
def gone (a c : Int) (j : Nat) : Bool := if (1 : Int) > 0 then decide (a ≤ (j : Int)) && decide ((j : Int) < c) && ((j : Int) - a) % 1 == 0 else back a c j
section
variable {prog : Program} {w : World} {A : Around} {E : Value → Shared → Prop} {s : Shared}
theorem delItem_tail {l sl : Addr} {items : Array Value} {n : Nat} {vl : Value} {lo : Option Int} {Q : Unit → Shared → Prop} (e : s.heap.get? l = some { cls := .type "list", data := .seq items n })
    (hs : s.heap.IsSliceOf sl vl .none .none) (pl : IsPart vl lo) (hsz : items.size ≤ sizeLine)
    (h : ∀ f : Array Value → Array Value, f items = (items.toList.take (HT.sIx items.size 0 lo)).toArray → Q () { s with heap := s.heap.update l (Obj.mapSeq f) }) : wpAny (model prog w) A (delItem (.ref l) (.ref sl)) Q E s := by
  have hl : s.heap.IsList l items := PySem.IsL.isList e
  obtain ⟨os, hos, hcs, hds⟩ := id hs
  have hTs : s.TypeIs (.ref sl) "slice" := ⟨os, hos, hcs⟩
  refine wpAny_delItem_slot hl.typeIs (by decide) F.slot_list_delitem (wpAny_call_entry F.slot_list_delitem hl.typeIs F.entry_list_delitem ?_ (F.args_list_delitem_2 _ _))
  obtain ⟨b1, b2, b3⟩ := slice_bounds lo none items.size
  have hle : HT.sIx items.size 0 lo ≤ items.size := HT.sIx_le _ _ (Nat.zero_le _) _
  have hend : HT.sIx items.size items.size none = items.size := rfl
  rw [hend] at b2
  generalize hk : HT.sIx items.size 0 lo = k at b1 hle h
  have hb : sliceBounds lo none none items.size = ((k : Int), (items.size : Int), 1) := by
    rw [← b1, ← b2, ← b3]
  show wpAny _ _ (Builtin.List.listSubscript? (.ref sl) >>= _) _ _ s
  refine wpAny_bind ?_
  unfold Builtin.List.listSubscript?; refine wpAny_bind (wpAny_specialOf hTs slice_no_index ?_)
  simp only [Option.isNone_none, if_true]; refine wpAny_pure ?_
  show wpAny _ _ (typeOf (.ref sl) >>= _) _ _ s
  refine wpAny_bind (wpAny_typeOf hTs ?_)
  first | rw [if_neg (by decide)] | refine PySem.W.KFB.if_not (by decide) ?_
  rw [listSliceParts_eq]
  refine wpAny_bind (wpAny_bind (wpAny_field hos hds (x := .none) rfl (wpAny_bind (wpAny_listPart .none ?_))))
  rw [if_neg (show ¬ ((rawPart none == rawInt 0) = true) from Bool.false_ne_true)]
  refine wpAny_bind (wpAny_field hos hds (x := vl) rfl (wpAny_bind (wpAny_listPart pl ?_)))
  refine wpAny_bind (wpAny_field hos hds (x := .none) rfl (wpAny_bind (wpAny_listPart .none (wpAny_pure ?_))))
  unfold Builtin.List.listItems
  refine wpAny_bind (wpAny_bind (wpAny_seqItems e rfl (wpAny_pure ?_)))
  refine wpAny_bind (wpAny_of_eq ((sliceIndices_raw lo none none items.size (by simp)).trans (congrArg (pure : Int × Int × Int → Sem (Int × Int × Int)) hb)) ?_)
  refine wpAny_bind (wpAny_rule ?_)
  have hf : ∀ p : Nat → Bool, (∀ j, j < items.size → (p j = true ↔ k ≤ j)) → (items.toList.zipIdx.filterMap fun x => if p x.2 = true then none else some x.1).toArray = (items.toList.take k).toArray := fun p hp => by
    rw [keep_front p k items.toList 0 fun j hj => .inl ((hp j (by simpa using hj)).trans (by omega))]
  have sel : ∀ (start stop step : Int) (b : Nat → Bool), step = 1 → start = (k : Int) → stop = (items.size : Int) → ∀ j, j < items.size → (((if step > 0 then decide (start ≤ (j : Int)) && decide ((j : Int) < stop) && ((j : Int) - start) % step == 0 else b j) = true) ↔ k ≤ j) := by
    rintro _ _ _ b rfl rfl rfl j hj
    have e1 : ((j : Int) - (k : Int)) % 1 = 0 := Int.emod_one _
    rw [if_pos (by decide), e1]
    simp only [Bool.and_eq_true, decide_eq_true_eq, beq_self_eq_true, and_true]
    omega
  have len : ∀ p : Nat → Bool, (∀ j, j < items.size → (p j = true ↔ k ≤ j)) → (items.toList.zipIdx.filterMap fun x => if p x.2 = true then none else some x.1).toArray.size ≤ sizeLine + 1 := fun p hp => by
    rw [hf p hp, List.size_toArray, List.length_take, Array.length_toList]
    omega
  refine wpAny_bind (wpAny_updateSeq (hz := hsz) (_hz' := ?_) e rfl (wpAny_bind (wpAny_letGo (wpAny_pure ⟨_, rfl, h _ ?_⟩))))
  · exact hf (gone (k : Int) (items.size : Int)) fun j hj => sel _ _ _ (back (k : Int) (items.size : Int)) rfl rfl rfl j hj
  · exact len (gone (k : Int) (items.size : Int)) fun j hj => sel _ _ _ (back (k : Int) (items.size : Int)) rfl rfl rfl j hj
end
section
variable {X : Cx}
/-- del o[lo:] of a list -/
def tDelT (to : TE) (tl : TO) : TS := fun D σ H => to σ H fun x H1 => tl σ H1 fun lo H2 => ∃ (l : Addr) (xs : List V), x = .ref l ∧ H2 l = some (.lst xs) ∧ D.nx σ (upd H2 l (.lst (xs.take (HT.sIx xs.length 0 lo))))
theorem ps_delT {o : Expr} {lo : Option Expr} {to : TE} {tl : TO} {tpos p2 pos : Pos} (ho : PE X o to) (hl : PO X lo tl) : PS X (.Delete [.Subscript o (.Slice lo none none p2) tpos] pos) (tDelT to tl) := by
  refine ⟨fun pins s σ H D I h => ?_⟩
  refine wpAny_Delete (wpAny_deleteEach_cons (wpAny_delete_Subscript (thn (ho.run pins s σ H _ I h) fun u s1 ⟨x, H1, I1, rx, q1⟩ => ?_)))
  refine wpAny_Slice (thn (hl.run pins s1 σ H1 _ I1 q1) fun vl s2 ⟨lo', H2, I2, pl, q2⟩ => ?_)
  refine wpAny_evalPart_none (wpAny_evalPart_none ?_)
  obtain ⟨l, xs, rfl, hH, q⟩ := q2
  cases (show u = Value.ref l from rx)
  have I4 : Inv X pins σ H2 { s2 with heap := s2.heap.push { cls := .type "slice", data := .fields #[vl, .none, .none] } } := I2.kept (t' := s2.toks) fun b ob q => Heap.get?_push_of_some _ q
  obtain ⟨z, its, n, r, hlen, e⟩ := I4.lstM hH
  refine delItem_tail e ⟨_, Heap.get?_push_size _ rfl, rfl, rfl⟩ pl (by rw [List.size_toArray]; omega) fun f hf => wpAny_deleteEach_nil ⟨σ, _, ?_, q⟩
  refine I4.lset (its' := its.take (HT.sIx xs.length 0 lo')) (t' := s2.toks) hH e ?_ (r.take _) ?_
  · rw [hf, List.size_toArray, ← hlen]
  · rw [List.length_take]; omega
end
end Sx
/-! Rl -/
set_option Elab.async false
set_option linter.all false
set_option maxRecDepth 100000
set_option maxHeartbeats 2000000
/-! A few rules more: xs[i] op= e, a written dict of texts asked. -/
namespace Sx
open PySem PySem.Spec PyProof.Rows L2
/-- the written dict at p: its texts and values, in order -/
def KD (K : PySem.W.Frag) (w : World) (p : Addr) (kvs : List (Str × V)) : Prop := ∃ es n, K.lookup p = some ⟨.type "dict", none, .dict es n, #[]⟩ ∧ PySem.W.KeysLit w.params es.toList ∧ (p == sysModules) = false ∧
  Paired (fun (kv : Str × V) (e : DictEntry) => (∃ t, e.key = .str kv.1 t) ∧ RelV kv.2 e.val) kvs es.toList
def lookD (kvs : List (Str × V)) (z : Str) : Option V := (kvs.find? fun kv => decide (kv.1 = z)).map (·.2)
theorem kd_find (z : Str) : ∀ {kvs : List (Str × V)} {es : List DictEntry}, Paired (fun (kv : Str × V) (e : DictEntry) => (∃ t, e.key = .str kv.1 t) ∧ RelV kv.2 e.val) kvs es →
    RelO (lookD kvs z) ((es.find? fun e => Value.isStrOf z e.key).map (·.val))
  | _, _, .nil => True.intro
  | kv :: kvs, e :: es, .cons ⟨⟨t, h1⟩, h2⟩ r => by
    have ih := kd_find z r
    have q : Value.isStrOf z e.key = decide (kv.1 = z) := by
      rw [h1]
      by_cases c : kv.1 = z
      · rw [decide_eq_true c, ← c]; simp [Value.isStrOf]
      · rw [decide_eq_false c]
        cases d : Value.isStrOf z (.str kv.1 t) with
        | false => rfl
        | true => obtain ⟨u, d⟩ := Value.isStrOf_shape d; injection d with d; exact absurd d c
    unfold lookD at ih ⊢
    rw [List.find?_cons, List.find?_cons, q]
    cases decide (kv.1 = z) with
    | true => exact h2
    | false => exact ih
def rInKD (K : PySem.W.Frag) (w : World) : R2 := fun x y H Q => ∃ (p : Addr) (z : Str) (kvs : List (Str × V)), y = .ref p ∧ x = .str z ∧ KD K w p kvs ∧ Q (.bl (lookD kvs z).isSome) H
def rIxKD (K : PySem.W.Frag) (w : World) : R2 := fun x y H Q => ∃ (p : Addr) (z : Str) (kvs : List (Str × V)) (v : V), x = .ref p ∧ y = .str z ∧ KD K w p kvs ∧ lookD kvs z = some v ∧ Q v H
section
variable {X : Cx}
theorem op_inKD : OpR X (compareOp .In) (rInKD X.K X.w) := by
  intro pins s σ H x y v u Q I rx ry h
  obtain ⟨p, z, kvs, rfl, rfl, ⟨es, n, hl, hk, low, hp⟩, q⟩ := h
  obtain rfl : u = Value.ref p := ry
  obtain ⟨t, rfl⟩ := rx
  have hm := PySem.W.mapOf_K (prog := X.prog) (w := X.w) I.kIn hl hk
  have f := kd_find z hp
  refine wpAny_in_of (strKind_is X.prog X.w z t) low hm ⟨.bl _, H, I.tok _, rfl, ?_⟩
  have e : (findBy Value.isStrOf es z).isSome = (lookD kvs z).isSome := by
    obtain ⟨l⟩ := es
    unfold findBy
    rw [List.find?_toArray]
    cases a : lookD kvs z with
    | none => rw [a] at f; cases b : (l.find? fun e => Value.isStrOf z e.key).map (·.val) with | none => rfl | some r => rw [b] at f; exact f.elim
    | some r => rw [a] at f; cases b : (l.find? fun e => Value.isStrOf z e.key).map (·.val) with | none => rw [b] at f; exact f.elim | some r => rfl
  rw [e]; exact q
theorem ix_KD : IxR X (rIxKD X.K X.w) := by
  intro value slice pins s σ H x y v u Q I rx ry h hs
  obtain ⟨p, z, kvs, r, rfl, rfl, ⟨es, n, hl, hk, low, hp⟩, e, q⟩ := h
  obtain rfl : v = Value.ref p := rx
  obtain ⟨t, rfl⟩ := ry
  have hm := PySem.W.mapOf_K (prog := X.prog) (w := X.w) I.kIn hl hk
  have f := kd_find z hp
  rw [e] at f
  cases b : (es.toList.find? fun e => Value.isStrOf z e.key).map (·.val) with
  | none => rw [b] at f; exact f.elim
  | some u0 =>
    rw [b] at f
    have g : findBy Value.isStrOf es z = some u0 := by obtain ⟨l⟩ := es; unfold findBy; rw [List.find?_toArray]; exact b
    exact tail_any hm.typeIs slot_dict_getitem.lookup (wpAny_getItem_of (strKind_is X.prog X.w z t) hm g ⟨r, H, I.tok _, f, q⟩) hs
/-- the read of xs[i] op= e -/
theorem pget_list : PGet X (rIxL X.K) := by
  intro pins s σ H o i ov iv Q I ro ri h
  obtain ⟨p, xs, k, z, rfl, rfl, hq, he, q⟩ := h
  cases ro
  obtain ⟨t, rfl⟩ := ri
  obtain ⟨its, r, pl, hz⟩ := I.list hq
  obtain ⟨j, h1, h2, h3, h4, h5⟩ := atI_get he
  obtain ⟨w, ew, rw'⟩ := r.get h2
  have hl := r.length
  have hn := line63
  have fin : EP X pins σ Q w s := ⟨z, H, I, rw', q⟩
  by_cases h0 : 0 ≤ k
  · rw [seqIndex_of h0 h5] at h1
    exact wpAny_getItem_list pl.isList h0 (by omega) (by rw [Option.some.inj h1]; simpa using ew) fin
  · rw [seqIndex_neg (by omega) h4] at h1
    have e : (k + (its.toArray.size : Int)).toNat = j := by rw [List.size_toArray, ← hl]; exact Option.some.inj h1
    exact wpAny_getItem_list_neg pl.isList (by omega) (by rw [List.size_toArray] <;> omega) (by omega) (by rw [e]; simpa using ew) fin
end
end Sx
/-! Pg -/
set_option Elab.async false
set_option linter.all false
set_option maxRecDepth 100000
set_option maxHeartbeats 2000000
/-! The program's defs, each by its promise. -/
namespace Pg
open PySem L2 Mr
structure Tx (K : PySem.W.Frag) (w : World) (mg : Str → Option Value) (pS pC : Addr) : Prop where
  isi : mg "isinstance" = none
  str : mg "str" = none
  len : mg "len" = none
  int : mg "int" = none
  tup : mg "tuple" = none
  sorted : mg "sorted" = none
  max : mg "max" = none
  mS : mg "SIGNS" = some (.ref pS)
  tS : ∀ H, SqT K H pS (signs.map fun g => V.str (S g))
  mC : mg "CALLS" = some (.ref pC)
  tC : Sx.KD K w pC [("max(", .str "max"), ("imax(", .str "imax")]
theorem nm_same {t : Cs} {l : Cs} {x : Str} (h : S l = x) : decide (S t = x) = decide (t = l) := by
  rw [← h]
  by_cases c : t = l
  · rw [decide_eq_true c, c]; exact decide_eq_true rfl
  · rw [decide_eq_false c]; exact decide_eq_false fun e => c (S_inj.mp e)
theorem eqV_str (a b : Str) : eqV (.str a) (.str b) = decide (a = b) := by
  show (a == b) = _
  by_cases c : a = b
  · rw [decide_eq_true c, c]; simp
  · rw [decide_eq_false c]; simpa using c
theorem sMax : S [109, 97, 120] = ("max" : Str) := by decide +kernel
theorem sImax : S [105, 109, 97, 120] = ("imax" : Str) := by decide +kernel
theorem same_new {H : Hp} {p : Addr} (h : H p = none) (o : HO) : Same H (upd H p o) := fun b u q => by rw [upd_ne (ne_of_none q h)]; exact q
theorem in_names (t : Cs) : inV (.str (S t)) [.str "max", .str "imax"] = (decide (t = [109, 97, 120]) || decide (t = [105, 109, 97, 120])) := by
  unfold inV
  rw [List.any_cons, List.any_cons, List.any_nil, eqV_str, eqV_str, Bool.or_false]
  have e1 : decide ((("max" : Str)) = S t) = decide (t = [109, 97, 120]) := by rw [← nm_same sMax]; exact decide_eq_decide.mpr eq_comm
  have e2 : decide ((("imax" : Str)) = S t) = decide (t = [105, 109, 97, 120]) := by rw [← nm_same sImax]; exact decide_eq_decide.mpr eq_comm
  rw [e1, e2]
section
variable {P : Program} {w : World} {K : PySem.W.Frag} {mg : Str → Option Value} {base : Heap} {pS pC : Addr}
def spIsName : Sp := fun vs H Q _ => ∃ t : Cs, vs = [.str (S t)] ∧ t.length ≤ 100000 ∧ ∀ H', Same H H' → Q (.bl (isName t)) H'
theorem sc_is_name : FnScope ["thing"] ["thing"] (defScope st_is_name) := ⟨rfl, rfl, rfl, by decide +kernel, rfl, by decide +kernel, by decide +kernel⟩
theorem lenS {t : Cs} (h : t.length ≤ 100000) : (S t).length ≤ sizeLine := by rw [len_S]; exact Nat.le_trans h (by decide)
theorem ok_is_name {f : Addr} {fd : FuncData} (F : Fun K "is_name" "is_name" st_is_name f fd) (T : Tx K w mg pS pC) : FnOk P w K mg base CX0 1 f fd ["thing"] spIsName := by
  refine F.ok sc_is_name (fun vs H Q E h => ?_) (fun cdv A outer s H vs Q E hr h => ?_)
  · obtain ⟨t, rfl, _⟩ := h
    rfl
  obtain ⟨t, rfl, ht, q⟩ := h
  refine ⟨_, pss_cons (ps_if (PW.pt (pw_or (pt_not (pt_val (pe_callB call_isi (by rfl) T.isi (by decide +kernel) (pa_cons (pv 0) (pa_cons (pe_bltn (v := .ty "str") (by rfl) T.str (by decide +kernel) rfl) pa_nil)))))
      (pw_or1 (pt_cmpR op_in_seq (pv 0) (pe_tup (pa_cons pe_str (pa_cons pe_str pa_nil))) rfl)))) (pss_one (ps_ret pe_bl)) pss_nil)
    (pss_one (ps_ret (pe_and (pe_cmpR op_le (pe_callB call_len (by rfl) T.len PySem.boot_len (pa_cons (pv 0) pa_nil)) pe_int (nomark _))
      (pe_and (pe_m0 PySem.F.slot_str_isascii PySem.F.type_str_isascii mt_isascii (pv 0)) (pe_and (pe_m0 PySem.F.slot_str_isalpha PySem.F.type_str_isalpha mt_isalpha (pv 0)) (pe_one (pe_m0 PySem.F.slot_str_islower PySem.F.type_str_islower mt_islower (pv 0)))))))), ?_⟩
  refine ⟨_, rfl, _, _, _, _, _, rfl, .ty "str", .base (.str _), kit_ty (by decide +kernel), true, rfl, iteF ⟨_, rfl, (by show 2 ≤ sizeLine; decide), fun p np => ⟨p, _, rfl, .inr (SqT.of upd_same), rfl, rfl, _, rfl, ?_⟩⟩⟩
  have s1 : Same H (upd H p (.tup [.str "max", .str "imax"])) := same_new np _
  have e0 := in_names t
  have fin : ∀ b H', Same H H' → b = isName t → Q (.bl b) H' := fun b H' s e => e ▸ q H' s
  refine ite2 (fun c => ?_) (fun c => ?_)
  · have c' : inV (.str (S t)) [.str "max", .str "imax"] = true := c
    rw [e0] at c'
    exact fin _ _ s1 (by unfold isName; rw [c']; rfl)
  · have c' : inV (.str (S t)) [.str "max", .str "imax"] = false := Bool.eq_false_iff.mpr c
    rw [e0] at c'
    have e1 : isName t = (decide (t.length ≤ 4) && (Txt.isascii (S t) && (Txt.isalpha (S t) && Txt.islower (S t)))) := by unfold isName; rw [c']; rfl
    have e2 : decide (((S t).length : Int) ≤ 4) = decide (t.length ≤ 4) := by rw [len_S]; exact decide_eq_decide.mpr (by omega)
    refine ⟨_, rfl, _, _, rfl, ⟨lenS ht, rfl⟩, _, _, rfl, rfl, _, rfl, ?_⟩
    refine ite2 (fun d => ?_) (fun d => ?_)
    · have d' : decide (((S t).length : Int) ≤ 4) = true := d
      rw [e2] at d'
      rw [d', Bool.true_and] at e1
      refine ⟨_, rfl, ⟨_, rfl⟩, _, rfl, rfl, trivial, _, rfl, ite2 (fun u => ?_) (fun u => fin _ _ s1 (by rw [e1, Bool.eq_false_iff.mpr u, Bool.false_and]))⟩
      refine ⟨_, rfl, ⟨_, rfl⟩, _, rfl, rfl, trivial, _, rfl, ite2 (fun v => ?_) (fun v => fin _ _ s1 (by rw [e1, u, Bool.eq_false_iff.mpr v, Bool.false_and, Bool.and_false]))⟩
      exact ⟨_, rfl, ⟨_, rfl⟩, _, rfl, rfl, trivial, fin _ _ s1 (by rw [e1, u, v, Bool.true_and, Bool.true_and])⟩
    · have d' : decide (((S t).length : Int) ≤ 4) = false := Bool.eq_false_iff.mpr d
      rw [e2] at d'
      exact fin _ _ s1 (by rw [e1, d', Bool.false_and])
/-! ### is_numeral -/
def spIsNum : Sp := fun vs H Q _ => ∃ t : Cs, vs = [.str (S t)] ∧ t.length ≤ 100000 ∧ Q (.bl (isNum t)) H
theorem sc_is_num : FnScope ["word"] ["word"] (defScope st_is_numeral) := ⟨rfl, rfl, rfl, by decide +kernel, rfl, by decide +kernel, by decide +kernel⟩
theorem digit_ne {t : Cs} (h : Txt.isdigit (S t) = true) : t ≠ [] := by
  rintro rfl
  exact absurd h (by decide +kernel)
theorem ok_is_num {f : Addr} {fd : FuncData} (F : Fun K "is_numeral" "is_numeral" st_is_numeral f fd) (T : Tx K w mg pS pC) : FnOk P w K mg base CX0 1 f fd ["word"] spIsNum := by
  refine F.ok sc_is_num (fun vs H Q E h => ?_) (fun cdv A outer s H vs Q E hr h => ?_)
  · obtain ⟨t, rfl, _⟩ := h
    rfl
  obtain ⟨t, rfl, ht, q⟩ := h
  refine ⟨_, pss_cons (ps_if (PW.pt (pw_or (pt_not (pt_val (pe_m0 PySem.F.slot_str_isascii PySem.F.type_str_isascii mt_isascii (pv 0)))) (pw_or1 (pt_not (pt_val (pe_m0 PySem.F.slot_str_isdigit PySem.F.type_str_isdigit mt_isdigit (pv 0))))))) (pss_one (ps_ret pe_bl)) pss_nil)
    (pss_one (ps_ret (pe_and (pe_cmpR op_le (pe_callB call_len (by rfl) T.len PySem.boot_len (pa_cons (pv 0) pa_nil)) pe_int (nomark _))
      (pe_one (pe_or (pe_cmpR op_eq (pv 0) pe_str (nomark _)) (pe_one (pe_cmpR op_ne (pe_item_str (pv 0) pe_int (fun _ _ => rfl)) pe_str (nomark _)))))))), ?_⟩
  have fin : ∀ b, b = isNum t → Q (.bl b) H := fun b e => e ▸ q
  have e2 : decide (((S t).length : Int) ≤ 4) = decide (t.length ≤ 4) := by rw [len_S]; exact decide_eq_decide.mpr (by omega)
  have z0 : S [48] = ("0" : Str) := by decide +kernel
  refine ⟨_, rfl, ⟨_, rfl⟩, _, rfl, rfl, trivial, _, rfl, ite2 (fun a => ?_) (fun a => ?_)⟩
  · have a' : Txt.isascii (S t) = false := by simpa using a
    exact fin _ (by unfold isNum; rw [a']; rfl)
  have a' : Txt.isascii (S t) = true := by simpa using a
  refine ⟨_, rfl, ⟨_, rfl⟩, _, rfl, rfl, trivial, _, rfl, ite2 (fun b => ?_) (fun b => ?_)⟩
  · have b' : Txt.isdigit (S t) = false := by simpa using b
    exact fin _ (by unfold isNum; rw [a', b']; rfl)
  have b' : Txt.isdigit (S t) = true := by simpa using b
  have e1 : isNum t = (decide (t.length ≤ 4) && (decide (t = [48]) || decide (t[0]? ≠ some 48))) := by unfold isNum; rw [a', b', Bool.true_and, Bool.true_and]
  refine ⟨_, rfl, _, _, rfl, ⟨lenS ht, rfl⟩, _, _, rfl, rfl, _, rfl, ?_⟩
  refine ite2 (fun d => ?_) (fun d => ?_)
  · have d' : decide (((S t).length : Int) ≤ 4) = true := d
    rw [e2] at d'
    rw [d', Bool.true_and] at e1
    refine ⟨_, rfl, rfl, _, rfl, ite2 (fun g => ?_) (fun g => ?_)⟩
    · have g' : t = [48] := by
        have := of_decide_eq_true g
        injection this with this
        rw [← z0] at this
        exact S_inj.mp this
      exact fin _ (by rw [e1, g']; rfl)
    · have g' : ¬ t = [48] := fun e => g (by rw [e, z0]; exact decide_eq_true rfl)
      obtain ⟨c, t', rfl⟩ : ∃ c t', t = c :: t' := by
        cases t with
        | nil => exact absurd rfl (digit_ne b')
        | cons c t' => exact ⟨c, t', rfl⟩
      refine ⟨_, rfl, S (c :: t'), 0, c, rfl, rfl, by decide, by decide, ?_, ?_, ?_⟩
      · rw [len_S]; simp only [List.length_cons]; omega
      · unfold S; simp
      · refine ⟨rfl, fin _ ?_⟩
        rw [e1, decide_eq_false g', Bool.false_or]
        have : (V.str ⟨#[c]⟩ = V.str ("0" : Str)) ↔ c = 48 := by
          rw [← z0]
          constructor
          · intro h; injection h with h; have h := S_inj.mp (show S [c] = S [48] from h); injection h
          · rintro rfl; rfl
        show (!decide (V.str ⟨#[c]⟩ = V.str ("0" : Str))) = _
        by_cases hc : c = 48
        · rw [decide_eq_true (this.mpr hc), hc]; rfl
        · rw [decide_eq_false (fun h => hc (this.mp h))]; simp [hc]
  · have d' : decide (((S t).length : Int) ≤ 4) = false := Bool.eq_false_iff.mpr d
    rw [e2] at d'
    exact fin _ (by rw [e1, d', Bool.false_and])
/-! ### _is_full -/
def cName (b : Bool) : Str := if b then "max" else "imax"
def spFull : Sp := fun vs H Q _ => ∃ (b : Bool) (n : Int), vs = [.str (cName b), .int n] ∧ Q (.bl (full b n)) H
theorem sc_full : FnScope ["call", "count"] ["call", "count"] (defScope st__is_full) := ⟨rfl, rfl, rfl, by decide +kernel, rfl, by decide +kernel, by decide +kernel⟩
theorem cName_max (b : Bool) : decide (V.str (cName b) = V.str ("max" : Str)) = b := by cases b <;> decide +kernel
theorem ok_full {f : Addr} {fd : FuncData} (F : Fun K "_is_full" "_is_full" st__is_full f fd) : FnOk P w K mg base CX0 1 f fd ["call", "count"] spFull := by
  refine F.ok sc_full (fun vs H Q E h => ?_) (fun cdv A outer s H vs Q E hr h => ?_)
  · obtain ⟨b, n, rfl, _⟩ := h
    rfl
  obtain ⟨b, n, rfl, q⟩ := h
  refine ⟨_, pss_one (ps_ret (pe_ifExp (pt_cmpR op_eq (pv 0) pe_str (nomark _)) (pe_cmpR op_ge (pv 1) pe_int (nomark _)) (pe_cmpR op_eq (pv 1) pe_int (nomark _)))), ?_⟩
  refine ⟨_, rfl, rfl, _, rfl, ?_⟩
  rw [cName_max b]
  cases b with
  | true => exact iteT ⟨_, rfl, _, _, rfl, rfl, q⟩
  | false =>
    refine iteF ⟨_, rfl, rfl, ?_⟩
    have e : decide (V.int n = V.int 2) = full false n := by
      unfold full
      exact decide_eq_decide.mpr ⟨fun h => by injection h, fun h => by rw [h]⟩
    show Q (.bl (decide (V.int n = V.int 2))) H
    rw [e]; exact q
/-! ### _leaf -/
def wName : W → Str
  | .level => "level"
  | .sign => "sign"
  | .number => "number"
theorem w_level (x : W) : decide (V.str (wName x) = V.str ("level" : Str)) = decide (x = .level) := by cases x <;> decide +kernel
theorem w_number (x : W) : decide (V.str (wName x) = V.str ("number" : Str)) = decide (x = .number) := by cases x <;> decide +kernel
theorem w_sign (x : W) : decide (V.str (wName x) = V.str ("sign" : Str)) = decide (x = .sign) := by cases x <;> decide +kernel
def sv : Stp → List V
  | .num k => [.str "number", .int k]
  | .nam s => [.str "name", .str (S s)]
  | .plus k => [.str "+", .int k]
  | .call b n => [.str (cName b), .int n]
def spLeaf : Sp := fun vs H Q _ => ∃ (t : Cs) (x : W), vs = [.str (S t), .str (wName x)] ∧ t.length ≤ 100000 ∧ (isNum t = true → ∃ n, PySem.intText? (S t) = some n) ∧
  (leaf t x = none → ∀ H', Same H H' → Q .non H') ∧ ∀ l, leaf t x = some l → ∀ H' p, Same H H' → H' p = some (.tup (sv l)) → Q (.ref p) H'
theorem sc_leaf : FnScope ["token", "wanted"] ["token", "wanted"] (defScope st__leaf) := ⟨rfl, rfl, rfl, by decide +kernel, rfl, by decide +kernel, by decide +kernel⟩
theorem ok_leaf {f fN fM : Addr} {fd fdN fdM : FuncData} (F : Fun K "_leaf" "_leaf" st__leaf f fd) (T : Tx K w mg pS pC) (GN : FnOk P w K mg base CX0 1 fN fdN ["thing"] spIsName) (bN : Binds K fdN ["thing"] []) (kN : PySem.W.keepIn K (.ref fN) = true) (mN : mg "is_name" = some (.ref fN))
    (GM : FnOk P w K mg base CX0 1 fM fdM ["word"] spIsNum) (bM : Binds K fdM ["word"] []) (kM : PySem.W.keepIn K (.ref fM) = true) (mM : mg "is_numeral" = some (.ref fM)) : FnOk P w K mg base CX0 2 f fd ["token", "wanted"] spLeaf := by
  refine F.ok sc_leaf (fun vs H Q E h => ?_) (fun cdv A outer s H vs Q E hr h => ?_)
  · obtain ⟨t, x, rfl, _⟩ := h
    rfl
  obtain ⟨t, x, rfl, ht, hnum, q0, q1⟩ := h
  refine ⟨_, pss_cons (ps_if (PW.pt (pw_and (pt_cmpR op_eq (pv 1) pe_str (nomark _)) (pw_and1 (pt_val (pe_call GN hr rfl mN kN bN .nil pass0 (pa_cons (pv 0) pa_nil)))))) (pss_one (ps_ret (pe_tup (pa_cons pe_str (pa_cons (pv 0) pa_nil))))) pss_nil)
    (pss_cons (ps_if (PW.pt (pw_and (pt_cmpR op_eq (pv 1) pe_str (nomark _)) (pw_and1 (pt_val (pe_call GM hr rfl mM kM bM .nil pass0 (pa_cons (pv 0) pa_nil)))))) (pss_one (ps_ret (pe_tup (pa_cons pe_str (pa_cons (pe_callTy call_int_str (by rfl) T.int (by decide +kernel) (pa_cons (pv 0) pa_nil)) pa_nil))))) pss_nil)
    (pss_cons (ps_if (PW.pt (pw_and (pt_cmpR op_eq (pv 1) pe_str (nomark _)) (pw_and1 (pt_val (pe_call GM hr rfl mM kM bM .nil pass0 (pa_cons (pv 0) pa_nil)))))) (pss_one (ps_ret (pe_tup (pa_cons pe_str (pa_cons (pe_callTy call_int_str (by rfl) T.int (by decide +kernel) (pa_cons (pv 0) pa_nil)) pa_nil))))) pss_nil)
    (pss_one (ps_ret pe_non)))), ?_⟩
  have none_ : leaf t x = none → ∀ H', Same H H' → Q .non H' := q0
  -- behind the three tests
  have num : ∀ (k : Str) (mk : Int → Stp), (∀ n, sv (mk n) = [.str k, .int n]) → isNum t = true → leaf t x = some (mk (valOf t)) → ∀ H1, Same H H1 → ∃ a n, [V.str (S t)] = [V.str a] ∧ PySem.intText? a = some n ∧ a.length ≤ 640 ∧
      (2 ≤ sizeLine ∧ ∀ p, H1 p = none → Q (.ref p) (upd H1 p (.tup [.str k, .int n]))) := fun k mk hmk hn hl H1 hs => by
    obtain ⟨n, e⟩ := hnum hn
    have l4 : t.length ≤ 4 := by
      unfold isNum at hn
      simp only [Bool.and_eq_true, decide_eq_true_eq] at hn
      exact hn.2.1
    have ev : valOf t = n := by unfold valOf; rw [e]; rfl
    refine ⟨S t, n, rfl, e, by rw [len_S]; omega, by decide, fun p np => ?_⟩
    refine q1 _ hl _ p (hs.trans (same_new np _)) ?_
    rw [upd_same, hmk, ev]
  cases x with
  | level =>
    refine ⟨_, rfl, rfl, _, rfl, ?_⟩
    rw [w_level]
    refine iteT ⟨_, rfl, t, rfl, ht, fun H1 s1 => ⟨_, rfl, ite2 (fun a => ?_) (fun a => ?_)⟩⟩
    · refine ⟨_, rfl, (by show 2 ≤ sizeLine; decide), fun p np => q1 (.nam t) ?_ _ p (s1.trans (same_new np _)) upd_same⟩
      unfold leaf; rw [a]; rfl
    · have a' : isName t = false := Bool.eq_false_iff.mpr a
      refine ⟨_, rfl, rfl, _, rfl, ?_⟩
      rw [w_level]
      refine iteT ⟨_, rfl, t, rfl, ht, _, rfl, ite2 (fun b => ?_) (fun b => ?_)⟩
      · exact ⟨_, rfl, num "number" .num (fun _ => rfl) b (by unfold leaf; rw [a', b]; rfl) H1 s1⟩
      · refine ⟨_, rfl, rfl, _, rfl, ?_⟩
        rw [w_number]
        refine iteF ?_
        exact q0 (by unfold leaf; rw [a', Bool.eq_false_iff.mpr b]; rfl) H1 s1
  | sign =>
    refine ⟨_, rfl, rfl, _, rfl, ?_⟩
    rw [w_level]
    refine iteF ⟨_, rfl, rfl, _, rfl, ?_⟩
    rw [w_level]
    refine iteF ⟨_, rfl, rfl, _, rfl, ?_⟩
    rw [w_number]
    exact iteF (q0 rfl H (Same.refl H))
  | number =>
    refine ⟨_, rfl, rfl, _, rfl, ?_⟩
    rw [w_level]
    refine iteF ⟨_, rfl, rfl, _, rfl, ?_⟩
    rw [w_level]
    refine iteF ⟨_, rfl, rfl, _, rfl, ?_⟩
    rw [w_number]
    refine iteT ⟨_, rfl, t, rfl, ht, _, rfl, ite2 (fun b => ?_) (fun b => ?_)⟩
    · exact ⟨_, rfl, num "+" .plus (fun _ => rfl) b (by unfold leaf; rw [b]; rfl) H (Same.refl H)⟩
    · exact q0 (by unfold leaf; rw [Bool.eq_false_iff.mpr b]; rfl) H (Same.refl H)
end
end Pg
/-! Pg2 -/
set_option Elab.async false
set_option linter.all false
set_option maxRecDepth 100000
set_option maxHeartbeats 2000000
namespace Pg
open PySem L2 Mr
theorem tl_S (z : Cs) : TL.tl (S z) = z := rfl
theorem sw (z g : Cs) (n : Nat) (hg : g ≠ []) : Txt.startswith3 (S z) (S g) (n : Int) = g.isPrefixOf (z.drop n) := by
  have hi : fromIndex (S z).length (n : Int) = n := by
    unfold fromIndex
    rw [if_neg (by omega)]
    omega
  have h1 : Txt.startswith3 (S z) (S g) (n : Int) = true ↔ TL.pre g (z.drop n) = true := by
    show _ ↔ TL.pre (TL.tl (S g)) ((TL.tl (S z)).drop n) = true
    rw [← TL.at_iff (x := S z) (y := S g) hg n]
    unfold Txt.startswith3
    rw [hi, Bool.and_eq_true, decide_eq_true_eq]
    exact Iff.rfl
  have h2 : TL.pre g (z.drop n) = true ↔ g.isPrefixOf (z.drop n) = true := by
    rw [List.isPrefixOf_iff_prefix, List.prefix_iff_eq_take]
    unfold TL.pre
    rw [beq_iff_eq]
    exact eq_comm
  exact Bool.eq_iff_iff.mpr (h1.trans h2)
theorem alnum1 (c : Nat) : Txt.isalnum ⟨#[c]⟩ = isAl c := by
  unfold Txt.isalnum isAl Str.length
  simp
theorem cut_S (z : Cs) (a b : Nat) (h : a ≤ b) (hb : b ≤ z.length) : cutS (S z) (some (a : Int)) (some (b : Int)) = S ((z.drop a).take (b - a)) := by
  unfold cutS
  rw [HT.sIx_nat, HT.sIx_nat, len_S, Nat.min_eq_left (show a ≤ z.length by omega), Nat.min_eq_left hb]
  rfl
section
variable {P : Program} {w : World} {K : PySem.W.Frag} {mg : Str → Option Value} {base : Heap} {pS pC : Addr}
/-! ### _token_at -/
def spTokAt : Sp := fun vs H Q _ => ∃ (z : Cs) (n : Nat), vs = [.str (S z), .int n] ∧ n ≤ z.length ∧ z.length ≤ 100000 ∧ Q (.str (S (tokAt (z.drop n)))) H
theorem sc_tokAt : FnScope ["text", "at", "sign", "end"] ["text", "at"] (defScope st__token_at) := ⟨rfl, rfl, rfl, by decide +kernel, rfl, by decide +kernel, by decide +kernel⟩
theorem sign_at {i : Nat} {x : V} (h : (signs.map fun g => V.str (S g))[i]? = some x) : ∃ g, signs[i]? = some g ∧ x = .str (S g) := by
  rw [List.getElem?_map] at h
  cases e : signs[i]? with
  | none => rw [e] at h; cases h
  | some g => rw [e] at h; exact ⟨g, rfl, (Option.some.inj h).symm⟩
theorem find_at : ∀ (l : List Cs) (p : Cs → Bool) (i : Nat) (g : Cs), l[i]? = some g → p g = true → (∀ j g', j < i → l[j]? = some g' → p g' = false) → l.find? p = some g
  | [], _, _, _, h, _, _ => by cases h
  | a :: l, p, 0, g, h, hp, _ => by
    cases h
    rw [List.find?_cons, hp]
  | a :: l, p, i + 1, g, h, hp, hn => by
    rw [List.find?_cons, hn 0 a (Nat.succ_pos _) rfl]
    exact find_at l p i g h hp fun j g' hj e => hn (j + 1) g' (Nat.succ_lt_succ hj) e
theorem take_while_stop {p : Nat → Bool} : ∀ (l : Cs) (k : Nat), k ≤ l.length → (∀ j, j < k → ∀ c, l[j]? = some c → p c = true) → (∀ c, l[k]? = some c → p c = false) → l.takeWhile p = l.take k
  | [], k, h, _, _ => by simp
  | c :: l, 0, _, _, hs => by rw [List.takeWhile_cons, hs c rfl]; rfl
  | c :: l, k + 1, h, hk, hs => by
    rw [List.takeWhile_cons, hk 0 (Nat.succ_pos _) c rfl, if_pos rfl, List.take_succ_cons, take_while_stop l k (by simpa using h) (fun j hj d e => hk (j + 1) (Nat.succ_lt_succ hj) d e) fun d e => hs d e]
def wTok (z : Cs) (n : Nat) (H0 : Hp) (m : Nat) (σ' : L2.St) (H2 : Hp) : Prop := ∃ k, m = z.length - (n + k) ∧ n + k ≤ z.length ∧ H2 = H0 ∧ (∃ u, σ' = [some (.str (S z)), some (.int n), u, some (.int ((n + k : Nat) : Int))]) ∧ ∀ (j : Nat), j < k → ∀ (c : Nat), (z.drop n)[j]? = some c → isAl c = true
theorem ok_tokAt {f : Addr} {fd : FuncData} (F : Fun K "_token_at" "_token_at" st__token_at f fd) (T : Tx K w mg pS pC) : FnOk P w K mg base CX0 1 f fd ["text", "at"] spTokAt := by
  refine F.ok sc_tokAt (fun vs H Q E h => ?_) (fun cdv A outer s H vs Q E hr h => ?_)
  · obtain ⟨z, n, rfl, _⟩ := h
    rfl
  obtain ⟨z, n, rfl, hn, hz, q⟩ := h
  refine ⟨_, pss_cons (ps_for PassesOwn.never rfl (pi_tup (pe_glob (v := .ref pS) (by rfl) T.mS rfl)) (pg_name (i := 2) sc_tokAt.nd rfl (.inl rfl))
      (pss_one (ps_if (pt_val (pe_bm PySem.F.plainAttrs_str PySem.F.slot_str_startswith PySem.F.type_str_startswith mt_startswith3 (pv 0) (pa_cons (pv 2) (pa_cons (pv 1) pa_nil)))) (pss_one (ps_ret (pv 2))) pss_nil)))
    (pss_cons (ps_set (i := 3) sc_tokAt.nd rfl (.inl rfl) (pv 1))
    (pss_cons (ps_while PassesOwn.never (PW.pt (pw_and (pt_cmpR op_lt (pv 3) (pe_callB call_len (by rfl) T.len PySem.boot_len (pa_cons (pv 0) pa_nil)) (nomark _)) (pw_and1 (pt_val (pe_m0 PySem.F.slot_str_isalnum PySem.F.type_str_isalnum mt_isalnum (pe_item_str (pv 0) (pv 3) (fun _ _ => rfl)))))))
      (pss_one (ps_aug (i := 3) sc_tokAt.nd rfl (.inl rfl) pe_int ip_add)))
    (pss_one (ps_ret (pe_slice sl_str (pv 0) (po_some (pv 1)) (po_some (pv 3))))))), ?_⟩
  have hS := T.tS H
  refine ⟨pS, rfl, ⟨_, T.tS _⟩, for_tup (K := K) (a := pS) (xs := signs.map fun g => V.str (S g)) (fun i σ H' => H' = H ∧ (∃ v, σ = [some (.str (S z)), some (.int n), v, none]) ∧ ∀ j g, j < i → signs[j]? = some g → g.isPrefixOf (z.drop n) = false)
    ⟨rfl, ⟨_, rfl⟩, fun j g hj => absurd hj (Nat.not_lt_zero _)⟩ (fun i σ H' _ _ => T.tS H') ?_ ?_⟩
  · rintro i x σ H' hi ⟨rfl, ⟨v, rfl⟩, hno⟩
    obtain ⟨g, hg, rfl⟩ := sign_at hi
    have gm : g ∈ signs := List.mem_of_getElem? hg
    refine ⟨_, rfl, rfl, _, rfl, _, rfl, S z, S g, n, rfl, rfl, _, rfl, ?_⟩
    rw [sw z g n (sign_ne gm)]
    refine ite2 (fun c => ?_) (fun c => ?_)
    · refine ⟨_, rfl, ?_⟩
      have e : tokAt (z.drop n) = g := by
        unfold tokAt
        rw [find_at signs (fun g => g.isPrefixOf (z.drop n)) i g hg c fun j g' hj e => hno j g' hj e]
      rw [← e]
      exact q
    · refine ⟨rfl, ⟨_, rfl⟩, fun j g' hj e => ?_⟩
      by_cases hji : j = i
      · subst hji
        rw [hg] at e; cases e
        exact Bool.eq_false_iff.mpr c
      · exact hno j g' (by omega) e
  · rintro σ H' ⟨rfl, ⟨v, rfl⟩, hno⟩
    have none_ : signs.find? (fun g => g.isPrefixOf (z.drop n)) = none := by
      rw [List.find?_eq_none]
      intro g hg
      obtain ⟨j, e⟩ := List.getElem?_of_mem hg
      rw [hno j g (by rw [List.length_map]; exact (List.getElem?_eq_some_iff.mp e).1) e]
      exact Bool.false_ne_true
    have tk : tokAt (z.drop n) = (z.drop n).takeWhile isAl := by unfold tokAt; rw [none_]
    refine ⟨_, rfl, ?_⟩
    refine ⟨wTok z n H',
      ⟨_, 0, rfl, by omega, rfl, ⟨_, rfl⟩, fun j hj => absurd hj (Nat.not_lt_zero _)⟩, ?_⟩
    rintro m σ' H2 ⟨k, rfl, hk, rfl, ⟨u, rfl⟩, hal⟩
    have fin : (∀ c, (z.drop n)[k]? = some c → isAl c = false) → S (tokAt (z.drop n)) = cutS (S z) (some (n : Int)) (some ((n + k : Nat) : Int)) := fun hs => by
      rw [tk, take_while_stop (z.drop n) k (by rw [List.length_drop]; omega) hal hs, cut_S z n (n + k) (by omega) hk, Nat.add_sub_cancel_left]
    refine ⟨_, rfl, _, rfl, _, _, rfl, ⟨lenS hz, rfl⟩, _, _, rfl, rfl, _, rfl, ite2 (fun c => ?_) (fun c => ?_)⟩
    · have c' : ((n + k : Nat) : Int) < ((S z).length : Int) := of_decide_eq_true c
      rw [len_S] at c'
      have lt : n + k < z.length := by omega
      have hc : (z.drop n)[k]? = some z[n + k] := by rw [List.getElem?_drop, List.getElem?_eq_getElem lt]
      refine ⟨_, rfl, _, rfl, S z, _, z[n + k], rfl, rfl, by omega, by omega, (by rw [len_S]; omega), ?_, ⟨_, rfl⟩, _, rfl, rfl, trivial, _, rfl, ?_⟩
      · rw [Int.toNat_natCast]; unfold S; simp [lt]
      rw [alnum1]
      refine ite2 (fun d => ?_) (fun d => ?_)
      · refine ⟨fun σ3 H3 => ∃ m', m' < z.length - (n + k) ∧ wTok z n H2 m' σ3 H3, fun _ _ h => h, _, rfl, _, _, rfl, rfl, ⟨z.length - (n + (k + 1)), by omega, k + 1, rfl, by omega, rfl, ⟨u, rfl⟩, fun j hj c' e => ?_⟩⟩
        by_cases hjk : j = k
        · subst hjk; rw [hc] at e; cases e; exact d
        · exact hal j (by omega) c' e
      · refine ⟨_, rfl, _, rfl, _, rfl, _, rfl, _, rfl, _, rfl, lenS hz, ?_⟩
        rw [← fin fun c' e => by rw [hc] at e; cases e; exact Bool.eq_false_iff.mpr d]
        exact q
    · have c' : ¬ ((n + k : Nat) : Int) < ((S z).length : Int) := fun h => c (decide_eq_true h)
      rw [len_S] at c'
      refine iteF ⟨_, rfl, _, rfl, _, rfl, _, rfl, _, rfl, _, rfl, lenS hz, ?_⟩
      rw [← fin fun c' e => by rw [List.getElem?_drop, List.getElem?_eq_none (by omega)] at e; cases e]
      exact q
end
end Pg
/-! Nt -/
set_option maxRecDepth 100000
set_option maxHeartbeats 2000000
namespace Mr
open PySem
theorem dig1 : ∀ a : Fin 10, (PySem.intText? (S [48 + a.val])).isSome = true := by decide +kernel
theorem dig2 : ∀ a b : Fin 10, (PySem.intText? (S [48 + a.val, 48 + b.val])).isSome = true := by decide +kernel
theorem dig3 : ∀ a b c : Fin 10, (PySem.intText? (S [48 + a.val, 48 + b.val, 48 + c.val])).isSome = true := by decide +kernel
theorem dig4 : ∀ a b c d : Fin 10, (PySem.intText? (S [48 + a.val, 48 + b.val, 48 + c.val, 48 + d.val])).isSome = true := by decide +kernel
theorem dig_asc : ∀ c : Fin 128, Unicode.isDigit c.val = true → 48 ≤ c.val ∧ c.val < 58 := by decide +kernel
theorem dig_of {c : Nat} (h1 : c < 128) (h2 : Unicode.isDigit c = true) : ∃ a : Fin 10, c = 48 + a.val := by
  have l : 48 ≤ c := (dig_asc ⟨c, h1⟩ h2).1
  have u : c < 58 := (dig_asc ⟨c, h1⟩ h2).2
  exact ⟨⟨c - 48, by omega⟩, by show c = 48 + (c - 48); omega⟩
theorem num_text {t : Cs} (h : isNum t = true) : ∃ n, PySem.intText? (S t) = some n := by
  unfold isNum at h
  simp only [Bool.and_eq_true, decide_eq_true_eq] at h
  obtain ⟨⟨ha, hd⟩, hl, _⟩ := h
  have a : ∀ c ∈ t, c < 128 := by
    unfold Txt.isascii S at ha
    rw [List.all_toArray, List.all_eq_true] at ha
    exact fun c hc => of_decide_eq_true (ha c hc)
  unfold Txt.isdigit S at hd
  rw [Bool.and_eq_true, List.all_toArray, List.all_eq_true] at hd
  have d : ∀ c ∈ t, ∃ a : Fin 10, c = 48 + a.val := fun c hc => dig_of (a c hc) (hd.2 c hc)
  have some_ : ∀ o : Option Int, o.isSome = true → ∃ n, o = some n := fun o h => Option.isSome_iff_exists.mp h
  match t, hl, d, hd.1 with
  | [], _, _, h0 => exact absurd h0 (by decide)
  | [c1], _, d, _ =>
    obtain ⟨a1, rfl⟩ := d c1 (by simp)
    exact some_ _ (dig1 a1)
  | [c1, c2], _, d, _ =>
    obtain ⟨a1, rfl⟩ := d c1 (by simp)
    obtain ⟨a2, rfl⟩ := d c2 (by simp)
    exact some_ _ (dig2 a1 a2)
  | [c1, c2, c3], _, d, _ =>
    obtain ⟨a1, rfl⟩ := d c1 (by simp)
    obtain ⟨a2, rfl⟩ := d c2 (by simp)
    obtain ⟨a3, rfl⟩ := d c3 (by simp)
    exact some_ _ (dig3 a1 a2 a3)
  | [c1, c2, c3, c4], _, d, _ =>
    obtain ⟨a1, rfl⟩ := d c1 (by simp)
    obtain ⟨a2, rfl⟩ := d c2 (by simp)
    obtain ⟨a3, rfl⟩ := d c3 (by simp)
    obtain ⟨a4, rfl⟩ := d c4 (by simp)
    exact some_ _ (dig4 a1 a2 a3 a4)
  | _ :: _ :: _ :: _ :: _ :: _, hl, _, _ => simp only [List.length_cons] at hl; omega
theorem tokAt_len (r : Cs) : (tokAt r).length ≤ r.length := by
  unfold tokAt
  split
  · rename_i g e
    have := List.find?_some e
    exact (List.isPrefixOf_iff_prefix.mp this).length_le
  · exact (List.takeWhile_prefix _).length_le
theorem toks_eq (r : Cs) : toks r = if r.isEmpty then some [] else if (tokAt r).isEmpty then none else (toks (r.drop (tokAt r).length)).map (tokAt r :: ·) := by
  by_cases c : r.isEmpty = true
  · rw [if_pos c]
    have e : r = [] := List.isEmpty_iff.mp c
    subst e; rfl
  · rw [if_neg c]
    have l0 : 0 < r.length := List.length_pos_iff.mpr fun e => c (by rw [e]; rfl)
    have e : toks r = toksF ((r.length - 1) + 1) r := by unfold toks; congr 1; omega
    rw [e]
    unfold toksF
    rw [if_neg c]
    by_cases d : (tokAt r).isEmpty = true
    · rw [if_pos d, if_pos d]
    · rw [if_neg d, if_neg d]
      have l1 : 0 < (tokAt r).length := List.length_pos_iff.mpr fun e => d (by rw [e]; rfl)
      have hf : toksF (r.length - 1) (r.drop (tokAt r).length) = toks (r.drop (tokAt r).length) := toksF_fuel _ _ _ (by rw [List.length_drop]; omega) (Nat.le_refl _)
      rw [hf]
end Mr
/-! Pg3 -/
set_option Elab.async false
set_option linter.all false
set_option maxRecDepth 100000
set_option maxHeartbeats 4000000
namespace Pg
open PySem L2 Mr
abbrev tv (t : Cs) : V := .str (S t)
theorem toks_small : ∀ (n : Nat) (r : Cs) (ts : List Cs), toksF n r = some ts → ts.length ≤ r.length ∧ ∀ t ∈ ts, t.length ≤ r.length
  | 0, r, ts, h => by
    unfold toksF at h
    split at h
    · cases h; exact ⟨Nat.zero_le _, fun _ z => absurd z List.not_mem_nil⟩
    · cases h
  | n + 1, r, ts, h => by
    unfold toksF at h
    split at h
    · cases h; exact ⟨Nat.zero_le _, fun _ z => absurd z List.not_mem_nil⟩
    · split at h
      · cases h
      · rename_i c d
        obtain ⟨us, e, rfl⟩ := Option.map_eq_some_iff.mp h
        have l1 : 0 < (tokAt r).length := List.length_pos_iff.mpr fun e => d (by rw [e]; rfl)
        have l2 := tokAt_len r
        obtain ⟨i1, i2⟩ := toks_small n _ us e
        rw [List.length_drop] at i1 i2
        refine ⟨by rw [List.length_cons]; omega, fun t ht => ?_⟩
        rcases List.mem_cons.mp ht with rfl | ht
        · exact l2
        · exact Nat.le_trans (i2 t ht) (by omega)
section
variable {P : Program} {w : World} {K : PySem.W.Frag} {mg : Str → Option Value} {base : Heap} {pS pC : Addr}
/-! ### tokens_of -/
def spToks : Sp := fun vs H Q _ => ∃ z : Cs, vs = [tv z] ∧ z.length ≤ 100000 ∧ (toks z = none → ∀ H', Same H H' → Q .non H') ∧ ∀ ts, toks z = some ts → ∀ H' p, Same H H' → H p = none → H' p = some (.lst (ts.map tv)) → Q (.ref p) H'
theorem sc_toks : FnScope ["text", "tokens", "at", "token"] ["text"] (defScope st_tokens_of) := ⟨rfl, rfl, rfl, by decide +kernel, rfl, by decide +kernel, by decide +kernel⟩
def wToks (z : Cs) (H0 : Hp) (p : Addr) (m : Nat) (σ' : L2.St) (H2 : Hp) : Prop := ∃ (n : Nat) (acc : List Cs) (u : Option V), m = z.length - n ∧ n ≤ z.length ∧ acc.length ≤ n ∧ σ' = [some (tv z), some (.ref p), some (.int n), u] ∧ Same H0 H2 ∧ H2 p = some (.lst (acc.map tv)) ∧
  toks z = (toks (z.drop n)).map (acc ++ ·)
theorem ok_toks {f fA : Addr} {fd fdA : FuncData} (F : Fun K "tokens_of" "tokens_of" st_tokens_of f fd) (T : Tx K w mg pS pC) (GA : FnOk P w K mg base CX0 1 fA fdA ["text", "at"] spTokAt) (bA : Binds K fdA ["text", "at"] []) (kA : PySem.W.keepIn K (.ref fA) = true) (mA : mg "_token_at" = some (.ref fA)) :
    FnOk P w K mg base CX0 2 f fd ["text"] spToks := by
  refine F.ok sc_toks (fun vs H Q E h => ?_) (fun cdv A outer s H vs Q E hr h => ?_)
  · obtain ⟨z, rfl, _⟩ := h
    rfl
  obtain ⟨z, rfl, hz, q0, q1⟩ := h
  refine ⟨_, pss_cons (ps_set (i := 1) sc_toks.nd rfl (.inl rfl) (pe_lst pa_nil)) (pss_cons (ps_set (i := 2) sc_toks.nd rfl (.inl rfl) pe_int)
    (pss_cons (ps_while PassesOwn.never (pt_cmpR op_lt (pv 2) (pe_callB call_len (by rfl) T.len PySem.boot_len (pa_cons (pv 0) pa_nil)) (nomark _))
      (pss_cons (ps_set (i := 3) sc_toks.nd rfl (.inl rfl) (pe_call GA hr rfl mA kA bA .nil pass0 (pa_cons (pv 0) (pa_cons (pv 2) pa_nil))))
      (pss_cons (ps_if (pt_cmpR op_eq (pv 3) pe_str (nomark _)) (pss_one (ps_ret pe_non)) pss_nil)
      (pss_cons (ps_expr (pe_bm PySem.F.plainAttrs_list PySem.F.slot_list_append PySem.F.type_list_append mt_append (pv 1) (pa_cons (pv 3) pa_nil)))
      (pss_one (ps_aug (i := 2) sc_toks.nd rfl (.inl rfl) (pe_callB call_len (by rfl) T.len PySem.boot_len (pa_cons (pv 3) pa_nil)) ip_add))))))
    (pss_one (ps_ret (pv 1))))), ?_⟩
  refine ⟨Nat.zero_le _, fun p np => ⟨wToks z H p, ⟨_, 0, [], none, rfl, Nat.zero_le _, Nat.le_refl _, rfl, same_new np _, upd_same, ?_⟩, ?_⟩⟩
  · rw [List.drop_zero]; cases toks z <;> rfl
  rintro m σ' H2 ⟨n, acc, u, rfl, hn, ha, rfl, sm, hp, ht⟩
  refine ⟨_, rfl, _, rfl, _, _, rfl, ⟨lenS hz, rfl⟩, _, _, rfl, rfl, _, rfl, ite2 (fun c => ?_) (fun c => ?_)⟩
  · have c' : (n : Int) < ((S z).length : Int) := of_decide_eq_true c
    rw [len_S] at c'
    have ne : (z.drop n).isEmpty = false := by
      cases e : z.drop n with
      | nil => have := congrArg List.length e; rw [List.length_drop] at this; simp at this; omega
      | cons => rfl
    have te := toks_eq (z.drop n)
    rw [ne] at te
    simp only [Bool.false_eq_true, if_false] at te
    have tl := tokAt_len (z.drop n)
    rw [List.length_drop] at tl
    refine ⟨fun σ3 H3 => ∃ m', m' < z.length - n ∧ wToks z H p m' σ3 H3, fun _ _ h => h, _, rfl, _, rfl, z, n, rfl, hn, hz, _, rfl, rfl, _, rfl, ?_⟩
    have ee : decide (V.str (S (tokAt (z.drop n))) = V.str ("" : Str)) = (tokAt (z.drop n)).isEmpty := by
      have e0 : S [] = ("" : Str) := by decide +kernel
      rw [← e0]
      cases e : tokAt (z.drop n) with
      | nil => exact decide_eq_true rfl
      | cons a b => exact decide_eq_false fun h => by injection h with h; have := S_inj.mp h; cases this
    rw [ee]
    refine ite2 (fun d => ?_) (fun d => ?_)
    · rw [if_pos d] at te
      rw [te] at ht
      exact q0 ht H2 sm
    · rw [if_neg d, List.drop_drop] at te
      have l1 : 0 < (tokAt (z.drop n)).length := List.length_pos_iff.mpr fun e => d (by rw [e]; rfl)
      refine ⟨_, rfl, .inl ⟨rfl, _, SqL.of hp⟩, _, rfl, p, _, _, rfl, rfl, hp, ?_, ?_⟩
      · rw [List.length_map]; exact Nat.lt_of_le_of_lt (Nat.le_trans ha (Nat.le_trans hn hz)) (by decide)
      refine ⟨_, rfl, _, rfl, _, _, rfl, ⟨lenS (Nat.le_trans tl (by omega)), rfl⟩, _, _, rfl, rfl, z.length - (n + (tokAt (z.drop n)).length), by omega, n + (tokAt (z.drop n)).length, acc ++ [tokAt (z.drop n)], some (tv (tokAt (z.drop n))), rfl, by omega, by rw [List.length_append, List.length_singleton]; omega, ?_, ?_, ?_, ?_⟩
      · show [_, _, some (V.int ((n : Int) + ((S (tokAt (z.drop n))).length : Int))), _] = _
        rw [len_S, ← Int.natCast_add]
      · exact fun b o e => by rw [upd_ne (ne_of_none e np)]; exact sm b o e
      · rw [List.map_append]; exact upd_same
      · rw [ht, te, Option.map_map]
        congr 1
        funext x
        simp [Function.comp]
  · have c' : ¬ (n : Int) < ((S z).length : Int) := fun h => c (decide_eq_true h)
    rw [len_S] at c'
    have e : z.drop n = [] := List.drop_eq_nil_of_le (by omega)
    rw [e] at ht
    refine ⟨_, rfl, q1 acc (by rw [ht]; show some (acc ++ []) = _; rw [List.append_nil]) H2 p sm np hp⟩
end
end Pg
/-! Pg4 -/
set_option Elab.async false
set_option linter.all false
set_option maxRecDepth 100000
set_option maxHeartbeats 4000000
namespace Pg
open PySem L2 Mr
theorem mtext (b : Bool) : S (opn b) = (if b then ("max(" : Str) else "imax(") := by cases b <;> decide +kernel
theorem tok_eq {t g : Cs} {x : Str} (h : S g = x) : decide (V.str (S t) = V.str x) = decide (t = g) := by
  rw [← h]
  exact decide_eq_decide.mpr ⟨fun e => by injection e with e; exact S_inj.mp e, fun e => by rw [e]⟩
theorem xPlus : S cPlus = (" + " : Str) := by decide +kernel
theorem xSep : S cSep = (", " : Str) := by decide +kernel
theorem xEnd : S cEnd = (")" : Str) := by decide +kernel
def calls0 : List (Str × V) := [("max(", .str "max"), ("imax(", .str "imax")]
theorem look_max : Sx.lookD calls0 (S cMax) = some (.str (cName true)) := by decide +kernel
theorem look_imax : Sx.lookD calls0 (S cImax) = some (.str (cName false)) := by decide +kernel
theorem look_other {t : Cs} (h1 : t ≠ cMax) (h2 : t ≠ cImax) : Sx.lookD calls0 (S t) = none := by
  have e1 : S cMax = ("max(" : Str) := mtext true
  have e2 : S cImax = ("imax(" : Str) := mtext false
  unfold Sx.lookD calls0
  rw [List.find?_cons, ← e1, ← e2, decide_eq_false (fun e => h1 (S_inj.mp e).symm), List.find?_cons, decide_eq_false (fun e => h2 (S_inj.mp e).symm)]
  rfl
/-- the steps ss stand in tuples at as -/
def StepsAt (H : Hp) (as : List Addr) (ss : List Stp) : Prop := Paired (fun a s => H a = some (.tup (sv s))) as ss
theorem StepsAt.mono {H H' : Hp} : ∀ {as : List Addr} {ss : List Stp}, StepsAt H as ss → (∀ a xs, H a = some (.tup xs) → H' a = some (.tup xs)) → StepsAt H' as ss
  | _, _, .nil, _ => .nil
  | _, _, .cons h r, k => .cons (k _ _ h) (StepsAt.mono r k)
theorem StepsAt.snoc {H : Hp} {a : Addr} {s : Stp} (h : H a = some (.tup (sv s))) : ∀ {as : List Addr} {ss : List Stp}, StepsAt H as ss → StepsAt H (as ++ [a]) (ss ++ [s])
  | _, _, .nil => .cons h .nil
  | _, _, .cons g r => .cons g (StepsAt.snoc h r)
theorem StepsAt.len {H : Hp} {as : List Addr} {ss : List Stp} (h : StepsAt H as ss) : as.length = ss.length := Paired.length h
/-- what stands before a turn of the loop -/
structure Sr (K : PySem.W.Frag) (H0 : Hp) (ts : List Cs) (pT p1 p2 p3 : Addr) (v0 : V) (i : Nat) (σ : L2.St) (H : Hp) (p : PSt) (as : List Addr) : Prop where
  sm : Same H0 H
  run : parse ⟨[], [], .level⟩ (ts.take i) = some p
  hT : H pT = some (.lst (ts.map tv))
  h1 : H p1 = some (.lst (as.map V.ref))
  h2 : H p2 = some (.lst (p.st.reverse.map fun x => .str (cName x.1)))
  h3 : H p3 = some (.lst (p.st.reverse.map fun x => .int x.2))
  st : StepsAt H as p.ss
  l1 : p.ss.length ≤ i
  l2 : p.st.length ≤ i
  sl : ∃ u l, σ = [some v0, some (.ref pT), some (.ref p1), some (.ref p2), some (.ref p3), some (.str (wName p.w)), u, l]
theorem parse_none {q : PSt} {ts : List Cs} {i : Nat} {t : Cs} {p : PSt} (h : parse q (ts.take i) = some p) (ht : ts[i]? = some t) (hn : turn p t = none) : parse q ts = none := by
  have lt := (List.getElem?_eq_some_iff.mp ht).1
  have e : ts = ts.take i ++ t :: ts.drop (i + 1) := by
    have := (List.getElem?_eq_some_iff.mp ht).2
    rw [← this, ← List.drop_eq_getElem_cons lt, List.take_append_drop]
  rw [e, parse_append, h]
  show parse p (t :: _) = none
  unfold parse
  rw [hn]
theorem parse_more {q : PSt} {ts : List Cs} {i : Nat} {t : Cs} {p r : PSt} (h : parse q (ts.take i) = some p) (ht : ts[i]? = some t) (hn : turn p t = some r) : parse q (ts.take (i + 1)) = some r := by
  have lt := (List.getElem?_eq_some_iff.mp ht).1
  have e : ts.take (i + 1) = ts.take i ++ [t] := by rw [List.take_succ, ht]; rfl
  rw [e, parse_append, h]
  show parse p [t] = _
  rw [parse_step hn]
  rfl
theorem upd_none {H : Hp} {p q : Addr} {o : HO} (h : upd H p o q = none) : q ≠ p ∧ H q = none := by
  by_cases e : q = p
  · rw [e, upd_same] at h; cases h
  · rw [upd_ne e] at h; exact ⟨e, h⟩
theorem tup_keep {H : Hp} {p : Addr} {xs ys : List V} (h : H p = some (.lst xs)) : ∀ a zs, H a = some (.tup zs) → upd H p (.lst ys) a = some (.tup zs) := fun a zs e => by
  rw [upd_ne (ne_of e h (by intro z; cases z))]; exact e
theorem same_mut {H0 H : Hp} {p : Addr} {o : HO} (s : Same H0 H) (n : H0 p = none) : Same H0 (upd H p o) := fun b u e => by
  rw [upd_ne (ne_of_none e n)]; exact s b u e
theorem big {n : Nat} (h : n ≤ 100000) : n < sizeLine := Nat.lt_of_le_of_lt h (by decide)
/-- three lists that stand apart -/
structure Apart (H0 : Hp) (pT p1 p2 p3 : Addr) : Prop where
  n1 : H0 p1 = none
  n2 : H0 p2 = none
  n3 : H0 p3 = none
  t1 : pT ≠ p1
  t2 : pT ≠ p2
  t3 : pT ≠ p3
  d12 : p1 ≠ p2
  d13 : p1 ≠ p3
  d23 : p2 ≠ p3
theorem Sr.same {K : PySem.W.Frag} {H0 H H' : Hp} {ts : List Cs} {pT p1 p2 p3 : Addr} {v0 : V} {i : Nat} {σ : L2.St} {p : PSt} {as : List Addr} (R : Sr K H0 ts pT p1 p2 p3 v0 i σ H p as) (s : Same H H') {σ' : L2.St}
    (sl : ∃ u l, σ' = [some v0, some (.ref pT), some (.ref p1), some (.ref p2), some (.ref p3), some (.str (wName p.w)), u, l]) : Sr K H0 ts pT p1 p2 p3 v0 i σ' H' p as :=
  ⟨R.sm.trans s, R.run, s _ _ R.hT, s _ _ R.h1, s _ _ R.h2, s _ _ R.h3, R.st.mono fun a xs e => s a _ e, R.l1, R.l2, sl⟩
section
variable {P : Program} {w : World} {K : PySem.W.Frag} {mg : Str → Option Value} {base : Heap} {pS pC : Addr}
/-! ### steps_of -/
def spSteps (K : PySem.W.Frag) : Sp := fun vs H Q _ => ∃ v : V, vs = [v] ∧
  ((∃ z : Cs, v = tv z ∧ z.length ≤ 100000 ∧ (stepsOf z = none → ∀ H', Same H H' → Q .non H') ∧ ∀ ss, stepsOf z = some ss → ss.length ≤ z.length → ∀ H' p as, Same H H' → H' p = some (.tup (as.map V.ref)) → StepsAt H' as ss → Q (.ref p) H') ∨
   (∃ ty : String, TyX K H v (.type ty) ∧ kitB ty "str" = some false ∧ ∀ H', Same H H' → Q .non H'))
theorem sc_steps : FnScope ["thing", "tokens", "steps", "calls", "counts", "wanted", "token", "leaf"] ["thing"] (defScope st_steps_of) := ⟨rfl, rfl, rfl, by decide +kernel, rfl, by decide +kernel, by decide +kernel⟩
theorem ok_steps {f fT fL fF : Addr} {fd fdT fdL fdF : FuncData} (F : Fun K "steps_of" "steps_of" st_steps_of f fd) (T : Tx K w mg pS pC)
    (GT : FnOk P w K mg base CX0 2 fT fdT ["text"] spToks) (bT : Binds K fdT ["text"] []) (kT : PySem.W.keepIn K (.ref fT) = true) (mT : mg "tokens_of" = some (.ref fT))
    (GL : FnOk P w K mg base CX0 2 fL fdL ["token", "wanted"] spLeaf) (bL : Binds K fdL ["token", "wanted"] []) (kL : PySem.W.keepIn K (.ref fL) = true) (mL : mg "_leaf" = some (.ref fL))
    (GF : FnOk P w K mg base CX0 1 fF fdF ["call", "count"] spFull) (bF : Binds K fdF ["call", "count"] []) (kF : PySem.W.keepIn K (.ref fF) = true) (mF : mg "_is_full" = some (.ref fF)) :
    FnOk P w K mg base CX0 3 f fd ["thing"] (spSteps K) := by
  refine F.ok sc_steps (fun vs H Q E h => ?_) (fun cdv A outer s H vs Q E hr h => ?_)
  · obtain ⟨v, rfl, _⟩ := h
    rfl
  obtain ⟨v, rfl, hv⟩ := h
  have hr1 : Room 1 _ := hr.mono (by decide)
  have nd := sc_steps.nd
  refine ⟨_, pss_cons (ps_set (i := 1) nd rfl (.inl rfl) (pe_ifExp (pt_val (pe_callB call_isi (by rfl) T.isi (by decide +kernel) (pa_cons (pv 0) (pa_cons (pe_bltn (v := .ty "str") (by rfl) T.str (by decide +kernel) rfl) pa_nil))))
        (pe_call GT hr rfl mT kT bT .nil pass0 (pa_cons (pv 0) pa_nil)) pe_non))
    (pss_cons (ps_if (pt_cmpR op_isN (pv 1) pe_non (nomark _)) (pss_one (ps_ret pe_non)) pss_nil)
    (pss_cons (ps_asg (pe_tup (pa_cons (pe_lst pa_nil) (pa_cons (pe_lst pa_nil) (pa_cons (pe_lst pa_nil) (pa_cons pe_str pa_nil)))))
        (pg_tup rfl (pgs_cons (pg_name (i := 2) nd rfl (.inl rfl)) (pgs_cons (pg_name (i := 3) nd rfl (.inl rfl)) (pgs_cons (pg_name (i := 4) nd rfl (.inl rfl)) (pgs_cons (pg_name (i := 5) nd rfl (.inl rfl)) pgs_nil))))))
    (pss_cons (ps_for PassesOwn.never rfl (pi_list (pv 1)) (pg_name (i := 6) nd rfl (.inl rfl))
      (pss_cons (ps_set (i := 7) nd rfl (.inl rfl) (pe_call GL hr rfl mL kL bL .nil pass0 (pa_cons (pv 6) (pa_cons (pv 5) pa_nil))))
      (pss_one (ps_if (pt_cmpR op_notN (pv 7) pe_non (nomark _))
        (pss_cons (ps_expr (pe_bm PySem.F.plainAttrs_list PySem.F.slot_list_append PySem.F.type_list_append mt_append (pv 2) (pa_cons (pv 7) pa_nil))) (pss_one (ps_set (i := 5) nd rfl (.inl rfl) pe_str)))
      (pss_one (ps_if (PW.pt (pw_and (pt_cmpR op_eq (pv 5) pe_str (nomark _)) (pw_and1 (pt_cmpR Sx.op_inKD (pv 6) (pe_glob (v := .ref pC) (by rfl) T.mC rfl) rfl))))
        (pss_cons (ps_expr (pe_bm PySem.F.plainAttrs_list PySem.F.slot_list_append PySem.F.type_list_append mt_append (pv 3) (pa_cons (pe_ix Sx.ix_KD (pe_glob (v := .ref pC) (by rfl) T.mC rfl) (pv 6) (fun _ _ => rfl)) pa_nil)))
          (pss_one (ps_expr (pe_bm PySem.F.plainAttrs_list PySem.F.slot_list_append PySem.F.type_list_append mt_append (pv 4) (pa_cons pe_int pa_nil)))))
      (pss_one (ps_if (PW.pt (pw_and (pt_cmpR op_eq (pv 5) pe_str (nomark _)) (pw_and1 (pt_cmpR op_eq (pv 6) pe_str (nomark _))))) (pss_one (ps_set (i := 5) nd rfl (.inl rfl) pe_str))
      (pss_one (ps_if (PW.pt (pw_and (pt_cmpR op_eq (pv 5) pe_str (nomark _)) (pw_and (pt_cmpR op_eq (pv 6) pe_str (nomark _)) (pw_and1 (pt_truth (pv 3) (by intro _; rfl))))))
        (pss_cons (ps_augS (pv 4) (pe_un un_neg pe_int) Sx.pget_list pe_int ip_add set_list) (pss_one (ps_set (i := 5) nd rfl (.inl rfl) pe_str)))
      (pss_one (ps_if (PW.pt (pw_and (pt_cmpR op_eq (pv 5) pe_str (nomark _)) (pw_and (pt_cmpR op_eq (pv 6) pe_str (nomark _)) (pw_and (pt_truth (pv 3) (by intro _; rfl))
          (pw_and1 (pt_val (pe_call GF hr1 rfl mF kF bF .nil pass0 (pa_cons (pe_ix ix_list (pv 3) (pe_un un_neg pe_int) (fun _ _ => rfl)) (pa_cons (pe_ix ix_list (pv 4) (pe_un un_neg pe_int) (fun _ _ => rfl)) pa_nil)))))))))
        (pss_one (ps_expr (pe_bm PySem.F.plainAttrs_list PySem.F.slot_list_append PySem.F.type_list_append mt_append (pv 2)
          (pa_cons (pe_tup (pa_cons (pe_bm0 PySem.F.plainAttrs_list PySem.F.slot_list_pop PySem.F.type_list_pop mt_pop (pv 3)) (pa_cons (pe_bm0 PySem.F.plainAttrs_list PySem.F.slot_list_pop PySem.F.type_list_pop mt_pop (pv 4)) pa_nil))) pa_nil))))
        (pss_one (ps_ret pe_non))))))))))))))
    (pss_one (ps_ret (pe_ifExp (PW.pt (pw_and (pt_cmpR op_eq (pv 5) pe_str (nomark _)) (pw_and1 (pt_not (pt_truth (pv 3) (by intro _; rfl)))))) (pe_callTy call_tuple_of (by rfl) T.tup (by decide +kernel) (pa_cons (pv 2) pa_nil)) pe_non)))))), ?_⟩
  rcases hv with ⟨z, rfl, hz, q0, q1⟩ | ⟨ty, hty, hk, q0⟩
  case inr =>
    refine ⟨_, rfl, _, _, _, _, false, rfl, .ty "str", hty, kit_ty hk, _, rfl, iteF ⟨_, rfl, rfl, _, rfl, iteT (q0 H (Same.refl H))⟩⟩
  refine ⟨_, rfl, _, _, _, _, true, rfl, .ty "str", .base (.str _), kit_ty (by decide +kernel), _, rfl, iteT ⟨_, rfl, z, rfl, hz, fun hn H1 s1 => ?_, fun ts hts H1 pT s1 nT hT => ?_⟩⟩
  · exact ⟨_, rfl, rfl, _, rfl, iteT (q0 (by unfold stepsOf; rw [hn]; rfl) H1 s1)⟩
  have e0 : stepsOf z = stepsT ts := by unfold stepsOf; rw [hts]; rfl
  obtain ⟨tl1, tl2⟩ := toks_small _ _ _ hts
  refine ⟨_, rfl, rfl, _, rfl, iteF ⟨Nat.zero_le _, fun p1 n1 => ⟨Nat.zero_le _, fun p2 n2 => ⟨Nat.zero_le _, fun p3 n3 => ⟨(by show 4 ≤ sizeLine; decide), fun pt nt => ⟨pt, _, rfl, SqT.of upd_same, rfl, _, _, rfl, _, _, rfl, _, _, rfl, _, _, rfl, rfl, ?_⟩⟩⟩⟩⟩⟩
  obtain ⟨a12, m2⟩ := upd_none n2
  obtain ⟨a23, m3⟩ := upd_none n3
  obtain ⟨a13, m3⟩ := upd_none m3
  have ap : Apart H pT p1 p2 p3 := ⟨s1.free n1, s1.free m2, s1.free m3, ne_of_none hT n1, ne_of_none hT m2, ne_of_none hT m3, Ne.symm a12, Ne.symm a13, Ne.symm a23⟩
  have hend : ∀ H', Same H H' → stepsT ts = none → Q .non H' := fun H' s' e => q0 (by rw [e0, e]) H' s'
  have sm5 := (((s1.trans (same_new n1 (.lst []))).trans (same_new n2 (.lst []))).trans (same_new n3 (.lst []))).trans (same_new nt (.tup [V.ref p1, V.ref p2, V.ref p3, V.str ("level" : Str)]))
  have keep5 := same_new nt (.tup [V.ref p1, V.ref p2, V.ref p3, V.str ("level" : Str)])
  have hT5 := keep5 pT _ (show upd (upd (upd H1 p1 (.lst [])) p2 (.lst [])) p3 (.lst []) pT = some (.lst (ts.map tv)) by rw [upd_ne ap.t3, upd_ne ap.t2, upd_ne ap.t1]; exact hT)
  have h15 := keep5 p1 _ (show upd (upd (upd H1 p1 (.lst [])) p2 (.lst [])) p3 (.lst []) p1 = some (.lst []) by rw [upd_ne ap.d13, upd_ne ap.d12]; exact upd_same)
  have h25 := keep5 p2 _ (show upd (upd (upd H1 p1 (.lst [])) p2 (.lst [])) p3 (.lst []) p2 = some (.lst []) by rw [upd_ne ap.d23]; exact upd_same)
  have h35 := keep5 p3 _ (show upd (upd (upd H1 p1 (.lst [])) p2 (.lst [])) p3 (.lst []) p3 = some (.lst []) from upd_same)
  refine ⟨_, rfl, pT, rfl, ⟨ts.map tv, SqL.of hT5⟩, for_list (K := K) (a := pT) (xs := ts.map tv) (fun i σ H' => ∃ p as, Sr K H ts pT p1 p2 p3 (tv z) i σ H' p as)
    ⟨⟨[], [], .level⟩, [], ⟨sm5, rfl, hT5, h15, h25, h35, .nil, Nat.le_refl _, Nat.le_refl _, ⟨_, _, rfl⟩⟩⟩ (fun i σ H' _ ⟨p, as, R⟩ => SqL.of R.hT) ?turn ?after⟩
  case turn =>
    rintro i x σ H' hi ⟨p, as, R⟩
    obtain ⟨t, ht, rfl⟩ : ∃ t, ts[i]? = some t ∧ x = tv t := by
      rw [List.getElem?_map] at hi
      cases e : ts[i]? with
      | none => rw [e] at hi; cases hi
      | some t => rw [e] at hi; exact ⟨t, rfl, (Option.some.inj hi).symm⟩
    have hi' : i < ts.length := (List.getElem?_eq_some_iff.mp ht).1
    have tlen : t.length ≤ 100000 := Nat.le_trans (tl2 t (List.mem_of_getElem? ht)) hz
    have ilen : i ≤ 100000 := by omega
    obtain ⟨u, l0, rfl⟩ := R.sl
    obtain ⟨ss, st, x⟩ := p
    refine ⟨_, rfl, _, rfl, t, x, rfl, tlen, num_text, fun hn H2 s2 => ?_, fun l hl H2 pl s2 hpl => ?_⟩
    case refine_2 =>
      have R2 := R.same s2 (σ' := [some (tv z), some (.ref pT), some (.ref p1), some (.ref p2), some (.ref p3), some (.str (wName x)), some (tv t), some (.ref pl)]) ⟨_, _, rfl⟩
      refine ⟨_, rfl, rfl, _, rfl, iteT ⟨_, rfl, .inl ⟨rfl, _, SqL.of R2.h1⟩, _, rfl, p1, _, _, rfl, rfl, R2.h1, big (by rw [List.length_map, R2.st.len]; exact Nat.le_trans R2.l1 ilen), ?_⟩⟩
      refine ⟨⟨ss ++ [l], st, .sign⟩, as ++ [pl], same_mut R2.sm ap.n1, parse_more R.run ht (turn_leaf hl), by rw [upd_ne ap.t1]; exact R2.hT, by rw [List.map_append]; exact upd_same, by rw [upd_ne ap.d12.symm]; exact R2.h2, by rw [upd_ne ap.d13.symm]; exact R2.h3,
        (StepsAt.snoc hpl R2.st).mono (tup_keep R2.h1), by rw [List.length_append, List.length_singleton]; exact Nat.succ_le_succ R2.l1, Nat.le_succ_of_le R2.l2, ⟨_, _, rfl⟩⟩
    have R2 := R.same s2 (σ' := [some (tv z), some (.ref pT), some (.ref p1), some (.ref p2), some (.ref p3), some (.str (wName x)), some (tv t), some .non]) ⟨_, _, rfl⟩
    have stop : turn ⟨ss, st, x⟩ t = none → Q .non H2 := fun e => hend H2 R2.sm (by unfold stepsT; rw [parse_none R.run ht e]; rfl)
    refine ⟨_, rfl, rfl, _, rfl, iteF ⟨_, rfl, rfl, _, rfl, ?_⟩⟩
    rw [w_level]
    cases x with
    | number =>
      have hstop : turn ⟨ss, st, .number⟩ t = none := by unfold turn; rw [hn]; rfl
      refine iteF ⟨_, rfl, rfl, _, rfl, ?_⟩
      rw [w_sign]
      refine iteF ⟨_, rfl, rfl, _, rfl, ?_⟩
      rw [w_sign]
      refine iteF ⟨_, rfl, rfl, _, rfl, ?_⟩
      rw [w_sign]
      exact iteF (stop hstop)
    | level =>
      refine iteT ⟨_, rfl, pC, S t, calls0, rfl, rfl, T.tC, _, rfl, ?_⟩
      -- a bracket opens
      have opens : ∀ b : Bool, t = opn b → Sx.lookD calls0 (S t) = some (.str (cName b)) → ∃ p as, Sr K H ts pT p1 p2 p3 (tv z) (i + 1) [some (tv z), some (.ref pT), some (.ref p1), some (.ref p2), some (.ref p3), some (.str (wName .level)), some (tv t), some .non]
          (upd (upd H2 p2 (.lst ((st.reverse.map fun x => V.str (cName x.1)) ++ [.str (cName b)]))) p3 (.lst ((st.reverse.map fun x => V.int x.2) ++ [.int 1]))) p as := fun b eb _ => by
        have e2 : upd H2 p2 (.lst ((st.reverse.map fun x => V.str (cName x.1)) ++ [.str (cName b)])) p3 = some (.lst (st.reverse.map fun x => V.int x.2)) := by rw [upd_ne ap.d23.symm]; exact R2.h3
        refine ⟨⟨ss, (b, 1) :: st, .level⟩, as, same_mut (same_mut R2.sm ap.n2) ap.n3, parse_more R.run ht (by rw [eb]; exact turn_opn ss b st), by rw [upd_ne ap.t3, upd_ne ap.t2]; exact R2.hT, by rw [upd_ne ap.d13, upd_ne ap.d12]; exact R2.h1, ?_, ?_,
          (R2.st.mono (tup_keep R2.h2)).mono (tup_keep e2), Nat.le_succ_of_le R2.l1, Nat.succ_le_succ R2.l2, ⟨_, _, rfl⟩⟩
        · rw [upd_ne ap.d23, upd_same, List.reverse_cons, List.map_append]; rfl
        · rw [upd_same, List.reverse_cons, List.map_append]; rfl
      by_cases c1 : t = cMax
      · have lk : Sx.lookD calls0 (S t) = some (.str (cName true)) := by rw [c1]; exact look_max
        rw [lk]
        refine iteT ⟨_, rfl, .inl ⟨rfl, _, SqL.of R2.h2⟩, _, rfl, pC, S t, calls0, _, rfl, rfl, T.tC, lk, p2, _, _, rfl, rfl, R2.h2, big (by rw [List.length_map, List.length_reverse]; exact Nat.le_trans R2.l2 ilen), ?_⟩
        have e2 : upd H2 p2 (.lst ((st.reverse.map fun x => V.str (cName x.1)) ++ [.str (cName true)])) p3 = some (.lst (st.reverse.map fun x => V.int x.2)) := by rw [upd_ne ap.d23.symm]; exact R2.h3
        exact ⟨_, rfl, .inl ⟨rfl, _, SqL.of e2⟩, p3, _, _, rfl, rfl, e2, big (by rw [List.length_map, List.length_reverse]; exact Nat.le_trans R2.l2 ilen), opens true c1 lk⟩
      by_cases c2 : t = cImax
      · have lk : Sx.lookD calls0 (S t) = some (.str (cName false)) := by rw [c2]; exact look_imax
        rw [lk]
        refine iteT ⟨_, rfl, .inl ⟨rfl, _, SqL.of R2.h2⟩, _, rfl, pC, S t, calls0, _, rfl, rfl, T.tC, lk, p2, _, _, rfl, rfl, R2.h2, big (by rw [List.length_map, List.length_reverse]; exact Nat.le_trans R2.l2 ilen), ?_⟩
        have e2 : upd H2 p2 (.lst ((st.reverse.map fun x => V.str (cName x.1)) ++ [.str (cName false)])) p3 = some (.lst (st.reverse.map fun x => V.int x.2)) := by rw [upd_ne ap.d23.symm]; exact R2.h3
        exact ⟨_, rfl, .inl ⟨rfl, _, SqL.of e2⟩, p3, _, _, rfl, rfl, e2, big (by rw [List.length_map, List.length_reverse]; exact Nat.le_trans R2.l2 ilen), opens false c2 lk⟩
      have hstop : turn ⟨ss, st, .level⟩ t = none := by
        unfold turn; rw [hn]
        simp only [c1, c2, decide_false, Bool.and_false, Bool.false_eq_true, if_false, show (W.level = W.sign) = False from eq_false (fun h => by cases h), Bool.false_and]
      rw [look_other c1 c2]
      refine iteF ⟨_, rfl, rfl, _, rfl, ?_⟩
      rw [w_sign]
      refine iteF ⟨_, rfl, rfl, _, rfl, ?_⟩
      rw [w_sign]
      refine iteF ⟨_, rfl, rfl, _, rfl, ?_⟩
      rw [w_sign]
      exact iteF (stop hstop)
    | sign =>
      refine iteF ⟨_, rfl, rfl, _, rfl, ?_⟩
      rw [w_sign]
      refine iteT ⟨_, rfl, rfl, _, rfl, ?_⟩
      rw [tok_eq xPlus]
      by_cases c1 : t = cPlus
      · rw [decide_eq_true c1]
        refine iteT ⟨⟨ss, st, .number⟩, as, R2.sm, parse_more R.run ht (by rw [c1]; exact turn_plus ss st), R2.hT, R2.h1, R2.h2, R2.h3, R2.st, Nat.le_succ_of_le R2.l1, Nat.le_succ_of_le R2.l2, ⟨_, _, rfl⟩⟩
      rw [decide_eq_false c1]
      refine iteF ⟨_, rfl, rfl, _, rfl, ?_⟩
      rw [w_sign]
      refine iteT ⟨_, rfl, rfl, _, rfl, ?_⟩
      rw [tok_eq xSep]
      by_cases c2 : t = cSep
      · rw [decide_eq_true c2]
        refine iteT ⟨_, rfl, _, .inl ⟨_, SqL.of R2.h2, rfl⟩, ?_⟩
        match st, R, R2, stop with
        | [], R, R2, stop =>
          refine iteF ⟨_, rfl, rfl, _, rfl, ?_⟩
          rw [w_sign]
          refine iteT ⟨_, rfl, rfl, _, rfl, ?_⟩
          rw [tok_eq xEnd, decide_eq_false (by rw [c2]; decide)]
          refine iteF (stop ?_)
          unfold turn; rw [hn, c2]; rfl
        | (b, n) :: r, R, R2, stop =>
          have g3 : H2 p3 = some (.lst ((r.reverse.map fun x => V.int x.2) ++ [V.int n])) := by have := R2.h3; rw [List.reverse_cons, List.map_append] at this; exact this
          have ne2 : (!(List.map (fun x : Bool × Int => V.str (cName x.1)) (PSt.mk ss ((b, n) :: r) W.sign).st.reverse).isEmpty) = true := by
            rw [List.reverse_cons, List.map_append]
            cases List.map (fun x : Bool × Int => V.str (cName x.1)) r.reverse <;> rfl
          rw [ne2]
          have e4 : ((r.reverse.map fun x => V.int x.2) ++ [V.int n]).set (r.reverse.map fun x => V.int x.2).length (.int (n + 1)) = (r.reverse.map fun x => V.int x.2) ++ [V.int (n + 1)] := by
            rw [List.set_append_right _ _ (Nat.le_refl _), Nat.sub_self]; rfl
          have e5 : ixN ((r.reverse.map fun x => V.int x.2) ++ [V.int n]).length (-1) = some (r.reverse.map fun x => V.int x.2).length := by
            unfold ixN
            rw [if_neg (by decide), if_pos (by rw [List.length_append, List.length_singleton]; omega), List.length_append, List.length_singleton]
            congr 1
            omega
          refine iteT ⟨_, rfl, _, rfl, p3, _, _, _, rfl, rfl, SqL.of g3, atI_last _ _, _, _, rfl, rfl, p3, _, _, _, rfl, rfl, g3, e5, ?_⟩
          rw [e4]
          refine ⟨⟨ss, (b, n + 1) :: r, .level⟩, as, same_mut R2.sm ap.n3, parse_more R.run ht (by rw [c2]; exact turn_sep ss b n r), by rw [upd_ne ap.t3]; exact R2.hT, by rw [upd_ne ap.d13]; exact R2.h1, by rw [upd_ne ap.d23, R2.h2]; simp only [List.reverse_cons, List.map_append, List.map_cons, List.map_nil], ?_, R2.st.mono (tup_keep g3), Nat.le_succ_of_le R2.l1, Nat.le_succ_of_le R2.l2, ⟨_, _, rfl⟩⟩
          rw [upd_same, List.reverse_cons, List.map_append]; rfl
      rw [decide_eq_false c2]
      refine iteF ⟨_, rfl, rfl, _, rfl, ?_⟩
      rw [w_sign]
      refine iteT ⟨_, rfl, rfl, _, rfl, ?_⟩
      rw [tok_eq xEnd]
      by_cases c3 : t = cEnd
      · rw [decide_eq_true c3]
        refine iteT ⟨_, rfl, _, .inl ⟨_, SqL.of R2.h2, rfl⟩, ?_⟩
        match st, R, R2, stop with
        | [], R, R2, stop =>
          refine iteF (stop ?_)
          unfold turn; rw [hn, c3]; rfl
        | (b, n) :: r, R, R2, stop =>
          have g2 : H2 p2 = some (.lst ((r.reverse.map fun x => V.str (cName x.1)) ++ [V.str (cName b)])) := by have := R2.h2; rw [List.reverse_cons, List.map_append] at this; exact this
          have g3 : H2 p3 = some (.lst ((r.reverse.map fun x => V.int x.2) ++ [V.int n])) := by have := R2.h3; rw [List.reverse_cons, List.map_append] at this; exact this
          have ne2 : (!(List.map (fun x : Bool × Int => V.str (cName x.1)) (PSt.mk ss ((b, n) :: r) W.sign).st.reverse).isEmpty) = true := by
            rw [List.reverse_cons, List.map_append]
            cases List.map (fun x : Bool × Int => V.str (cName x.1)) r.reverse <;> rfl
          rw [ne2]
          refine iteT ⟨_, rfl, _, rfl, p2, _, _, _, rfl, rfl, SqL.of g2, atI_last _ _, _, rfl, _, rfl, p3, _, _, _, rfl, rfl, SqL.of g3, atI_last _ _, b, n, rfl, _, rfl, ite2 (fun d => ?_) (fun d => ?_)⟩
          · have last : ∀ (xs : List V) (y : V), (xs ++ [y])[(xs ++ [y]).length - 1]? = some y := fun xs y => by simp
            have g3' : upd H2 p2 (.lst ((r.reverse.map fun x => V.str (cName x.1)) ++ [V.str (cName b)]).dropLast) p3 = some (.lst ((r.reverse.map fun x => V.int x.2) ++ [V.int n])) := by rw [upd_ne ap.d23.symm]; exact g3
            have h1'' : upd (upd H2 p2 (.lst ((r.reverse.map fun x => V.str (cName x.1)) ++ [V.str (cName b)]).dropLast)) p3 (.lst ((r.reverse.map fun x => V.int x.2) ++ [V.int n]).dropLast) p1 = some (.lst (as.map V.ref)) := by
              rw [upd_ne ap.d13, upd_ne ap.d12]; exact R2.h1
            refine ⟨_, rfl, .inl ⟨rfl, _, SqL.of R2.h1⟩, _, rfl, .inl ⟨rfl, _, SqL.of g2⟩, p2, _, _, rfl, rfl, g2, last _ _, _, rfl, .inl ⟨rfl, _, SqL.of g3'⟩, p3, _, _, rfl, rfl, g3', last _ _, (by show 2 ≤ sizeLine; decide), fun pl nl => ?_⟩
            have h1p := same_new nl (.tup [V.str (cName b), V.int n]) p1 _ h1''
            refine ⟨p1, _, _, rfl, rfl, h1p, big (by rw [List.length_map, R2.st.len]; exact Nat.le_trans R2.l1 ilen), ?_⟩
            have k3 := same_new nl (.tup [V.str (cName b), V.int n])
            have st1 : StepsAt (upd (upd (upd H2 p2 (.lst ((r.reverse.map fun x => V.str (cName x.1)) ++ [V.str (cName b)]).dropLast)) p3 (.lst ((r.reverse.map fun x => V.int x.2) ++ [V.int n]).dropLast)) pl (.tup [V.str (cName b), V.int n])) as ss :=
              (((R2.st.mono (tup_keep g2)).mono (tup_keep g3')).mono fun a xs e => k3 a _ e)
            refine ⟨⟨ss ++ [.call b n], r, .sign⟩, as ++ [pl], same_mut ((same_mut (same_mut R2.sm ap.n2) ap.n3).trans k3) ap.n1, parse_more R.run ht (by rw [c3]; exact turn_end ss b n r d), ?_, by rw [List.map_append]; exact upd_same, ?_, ?_,
              (StepsAt.snoc (s := .call b n) (a := pl) (by exact upd_same) st1).mono (tup_keep h1p), by rw [List.length_append, List.length_singleton]; exact Nat.succ_le_succ R2.l1, Nat.le_trans (Nat.le_of_succ_le R2.l2) (Nat.le_succ _), ⟨_, _, rfl⟩⟩
            · rw [upd_ne ap.t1]
              exact k3 pT _ (by rw [upd_ne ap.t3, upd_ne ap.t2]; exact R2.hT)
            · rw [upd_ne ap.d12.symm]
              exact k3 p2 _ (by rw [upd_ne ap.d23, upd_same, List.dropLast_concat])
            · rw [upd_ne ap.d13.symm]
              exact k3 p3 _ (by rw [upd_same, List.dropLast_concat])
          · refine stop ?_
            unfold turn; rw [hn, c3]
            show (if full b n = true then _ else none) = none
            rw [if_neg d]
      rw [decide_eq_false c3]
      refine iteF (stop ?_)
      unfold turn; rw [hn]
      simp only [c1, c2, c3, decide_false, Bool.and_false, Bool.false_eq_true, if_false, show (W.sign = W.level) = False from eq_false (fun h => by cases h), Bool.false_and]
  case after =>
    rintro σ H' ⟨p, as, R⟩
    obtain ⟨u, l0, rfl⟩ := R.sl
    have run : parse ⟨[], [], .level⟩ ts = some p := by
      have := R.run
      rw [List.length_map, List.take_length] at this
      exact this
    have es : stepsT ts = ended p := by unfold stepsT; rw [run]; rfl
    obtain ⟨ss, st, x⟩ := p
    refine ⟨_, rfl, rfl, _, rfl, ?_⟩
    rw [w_sign]
    cases x with
    | level => exact iteF (iteF (hend H' R.sm (by rw [es]; rfl)))
    | number => exact iteF (iteF (hend H' R.sm (by rw [es]; rfl)))
    | sign =>
      match st, R, es with
      | [], R, es =>
        refine iteT ⟨_, rfl, false, .inl ⟨_, SqL.of R.h2, rfl⟩, iteT ⟨_, rfl, p1, _, rfl, .inl ⟨SqL.of R.h1, fun l hl => ?_⟩⟩⟩
        have k := same_new hl (.tup (as.map V.ref))
        exact q1 ss (by rw [e0, es]; rfl) (by have := R.l1; rw [List.length_map] at this; exact Nat.le_trans this tl1) _ l as (R.sm.trans k) upd_same (R.st.mono fun a xs e => k a _ e)
      | (b, n) :: r, R, es =>
        refine iteT ⟨_, rfl, true, .inl ⟨_, SqL.of R.h2, ?_⟩, iteF (hend H' R.sm (by rw [es]; rfl))⟩
        rw [List.reverse_cons, List.map_append]
        cases List.map (fun x : Bool × Int => V.str (cName x.1)) r.reverse <;> rfl
end
end Pg
/-! Mw -/
set_option Elab.async false
set_option linter.all false
set_option maxRecDepth 100000
set_option maxHeartbeats 2000000
namespace Mr
open PySem
/-! what a level is worth -/
def maxL : List Int → Int
  | [] => 0
  | x :: r => r.foldl max x
theorem foldl_max : ∀ (r : List Int) (x : Int), (r.foldl max x = x ∨ r.foldl max x ∈ r) ∧ x ≤ r.foldl max x ∧ ∀ y ∈ r, y ≤ r.foldl max x
  | [], x => ⟨.inl rfl, Int.le_refl _, fun _ h => absurd h List.not_mem_nil⟩
  | a :: r, x => by
    obtain ⟨h1, h2, h3⟩ := foldl_max r (max x a)
    rw [List.foldl_cons]
    refine ⟨?_, by omega, fun y hy => ?_⟩
    · rcases h1 with h | h
      · by_cases c : x ≤ a
        · refine .inr (List.mem_cons.mpr (.inl ?_)); rw [h]; omega
        · refine .inl ?_; rw [h]; omega
      · exact .inr (List.mem_cons_of_mem _ h)
    · rcases List.mem_cons.mp hy with rfl | hy
      · omega
      · exact h3 y hy
theorem maxL_of {l : List Int} {m : Int} (h : m ∈ l) (hm : ∀ y ∈ l, y ≤ m) : maxL l = m := by
  cases l with
  | nil => exact absurd h List.not_mem_nil
  | cons x r =>
    obtain ⟨h1, h2, h3⟩ := foldl_max r x
    show r.foldl max x = m
    have g1 : r.foldl max x ≤ m := by
      rcases h1 with e | e
      · rw [e]; exact hm x List.mem_cons_self
      · exact hm _ (List.mem_cons_of_mem _ e)
    have g2 : m ≤ r.foldl max x := by
      rcases List.mem_cons.mp h with rfl | h
      · exact h2
      · exact h3 m h
    omega
def callV (b : Bool) (vs : List Int) : Int := if (!b && decide (vs.getLast? = some 0)) = true then 0 else maxL vs
def T.val (f : Cs → Int) : T → Int
  | .num k => k
  | .nam s => f s
  | .plus t k => t.val f + k
  | .node b ts => callV b (ts.map fun t => t.val f)
def wstep (f : Cs → Int) (p : List Int) : Stp → Option (List Int)
  | .num k => some (p ++ [k])
  | .nam s => some (p ++ [f s])
  | .plus k => match p.getLast? with
    | some x => some (p.dropLast ++ [x + k])
    | none => none
  | .call b n => if 1 ≤ n ∧ n ≤ p.length then some (p.take (p.length - n.toNat) ++ [callV b (p.drop (p.length - n.toNat))]) else none
def wrun (f : Cs → Int) (p : List Int) : List Stp → Option (List Int)
  | [] => some p
  | s :: r => (wstep f p s).bind fun q => wrun f q r
theorem wrun_append (f : Cs → Int) : ∀ (a b : List Stp) (p : List Int), wrun f p (a ++ b) = (wrun f p a).bind fun q => wrun f q b
  | [], b, p => rfl
  | s :: a, b, p => by
    show (wstep f p s).bind (fun q => wrun f q (a ++ b)) = ((wstep f p s).bind fun q => wrun f q a).bind _
    cases wstep f p s with
    | none => rfl
    | some q => exact wrun_append f a b q
theorem wrun_one (f : Cs → Int) (p : List Int) (s : Stp) : wrun f p [s] = wstep f p s := by
  show (wstep f p s).bind (fun q => some q) = _
  cases wstep f p s <;> rfl
theorem wrun_flat (f : Cs → Int) : ∀ (l : List (List Stp × Int)) (p : List Int), (∀ x ∈ l, ∀ p, wrun f p x.1 = some (p ++ [x.2])) → wrun f p (l.map (·.1)).flatten = some (p ++ l.map (·.2))
  | [], p, _ => by show some p = _; simp
  | x :: l, p, h => by
    rw [List.map_cons, List.flatten_cons, wrun_append, h x List.mem_cons_self, Option.bind_some, wrun_flat f l _ fun y hy => h y (List.mem_cons_of_mem _ hy)]
    simp
theorem T.wrun (f : Cs → Int) : ∀ t : T, t.ok → ∀ p, Mr.wrun f p t.stp = some (p ++ [t.val f])
  | .num k, _, p => by rw [T.stp, wrun_one, T.val]; rfl
  | .nam s, _, p => by rw [T.stp, wrun_one, T.val]; rfl
  | .plus t k, h, p => by
    rw [T.ok] at h
    rw [T.stp, wrun_append, T.wrun f t h.1, Option.bind_some, wrun_one, T.val]
    show (match (p ++ [t.val f]).getLast? with | some x => some ((p ++ [t.val f]).dropLast ++ [x + (k : Int)]) | none => none) = _
    rw [List.getLast?_concat, List.dropLast_concat]
  | .node b ts, h, p => by
    rw [T.ok] at h
    have g := wrun_flat f (ts.map fun t => (t.stp, t.val f)) p fun x hx q => by
      obtain ⟨t, ht, rfl⟩ := List.mem_map.mp hx
      exact T.wrun f t (h.2 t ht) q
    rw [List.map_map, List.map_map] at g
    have g1 : Mr.wrun f p (ts.map fun t => t.stp).flatten = some (p ++ ts.map fun t => t.val f) := g
    rw [T.stp, wrun_append, g1, Option.bind_some, wrun_one, T.val]
    have l1 : 1 ≤ ts.length := by
      have := h.1
      cases ts with
      | nil => cases b <;> cases this
      | cons => simp
    have hl : (p ++ ts.map fun t => t.val f).length - ((ts.length : Int)).toNat = p.length := by rw [List.length_append, List.length_map]; omega
    show (if _ then _ else _) = _
    rw [if_pos (by rw [List.length_append, List.length_map]; omega), hl, List.take_left, List.drop_left]
theorem wrun_take (f : Cs → Int) {ss : List Stp} {r : List Int} (h : wrun f [] ss = some r) (i : Nat) : ∃ p, wrun f [] (ss.take i) = some p := by
  have e : ss = ss.take i ++ ss.drop i := (List.take_append_drop i ss).symm
  rw [e, wrun_append] at h
  cases q : wrun f [] (ss.take i) with
  | none => rw [q] at h; cases h
  | some p => exact ⟨p, rfl⟩
theorem wrun_next (f : Cs → Int) {ss : List Stp} {r p : List Int} {i : Nat} {s : Stp} (h : wrun f [] ss = some r) (hp : wrun f [] (ss.take i) = some p) (hs : ss[i]? = some s) : ∃ q, wstep f p s = some q ∧ wrun f [] (ss.take (i + 1)) = some q := by
  have e : ss.take (i + 1) = ss.take i ++ [s] := by rw [List.take_succ, hs]; rfl
  obtain ⟨q, hq⟩ := wrun_take f h (i + 1)
  rw [e, wrun_append, hp, Option.bind_some, wrun_one] at hq
  refine ⟨q, hq, ?_⟩
  rw [e, wrun_append, hp, Option.bind_some, wrun_one]
  exact hq
theorem wstep_plus {f : Cs → Int} {p q : List Int} {k : Int} (h : wstep f p (.plus k) = some q) : ∃ ys x, p = ys ++ [x] ∧ q = ys ++ [x + k] := by
  have h : (match p.getLast? with | some x => some (p.dropLast ++ [x + k]) | none => none) = some q := h
  cases e : p.getLast? with
  | none => rw [e] at h; cases h
  | some x =>
    rw [e] at h
    obtain ⟨ys, rfl⟩ := List.getLast?_eq_some_iff.mp e
    refine ⟨ys, x, rfl, ?_⟩
    have h : some ((ys ++ [x]).dropLast ++ [x + k]) = some q := h
    rw [List.dropLast_concat] at h
    exact (Option.some.inj h).symm
theorem wstep_call {f : Cs → Int} {p q : List Int} {b : Bool} {n : Int} (h : wstep f p (.call b n) = some q) : 1 ≤ n ∧ n ≤ p.length ∧ q = p.take (p.length - n.toNat) ++ [callV b (p.drop (p.length - n.toNat))] := by
  have h : (if 1 ≤ n ∧ n ≤ p.length then some (p.take (p.length - n.toNat) ++ [callV b (p.drop (p.length - n.toNat))]) else none) = some q := h
  by_cases c : 1 ≤ n ∧ n ≤ p.length
  · rw [if_pos c] at h; exact ⟨c.1, c.2, (Option.some.inj h).symm⟩
  · rw [if_neg c] at h; cases h
theorem wstep_len {f : Cs → Int} {p q : List Int} {s : Stp} (h : wstep f p s = some q) : q.length ≤ p.length + 1 := by
  cases s with
  | num k => cases h; simp
  | nam s => cases h; simp
  | plus k => obtain ⟨ys, x, rfl, rfl⟩ := wstep_plus h; rw [List.length_append, List.length_append]; simp only [List.length_singleton]; omega
  | call b n => obtain ⟨h1, h2, rfl⟩ := wstep_call h; rw [List.length_append, List.length_take]; simp only [List.length_singleton]; omega
theorem callV_true (ns : List Int) : callV true ns = maxL ns := rfl
theorem callV_false (ys : List Int) (y : Int) : callV false (ys ++ [y]) = if y = 0 then 0 else maxL (ys ++ [y]) := by
  unfold callV
  rw [List.getLast?_concat]
  by_cases c : y = 0
  · rw [if_pos c, c]; rfl
  · rw [if_neg c, if_neg (by simp [c])]
end Mr
/-! Bs -/
set_option Elab.async false
set_option linter.all false
set_option maxRecDepth 100000
set_option maxHeartbeats 4000000
namespace Pg
open PySem L2 Mr
theorem StepsAt.at {H : Hp} : ∀ {as : List Addr} {ss : List Stp} {i : Nat} {x : V}, StepsAt H as ss → (as.map V.ref)[i]? = some x → ∃ a s, x = .ref a ∧ ss[i]? = some s ∧ H a = some (.tup (sv s))
  | _, _, _, _, .nil, h => by cases h
  | a :: as, s :: ss, 0, x, .cons h r, e => by cases e; exact ⟨a, s, rfl, rfl, h⟩
  | a :: as, s :: ss, i + 1, x, .cons h r, e => StepsAt.at (as := as) (ss := ss) (i := i) r e
theorem StepsAt.same {H H' : Hp} {as : List Addr} {ss : List Stp} (h : StepsAt H as ss) (s : Same H H') : StepsAt H' as ss := h.mono fun a _ e => s a _ e
theorem Same.tup {K : PySem.W.Frag} {H H' : Hp} {a : Addr} {xs : List V} (e : Same H H') (h : SqT K H a xs) : SqT K H' a xs := by
  rcases h with (h | ⟨o, h⟩) | h
  · exact .inl (.inl (e _ _ h))
  · exact .inl (.inr ⟨o, e _ _ h⟩)
  · exact .inr h
/-- a level's steps, as a tuple at a -/
def LevAt (K : PySem.W.Frag) (H : Hp) (a : Addr) (ss : List Stp) : Prop := ∃ as, SqT K H a (as.map V.ref) ∧ StepsAt H as ss
theorem LevAt.same {K : PySem.W.Frag} {H H' : Hp} {a : Addr} {ss : List Stp} (h : LevAt K H a ss) (s : Same H H') : LevAt K H' a ss := let ⟨as, h1, h2⟩ := h; ⟨as, Same.tup s h1, h2.same s⟩
theorem Same.rd {H H' : Hp} {a : Addr} {u : HO} (e : Same H H') (h : Rd H a u) : Rd H' a u := by
  rcases h with h | ⟨o, h⟩
  · exact .inl (e _ _ h)
  · exact .inr ⟨o, e _ _ h⟩
theorem kinds : (∀ k : Str, k ∈ [("name" : Str), "+", "max", "imax"] → decide (V.str k = V.str ("number" : Str)) = false) ∧ (∀ k : Str, k ∈ [("number" : Str), "+", "max", "imax"] → decide (V.str k = V.str ("name" : Str)) = false) ∧
   (∀ k : Str, k ∈ [("number" : Str), "name", "max", "imax"] → decide (V.str k = V.str ("+" : Str)) = false) := by decide +kernel
theorem kind_same (k : Str) : decide (V.str k = V.str k) = true := decide_eq_true rfl
theorem cName_mem (b : Bool) : cName b ∈ [("max" : Str), "imax"] := by cases b <;> decide +kernel
theorem cName_imax (b : Bool) : decide (V.str (cName b) = V.str ("imax" : Str)) = !b := by cases b <;> decide +kernel
theorem cut_tail (xs : List Int) (n : Int) (h : 1 ≤ n) (hn : n ≤ xs.length) : cutV (xs.map V.int) (some (-n)) none = (xs.drop (xs.length - n.toNat)).map V.int := by
  have e : HT.sIx (xs.map V.int).length 0 (some (-n)) = xs.length - n.toNat := by
    rw [List.length_map]
    show (if -n < 0 then (-n + (xs.length : Int)).toNat else _) = _
    rw [if_pos (by omega)]
    omega
  unfold cutV
  rw [e, HT.sIx_none, List.length_map, ← List.map_drop, List.take_of_length_le]
  rw [List.length_map, List.length_drop]
  omega
theorem six_tail (xs : List Int) (n : Int) (h : 1 ≤ n) (hn : n ≤ xs.length) : (xs.map V.int).take (HT.sIx (xs.map V.int).length 0 (some (-n))) = (xs.take (xs.length - n.toNat)).map V.int := by
  have e : HT.sIx (xs.map V.int).length 0 (some (-n)) = xs.length - n.toNat := by
    rw [List.length_map]
    show (if -n < 0 then (-n + (xs.length : Int)).toNat else _) = _
    rw [if_pos (by omega)]
    omega
  rw [e, List.map_take]
end Pg
namespace Pg
open PySem L2 Mr
/-- the law's box of draws -/
def boxV (d s c : Int) : HO := .lst [.int d, .int s, .int c]
def BoxAt (H : Hp) (b : Addr) : Prop := ∃ d s c, H b = some (boxV d s c)
/-- all but the box is as it was -/
structure Bx (H H' : Hp) (b : Addr) : Prop where
  keep : ∀ a o, a ≠ b → H a = some o → H' a = some o
  box : BoxAt H' b
theorem Bx.refl {H : Hp} {b : Addr} (h : BoxAt H b) : Bx H H b := ⟨fun _ _ _ e => e, h⟩
theorem Bx.trans {H H1 H2 : Hp} {b : Addr} (x : Bx H H1 b) (y : Bx H1 H2 b) : Bx H H2 b := ⟨fun a o n e => y.keep a o n (x.keep a o n e), y.box⟩
theorem Bx.same {H H1 H2 : Hp} {b : Addr} (x : Bx H H1 b) (s : Same H1 H2) : Bx H H2 b := ⟨fun a o n e => s a o (x.keep a o n e), let ⟨d, t, c, h⟩ := x.box; ⟨d, t, c, s _ _ h⟩⟩
theorem Bx.of_same {H H1 : Hp} {b : Addr} (h : BoxAt H b) (s : Same H H1) : Bx H H1 b := (Bx.refl h).same s
theorem Bx.draw {H : Hp} {b : Addr} {d s c : Int} : Bx H (upd H b (boxV d s c)) b := ⟨fun a o n e => by rw [upd_ne n]; exact e, ⟨_, _, _, upd_same⟩⟩
theorem Bx.tup {H H' : Hp} {b a : Addr} {xs : List V} (x : Bx H H' b) (h : BoxAt H b) (e : H a = some (.tup xs)) : H' a = some (.tup xs) := x.keep a _ (fun z => by obtain ⟨d, s, c, g⟩ := h; rw [z, g] at e; cases e) e
/-- something new (or not the box's) is stored -/
theorem Bx.mut {H H1 : Hp} {b p : Addr} {o : HO} (x : Bx H H1 b) (n : H p = none) (ne : p ≠ b) : Bx H (upd H1 p o) b := ⟨fun a u na e => by rw [upd_ne (ne_of_none e n)]; exact x.keep a u na e, let ⟨d, t, c, h⟩ := x.box; ⟨d, t, c, by rw [upd_ne ne.symm]; exact h⟩⟩
theorem BoxAt.same {H H' : Hp} {b : Addr} (h : BoxAt H b) (s : Same H H') : BoxAt H' b := let ⟨d, t, c, e⟩ := h; ⟨d, t, c, s _ _ e⟩
theorem BoxAt.ne {H : Hp} {b p : Addr} (h : BoxAt H b) (n : H p = none) : p ≠ b := fun z => by obtain ⟨d, s, c, e⟩ := h; rw [z, e] at n; cases n
theorem seqL_upd {K : PySem.W.Frag} {H H' : Hp} {a b : Addr} {xs : List V} (x : Bx H H' b) (ne : a ≠ b) (h : SqL K H a xs) : SqL K H' a xs := by
  rcases h with (h | ⟨o, h⟩) | h
  · exact .inl (.inl (x.keep _ _ ne h))
  · exact .inl (.inr ⟨o, x.keep _ _ ne h⟩)
  · exact .inr h
theorem at_any {xs : List V} {k : Int} (h0 : 0 ≤ k) (h1 : k < xs.length) : ∃ v, atI xs k = some v ∧ xs[k.toNat]? = some v := by
  obtain ⟨n, rfl⟩ := Int.eq_ofNat_of_zero_le h0
  have lt : n < xs.length := by omega
  exact ⟨xs[n], atI_nat (List.getElem?_eq_getElem lt), List.getElem?_eq_getElem lt⟩
theorem at_int {ns : List Int} {k : Int} (h0 : 0 ≤ k) (h1 : k < ns.length) : ∃ n, atI (ns.map V.int) k = some (V.int n) := by
  obtain ⟨v, e, e'⟩ := at_any (xs := ns.map V.int) h0 (by rw [List.length_map]; exact h1)
  rw [List.getElem?_map] at e'
  cases q : ns[k.toNat]? with
  | none => rw [q] at e'; cases e'
  | some n => rw [q] at e'; exact ⟨n, by rw [e, ← e']; rfl⟩
structure Lx (mg : Str → Option Value) : Prop where
  abs : mg "abs" = none
  int : mg "int" = none
  len : mg "len" = none
  list : mg "list" = none
  range : mg "range" = none
  str : mg "str" = none
  tup : mg "tuple" = none
  dict : mg "dict" = none
  max : mg "max" = none
  min : mg "min" = none
end Pg
namespace Pg
open PySem L2 Mr
/-- the tree t stands in tuples at a -/
inductive TreeAt (H : Hp) : T → Addr → Prop where
  | num {a : Addr} {k : Nat} (h : H a = some (.tup [.str "number", .int k])) : TreeAt H (.num k) a
  | nam {a : Addr} {s : Cs} (h : H a = some (.tup [.str "name", tv s])) : TreeAt H (.nam s) a
  | plus {a c : Addr} {t : T} {k : Nat} (h : H a = some (.tup [.str "plus", .ref c, .int k])) (r : TreeAt H t c) : TreeAt H (.plus t k) a
  | node {a : Addr} {b : Bool} {ts : List T} {cs : List Addr} (h : H a = some (.tup (.str (cName b) :: cs.map V.ref))) (l : ts.length = cs.length) (r : ∀ (i : Nat) t c, ts[i]? = some t → cs[i]? = some c → TreeAt H t c) : TreeAt H (.node b ts) a
theorem TreeAt.mono {H H' : Hp} (k : ∀ a xs, H a = some (.tup xs) → H' a = some (.tup xs)) {t : T} {a : Addr} (h : TreeAt H t a) : TreeAt H' t a := by
  induction h with
  | num h => exact .num (k _ _ h)
  | nam h => exact .nam (k _ _ h)
  | plus h _ ih => exact .plus (k _ _ h) ih
  | node h l _ ih => exact .node (k _ _ h) l ih
theorem TreeAt.same {H H' : Hp} (s : Same H H') {t : T} {a : Addr} (h : TreeAt H t a) : TreeAt H' t a := h.mono fun _ _ e => s _ _ e
theorem TreeAt.bx {H H' : Hp} {b : Addr} (x : Bx H H' b) (hb : BoxAt H b) {t : T} {a : Addr} (h : TreeAt H t a) : TreeAt H' t a := h.mono fun _ _ e => x.tup hb e
/-- the trees that the law draws: names of ns, numbers to m, so deep -/
inductive Lv (ns : List Cs) (m : Nat) : Nat → T → Prop where
  | num {d k : Nat} (h : k ≤ m) : Lv ns m d (.num k)
  | nam {d : Nat} {s : Cs} (h : s ∈ ns) : Lv ns m d (.nam s)
  | plus {d k : Nat} {t : T} (r : Lv ns m d t) (h : k ≤ m) : Lv ns m (d + 1) (.plus t k)
  | two {d : Nat} {b : Bool} {t u : T} (r : Lv ns m d t) (s : Lv ns m d u) : Lv ns m (d + 1) (.node b [t, u])
  | three {d : Nat} {t u : T} {s : Cs} (r : Lv ns m d t) (q : Lv ns m d u) (h : s ∈ ns) : Lv ns m (d + 1) (.node true [t, u, .nam s])
theorem Lv.ok {ns : List Cs} {m : Nat} (hm : m < 100) (hn : ∀ s ∈ ns, isName s = true) {d : Nat} {t : T} (h : Lv ns m d t) : t.ok := by
  induction h with
  | num h => rw [T.ok]; omega
  | nam h => rw [T.ok]; exact hn _ h
  | plus r h ih => rw [T.ok]; exact ⟨ih, by omega⟩
  | @two d b t u r s ih1 ih2 =>
    rw [T.ok]
    refine ⟨by cases b <;> rfl, fun t ht => ?_⟩
    rcases List.mem_cons.mp ht with rfl | ht
    · exact ih1
    · rcases List.mem_singleton.mp ht with rfl
      exact ih2
  | three r q h ih1 ih2 =>
    rw [T.ok]
    refine ⟨rfl, fun t ht => ?_⟩
    rcases List.mem_cons.mp ht with rfl | ht
    · exact ih1
    · rcases List.mem_cons.mp ht with rfl | ht
      · exact ih2
      · rcases List.mem_singleton.mp ht with rfl
        rw [T.ok]; exact hn _ h
end Pg
namespace Pg
open PySem L2 Mr
theorem int_eq (a b : Int) : decide (V.int a = V.int b) = decide (a = b) := decide_eq_decide.mpr ⟨fun h => by injection h, fun h => by rw [h]⟩
abbrev CalX (P : Program) (w : World) (K : PySem.W.Frag) (mg : Str → Option Value) (base : Heap) (k : Nat) (x : Str) (sp : Sp) := C8.Cal P w K mg base k x sp []
theorem cal_mk {k : Nat} {x : Str} {f : Addr} {fd : FuncData} {ps : List Str} {sp : Sp} (G : FnOk P w K mg base CX0 k f fd ps sp) (m : mg x = some (.ref f)) (kp : PySem.W.keepIn K (.ref f) = true) (b : Binds K fd ps []) : CalX P w K mg base k x sp := ⟨f, fd, ps, [], G, m, kp, b, .nil⟩
end Pg
namespace Pg
open PySem L2 Mr
theorem call_str_any {X : Cx} : CallR X (.type "str") (fun xs H Q => (∃ i, xs = [.int i] ∧ i.natAbs.log2 < 1920 ∧ Q (.str (toString i : String)) H) ∨ ∃ a, xs = [.str a] ∧ Q (.str a) H) := by
  intro pins s σ H vs us Q I r h
  rcases h with h | h
  · exact call_str_int pins s σ H vs us Q I r h
  · exact SkE.call_str_str pins s σ H vs us Q I r h
theorem S_D (k : Nat) : ((toString (k : Int) : String) : Str) = S (D k) := (S_of _).symm
theorem log_small {k : Nat} (h : k < 100) : ((k : Int)).natAbs.log2 < 1920 := by
  have e : ((k : Int)).natAbs = k := Int.natAbs_natCast k
  rw [e]
  have : k.log2 ≤ k := by
    rcases Nat.eq_zero_or_pos k with h | h
    · rw [h]; decide
    · exact Nat.le_of_lt (Nat.log2_lt (by omega) |>.mpr (Nat.lt_two_pow_self))
  omega
theorem S_app (a b : Cs) : S a ++ S b = S (a ++ b) := by
  apply TL.ext_tl
  rw [TL.tl_append]
  rfl
end Pg
namespace Mr
def T.kids : T → List T
  | .num _ => []
  | .nam _ => []
  | .plus t _ => [t]
  | .node _ ts => ts
end Mr
namespace Pg
open PySem L2 Mr
theorem ifF (b : Bool) : (if false = true then !b else b) = b := rfl
theorem eq_self (v : V) : decide (v = v) = true := decide_eq_true rfl
/-- not deeper than n, not too wide -/
inductive Dp : Nat → T → Prop where
  | num {n k : Nat} : Dp n (.num k)
  | nam {n : Nat} {s : Cs} : Dp n (.nam s)
  | plus {n k : Nat} {t : T} (r : Dp n t) : Dp (n + 1) (.plus t k)
  | node {n : Nat} {b : Bool} {ts : List T} (l : ts.length ≤ 20) (r : ∀ t ∈ ts, Dp n t) : Dp (n + 1) (.node b ts)
/-- the trees ts stand at cs -/
def KidsAt (H : Hp) (ts : List T) (cs : List Addr) : Prop := ts.length = cs.length ∧ ∀ (i : Nat) t c, ts[i]? = some t → cs[i]? = some c → TreeAt H t c
theorem KidsAt.same {H H' : Hp} {ts : List T} {cs : List Addr} (h : KidsAt H ts cs) (s : Same H H') : KidsAt H' ts cs := ⟨h.1, fun i t c e1 e2 => (h.2 i t c e1 e2).same s⟩
theorem KidsAt.at {H : Hp} {ts : List T} {cs : List Addr} (h : KidsAt H ts cs) {i : Nat} {x : V} (e : (cs.map V.ref)[i]? = some x) : ∃ t c, ts[i]? = some t ∧ t ∈ ts ∧ x = .ref c ∧ TreeAt H t c := by
  rw [List.getElem?_map] at e
  cases q : cs[i]? with
  | none => rw [q] at e; cases e
  | some c =>
    rw [q] at e
    have lt : i < ts.length := by rw [h.1]; exact (List.getElem?_eq_some_iff.mp q).1
    exact ⟨ts[i], c, List.getElem?_eq_getElem lt, List.getElem_mem lt, (Option.some.inj e).symm, h.2 i _ c (List.getElem?_eq_getElem lt) q⟩
theorem in_leaf : (∀ k : Str, k ∈ [("number" : Str), "name"] → inV (.str k) [.str "number", .str "name"] = true) ∧ ∀ k : Str, k ∈ [("plus" : Str), "max", "imax"] → inV (.str k) [.str "number", .str "name"] = false := by decide +kernel
theorem is_plus : (∀ k : Str, k ∈ [("number" : Str), "name", "max", "imax"] → decide (V.str k = V.str ("plus" : Str)) = false) ∧ (∀ k : Str, k ∈ [("number" : Str), "plus", "max", "imax"] → decide (V.str k = V.str ("name" : Str)) = false) ∧
  (∀ k : Str, k ∈ [("name" : Str), "plus", "max", "imax"] → decide (V.str k = V.str ("number" : Str)) = false) ∧ (∀ k : Str, k ∈ [("number" : Str), "name", "plus"] → decide (V.str k = V.str ("imax" : Str)) = false) := by decide +kernel
theorem cut_tl (x : V) (xs : List V) : cutV (x :: xs) (some 1) none = xs ∧ ¬ (HT.sIx (x :: xs).length 0 (some 1) = 0 ∧ HT.sIx (x :: xs).length (x :: xs).length none = (x :: xs).length) := by
  have e : HT.sIx (x :: xs).length 0 (some 1) = 1 := by
    rw [show (1 : Int) = ((1 : Nat) : Int) from rfl, HT.sIx_nat, List.length_cons]
    omega
  refine ⟨?_, fun h => by rw [e] at h; exact absurd h.1 (by decide)⟩
  unfold cutV
  rw [e, HT.sIx_none]
  simp
theorem cut_12 (x y z : V) : ¬ (HT.sIx [x, y, z].length 0 (some 1) = 0 ∧ HT.sIx [x, y, z].length [x, y, z].length (some 2) = [x, y, z].length) := by
  show ¬ (HT.sIx 3 0 (some 1) = 0 ∧ HT.sIx 3 3 (some 2) = 3)
  decide
theorem at_hd (x : V) (xs : List V) : atI (x :: xs) 0 = some x := atI_nat (xs := x :: xs) (j := 0) rfl
end Pg
namespace Mr
open PySem
theorem T.text_plus (t : T) (k : Nat) : (T.plus t k).text = t.text ++ cPlus ++ D k := by
  unfold T.text
  rw [T.tok, List.flatten_append]
  simp
theorem joinL_glue : ∀ l : List (List Cs), TL.joinL cSep (l.map List.flatten) = (glue l).flatten
  | [] => rfl
  | [a] => by
    show TL.joinL cSep [a.flatten] = a.flatten
    simp [TL.joinL]
  | a :: b :: r => by
    have ih := joinL_glue (b :: r)
    show a.flatten ++ (cSep ++ TL.joinL cSep ((b :: r).map List.flatten)) = (a ++ cSep :: glue (b :: r)).flatten
    rw [ih, List.flatten_append, List.flatten_cons]
theorem T.text_node (b : Bool) (ts : List T) : (T.node b ts).text = opn b ++ TL.joinL cSep (ts.map T.text) ++ cEnd := by
  have e := joinL_glue (ts.map fun t => t.tok)
  rw [List.map_map] at e
  have e' : TL.joinL cSep (ts.map T.text) = (glue (ts.map fun t => t.tok)).flatten := e
  rw [e']
  unfold T.text
  rw [T.tok, List.flatten_cons, List.flatten_append]
  simp
theorem joinL_len (sep : Cs) : ∀ (l : List Cs) (t : Cs), t ∈ l → t.length ≤ (TL.joinL sep l).length
  | [], t, h => absurd h List.not_mem_nil
  | [a], t, h => by
    rcases List.mem_singleton.mp h with rfl
    simp [TL.joinL]
  | a :: b :: r, t, h => by
    show t.length ≤ (a ++ (sep ++ TL.joinL sep (b :: r))).length
    rw [List.length_append, List.length_append]
    rcases List.mem_cons.mp h with rfl | h
    · omega
    · have := joinL_len sep (b :: r) t h
      omega
end Mr
namespace Pg
open PySem L2 Mr
theorem tv_S (a : Cs) : tv a = .str (S a) := rfl
theorem join_sep (l : List Cs) : Txt.join (", " : Str) (l.map S) = S (TL.joinL cSep l) := by
  have e0 : S cSep = (", " : Str) := by decide +kernel
  rw [TL.join_eq]
  apply TL.ext_tl
  rw [TL.tl_join, ← e0, List.map_map]
  show TL.joinL cSep (l.map fun t => t) = _
  rw [List.map_id']
  rfl
theorem open_S (b : Bool) : cName b ++ ("(" : Str) = S (opn b) := by cases b <;> decide +kernel
theorem plus_S : (" + " : Str) = S cPlus := by decide +kernel
theorem end_S : (")" : Str) = S cEnd := by decide +kernel
theorem opn_len (b : Bool) : (opn b).length ≤ 5 := by cases b <;> decide
end Pg
namespace Pg
open PySem L2 Mr
theorem num_name_no : ∀ k : Str, k ∈ [("number" : Str), "plus", "max", "imax"] → decide (V.str k = V.str ("name" : Str)) = false := is_plus.2.1
theorem int_nat (k : Nat) : ((k : Nat) : Int) = (k : Int) := rfl
/-- the dict at d has the numbers of f for the names of t -/
def WAt (H : Hp) (d : Addr) (f : Cs → Int) (t : T) : Prop := ∃ kvs, H d = some (.dK kvs) ∧ ∀ s, Stp.nam s ∈ t.stp → valV kvs (Sum.inr (S s)) = some (.int (f s))
theorem WAt.same {H H' : Hp} {d : Addr} {f : Cs → Int} {t : T} (h : WAt H d f t) (s : Same H H') : WAt H' d f t := let ⟨kvs, h1, h2⟩ := h; ⟨kvs, s _ _ h1, h2⟩
theorem WAt.kid {H : Hp} {d : Addr} {f : Cs → Int} {b : Bool} {ts : List T} {t : T} (h : WAt H d f (.node b ts)) (m : t ∈ ts) : WAt H d f t := let ⟨kvs, h1, h2⟩ := h
  ⟨kvs, h1, fun s hs => h2 s (by rw [T.stp]; exact List.mem_append_left _ (List.mem_flatten.mpr ⟨_, List.mem_map_of_mem m, hs⟩))⟩
end Pg
namespace Pg
open PySem L2 Mr
/-! ### d.update(e) -/
def rUpdate : V → List V → Hp → VK → Prop := fun x vs H Q => ∃ (d o : Addr) (ks ms : List (Key × V)), x = .ref d ∧ vs = [.ref o] ∧ d ≠ o ∧ H d = some (.dK ks) ∧ H o = some (.dK ms) ∧ ks.length + ms.length ≤ sizeLine ∧ Q .non (upd H d (.dK (mergeK ks ms)))
theorem mt_update {X : Cx} : MtM X "dict.update" rUpdate := by
  intro pins s σ H x vs v us Q I rx rv h
  obtain ⟨d, o, ks, ms, rfl, rfl, hdo, hd, ho, hz, q⟩ := h
  cases rx
  obtain ⟨u, rfl, ru⟩ := rv.one
  cases ru
  obtain ⟨z, hs, vs, rel, dd⟩ := dk_of I.hok hd
  obtain ⟨z2, hs2, vs2, rel2, dd2⟩ := dk_of I.hok ho
  refine call_meetsIn PySem.F.slot_dict_update dd.typeIs PySem.F.entry_dict_update (PySem.F.args_dict_update_2 _ _) (meets_dict_update (mixKind X.prog X.w) d o hdo hs2) ⟨vs, vs2, dd, dd2, by rw [← rel.length, ← rel2.length]; exact hz, fun h' dd' _ sb => ?_⟩
  have he : ∃ q, h'.get? d = some q := let ⟨q, _, _, hq, _⟩ := dd'; ⟨q, hq⟩
  exact ⟨.non, _, d_write (t' := s.toks) I (by rw [hd]; exact True.intro) sb he (dk_new (Nat.le_trans (length_mergeK ms ks) hz) hs (KV.merge rel2 rel) dd'), rfl, q⟩
/-! ### dicts that are written from lists of names -/
theorem valV_names (F : Cs → V) (s0 : Cs) : ∀ l : List Cs, valV (l.map fun s => ((Sum.inr (S s), F s) : Key × V)) (Sum.inr (S s0)) = if s0 ∈ l then some (F s0) else none
  | [] => by simp [valV]
  | a :: l => by
    rw [List.map_cons]
    by_cases e : a = s0
    · rw [valV_pos (by rw [e]), if_pos (by rw [e]; exact List.mem_cons_self), e]
    · rw [valV_neg (fun z => e (S_inj.mp (Sum.inr.inj z))), valV_names F s0 l]
      by_cases m : s0 ∈ l
      · rw [if_pos m, if_pos (List.mem_cons_of_mem _ m)]
      · rw [if_neg m, if_neg]
        intro z
        rcases List.mem_cons.mp z with z | z
        · exact e z.symm
        · exact m z
theorem names_cong {F G : Cs → V} {l : List Cs} (h : ∀ s ∈ l, F s = G s) : (l.map fun s => ((Sum.inr (S s), F s) : Key × V)) = l.map fun s => ((Sum.inr (S s), G s) : Key × V) :=
  List.map_congr_left fun s hs => by rw [h s hs]
/-- a new name at the end -/
theorem put_name {F : Cs → V} {l : List Cs} {s0 : Cs} {v : V} (h : s0 ∉ l) : putK (l.map fun s => ((Sum.inr (S s), F s) : Key × V)) (Sum.inr (S s0)) v = (l ++ [s0]).map fun s => ((Sum.inr (S s), if s = s0 then v else F s) : Key × V) := by
  rw [putK_new _ (by rw [valV_names, if_neg h]), List.map_append]
  congr 1
  · exact names_cong fun s hs => by rw [if_neg (fun z => h (by rw [← z]; exact hs))]
  · simp
theorem not_take {l : List Cs} (nd : l.Nodup) {i : Nat} {y : Cs} (hy : l[i]? = some y) : y ∉ l.take i := fun hm => by
  obtain ⟨j, hj, e⟩ := List.getElem_of_mem hm
  rw [List.getElem_take] at e
  rw [List.length_take] at hj
  have hi := (List.getElem?_eq_some_iff.mp hy)
  have := (List.getElem_inj (h₀ := by omega) (h₁ := hi.1) nd).mp (e.trans hi.2.symm)
  omega
theorem at_name {ns : List Cs} {i : Nat} {x : V} (hi : (ns.map tv)[i]? = some x) : ∃ t, ns[i]? = some t ∧ x = tv t := by
  rw [List.getElem?_map] at hi
  cases e : ns[i]? with
  | none => rw [e] at hi; cases hi
  | some t => rw [e] at hi; exact ⟨t, rfl, (Option.some.inj hi).symm⟩
end Pg
namespace Pg
open PySem L2 Mr
theorem sign_no : isName cMax = false ∧ isName cImax = false ∧ isName cPlus = false ∧ isName cSep = false ∧ isName cEnd = false := by decide +kernel
theorem opn_no (b : Bool) : isName (opn b) = false := by cases b <;> decide +kernel
theorem num_no {k : Nat} (h : k < 100) : isName (D k) = false := by
  have e := num_ok h
  unfold numFacts at e
  simp only [Bool.and_eq_true, Bool.not_eq_true'] at e
  exact e.1.1.2
theorem num_len {k : Nat} (h : k < 100) : (D k).length ≤ 2 := by
  have e := num_ok h
  unfold numFacts at e
  simp only [Bool.and_eq_true, Bool.not_eq_true', decide_eq_true_eq] at e
  exact e.2
theorem name_len {s : Cs} (h : isName s = true) : s.length ≤ 4 := by
  unfold isName at h
  simp only [Bool.and_eq_true, decide_eq_true_eq] at h
  exact h.2.1
end Pg
namespace Pg
open PySem L2 Mr
theorem Dp.mono {n : Nat} {t : T} (h : Dp n t) : ∀ m, n ≤ m → Dp m t := by
  induction h with
  | num => intro m _; exact .num
  | nam => intro m _; exact .nam
  | @plus n k t r ih =>
    intro m hm
    obtain ⟨m, rfl⟩ : ∃ k, m = k + 1 := ⟨m - 1, by omega⟩
    exact .plus (ih m (by omega))
  | @node n b ts l r ih =>
    intro m hm
    obtain ⟨m, rfl⟩ : ∃ k, m = k + 1 := ⟨m - 1, by omega⟩
    exact .node l fun t ht => ih t ht m (by omega)
end Pg
namespace Pg
open PySem L2 Mr
theorem sum_le2 {α : Type} (f g : α → Nat) : ∀ l : List α, (∀ x ∈ l, f x ≤ g x) → (l.map f).sum ≤ (l.map g).sum
  | [], _ => Nat.le_refl _
  | a :: l, h => by
    have h1 := h a List.mem_cons_self
    have h2 := sum_le2 f g l fun x hx => h x (List.mem_cons_of_mem _ hx)
    rw [List.map_cons, List.map_cons, List.sum_cons, List.sum_cons]
    omega
theorem joinL_sum : ∀ l : List Cs, (TL.joinL cSep l).length ≤ (l.map fun t => t.length + 2).sum
  | [] => Nat.le_refl _
  | [a] => by simp [TL.joinL]
  | a :: b :: r => by
    have ih := joinL_sum (b :: r)
    show (a ++ (cSep ++ TL.joinL cSep (b :: r))).length ≤ _
    rw [List.length_append, List.length_append, List.map_cons, List.sum_cons]
    have : cSep.length = 2 := rfl
    omega
theorem sum_mul (f : T → Nat) : ∀ l : List T, (l.map fun t => 9 * f t).sum = 9 * (l.map f).sum
  | [] => rfl
  | a :: l => by
    rw [List.map_cons, List.map_cons, List.sum_cons, List.sum_cons, sum_mul f l]
    omega
theorem text_len : ∀ t : T, t.ok → t.text.length + 2 ≤ 9 * t.stp.length
  | .num k, h => by
    rw [T.ok] at h
    have := num_len h
    have e : (T.num k).text = D k := by simp [T.text, T.tok]
    rw [e, T.stp]
    show _ ≤ 9 * 1
    omega
  | .nam s, h => by
    rw [T.ok] at h
    have := name_len h
    have e : (T.nam s).text = s := by simp [T.text, T.tok]
    rw [e, T.stp]
    show _ ≤ 9 * 1
    omega
  | .plus t k, h => by
    rw [T.ok] at h
    have h1 := num_len h.2
    have ih := text_len t h.1
    have h3 : cPlus.length = 3 := rfl
    rw [T.text_plus, T.stp, List.length_append, List.length_append, List.length_append]
    show _ ≤ 9 * (_ + 1)
    omega
  | .node b ts, h => by
    rw [T.ok] at h
    rw [T.text_node, T.stp, List.length_append, List.length_append, List.length_append, List.length_flatten, List.map_map]
    have h1 := joinL_sum (ts.map T.text)
    rw [List.map_map] at h1
    have h2 := sum_le2 ((fun t : Cs => t.length + 2) ∘ T.text) (fun t => 9 * t.stp.length) ts fun t ht => text_len t (h.2 t ht)
    rw [sum_mul] at h2
    have h3 := opn_len b
    have h4 : cEnd.length = 1 := rfl
    have h5 : (ts.map (List.length ∘ fun t => t.stp)).sum = (ts.map fun t => t.stp.length).sum := rfl
    rw [h5]
    show _ ≤ 9 * (_ + 1)
    omega
end Pg
/-! Nm -/
set_option Elab.async false
set_option linter.all false
set_option maxRecDepth 100000
set_option maxHeartbeats 4000000
namespace Pg
open PySem L2 Mr
section
variable {P : Program} {w : World} {K : PySem.W.Frag} {mg : Str → Option Value} {base : Heap} {pS pC : Addr}
/-! ### names_in -/
def spNames (K : PySem.W.Frag) : Sp := fun vs H Q _ => ∃ (a : Addr) (ss : List Stp), vs = [.ref a] ∧ LevAt K H a ss ∧ ss.length < 64 ∧
  ∀ H' p (ys : List Str), Same H H' → H' p = some (.tup (ys.map V.str)) → PyProof.Rows.sortedS ys = true → ys.Nodup → (∀ x, x ∈ ys ↔ ∃ s, x = S s ∧ Stp.nam s ∈ ss) → ys.length ≤ ss.length → Q (.ref p) H'
theorem sc_names : FnScope ["steps", "kind", "thing"] ["steps"] (defScope st_names_in) := ⟨rfl, rfl, rfl, by decide +kernel, rfl, by decide +kernel, by decide +kernel⟩
theorem not_name : decide (V.str ("number" : Str) = V.str ("name" : Str)) = false ∧ decide (V.str ("+" : Str) = V.str ("name" : Str)) = false ∧ (∀ b, decide (V.str (cName b) = V.str ("name" : Str)) = false) ∧ decide (V.str ("name" : Str) = V.str ("name" : Str)) = true := by decide +kernel
theorem ok_names {f : Addr} {fd : FuncData} (F : Fun K "names_in" "names_in" st_names_in f fd) (T : Tx K w mg pS pC) : FnOk P w K mg base CX0 1 f fd ["steps"] (spNames K) := by
  refine F.ok sc_names (fun vs H Q E h => ?_) (fun cdv A outer s H vs Q E hr h => ?_)
  · obtain ⟨a, ss, rfl, _⟩ := h
    rfl
  obtain ⟨a, ss, rfl, ⟨as, hS, hA⟩, few, q⟩ := h
  have nd := sc_names.nd
  refine ⟨_, pss_one (ps_ret (pe_callTy call_tuple_of (by rfl) T.tup (by decide +kernel) (pa_cons (pe_callB (Sx.cr_sortTO rfl) (by rfl) T.sorted (by decide +kernel) (pa_cons
    (Sx.pe_ss (g := gTup K 2 (gCons (gName 1) (gCons (gName 2) gNil))) (own := [("kind", 1), ("thing", 2)]) rfl nd (pi_tup (pv 0)) (blkOk_by (N := ["steps", "kind", "thing"]) (sc := defScope st_names_in) (by decide +kernel))
      (fun _ _ _ _ _ => pg_tup (n := 2) rfl (pgs_cons (pg_name (i := 1) nd rfl (.inl rfl) (hf := .inr rfl)) (pgs_cons (pg_name (i := 2) nd rfl (.inl rfl) (hf := .inr rfl)) pgs_nil))) (fun _ _ _ _ _ => pts_one (pt_cmpR op_eq (pv 1) pe_str (nomark _))) (fun _ _ _ _ _ => pv 2)) pa_nil)) pa_nil))), ?_⟩
  refine ⟨_, rfl, a, rfl, ⟨_, hS⟩, fun D nD => Sx.ss_tup (K := K) (a := a) (xs := as.map V.ref) (fun i H' => Same H H' ∧ ∃ ks n, H' D = some (Sx.TxS w D ks n) ∧ n ≤ i ∧ ∀ x, x ∈ ks ↔ ∃ s, x = S s ∧ Stp.nam s ∈ ss.take i)
    ⟨same_new nD _, [], 0, upd_same, Nat.le_refl _, fun x => by simp⟩ (fun i H' _ p => Same.tup p.1 hS) ?_ ?_⟩
  · rintro i x H' hi ⟨sm, ks, n, hD, hn, hk⟩
    obtain ⟨b, st, rfl, hs, hb⟩ := (hA.same sm).at hi
    have ilt : i < ss.length := (List.getElem?_eq_some_iff.mp hs).1
    have tk : ss.take (i + 1) = ss.take i ++ [st] := by rw [List.take_succ, hs]; rfl
    have other : (∀ s, st ≠ .nam s) → Same H H' ∧ ∃ ks n, H' D = some (Sx.TxS w D ks n) ∧ n ≤ i + 1 ∧ ∀ x, x ∈ ks ↔ ∃ s, x = S s ∧ Stp.nam s ∈ ss.take (i + 1) := fun ne => by
      refine ⟨sm, ks, n, hD, Nat.le_succ_of_le hn, fun x => ?_⟩
      rw [hk x, tk]
      constructor
      · rintro ⟨s, e, h⟩; exact ⟨s, e, List.mem_append_left _ h⟩
      · rintro ⟨s, e, h⟩
        rcases List.mem_append.mp h with h | h
        · exact ⟨s, e, h⟩
        · exact absurd (List.mem_singleton.mp h).symm (ne s)
    cases st with
    | num k =>
      refine ⟨b, _, rfl, SqT.of hb, rfl, _, _, rfl, _, _, rfl, rfl, rfl, _, rfl, rfl, _, rfl, ?_⟩
      rw [not_name.1]
      exact other fun s e => by cases e
    | plus k =>
      refine ⟨b, _, rfl, SqT.of hb, rfl, _, _, rfl, _, _, rfl, rfl, rfl, _, rfl, rfl, _, rfl, ?_⟩
      rw [not_name.2.1]
      exact other fun s e => by cases e
    | call c k =>
      refine ⟨b, _, rfl, SqT.of hb, rfl, _, _, rfl, _, _, rfl, rfl, rfl, _, rfl, rfl, _, rfl, ?_⟩
      rw [not_name.2.2.1]
      exact other fun s e => by cases e
    | nam s0 =>
      refine ⟨b, _, rfl, SqT.of hb, rfl, _, _, rfl, _, _, rfl, rfl, rfl, _, rfl, rfl, _, rfl, ?_⟩
      rw [not_name.2.2.2]
      refine ⟨_, rfl, S s0, ks, n, rfl, hD, ?_, same_mut sm nD, ks ++ [S s0], n + 1, upd_same, Nat.succ_le_succ hn, fun x => ?_⟩
      · exact Nat.lt_of_le_of_lt (show n + 1 ≤ 64 by omega) (by decide)
      · rw [List.mem_append, hk x, List.mem_singleton, tk]
        constructor
        · rintro (⟨s, e, h⟩ | rfl)
          · exact ⟨s, e, List.mem_append_left _ h⟩
          · exact ⟨s0, rfl, List.mem_append_right _ (by simp)⟩
        · rintro ⟨s, e, h⟩
          rcases List.mem_append.mp h with h | h
          · exact .inl ⟨s, e, h⟩
          · have := List.mem_singleton.mp h
            cases this
            exact .inr e
  · rintro H' ⟨sm, ks, n, hD, hn, hk⟩
    rw [List.length_map, hA.len] at hn hk
    rw [List.take_length] at hk
    refine ⟨D, ks, n, rfl, hD, by omega, fun ys p h1 h2 h3 h4 np => ⟨p, _, rfl, .inl ⟨SqL.of upd_same, fun l nl => ?_⟩⟩⟩
    exact q _ l ys ((sm.trans (same_new np _)).trans (same_new nl _)) upd_same h1 h2 (fun x => (h3 x).trans (hk x)) (by omega)
end
end Pg
/-! Ts -/
set_option Elab.async false
set_option linter.all false
set_option maxRecDepth 100000
set_option maxHeartbeats 4000000
/-! set(xs), xs a list of texts. -/
namespace Sx
open PySem PySem.Spec PyProof.Rows L2
section
variable {P : Program} {w : World} {A : Around} {E : Value → Shared → Prop} {s : Shared}
theorem TSet.more {h : Heap} {a : Addr} {ks ks' : List Str} {n n' : Nat} (R : TSet w h a ks n) (m : ∀ x, x ∈ ks' ↔ x ∈ ks) (l : n ≤ n') (b : n' < scanBound) : TSet w h a ks' n' :=
  let ⟨o, es, ep, t, h1, h2, h3, h4, h5, r⟩ := R
  ⟨o, es, ep, t, h1, h2, h3, fun x => (m x).trans (h4 x), ⟨Nat.le_trans h5.1 l, b⟩, r⟩
/-- the turns of set.update over texts -/
theorem turns {I S : Addr} {fp wr : List Addr} {G : Array GenState → Array GenState → Prop} {xs : List Str} {Pv : Nat → Value → Prop} {St : Nat → Shared → Prop} {R : Result → Shared → Prop}
    (W : WalksS P w A.in1 I fp wr G xs.length Pv St) (away : S ∉ fp) (few : xs.length + 1 < scanBound) (hv : ∀ i v, Pv i v → ∃ x t, xs[i]? = some x ∧ v = .str x t)
    : ∀ (left i : Nat) (s : Shared), xs.length - i = left → i ≤ xs.length → St i s → TSet w s.heap S (xs.take i) i →
      (∀ s', Moved (S :: wr) G s s' → TSet w s'.heap S xs xs.length → R (.ok (.ret .none)) s') → codeAny (model P w) A (.builtin "set.update.loop" ⟨[.ref S, .ref I], []⟩) R s := by
  have awayW : S ∉ wr := fun z => away (W.sub _ z)
  have inc : ∀ b ∈ wr, b ∈ S :: wr := fun b z => List.mem_cons_of_mem S z
  intro left
  induction left with
  | zero =>
    intro i s e hi st T ask
    have e2 : i = xs.length := by omega
    rw [e2] at st T
    rw [List.take_length] at T
    refine codeAny_builtin F.entry_set_update_loop (by
      rw [Around.under_plainId F.plain_set_update_loop _]
      show wpAny _ A.in1 (pyNext (.ref I) >>= _) _ _ _
      exact wpAny_bind (W.done s _ _ st fun s' mv => by
        show wpAny _ A.in1 (ret Value.none) _ _ _
        exact wpAny_pure (ask s' (mv.mono inc) (T.stay fun o g => mv.heap S o awayW g))))
  | succ left ih =>
    intro i s e hi st T ask
    have lt : i < xs.length := by omega
    refine codeAny_builtin F.entry_set_update_loop ?_
    rw [Around.under_plainId F.plain_set_update_loop _]
    show wpAny _ A.in1 (pyNext (.ref I) >>= _) _ _ _
    refine wpAny_bind (W.item i s _ _ lt st fun v s' pv st' mv => ?_)
    obtain ⟨x, t, hx, rfl⟩ := hv i v pv
    have T' := T.stay (h' := s'.heap) fun o g => mv.heap S o awayW g
    show wpAny _ A.in1 (holding [Value.str x t] (setAdd S (.str x t)) >>= _) _ _ _
    unfold setAdd
    refine wpAny_bind (wpAny_holding (wpAny_holding (wpAny_bind ((strKind P w).pyHash (kdIs P w x t) ?_))))
    refine addHashed (s := { s' with toks := s'.toks + 1 }) T' (by omega) fun b h' sb T2 => ?_
    have off : ∀ b o, b ≠ S → s'.heap.get? b = some o → h'.get? b = some o := fun b o n g => by rw [sb.2 b n]; exact g
    have T3 : TSet w h' S (xs.take (i + 1)) (i + 1) := T2.more (fun y => by rw [List.take_succ, hx]; rfl) (Nat.le_refl _) (by omega)
    have st2 := W.frame _ s' h' (s'.toks + 1) st' (Nat.le_succ _) fun b hb o g => off b o (fun z => away (z ▸ hb)) g
    refine wpAny_pure ⟨plainId_quiet F.plain_set_update_loop _, ih (i + 1) _ (by omega) lt st2 T3 fun s2 mv2 T4 => ?_⟩
    exact ask s2 (Moved.trans W.gtrans ((mv.mono inc).then_heap (Nat.le_succ _) fun b o hb g => off b o (fun z => hb (z ▸ List.mem_cons_self)) g) mv2) T4
/-- a new set, as the type makes it -/
abbrev bare (w : World) : Obj := { cls := .type "set", dict := none, data := .set #[] 0 (.fresh 0 0 (!w.params.followText "set-order")) }
theorem setOfTexts {l : Addr} {items : Array Value} {xs : List Str} {Q : Value → Shared → Prop} (hh : A.handled = none) (hl : s.heap.IsList l items) (hi : StrsAre items.toList xs) (few : xs.length + 1 < scanBound)
    (h : ∀ (h' : Heap) (tk : Nat), TSet w h' s.heap.objs.size xs xs.length → (∀ b o, s.heap.get? b = some o → h'.get? b = some o) → Q (.ref s.heap.objs.size) { s with heap := h', toks := tk }) :
    wpAny (model P w) A (call (.type "set") [.ref l]) Q E s := by
  have many : xs.length = items.size := by rw [← StrsAre.len_eq hi, Array.length_toList]
  have at_ : ∀ (i : Nat) (v : Value), items[i]? = some v → ∃ x t, xs[i]? = some x ∧ v = .str x t := by
    intro i v e
    obtain ⟨t, ev⟩ := SS.strs_at hi i v (by rw [Array.getElem?_toList]; exact e)
    have lt : i < xs.length := by
      rw [many]
      exact (Array.getElem?_eq_some_iff.mp e).1
    refine ⟨xs[i], t, List.getElem?_eq_getElem lt, ?_⟩
    rw [ev, List.getD_eq_getElem?_getD, List.getElem?_eq_getElem lt]
    rfl
  obtain ⟨c, tl, hmro⟩ := F.called_set.mro
  have hmade := F.called_set.made; have hsub := F.called_set.sub; have hn1 := F.called_set.notType; have hn2 := F.called_set.canCreate; have hn3 := F.typeCall_set_1 (.ref l)
  refine wpAny_call (codeAny_of_tree (by
    show wpAny _ _ (callAny (.type "set") _) _ _ _
    refine wpAny_pure ⟨Code.quiet_builtin _ (by decide +kernel), codeAny_builtin F.entry_type_call ?_⟩
    rw [Around.under_plain (weight_type_call_type "set" [.ref l] []) rfl]
    repeat (any_goals (first | assumption | wp_step))
    have born : (s.heap.push (bare w)).get? s.heap.objs.size = some (bare w) := Heap.get?_push_size _ rfl
    refine codeAny_mono (code_set_led1 (.ref l) (E := E) (Q₁ := fun obj s₁ => obj = .ref s.heap.objs.size ∧ s₁ = { s with heap := s.heap.push (bare w) }) ⟨rfl, rfl⟩) ?_
    intro r s₁ hr
    match r, hr with
    | .error e, hr => exact hr
    | .ok .next, hr => exact hr.elim
    | .ok .brk, hr => exact hr.elim
    | .ok .cont, hr => exact hr.elim
    | .ok (.ret obj), hr =>
      obtain ⟨eo, es⟩ := hr
      rw [eo, es]
      have isSet : Shared.TypeIs { s with heap := s.heap.push (bare w) } (.ref s.heap.objs.size) "set" := ⟨_, born, rfl⟩
      have hli := F.called_set.init.lookup; have hbi := F.called_set.init.bind (.ref s.heap.objs.size)
      repeat (any_goals (first | assumption | wp_step))
      refine codeAny_mono (codeAny_call_builtin (R := wants (fun r s₂ => r = .none ∧ ∃ h' tk, s₂ = { s with heap := h', toks := tk } ∧ TSet w h' s.heap.objs.size xs xs.length ∧
        ∀ b o, s.heap.get? b = some o → h'.get? b = some o) E) F.called_set.init.plain F.entry_set_init (check_set_init_1 isSet ?_)) ?_
      · obtain ⟨⟨ocls, odict, odata, oslots⟩, hol, hcl, nl, hdl⟩ := hl
        simp only at hcl hdl
        subst hcl hdl
        have lt : l < s.heap.objs.size := Heap.lt_size hol
        have still := Heap.get?_push_of_some (bare w) hol
        have isL : (s.heap.push (bare w)).IsList l items := ⟨_, still, rfl, nl, rfl⟩
        have hsls := F.sub_list_set; have hslf := F.sub_list_frozenset
        have noDict : (Value.type "list" == Value.type "dict") = false := by decide
        unfold Builtin.«set.__init__» noKeywords Builtin.Frozenset.updateFrom
        generalize hPI : pyIter = PI
        wp_walk
        subst hPI
        refine wpAny_pyIter_list isL (wpAny_bind (wpAny_runValue ?_))
        have sz1 : (s.heap.push (bare w)).objs.size = s.heap.objs.size + 1 := Heap.size_push ..
        have hd3 : A.in1.in1.in1.handled = none := by simp [hh]
        have ne1 : l ≠ (s.heap.push (bare w)).objs.size := Nat.ne_of_lt (by rw [sz1]; exact Nat.lt_succ_of_lt lt)
        have ne2 : s.heap.objs.size ∉ [(s.heap.push (bare w)).objs.size, l] := by
          intro z
          rcases List.mem_cons.mp z with z | z
          · rw [sz1] at z
            exact Nat.ne_of_lt (Nat.lt_succ_self _) z
          · exact Nat.ne_of_gt lt (List.mem_singleton.mp z)
        have start : TSet w ((s.heap.push (bare w)).push { cls := .type "list_iterator", data := .fields #[.ref l, .int 0 0] }) s.heap.objs.size (xs.take 0) 0 :=
          (emptySet w s.heap).stay fun o g => Heap.get?_push_of_some _ g
        have way := (Walks.list (prog := P) (w := w) hd3 (s.heap.push (bare w)).objs.size l ne1 items).toS
        rw [← many] at way
        refine turns (S := s.heap.objs.size) way ne2 few at_ (xs.length - 0) 0 _ rfl (Nat.zero_le _) ⟨⟨_, Heap.get?_push_size _ rfl, rfl, rfl⟩, (isL.push _)⟩ start ?_
        intro s' mv T
        obtain ⟨h', g2, d', tk', os'⟩ := s'
        have eg : g2 = s.gens := mv.gens; have ed : d' = s.drawn := mv.drawn; have eo2 : os' = s.os := mv.os
        subst eg ed eo2
        show wpAny _ _ _ _ _ _
        refine wpAny_pure (by
          show wpAny _ _ (ret Value.none) _ _ _
          refine wpAny_pure ⟨rfl, h', tk', rfl, T, fun b o g => ?_⟩
          have b1 := Heap.lt_size g
          refine mv.heap b o (fun z => ?_) (Heap.get?_push_of_some _ (Heap.get?_push_of_some _ g))
          rcases List.mem_cons.mp z with z | z
          · exact Nat.ne_of_lt b1 z
          · have z := List.mem_singleton.mp z
            rw [sz1] at z
            exact Nat.ne_of_lt (Nat.lt_succ_of_lt b1) z)
      · intro r₂ s₂ hr₂
        match r₂, hr₂ with
        | .error e, hr₂ => exact hr₂
        | .ok .next, hr₂ => exact hr₂.elim
        | .ok .brk, hr₂ => exact hr₂.elim
        | .ok .cont, hr₂ => exact hr₂.elim
        | .ok (.ret r3), ⟨e3, h', tk, e4, T, keep⟩ =>
          rw [e3, e4]
          repeat (any_goals (first | assumption | wp_step))
          exact h _ _ T keep))
end
end Sx
/-! Ts2 -/
set_option Elab.async false
set_option linter.all false
set_option maxRecDepth 100000
set_option maxHeartbeats 4000000
namespace Sx
open PySem PySem.Spec PyProof.Rows L2
section
variable {X : Cx}
theorem cr_setTexts (hc : X.calm = true) : CallR X (.type "set") (fun xs H Q => ∃ (a : Addr) (l : List Str), xs = [.ref a] ∧ SqL X.K H a (l.map V.str) ∧ l.length < 60 ∧ ∀ p, H p = none → Q (.ref p) (upd H p (TxS X.w p l l.length))) := by
  intro pins s σ H xs us Q I rel h
  obtain ⟨a, l, rfl, hs, few, q⟩ := h
  rw [Vals.ref1 rel]
  obtain ⟨its, rv, pl, _⟩ := I.list hs
  refine setOfTexts (xs := l) (I.ok.hd hc) pl.isList (by simpa using strsAre_of rv) (Nat.lt_of_lt_of_le (Nat.succ_lt_succ few) (by decide)) ?_
  intro h' tk T keep
  exact ⟨.ref s.heap.objs.size, upd H s.heap.objs.size (TxS X.w s.heap.objs.size l l.length), I.laid (t' := tk) keep (Nat.le_refl _) (to_ok T), rfl, q _ (I.hok.fresh (Nat.le_refl _))⟩
end
end Sx
/-! Se -/
set_option Elab.async false
set_option linter.all false
set_option maxRecDepth 100000
set_option maxHeartbeats 4000000
/-! set(xs), xs a tuple of texts; len of such a set. -/
namespace Sx
open PySem PySem.Spec PyProof.Rows L2
section
variable {P : Program} {w : World} {A : Around} {E : Value → Shared → Prop} {s : Shared}
theorem setOfTextsT {l : Addr} {items : Array Value} {xs : List Str} {Q : Value → Shared → Prop} (hh : A.handled = none) (hl : s.heap.IsTuple l items) (hi : StrsAre items.toList xs) (few : xs.length + 1 < scanBound)
    (h : ∀ (h' : Heap) (tk : Nat), TSet w h' s.heap.objs.size xs xs.length → (∀ b o, s.heap.get? b = some o → h'.get? b = some o) → Q (.ref s.heap.objs.size) { s with heap := h', toks := tk }) :
    wpAny (model P w) A (call (.type "set") [.ref l]) Q E s := by
  have many : xs.length = items.size := by rw [← StrsAre.len_eq hi, Array.length_toList]
  have at_ : ∀ (i : Nat) (v : Value), items[i]? = some v → ∃ x t, xs[i]? = some x ∧ v = .str x t := by
    intro i v e
    obtain ⟨t, ev⟩ := SS.strs_at hi i v (by rw [Array.getElem?_toList]; exact e)
    have lt : i < xs.length := by
      rw [many]
      exact (Array.getElem?_eq_some_iff.mp e).1
    refine ⟨xs[i], t, List.getElem?_eq_getElem lt, ?_⟩
    rw [ev, List.getD_eq_getElem?_getD, List.getElem?_eq_getElem lt]
    rfl
  obtain ⟨c, tl, hmro⟩ := F.called_set.mro
  have hmade := F.called_set.made; have hsub := F.called_set.sub; have hn1 := F.called_set.notType; have hn2 := F.called_set.canCreate; have hn3 := F.typeCall_set_1 (.ref l)
  refine wpAny_call (codeAny_of_tree (by
    show wpAny _ _ (callAny (.type "set") _) _ _ _
    refine wpAny_pure ⟨Code.quiet_builtin _ (by decide +kernel), codeAny_builtin F.entry_type_call ?_⟩
    rw [Around.under_plain (weight_type_call_type "set" [.ref l] []) rfl]
    repeat (any_goals (first | assumption | wp_step))
    have born : (s.heap.push (bare w)).get? s.heap.objs.size = some (bare w) := Heap.get?_push_size _ rfl
    refine codeAny_mono (code_set_led1 (.ref l) (E := E) (Q₁ := fun obj s₁ => obj = .ref s.heap.objs.size ∧ s₁ = { s with heap := s.heap.push (bare w) }) ⟨rfl, rfl⟩) ?_
    intro r s₁ hr
    match r, hr with
    | .error e, hr => exact hr
    | .ok .next, hr => exact hr.elim
    | .ok .brk, hr => exact hr.elim
    | .ok .cont, hr => exact hr.elim
    | .ok (.ret obj), hr =>
      obtain ⟨eo, es⟩ := hr
      rw [eo, es]
      have isSet : Shared.TypeIs { s with heap := s.heap.push (bare w) } (.ref s.heap.objs.size) "set" := ⟨_, born, rfl⟩
      have hli := F.called_set.init.lookup; have hbi := F.called_set.init.bind (.ref s.heap.objs.size)
      repeat (any_goals (first | assumption | wp_step))
      refine codeAny_mono (codeAny_call_builtin (R := wants (fun r s₂ => r = .none ∧ ∃ h' tk, s₂ = { s with heap := h', toks := tk } ∧ TSet w h' s.heap.objs.size xs xs.length ∧
        ∀ b o, s.heap.get? b = some o → h'.get? b = some o) E) F.called_set.init.plain F.entry_set_init (check_set_init_1 isSet ?_)) ?_
      · obtain ⟨⟨ocls, odict, odata, oslots⟩, hol, hcl, nl, hdl⟩ := hl
        simp only at hcl hdl
        subst hcl hdl
        have lt : l < s.heap.objs.size := Heap.lt_size hol
        have still := Heap.get?_push_of_some (bare w) hol
        have isL : (s.heap.push (bare w)).IsTuple l items := ⟨_, still, rfl, nl, rfl⟩
        have hsls := F.sub_tuple_set; have hslf := F.sub_tuple_frozenset
        have noDict : (Value.type "tuple" == Value.type "dict") = false := by decide
        unfold Builtin.«set.__init__» noKeywords Builtin.Frozenset.updateFrom
        generalize hPI : pyIter = PI
        wp_walk
        subst hPI
        refine wpAny_pyIter_tuple isL (wpAny_bind (wpAny_runValue ?_))
        have sz1 : (s.heap.push (bare w)).objs.size = s.heap.objs.size + 1 := Heap.size_push ..
        have hd3 : A.in1.in1.in1.handled = none := by simp [hh]
        have ne1 : l ≠ (s.heap.push (bare w)).objs.size := Nat.ne_of_lt (by rw [sz1]; exact Nat.lt_succ_of_lt lt)
        have ne2 : s.heap.objs.size ∉ [(s.heap.push (bare w)).objs.size, l] := by
          intro z
          rcases List.mem_cons.mp z with z | z
          · rw [sz1] at z
            exact Nat.ne_of_lt (Nat.lt_succ_self _) z
          · exact Nat.ne_of_gt lt (List.mem_singleton.mp z)
        have start : TSet w ((s.heap.push (bare w)).push { cls := .type "tuple_iterator", data := .fields #[.ref l, .int 0 0] }) s.heap.objs.size (xs.take 0) 0 :=
          (emptySet w s.heap).stay fun o g => Heap.get?_push_of_some _ g
        have way := (Walks.tuple (prog := P) (w := w) hd3 (s.heap.push (bare w)).objs.size l ne1 items).toS
        rw [← many] at way
        refine turns (S := s.heap.objs.size) way ne2 few at_ (xs.length - 0) 0 _ rfl (Nat.zero_le _) ⟨⟨_, Heap.get?_push_size _ rfl, rfl, rfl⟩, (isL.push _)⟩ start ?_
        intro s' mv T
        obtain ⟨h', g2, d', tk', os'⟩ := s'
        have eg : g2 = s.gens := mv.gens; have ed : d' = s.drawn := mv.drawn; have eo2 : os' = s.os := mv.os
        subst eg ed eo2
        show wpAny _ _ _ _ _ _
        refine wpAny_pure (by
          show wpAny _ _ (ret Value.none) _ _ _
          refine wpAny_pure ⟨rfl, h', tk', rfl, T, fun b o g => ?_⟩
          have b1 := Heap.lt_size g
          refine mv.heap b o (fun z => ?_) (Heap.get?_push_of_some _ (Heap.get?_push_of_some _ g))
          rcases List.mem_cons.mp z with z | z
          · exact Nat.ne_of_lt b1 z
          · have z := List.mem_singleton.mp z
            rw [sz1] at z
            exact Nat.ne_of_lt (Nat.lt_succ_of_lt b1) z)
      · intro r₂ s₂ hr₂
        match r₂, hr₂ with
        | .error e, hr₂ => exact hr₂
        | .ok .next, hr₂ => exact hr₂.elim
        | .ok .brk, hr₂ => exact hr₂.elim
        | .ok .cont, hr₂ => exact hr₂.elim
        | .ok (.ret r3), ⟨e3, h', tk, e4, T, keep⟩ =>
          rw [e3, e4]
          repeat (any_goals (first | assumption | wp_step))
          exact h _ _ T keep))
end
section
variable {X : Cx}
/-- set(xs), xs a list or a tuple of texts -/
theorem cr_setTexts2 (hc : X.calm = true) : CallR X (.type "set") (fun xs H Q => ∃ (a : Addr) (l : List Str), xs = [.ref a] ∧ (SqL X.K H a (l.map V.str) ∨ SqT X.K H a (l.map V.str)) ∧ l.length < 60 ∧ ∀ p, H p = none → Q (.ref p) (upd H p (TxS X.w p l l.length))) := by
  intro pins s σ H xs us Q I rel h
  obtain ⟨a, l, rfl, hs, few, q⟩ := h
  rw [Vals.ref1 rel]
  rcases hs with hs | hs
  · obtain ⟨its, rv, pl, _⟩ := I.list hs
    refine setOfTexts (xs := l) (I.ok.hd hc) pl.isList (by simpa using strsAre_of rv) (Nat.lt_of_lt_of_le (Nat.succ_lt_succ few) (by decide)) ?_
    intro h' tk T keep
    exact ⟨.ref s.heap.objs.size, upd H s.heap.objs.size (TxS X.w s.heap.objs.size l l.length), I.laid (t' := tk) keep (Nat.le_refl _) (to_ok T), rfl, q _ (I.hok.fresh (Nat.le_refl _))⟩
  · obtain ⟨its, rv, pl, _⟩ := I.tuple hs
    refine setOfTextsT (xs := l) (I.ok.hd hc) pl (by simpa using strsAre_of rv) (Nat.lt_of_lt_of_le (Nat.succ_lt_succ few) (by decide)) ?_
    intro h' tk T keep
    exact ⟨.ref s.heap.objs.size, upd H s.heap.objs.size (TxS X.w s.heap.objs.size l l.length), I.laid (t' := tk) keep (Nat.le_refl _) (to_ok T), rfl, q _ (I.hok.fresh (Nat.le_refl _))⟩
/-- len of a set of unlike texts -/
theorem call_lenTx : CallR X (.builtin "len") (fun xs H Q => ∃ (a : Addr) (ks : List Str) (n : Nat), xs = [.ref a] ∧ H a = some (TxS X.w a ks n) ∧ ks.Nodup ∧ Q (.int ks.length) H) := by
  intro pins s σ H xs us Q I rel h
  obtain ⟨a, ks, n, rfl, ha, nd, q⟩ := h
  rw [Vals.ref1 rel]
  obtain ⟨o, es, ep, t, ⟨ho, hex, hd⟩, g, nd2, hm, ⟨hb, hbn⟩, hf, hr, hl⟩ := to_get I ha
  have e1 : es.size = ks.length := by
    have p : ks.Perm (es.toList.map elName) := (List.perm_ext_iff_of_nodup nd nd2).mpr hm
    have := p.length_eq
    rw [List.length_map, Array.length_toList] at this
    exact this.symm
  have lt : es.size < scanBound := Nat.lt_of_le_of_lt hb hbn
  have lt2 : (es.size : Int) < 2 ^ 63 := by
    have : scanBound ≤ 2 ^ 62 := by decide
    omega
  refine call_len_set ho hex hd hf lt2 ⟨.int ks.length, H, I.tok _, ⟨_, by rw [e1]⟩, q⟩
end
end Sx
/-! Pt -/
set_option Elab.async false
set_option linter.all false
set_option maxRecDepth 100000
set_option maxHeartbeats 4000000
/-! demands: their sign, their sides -/
namespace Mr
open PySem
def cLe : Cs := [60, 61]
def cLt : Cs := [60]
def cEq : Cs := [61]
def rels : List Cs := [cLe, cLt, cEq]
def sepR (r : Cs) : Cs := 32 :: (r ++ [32])
def cutR : List Cs → Cs → Option (Cs × Cs × Cs)
  | [], _ => none
  | r :: rs, z => match TL.par (sepR r) [] z with
    | some (a, b) => some (a, r, b)
    | none => cutR rs z
def sidesOf (a b : Cs) : Option (List Stp × List Stp) := (stepsOf a).bind fun x => (stepsOf b).map fun y => (x, y)
def partsOf (z : Cs) : Option (List Stp × Cs × List Stp) := (cutR rels z).bind fun p => (sidesOf p.1 p.2.2).map fun q => (q.1, p.2.1, q.2)
theorem cutR_skip {z : Cs} : ∀ (i : Nat) (rs : List Cs), (∀ j r, j < i → rs[j]? = some r → TL.par (sepR r) [] z = none) → cutR rs z = cutR (rs.drop i) z
  | 0, _, _ => by rw [List.drop_zero]
  | i + 1, [], _ => rfl
  | i + 1, r :: rs, h => by
    rw [List.drop_succ_cons, ← cutR_skip i rs fun j r' hj e => h (j + 1) r' (by omega) e]
    show (match TL.par (sepR r) [] z with | some (a, b) => some (a, r, b) | none => cutR rs z) = _
    rw [h 0 r (by omega) rfl]
theorem cutR_hit {z a b r : Cs} {rs : List Cs} (h : TL.par (sepR r) [] z = some (a, b)) : cutR (r :: rs) z = some (a, r, b) := by
  show (match TL.par (sepR r) [] z with | some (a, b) => some (a, r, b) | none => cutR rs z) = _
  rw [h]
theorem par_len (S : Cs) : ∀ (acc z a b : Cs), TL.par S acc z = some (a, b) → a.length ≤ acc.length + z.length ∧ b.length ≤ z.length
  | acc, [], a, b, h => by cases h
  | acc, c :: r, a, b, h => by
    unfold TL.par at h
    split at h
    · cases h
      refine ⟨by omega, ?_⟩
      rw [List.length_drop]; omega
    · have ih := par_len S _ _ _ _ h
      rw [List.length_append] at ih
      show a.length ≤ acc.length + (r.length + 1) ∧ b.length ≤ r.length + 1
      have : [c].length = 1 := rfl
      omega
/-- a sign inside is found, if its middle stands nowhere before -/
theorem pre_hd {S l : Cs} (h : TL.pre S l = true) : ∀ (i : Nat) (c : Nat), S[i]? = some c → l[i]? = some c := fun i c e => by
  have h1 : l.take S.length = S := eq_of_beq h
  rw [← h1, List.getElem?_take] at e
  split at e
  · exact e
  · cases e
theorem par_none {S : Cs} {c : Nat} {i : Nat} (hc : S[i]? = some c) : ∀ (acc z : Cs), c ∉ z → TL.par S acc z = none
  | acc, [], _ => rfl
  | acc, d :: r, h => by
    have : TL.pre S (d :: r) = false := by
      cases e : TL.pre S (d :: r) with
      | false => rfl
      | true => exact absurd (List.mem_of_getElem? (pre_hd e i c hc)) h
    rw [TL.par_miss this]
    exact par_none hc _ r fun m => h (List.mem_cons_of_mem _ m)
theorem par_found {S : Cs} {s c : Nat} (h0 : S[0]? = some s) (h1 : S[1]? = some c) (hsc : c ≠ s) (R : Cs) : ∀ (acc L : Cs), c ∉ L → TL.par S acc (L ++ (S ++ R)) = some (acc ++ L, R)
  | acc, [], _ => by
    have hS : S ≠ [] := fun z => by rw [z] at h0; cases h0
    have := TL.par_at (S := S) (L := S ++ R) hS (c := 0) (acc := acc) (by rw [List.drop_zero]; exact TL.pre_self S R)
    rw [List.drop_zero, Nat.zero_add, List.drop_left] at this
    rw [List.nil_append, List.append_nil]
    exact this
  | acc, d :: L, h => by
    have miss : TL.pre S (d :: L ++ (S ++ R)) = false := by
      cases e : TL.pre S (d :: L ++ (S ++ R)) with
      | false => rfl
      | true =>
        have e1 := pre_hd e 1 c h1
        cases L with
        | nil =>
          have e2 : (S ++ R)[0]? = some c := e1
          rw [List.getElem?_append_left (by have := (List.getElem?_eq_some_iff.mp h0).1; exact this), h0] at e2
          exact absurd (Option.some.inj e2).symm hsc
        | cons d' L' =>
          have e2 : some d' = some c := e1
          rw [Option.some.inj e2] at h
          exact absurd (List.mem_cons_of_mem _ List.mem_cons_self) h
    show TL.par S acc (d :: (L ++ (S ++ R))) = _
    rw [TL.par_miss (r := L ++ (S ++ R)) miss, par_found h0 h1 hsc R _ L fun m => h (List.mem_cons_of_mem _ m), List.append_assoc]
    rfl
/-- what no text of a level has -/
def low (c : Nat) : Bool := decide (c < 60) || decide (c > 61)
theorem isAl_rel : isAl 60 = false ∧ isAl 61 = false := by decide +kernel
theorem al_low {c : Nat} (h : isAl c = true) : low c = true := by
  unfold low
  rw [Bool.or_eq_true, decide_eq_true_eq, decide_eq_true_eq]
  by_cases a : c = 60
  · rw [a, isAl_rel.1] at h; cases h
  · by_cases b : c = 61
    · rw [b, isAl_rel.2] at h; cases h
    · omega
theorem word_low {t : Cs} (h : word t) : ∀ c ∈ t, low c = true := fun c m => al_low (h.2 c m)
theorem sign_low {g : Cs} (h : g ∈ signs) : ∀ c ∈ g, low c = true := by
  have f : ∀ g ∈ signs, ∀ c ∈ g, low c = true := by decide +kernel
  exact f g h
theorem tok_all {p : Nat → Prop} (hn : ∀ k, k < 100 → ∀ c ∈ D k, p c) (hs : ∀ s, isName s = true → ∀ c ∈ s, p c) (hg : ∀ g ∈ signs, ∀ c ∈ g, p c) : ∀ t : T, t.ok → ∀ g ∈ t.tok, ∀ c ∈ g, p c
  | .num k, h, g, m => by
    rw [T.tok] at m
    rw [T.ok] at h
    rw [List.mem_singleton.mp m]
    exact hn k h
  | .nam s, h, g, m => by
    rw [T.tok] at m
    rw [T.ok] at h
    rw [List.mem_singleton.mp m]
    exact hs s h
  | .plus t k, h, g, m => by
    rw [T.tok] at m
    rw [T.ok] at h
    rcases List.mem_append.mp m with m | m
    · exact tok_all hn hs hg t h.1 g m
    · rcases List.mem_cons.mp m with rfl | m
      · exact hg _ (by decide)
      · rw [List.mem_singleton.mp m]
        exact hn k h.2
  | .node b ts, h, g, m => by
    rw [T.tok] at m
    rw [T.ok] at h
    have gl : ∀ l : List (List Cs), (∀ ts ∈ l, ∀ g ∈ ts, ∀ c ∈ g, p c) → ∀ g ∈ glue l, ∀ c ∈ g, p c := fun l => by
      induction l with
      | nil => intro _ g m; exact absurd m List.not_mem_nil
      | cons a l ih =>
        intro H g m
        cases l with
        | nil => exact H a List.mem_cons_self g m
        | cons b r =>
          have m : g ∈ a ++ cSep :: glue (b :: r) := m
          rcases List.mem_append.mp m with m | m
          · exact H a List.mem_cons_self g m
          · rcases List.mem_cons.mp m with rfl | m
            · exact hg _ (by decide)
            · exact ih (fun ts h => H ts (List.mem_cons_of_mem _ h)) g m
    rcases List.mem_cons.mp m with rfl | m
    · exact hg _ (mem_sign b)
    · rcases List.mem_append.mp m with m | m
      · refine gl _ (fun ts' hts => ?_) g m
        obtain ⟨t, ht, rfl⟩ := List.mem_map.mp hts
        exact tok_all hn hs hg t (h.2 t ht)
      · rw [List.mem_singleton.mp m]
        exact hg _ (by decide)
theorem text_all {p : Nat → Prop} (hn : ∀ k, k < 100 → ∀ c ∈ D k, p c) (hs : ∀ s, isName s = true → ∀ c ∈ s, p c) (hg : ∀ g ∈ signs, ∀ c ∈ g, p c) (t : T) (h : t.ok) : ∀ c ∈ t.text, p c := fun c m => by
  obtain ⟨g, hg', hc⟩ := List.mem_flatten.mp m
  exact tok_all hn hs hg t h g hg' c hc
theorem text_low (t : T) (h : t.ok) : ∀ c ∈ t.text, low c = true := text_all (fun k hk => word_low (num_word hk)) (fun s hs => word_low (name_word hs)) (fun g hg => sign_low hg) t h
theorem num_asc : ∀ k : Fin 100, (D k.val).all (fun c => decide (c < 128)) = true := by decide +kernel
theorem name_asc {s : Cs} (h : isName s = true) : ∀ c ∈ s, c < 128 := by
  unfold isName at h
  simp only [Bool.and_eq_true] at h
  have q := h.2.2.1
  unfold Txt.isascii at q
  unfold S at q
  rw [List.all_toArray, List.all_eq_true] at q
  exact fun c m => of_decide_eq_true (q c m)
theorem text_asc (t : T) (h : t.ok) : ∀ c ∈ t.text, c < 128 := text_all (fun k hk c m => of_decide_eq_true (List.all_eq_true.mp (num_asc ⟨k, hk⟩) c m)) (fun s hs => name_asc hs) (fun g hg => by
  have f : ∀ g ∈ signs, ∀ c ∈ g, c < 128 := by decide
  exact f g hg) t h
theorem low_no {l : Cs} (h : ∀ c ∈ l, low c = true) : 60 ∉ l ∧ 61 ∉ l := ⟨fun m => Bool.noConfusion (show false = true from h _ m), fun m => Bool.noConfusion (show false = true from h _ m)⟩
/-- the text of a demand is cut at its sign -/
theorem cut_text {a b : Cs} (ha : ∀ c ∈ a, low c = true) (hb : ∀ c ∈ b, low c = true) {r : Cs} (hr : r ∈ rels) : TL.par (sepR r) [] (a ++ (sepR r ++ b)) = some (a, b) ∧ cutR rels (a ++ (sepR r ++ b)) = some (a, r, b) := by
  obtain ⟨a0, a1⟩ := low_no ha
  obtain ⟨b0, b1⟩ := low_no hb
  have f : ∀ (r : Cs) (c : Nat), (sepR r)[0]? = some 32 → (sepR r)[1]? = some c → c ≠ 32 → c ∉ a → TL.par (sepR r) [] (a ++ (sepR r ++ b)) = some (a, b) := fun r c h0 h1 h2 h3 => par_found h0 h1 h2 b [] a h3
  unfold rels at hr ⊢
  rcases List.mem_cons.mp hr with rfl | hr
  · have e := f cLe 60 rfl rfl (by decide) a0
    exact ⟨e, cutR_hit e⟩
  rcases List.mem_cons.mp hr with rfl | hr
  · have e := f cLt 60 rfl rfl (by decide) a0
    refine ⟨e, ?_⟩
    have n : TL.par (sepR cLe) [] (a ++ (sepR cLt ++ b)) = none := par_none (c := 61) (i := 2) rfl _ _ fun m => by
      rcases List.mem_append.mp m with m | m
      · exact a1 m
      · rcases List.mem_append.mp m with m | m
        · revert m; decide
        · exact b1 m
    rw [cutR, n]
    exact cutR_hit e
  · rw [List.mem_singleton.mp hr]
    have e := f cEq 61 rfl rfl (by decide) a1
    refine ⟨e, ?_⟩
    have n : ∀ r, (sepR r)[1]? = some 60 → TL.par (sepR r) [] (a ++ (sepR cEq ++ b)) = none := fun r h => par_none (c := 60) (i := 1) h _ _ fun m => by
      rcases List.mem_append.mp m with m | m
      · exact a0 m
      · rcases List.mem_append.mp m with m | m
        · revert m; decide
        · exact b0 m
    rw [cutR, n cLe rfl]
    show cutR [cLt, cEq] _ = _
    rw [cutR, n cLt rfl]
    exact cutR_hit e
end Mr
/-! Pt2 -/
set_option Elab.async false
set_option linter.all false
set_option maxRecDepth 100000
set_option maxHeartbeats 4000000
namespace Pg
open PySem L2 Mr
structure Rx (K : PySem.W.Frag) (mg : Str → Option Value) (pR : Addr) : Prop where
  mR : mg "RELATIONS" = some (.ref pR)
  tR : ∀ H, SqT K H pR (rels.map tv)
theorem sp_S : S [32] = (" " : Str) := by decide +kernel
theorem sepR_len {r : Cs} (h : r ∈ rels) : (sepR r).length ≤ 4 ∧ r ≠ [] ∧ r.length ≤ 2 := by
  have f : ∀ r ∈ rels, (sepR r).length ≤ 4 ∧ r ≠ [] ∧ r.length ≤ 2 := by decide +kernel
  exact f r h
theorem par_str {z s : Cs} (hs : s ≠ []) : Txt.partition (S z) (S s) = (match TL.par s [] z with | some (a, b) => (S a, S s, S b) | none => (S z, Str.empty, Str.empty)) := by
  have e := TL.partition_par (S z) (S s) (by show s ≠ []; exact hs)
  exact e
theorem f_sep (r : Cs) : Str.empty ++ (" " : Str) ++ S r ++ (" " : Str) = S (sepR r) := by
  rw [← sp_S]
  apply TL.ext_tl
  rw [TL.tl_append, TL.tl_append, TL.tl_append]
  show ([] : Cs) ++ [32] ++ r ++ [32] = 32 :: (r ++ [32])
  simp
theorem f_len1 : (Str.empty ++ (" " : Str)).length = 1 := by decide +kernel
section
variable {P : Program} {w : World} {K : PySem.W.Frag} {mg : Str → Option Value} {base : Heap} {pS pC pR : Addr}
/-- f' {r} ' -/
theorem f_read {r : Cs} (h : r ∈ rels) {te : TE} {σ : L2.St} {H : Hp} {Q : Str → Hp → Prop} (hv : ∀ Q : VK, Q (tv r) H → te σ H Q) (q : Q (S (sepR r)) H) :
    tJs [(fun _ H Q => Q (.str (" " : Str)) H), tFmt te, (fun _ H Q => Q (.str (" " : Str)) H)] Str.empty σ H Q := by
  have l := sepR_len h
  have l1 : (Str.empty ++ (" " : Str) ++ S r).length = 1 + r.length := by
    rw [TL.len_tl, TL.tl_append, List.length_append, ← TL.len_tl, f_len1]; rfl
  have l2 : (Str.empty ++ (" " : Str) ++ S r ++ (" " : Str)).length = (sepR r).length := by rw [f_sep, len_S]
  refine ⟨_, rfl, by rw [f_len1]; decide, hv _ (.inl ⟨_, rfl, ?_, _, rfl, ?_, _, rfl, ?_, ?_⟩)⟩
  · rw [len_S]; exact Nat.le_trans l.2.2 (by decide)
  · rw [l1]; exact Nat.le_trans (Nat.add_le_add_left l.2.2 1) (by decide)
  · rw [l2]; exact Nat.le_trans l.1 (by decide)
  · rw [f_sep]; exact q
/-! ### parts_of -/
def spPartsOf (K : PySem.W.Frag) : Sp := fun vs H Q _ => ∃ v : V, vs = [v] ∧
  ((∃ z : Cs, v = tv z ∧ z.length ≤ 100000 ∧ (partsOf z = none → ∀ H', Same H H' → Q .non H') ∧ ∀ lo r hi, partsOf z = some (lo, r, hi) → ∀ H' p a b, Same H H' → H p = none → H' p = some (.tup [.ref a, tv r, .ref b]) → LevAt K H' a lo → LevAt K H' b hi → Q (.ref p) H') ∨
   (∃ ty : String, TyX K H v (.type ty) ∧ kitB ty "str" = some false ∧ ∀ H', Same H H' → Q .non H'))
theorem sc_parts_of : FnScope ["thing", "relation", "left", "found", "right", "low", "high"] ["thing"] (defScope st_parts_of) := ⟨rfl, rfl, rfl, by decide +kernel, rfl, by decide +kernel, by decide +kernel⟩
theorem ok_parts_of {f : Addr} {fd : FuncData} (F : Fun K "parts_of" "parts_of" st_parts_of f fd) (T : Tx K w mg pS pC) (R : Rx K mg pR) (c_steps_of : CalX P w K mg base 3 "steps_of" (spSteps K)) :
    FnOk P w K mg base CX0 4 f fd ["thing"] (spPartsOf K) := by
  refine F.ok sc_parts_of (fun vs H Q E h => ?_) (fun cdv A outer s H vs Q E hr h => ?_)
  · obtain ⟨v, rfl, _⟩ := h
    rfl
  obtain ⟨v, rfl, hv⟩ := h
  have nd := sc_parts_of.nd
  refine ⟨_, (pss_cons (ps_if (pt_not (pt_val (pe_callB call_isi (by rfl) T.isi (by decide +kernel) (pa_cons (pv 0) (pa_cons (pe_bltn (v := .ty "str") (by rfl) T.str (by decide +kernel) rfl) pa_nil))))) (pss_one (ps_ret pe_non)) pss_nil)
      (pss_cons (ps_for PassesOwn.never rfl (pi_tup (pe_glob (v := .ref pR) (by rfl) R.mR rfl)) (pg_name (i := 1) nd rfl (Or.inl rfl)) (pss_cons (ps_asg (pe_partition (pv 0) (pe_joined (.cons pe_str (.cons (pe_fmt (pv 1)) (.cons pe_str .nil))))) (pg_tup (n := 3) rfl (pgs_cons (pg_name (i := 2) nd rfl (Or.inl rfl)) (pgs_cons (pg_name (i := 3) nd rfl (Or.inl rfl)) (pgs_cons (pg_name (i := 4) nd rfl (Or.inl rfl)) pgs_nil)))))
      (pss_one (ps_if (pt_truth (pv 3) (by intro _; rfl)) (pss_cons (ps_par (i := 5) (j := 6) (by rfl) nd rfl rfl (by decide) rfl rfl (pa_cons (C8.pe_c c_steps_of hr (by decide) rfl (pa_cons (pv 2) pa_nil)) (pa_cons (C8.pe_c c_steps_of hr (by decide) rfl (pa_cons (pv 4) pa_nil)) pa_nil)) (by rfl))
      (pss_one (ps_ret (pe_ifExp (PW.pt (pw_or (pt_cmpR op_isN (pv 5) pe_non (nomark _)) (pw_or1 (pt_cmpR op_isN (pv 6) pe_non (nomark _))))) pe_non (pe_tup (pa_cons (pv 5) (pa_cons (pv 1) (pa_cons (pv 6) pa_nil)))))))) pss_nil))))
      (pss_one (ps_ret pe_non)))), ?_⟩
  rcases hv with ⟨z, rfl, hz, q0, q1⟩ | ⟨ty, hty, hk, q0⟩
  case inr =>
    exact ⟨_, rfl, _, _, _, _, _, rfl, .ty "str", hty, kit_ty hk, false, rfl, iteT (q0 H (Same.refl H))⟩
  refine ⟨_, rfl, _, _, _, _, _, rfl, .ty "str", .base (.str _), kit_ty (by decide +kernel), true, rfl, iteF ⟨pR, rfl, ⟨_, R.tR _⟩, for_tup (K := K) (a := pR) (xs := rels.map tv) (fun i σ H' => Same H H' ∧ (∃ u1 u2 u3 u4 u5 u6, σ = [some (tv z), u1, u2, u3, u4, u5, u6]) ∧ ∀ j r, j < i → rels[j]? = some r → TL.par (sepR r) [] z = none)
    ⟨Same.refl H, ⟨_, _, _, _, _, _, rfl⟩, fun j r h => absurd h (Nat.not_lt_zero _)⟩ (fun i σ H' _ _ => R.tR _) ?turn ?after⟩⟩
  case after =>
    rintro σ H' ⟨sm, _, no⟩
    refine q0 ?_ H' sm
    unfold partsOf
    rw [cutR_skip 3 rels fun j r h => no j r h]
    rfl
  case turn =>
    rintro i x σ H' hi ⟨sm, ⟨u1, u2, u3, u4, u5, u6, rfl⟩, no⟩
    obtain ⟨r, hr_, rfl⟩ : ∃ r, rels[i]? = some r ∧ x = tv r := by
      rw [List.getElem?_map] at hi
      cases e : rels[i]? with
      | none => rw [e] at hi; cases hi
      | some t => rw [e] at hi; exact ⟨t, rfl, (Option.some.inj hi).symm⟩
    have mr := List.mem_of_getElem? hr_
    have lr := sepR_len mr
    have ilt : i < 3 := (List.getElem?_eq_some_iff.mp hr_).1
    have hS : sepR r ≠ [] := by unfold sepR; exact List.cons_ne_nil _ _
    refine ⟨_, rfl, ⟨_, rfl⟩, ?_⟩
    refine f_read mr (fun Q q => ⟨_, rfl, q⟩) ⟨_, _, rfl, rfl, by rw [len_S]; rfl, by rw [len_S]; exact Nat.le_trans hz (by decide), fun p np => ?_⟩
    have e0 := par_str (z := z) hS
    have sk := cutR_skip i rels no
    have hd : rels.drop i = r :: rels.drop (i + 1) := by
      rw [List.drop_eq_getElem_cons (List.getElem?_eq_some_iff.mp hr_).1, (List.getElem?_eq_some_iff.mp hr_).2]
    rw [hd] at sk
    cases e : TL.par (sepR r) [] z with
    | none =>
      rw [e] at e0
      rw [e0]
      have s1 := sm.trans (same_new np (.tup [.str (S z), .str Str.empty, .str Str.empty]))
      refine ⟨p, _, rfl, SqT.of upd_same, rfl, _, _, rfl, _, _, rfl, _, _, rfl, rfl, _, rfl, false, ⟨Nat.zero_le _, rfl⟩, iteF ⟨s1, ⟨_, _, _, _, _, _, rfl⟩, fun j r' hj e' => ?_⟩⟩
      rcases Nat.lt_or_ge j i with h | h
      · exact no j r' h e'
      · have : j = i := by omega
        subst this
        rw [hr_] at e'
        cases e'
        exact e
    | some ab =>
      obtain ⟨a, b⟩ := ab
      rw [e] at e0
      rw [e0, cutR_hit e] at *
      obtain ⟨la, lb⟩ := par_len _ _ _ _ _ e
      rw [List.length_nil, Nat.zero_add] at la
      have s1 := sm.trans (same_new np (.tup [.str (S a), .str (S (sepR r)), .str (S b)]))
      generalize hH1 : upd H' p (.tup [.str (S a), .str (S (sepR r)), .str (S b)]) = H1 at s1
      have hp1 : H1 p = some (.tup [.str (S a), .str (S (sepR r)), .str (S b)]) := by rw [← hH1]; exact upd_same
      have tr : TruV K (.str (S (sepR r))) H1 true := by
        refine ⟨by rw [len_S]; exact Nat.le_trans lr.1 (by decide), ?_⟩
        rw [len_S]
        unfold sepR
        rw [List.length_cons]
        have : ((((r ++ [32]).length + 1 : Nat) : Int) != 0) = true := by simp; omega
        exact this.symm
      have pe : partsOf z = (sidesOf a b).map fun q => (q.1, r, q.2) := by unfold partsOf; rw [sk]; rfl
      refine ⟨p, _, rfl, SqT.of hp1, rfl, _, _, rfl, _, _, rfl, _, _, rfl, rfl, _, rfl, true, tr, iteT ?_⟩
      refine ⟨_, rfl, _, rfl, .inl ⟨a, rfl, by omega, fun n1 H2 s2 => ?_, fun lo elo _ H2 pa as s2 hpa ha => ?_⟩⟩
      · refine ⟨_, rfl, _, rfl, .inl ⟨b, rfl, by omega, fun n2 H3 s3 => ?_, fun hi_ ehi _ H3 pb bs s3 hpb hb => ?_⟩⟩
        all_goals
          refine ⟨_, _, rfl, _, rfl, rfl, _, rfl, iteT (q0 ?_ H3 ((s1.trans s2).trans s3))⟩
          rw [pe]
          unfold sidesOf
          rw [n1]
          rfl
      · refine ⟨_, rfl, _, rfl, .inl ⟨b, rfl, by omega, fun n2 H3 s3 => ?_, fun hi_ ehi _ H3 pb bs s3 hpb hb => ?_⟩⟩
        · refine ⟨_, _, rfl, _, rfl, rfl, _, rfl, iteF ⟨_, rfl, rfl, _, rfl, iteT (q0 ?_ H3 ((s1.trans s2).trans s3))⟩⟩
          rw [pe]
          unfold sidesOf
          rw [elo, n2]
          rfl
        · refine ⟨_, _, rfl, _, rfl, rfl, _, rfl, iteF ⟨_, rfl, rfl, _, rfl, iteF ⟨_, rfl, _, rfl, _, rfl, (by show 3 ≤ sizeLine; decide), fun t nt => ?_⟩⟩⟩
          have s4 := same_new nt (.tup [V.ref pa, tv r, V.ref pb])
          refine q1 lo r hi_ (by rw [pe]; unfold sidesOf; rw [elo, ehi]; rfl) _ t pa pb (((s1.trans s2).trans s3).trans s4) (((s1.trans s2).trans s3).free nt) upd_same ⟨as, SqT.of (s4 _ _ (s3 _ _ hpa)), (ha.same s3).same s4⟩ ⟨bs, SqT.of (s4 _ _ hpb), hb.same s4⟩
end
end Pg
/-! Bk1 -/
set_option Elab.async false
set_option linter.all false
set_option maxRecDepth 100000
set_option maxHeartbeats 4000000
/-! what the laws about books ask of the program: sequences, names, demands, peaks -/
namespace Pg
open PySem L2 Mr
/-- a list or a tuple -/
def SeqV (K : PySem.W.Frag) (H : Hp) (a : Addr) (xs : List V) : Prop := SqL K H a xs ∨ SqT K H a xs
theorem SeqV.same {K : PySem.W.Frag} {H H' : Hp} {a : Addr} {xs : List V} (h : SeqV K H a xs) (s : Same H H') : SeqV K H' a xs := h.imp (fun h => Same.seq s h) (fun h => Same.tup s h)
theorem seqV_ty {K : PySem.W.Frag} {H : Hp} {a : Addr} {xs : List V} (h : SeqV K H a xs) : TyX K H (.ref a) (.type "list") ∨ TyX K H (.ref a) (.type "tuple") := by
  rcases h with (h | ⟨o, its, n, h1, h2, _⟩) | (h | ⟨o, its, n, h1, h2, _⟩)
  · rcases h with h | ⟨o, h⟩
    · exact .inl (.base (.lst h))
    · exact .inl (.base (.frz h))
  · exact .inl (.kList h1 h2)
  · rcases h with h | ⟨o, h⟩
    · exact .inr (.base (.tup h))
    · exact .inr (.fTuple h)
  · exact .inr (.kTuple h1 h2)
structure Bx2 (mg : Str → Option Value) : Prop where
  isi : mg "isinstance" = none
  set : mg "set" = none
  all : mg "all" = none
theorem seq_kit {K : PySem.W.Frag} : (∀ t, t = "list" ∨ t = "tuple" → PySem.W.kitAny K (.type t) [.type "list", .type "tuple"] = some true) ∧
    ∀ t, kitB t "list" = some false → kitB t "tuple" = some false → PySem.W.kitAny K (.type t) [.type "list", .type "tuple"] = some false := by
  refine ⟨fun t h => ?_, fun t h1 h2 => ?_⟩
  · rcases h with rfl | rfl
    · exact kitAny_cons (b := true) (kit_ty (by decide +kernel)) (fun z => by cases z) (fun _ => rfl)
    · exact kitAny_cons (b := false) (kit_ty (by decide +kernel)) (fun _ => kitAny_cons (b := true) (kit_ty (by decide +kernel)) (fun z => by cases z) (fun _ => rfl)) (fun z => by cases z)
  · exact kitAny_cons (b := false) (kit_ty h1) (fun _ => kitAny_cons (b := false) (kit_ty h2) (fun _ => kitAny_nil) (fun z => by cases z)) (fun z => by cases z)
theorem all_true {α : Type} (l : List α) : (l.map fun _ => true).all id = true := by
  rw [List.all_eq_true]
  intro b m
  obtain ⟨x, _, rfl⟩ := List.mem_map.mp m
  rfl
section
variable {P : Program} {w : World} {K : PySem.W.Frag} {mg : Str → Option Value} {base : Heap} {pS pC : Addr}
/-! ### is_sequence -/
def spIsSeq (K : PySem.W.Frag) : Sp := fun vs H Q _ => ∃ v, vs = [v] ∧ ((∃ a xs, v = .ref a ∧ SeqV K H a xs ∧ ∀ H', Same H H' → Q (.bl true) H') ∨
  ∃ ty, TyX K H v (.type ty) ∧ kitB ty "list" = some false ∧ kitB ty "tuple" = some false ∧ ∀ H', Same H H' → Q (.bl false) H')
theorem tyX_same {K : PySem.W.Frag} {H H' : Hp} {v : V} {t : Value} (h : TyX K H v t) (s : Same H H') : TyX K H' v t := by
  cases h with
  | base h =>
    refine .base ?_
    cases h with
    | non => exact .non
    | bl x => exact .bl x
    | int i => exact .int i
    | str x => exact .str x
    | flt x => exact .flt x
    | lst e => exact .lst (s _ _ e)
    | frz e => exact .frz (s _ _ e)
    | tup e => exact .tup (s _ _ e)
    | dK e => exact .dK (s _ _ e)
    | dT e => exact .dT (s _ _ e)
    | ins e a b c d m => exact .ins (s _ _ e) a b c d m
  | byt b => exact .byt b
  | set e => exact .set (s _ _ e)
  | kList e c => exact .kList e c
  | kTuple e c => exact .kTuple e c
  | kDict e c => exact .kDict e c
  | fTuple e => exact .fTuple (s _ _ e)
  | fDict e => exact .fDict (s _ _ e)
theorem sc_is_seq : FnScope ["thing"] ["thing"] (defScope st_is_sequence) := ⟨rfl, rfl, rfl, by decide +kernel, rfl, by decide +kernel, by decide +kernel⟩
theorem ok_is_seq {f : Addr} {fd : FuncData} (F : Fun K "is_sequence" "is_sequence" st_is_sequence f fd) (L : Lx mg) (R : Bx2 mg) : FnOk P w K mg base CX0 1 f fd ["thing"] (spIsSeq K) := by
  refine F.ok sc_is_seq (fun vs H Q E h => ?_) (fun cdv A outer s H vs Q E hr h => ?_)
  · obtain ⟨v, rfl, _⟩ := h
    rfl
  obtain ⟨v, rfl, h⟩ := h
  have nd := sc_is_seq.nd
  refine ⟨_, (pss_one (ps_ret (pe_callB call_isiT (by rfl) R.isi (by decide +kernel) (pa_cons (pv 0) (pa_cons (pe_tup (pa_cons (pe_bltn (v := .ty "list") (by rfl) L.list (by decide +kernel) rfl) (pa_cons (pe_bltn (v := .ty "tuple") (by rfl) L.tup (by decide +kernel) rfl) pa_nil))) pa_nil))))), ?_⟩
  refine ⟨_, rfl, (by show 2 ≤ sizeLine; decide), fun p np => ?_⟩
  have s1 := same_new np (.tup [.ty "list", .ty "tuple"])
  have cl : Paired ClsV [V.ty "list", V.ty "tuple"] [.type "list", .type "tuple"] := .cons (.ty _) (.cons (.ty _) .nil)
  rcases h with ⟨a, xs, rfl, hs, q⟩ | ⟨ty, ht, k1, k2, q⟩
  · rcases seqV_ty (hs.same s1) with ht | ht
    · exact ⟨_, p, _, _, _, true, rfl, upd_same, cl, ht, seq_kit.1 _ (.inl rfl), q _ s1⟩
    · exact ⟨_, p, _, _, _, true, rfl, upd_same, cl, ht, seq_kit.1 _ (.inr rfl), q _ s1⟩
  · exact ⟨_, p, _, _, _, false, rfl, upd_same, cl, tyX_same ht s1, seq_kit.2 _ k1 k2, q _ s1⟩
/-! ### are_names, of unlike names -/
def spAreNames (K : PySem.W.Frag) : Sp := fun vs H Q _ => ∃ (a : Addr) (ns : List Cs), vs = [.ref a] ∧ SeqV K H a (ns.map tv) ∧ (∀ s ∈ ns, isName s = true) ∧ ns.Nodup ∧ ns.length ≤ 50 ∧ ∀ H', Same H H' → Q (.bl true) H'
theorem sc_are_names : FnScope ["thing", "name"] ["thing"] (defScope st_are_names) := ⟨rfl, rfl, rfl, by decide +kernel, rfl, by decide +kernel, by decide +kernel⟩
theorem nodup_S {l : List Cs} (h : l.Nodup) : (l.map S).Nodup := List.pairwise_map.mpr (h.imp fun n e => n (S_inj.mp e))
theorem ok_are_names {f : Addr} {fd : FuncData} (F : Fun K "are_names" "are_names" st_are_names f fd) (L : Lx mg) (R : Bx2 mg) (c_is_sequence : CalX P w K mg base 1 "is_sequence" (spIsSeq K)) (c_is_name : CalX P w K mg base 1 "is_name" spIsName) :
    FnOk P w K mg base CX0 2 f fd ["thing"] (spAreNames K) := by
  refine F.ok sc_are_names (fun vs H Q E h => ?_) (fun cdv A outer s H vs Q E hr h => ?_)
  · obtain ⟨a, ns, rfl, _⟩ := h
    rfl
  obtain ⟨a, ns, rfl, hS, hn, hd, h50, q⟩ := h
  have nd := sc_are_names.nd
  have nlen : ∀ s ∈ ns, s.length ≤ 100000 := fun s m => Nat.le_trans (name_len (hn s m)) (by decide)
  have fin : ∀ H', Same H H' → ∀ D, D = (ns.map fun _ => V.bl true) → ∀ DA, H' DA = some (.lst D) → ∃ (a0 : Addr) (bs : List Bool), [V.ref DA] = [V.ref a0] ∧ SqL K H' a0 (bs.map V.bl) ∧ bs.all id = true := fun H' s' D eD DA e =>
    ⟨DA, ns.map fun _ => true, rfl, SqL.of (by rw [e, eD, List.map_map]; rfl), all_true ns⟩
  rcases hS with hS | hS
  · refine ⟨_, (pss_cons (ps_if (PW.pt (pw_or (pt_not (pt_val (C8.pe_c c_is_sequence hr (by decide) rfl (pa_cons (pv 0) pa_nil)))) (pw_or1 (pt_not (pt_val (pe_callB (cr_all rfl) (by rfl) R.all (by decide +kernel) (pa_cons (pe_lc (own := [("name", 1)]) (g := gName 1) (tt := tYes) rfl nd (pi_list (pv 0)) (blkOk_by (N := ["thing", "name"]) (sc := defScope st_are_names) (by decide +kernel)) (fun _ _ _ _ _ => (pg_name (i := 1) nd rfl (Or.inl rfl))) (fun _ _ _ _ _ => pts_nil) (fun _ _ _ _ _ => (C8.pe_c c_is_name hr (by decide) rfl (pa_cons (pv 1) pa_nil)))) pa_nil))))))) (pss_one (ps_ret pe_bl)) pss_nil)
      (pss_one (ps_ret (pe_cmpR op_eq (pe_callB Sx.call_lenTx (by rfl) L.len PySem.boot_len (pa_cons (pe_callTy (Sx.cr_setTexts2 rfl) (by rfl) R.set (by decide +kernel) (pa_cons (pv 0) pa_nil)) pa_nil)) (pe_callB call_len_seq (by rfl) L.len PySem.boot_len (pa_cons (pv 0) pa_nil)) (nomark _))))), ?_⟩
    refine ⟨_, rfl, _, rfl, .inl ⟨a, _, rfl, .inl hS, fun H1 s1 => ⟨_, rfl, iteF ?_⟩⟩⟩
    refine ⟨_, rfl, a, rfl, ⟨_, Same.seq s1 hS⟩, fun D nD => lc_list (K := K) (a := a) (xs := ns.map tv) (fun n H' => Same H1 H' ∧ H' D = some (.lst ((ns.take n).map fun _ => V.bl true))) ⟨same_new nD _, upd_same⟩ (fun n H' _ p => Same.seq (s1.trans p.1) hS) ?c1 ?c2⟩
    case c1 =>
      rintro n x H' hn' ⟨s2, hD⟩
      obtain ⟨y, hy, rfl⟩ := at_name hn'
      have lt := (List.getElem?_eq_some_iff.mp hy).1
      have my := List.mem_of_getElem? hy
      refine ⟨rfl, _, rfl, y, rfl, nlen y my, fun H3 s3 => ?_⟩
      rw [hn y my]
      refine ⟨_, s3 _ _ hD, big (by rw [List.length_map, List.length_take]; omega), same_mut (s2.trans s3) nD, ?_⟩
      rw [upd_same, List.take_succ, hy, List.map_append]
      rfl
    case c2 =>
      rintro H2 ⟨s2, hD⟩
      rw [List.length_map, List.take_length] at hD
      obtain ⟨a0, bs, e0, e1, e2⟩ := fin H2 (s1.trans s2) _ rfl D hD
      refine ⟨a0, bs, e0, e1, _, rfl, ?_⟩
      rw [e2]
      refine iteF ⟨_, rfl, a, ns.map S, rfl, .inl (by rw [List.map_map]; exact Same.seq (s1.trans s2) hS), by rw [List.length_map]; omega, fun p np => ?_⟩
      have s3 := (s1.trans s2).trans (same_new np (Sx.TxS w p (ns.map S) (ns.map S).length))
      refine ⟨p, _, _, rfl, upd_same, nodup_S hd, _, rfl, a, _, rfl, .inl (Same.seq s3 hS), ?_⟩
      have el : (ns.map tv).length = (ns.map S).length := by rw [List.length_map, List.length_map]
      rw [el]
      refine ⟨rfl, ?_⟩
      rw [eq_self]
      exact q _ s3
  · refine ⟨_, (pss_cons (ps_if (PW.pt (pw_or (pt_not (pt_val (C8.pe_c c_is_sequence hr (by decide) rfl (pa_cons (pv 0) pa_nil)))) (pw_or1 (pt_not (pt_val (pe_callB (cr_all rfl) (by rfl) R.all (by decide +kernel) (pa_cons (pe_lc (own := [("name", 1)]) (g := gName 1) (tt := tYes) rfl nd (pi_tup (pv 0)) (blkOk_by (N := ["thing", "name"]) (sc := defScope st_are_names) (by decide +kernel)) (fun _ _ _ _ _ => (pg_name (i := 1) nd rfl (Or.inl rfl))) (fun _ _ _ _ _ => pts_nil) (fun _ _ _ _ _ => (C8.pe_c c_is_name hr (by decide) rfl (pa_cons (pv 1) pa_nil)))) pa_nil))))))) (pss_one (ps_ret pe_bl)) pss_nil)
      (pss_one (ps_ret (pe_cmpR op_eq (pe_callB Sx.call_lenTx (by rfl) L.len PySem.boot_len (pa_cons (pe_callTy (Sx.cr_setTexts2 rfl) (by rfl) R.set (by decide +kernel) (pa_cons (pv 0) pa_nil)) pa_nil)) (pe_callB call_len_seq (by rfl) L.len PySem.boot_len (pa_cons (pv 0) pa_nil)) (nomark _))))), ?_⟩
    refine ⟨_, rfl, _, rfl, .inl ⟨a, _, rfl, .inr hS, fun H1 s1 => ⟨_, rfl, iteF ?_⟩⟩⟩
    refine ⟨_, rfl, a, rfl, ⟨_, Same.tup s1 hS⟩, fun D nD => lc_tup (K := K) (a := a) (xs := ns.map tv) (fun n H' => Same H1 H' ∧ H' D = some (.lst ((ns.take n).map fun _ => V.bl true))) ⟨same_new nD _, upd_same⟩ (fun n H' _ p => Same.tup (s1.trans p.1) hS) ?c1 ?c2⟩
    case c1 =>
      rintro n x H' hn' ⟨s2, hD⟩
      obtain ⟨y, hy, rfl⟩ := at_name hn'
      have lt := (List.getElem?_eq_some_iff.mp hy).1
      have my := List.mem_of_getElem? hy
      refine ⟨rfl, _, rfl, y, rfl, nlen y my, fun H3 s3 => ?_⟩
      rw [hn y my]
      refine ⟨_, s3 _ _ hD, big (by rw [List.length_map, List.length_take]; omega), same_mut (s2.trans s3) nD, ?_⟩
      rw [upd_same, List.take_succ, hy, List.map_append]
      rfl
    case c2 =>
      rintro H2 ⟨s2, hD⟩
      rw [List.length_map, List.take_length] at hD
      obtain ⟨a0, bs, e0, e1, e2⟩ := fin H2 (s1.trans s2) _ rfl D hD
      refine ⟨a0, bs, e0, e1, _, rfl, ?_⟩
      rw [e2]
      refine iteF ⟨_, rfl, a, ns.map S, rfl, .inr (by rw [List.map_map]; exact Same.tup (s1.trans s2) hS), by rw [List.length_map]; omega, fun p np => ?_⟩
      have s3 := (s1.trans s2).trans (same_new np (Sx.TxS w p (ns.map S) (ns.map S).length))
      refine ⟨p, _, _, rfl, upd_same, nodup_S hd, _, rfl, a, _, rfl, .inr (Same.tup s3 hS), ?_⟩
      have el : (ns.map tv).length = (ns.map S).length := by rw [List.length_map, List.length_map]
      rw [el]
      refine ⟨rfl, ?_⟩
      rw [eq_self]
      exact q _ s3
end
end Pg
/-! Bk2 -/
set_option Elab.async false
set_option linter.all false
set_option maxRecDepth 100000
set_option maxHeartbeats 4000000
namespace Mr
open PySem
/-- an imax read as a max -/
def plainS : Stp → Stp
  | .call _ n => .call true n
  | s => s
def T.flat : T → T
  | .num k => .num k
  | .nam s => .nam s
  | .plus t k => .plus t.flat k
  | .node _ ts => .node true (ts.map fun t => t.flat)
theorem flat_stp : ∀ t : T, t.flat.stp = t.stp.map plainS
  | .num k => by rw [T.flat, T.stp]; rfl
  | .nam s => by rw [T.flat, T.stp]; rfl
  | .plus t k => by rw [T.flat, T.stp, T.stp, flat_stp t, List.map_append]; rfl
  | .node b ts => by
    rw [T.flat, T.stp, T.stp, List.map_append, List.map_flatten, List.map_map, List.map_map, List.length_map]
    have e : ts.map ((fun t => t.stp) ∘ fun t => t.flat) = ts.map (List.map plainS ∘ fun t => t.stp) := List.map_congr_left fun t ht => flat_stp t
    rw [e]
    rfl
theorem flat_ok : ∀ t : T, t.ok → t.flat.ok
  | .num k, h => by rw [T.flat]; exact h
  | .nam s, h => by rw [T.flat]; exact h
  | .plus t k, h => by
    rw [T.ok] at h
    rw [T.flat, T.ok]
    exact ⟨flat_ok t h.1, h.2⟩
  | .node b ts, h => by
    rw [T.ok] at h
    rw [T.flat, T.ok]
    refine ⟨?_, fun t ht => ?_⟩
    · rw [List.length_map]
      have h1 := h.1
      unfold full at h1 ⊢
      cases b with
      | true => exact h1
      | false =>
        rw [if_neg Bool.false_ne_true] at h1
        rw [if_pos rfl]
        have := of_decide_eq_true h1
        exact decide_eq_true (by omega)
    · obtain ⟨u, hu, rfl⟩ := List.mem_map.mp ht
      exact flat_ok u (h.2 u hu)
/-- the value where all names are 0 and each imax is a max -/
def T.top (t : T) : Int := t.flat.val fun _ => 0
theorem top_run {t : T} (h : t.ok) : wrun (fun _ => 0) [] (t.stp.map plainS) = some [t.top] := by
  have := T.wrun (fun _ => 0) t.flat (flat_ok t h) []
  rw [flat_stp, List.nil_append] at this
  exact this
end Mr
namespace Pg
open PySem L2 Mr
theorem flat_names (Z : List Cs) : ∀ x ∈ Z.map tv, flatV x = true := fun x m => by
  obtain ⟨s, _, rfl⟩ := List.mem_map.mp m
  rfl
theorem inV_names (s : Cs) : ∀ Z : List Cs, inV (tv s) (Z.map tv) = decide (s ∈ Z)
  | [] => rfl
  | a :: Z => by
    show ((S a == S s) || inV (tv s) (Z.map tv)) = _
    rw [inV_names s Z]
    by_cases e : a = s
    · rw [e]; simp
    · have h : (S a == S s) = false := by
        rw [beq_eq_false_iff_ne]
        exact fun z => e (S_inj.mp z)
      rw [h, Bool.false_or]
      exact decide_eq_decide.mpr ⟨fun m => List.mem_cons_of_mem _ m, fun m => (List.mem_cons.mp m).resolve_left (Ne.symm e)⟩
theorem catA_of {K : PySem.W.Frag} {H : Hp} {a b : Addr} {xs ys : List V} {Q : VK} (hx : SqT K H a xs) (hy : SqT K H b ys) (l : xs.length + ys.length ≤ sizeLine) (q : ∀ H' p, Same H H' → SqT K H' p (xs ++ ys) → Q (.ref p) H') : rCatA K (.ref a) (.ref b) H Q := by
  refine ⟨a, b, xs, ys, rfl, rfl, hx, hy, l, fun h => q _ _ (Same.refl _) (by rw [h]; exact hy), fun _ h => q _ _ (Same.refl _) (by rw [h, List.append_nil]; exact hx), fun _ _ p np => q _ _ (same_new np _) (SqT.of upd_same)⟩
theorem StepsAt.app {H : Hp} : ∀ {as bs : List Addr} {ss ts : List Stp}, StepsAt H as ss → StepsAt H bs ts → StepsAt H (as ++ bs) (ss ++ ts)
  | _, _, _, _, .nil, h => h
  | _, _, _, _, .cons g r, h => .cons g (StepsAt.app r h)
theorem valV_strs (x : Str) : ∀ l : List Str, valV (l.map fun y => ((Sum.inr y, V.int 0) : Key × V)) (Sum.inr x) = if x ∈ l then some (V.int 0) else none
  | [] => by simp [valV]
  | a :: l => by
    rw [List.map_cons]
    by_cases e : a = x
    · rw [valV_pos (by rw [e]), if_pos (by rw [e]; exact List.mem_cons_self)]
    · rw [valV_neg (fun z => e (Sum.inr.inj z)), valV_strs x l]
      by_cases m : x ∈ l
      · rw [if_pos m, if_pos (List.mem_cons_of_mem _ m)]
      · rw [if_neg m, if_neg]
        intro z
        rcases List.mem_cons.mp z with z | z
        · exact e z.symm
        · exact m z
theorem take_new {l : List Str} (nd : l.Nodup) {i : Nat} {y : Str} (hy : l[i]? = some y) : y ∉ l.take i := fun hm => by
  obtain ⟨j, hj, e⟩ := List.getElem_of_mem hm
  rw [List.getElem_take] at e
  rw [List.length_take] at hj
  have hi := (List.getElem?_eq_some_iff.mp hy)
  have := (List.getElem_inj (h₀ := by omega) (h₁ := hi.1) nd).mp (e.trans hi.2.symm)
  omega
theorem at_str {l : List Str} {i : Nat} {x : V} (hi : (l.map V.str)[i]? = some x) : ∃ y, l[i]? = some y ∧ x = .str y := by
  rw [List.getElem?_map] at hi
  cases e : l[i]? with
  | none => rw [e] at hi; cases hi
  | some y => rw [e] at hi; exact ⟨y, rfl, (Option.some.inj hi).symm⟩
section
variable {P : Program} {w : World} {K : PySem.W.Frag} {mg : Str → Option Value} {base : Heap} {pS pC : Addr}
/-! ### parts_within, of demands with names of these -/
def PartAt (K : PySem.W.Frag) (H : Hp) (a : Addr) (p : List Stp × Cs × List Stp) : Prop := ∃ x y, H a = some (.tup [.ref x, tv p.2.1, .ref y]) ∧ LevAt K H x p.1 ∧ LevAt K H y p.2.2
theorem PartAt.same {K : PySem.W.Frag} {H H' : Hp} {a : Addr} {p : List Stp × Cs × List Stp} (h : PartAt K H a p) (s : Same H H') : PartAt K H' a p := let ⟨x, y, h1, h2, h3⟩ := h; ⟨x, y, s _ _ h1, h2.same s, h3.same s⟩
def spWithin (K : PySem.W.Frag) : Sp := fun vs H Q _ => ∃ (z : Cs) (p : List Stp × Cs × List Stp) (b : Addr) (ns : List Cs), vs = [tv z, .ref b] ∧ z.length ≤ 100000 ∧ partsOf z = some p ∧ p.1.length + p.2.2.length < 64 ∧ SeqV K H b (ns.map tv) ∧ (∀ s, Stp.nam s ∈ p.1 ∨ Stp.nam s ∈ p.2.2 → s ∈ ns) ∧
  ∀ H' a, Same H H' → H a = none → PartAt K H' a p → Q (.ref a) H'
theorem sc_within : FnScope ["thing", "names", "parts", "low", "_", "high", "name"] ["thing", "names"] (defScope st_parts_within) := ⟨rfl, rfl, rfl, by decide +kernel, rfl, by decide +kernel, by decide +kernel⟩
theorem ok_within {f : Addr} {fd : FuncData} (F : Fun K "parts_within" "parts_within" st_parts_within f fd) (R : Bx2 mg) (c_parts_of : CalX P w K mg base 4 "parts_of" (spPartsOf K)) (c_names_in : CalX P w K mg base 1 "names_in" (spNames K)) :
    FnOk P w K mg base CX0 5 f fd ["thing", "names"] (spWithin K) := by
  refine F.ok sc_within (fun vs H Q E h => ?_) (fun cdv A outer s H vs Q E hr h => ?_)
  · obtain ⟨z, p, b, ns, rfl, _⟩ := h
    rfl
  obtain ⟨z, p, b, ns, rfl, hz, hp, few, hb, hin, q⟩ := h
  have nd := sc_within.nd
  refine ⟨_, (pss_cons (ps_set (i := 2) nd rfl (.inl rfl) (C8.pe_c c_parts_of hr (by decide) rfl (pa_cons (pv 0) pa_nil)))
      (pss_cons (ps_if (pt_cmpR op_isN (pv 2) pe_non (nomark _)) (pss_one (ps_ret pe_non)) pss_nil)
      (pss_cons (ps_asg (pv 2) (pg_tup (n := 3) rfl (pgs_cons (pg_name (i := 3) nd rfl (Or.inl rfl)) (pgs_cons (pg_name (i := 4) nd rfl (Or.inl rfl)) (pgs_cons (pg_name (i := 5) nd rfl (Or.inl rfl)) pgs_nil)))))
      (pss_one (ps_ret (pe_ifExp (pt_val (pe_callB (cr_all rfl) (by rfl) R.all (by decide +kernel) (pa_cons (pe_lc (own := [("name", 6)]) (g := gName 6) (tt := tYes) rfl nd (pi_tup (C8.pe_c c_names_in hr (by decide) rfl (pa_cons (pe_op (show OpR _ _ (rCatA K) from op_catA) (pv 3) (pv 5)) pa_nil))) (blkOk_by (N := ["thing", "names", "parts", "low", "_", "high", "name"]) (sc := defScope st_parts_within) (by decide +kernel)) (fun _ _ _ _ _ => (pg_name (i := 6) nd rfl (Or.inl rfl))) (fun _ _ _ _ _ => pts_nil) (fun _ _ _ _ _ => (pe_cmpR (show OpR _ _ (rIn K false) from op_in_seq) (pv 6) (pv 1) rfl))) pa_nil))) (pv 2) pe_non)))))), ?_⟩
  refine ⟨_, rfl, _, rfl, .inl ⟨z, rfl, hz, fun n => (by rw [hp] at n; cases n), fun lo r hi e H1 a x y s1 na ha hx hy => ?_⟩⟩
  rw [hp] at e
  cases e
  refine ⟨_, rfl, rfl, _, rfl, iteF ⟨_, rfl, a, _, rfl, SqT.of ha, rfl, _, _, rfl, _, _, rfl, _, _, rfl, rfl, ?_⟩⟩
  obtain ⟨xs, hx1, hx2⟩ := hx
  obtain ⟨ys, hy1, hy2⟩ := hy
  have l1 := hx2.len
  have l2 := hy2.len
  refine ⟨_, rfl, _, rfl, ?_⟩
  refine catA_of hx1 hy1 ?_ fun H2 c s2 hc => ?_
  · rw [List.length_map, List.length_map]
    exact Nat.le_of_lt (big (by show _ ≤ 100000; have few : lo.length + hi.length < 64 := few; omega))
  refine ⟨c, lo ++ hi, rfl, ⟨xs ++ ys, by rw [List.map_append]; exact hc, (hx2.same s2).app (hy2.same s2)⟩, by rw [List.length_append]; exact few, fun H3 d ks s3 hd _ _ hm hl => ?_⟩
  refine ⟨d, rfl, ⟨_, SqT.of hd⟩, fun D nD => lc_tup (K := K) (a := d) (xs := ks.map V.str) (fun i H' => Same H3 H' ∧ H' D = some (.lst ((ks.take i).map fun _ => V.bl true))) ⟨same_new nD _, upd_same⟩ (fun i H' _ p => SqT.of (p.1 _ _ hd)) ?c1 ?c2⟩
  case c1 =>
    rintro i v H' hk0 ⟨s4, hD⟩
    obtain ⟨k, hk, rfl⟩ := at_str hk0
    obtain ⟨s0, rfl, hs0⟩ := (hm k).mp (List.mem_of_getElem? hk)
    have mem : s0 ∈ ns := hin s0 (List.mem_append.mp hs0)
    have lt := (List.getElem?_eq_some_iff.mp hk).1
    have sm := ((s1.trans s2).trans s3).trans s4
    refine ⟨rfl, _, rfl, _, rfl, b, ns.map tv, rfl, hb.same sm, rfl, List.all_eq_true.mpr (fun x m => flat_names ns x m), ?_⟩
    have e : inV (V.str (S s0)) (ns.map tv) = true := by
      rw [show inV (V.str (S s0)) (ns.map tv) = decide (s0 ∈ ns) from inV_names s0 ns]
      exact decide_eq_true mem
    rw [show (if (false = true) then !inV (V.str (S s0)) (ns.map tv) else inV (V.str (S s0)) (ns.map tv)) = true from e]
    refine ⟨_, hD, big (by rw [List.length_map, List.length_take]; have few : (lo ++ hi).length < 64 := by { rw [List.length_append]; exact few }; omega), same_mut s4 nD, ?_⟩
    rw [upd_same, List.take_succ, hk, List.map_append]
    rfl
  case c2 =>
    rintro H4 ⟨s4, hD⟩
    rw [List.length_map, List.take_length] at hD
    refine ⟨D, ks.map fun _ => true, rfl, SqL.of (by rw [hD, List.map_map]; rfl), _, rfl, ?_⟩
    rw [all_true]
    have sm := (s2.trans s3).trans s4
    exact iteT ⟨_, rfl, q _ a (s1.trans sm) na ⟨x, y, sm _ _ ha, ⟨xs, Same.tup sm hx1, hx2.same sm⟩, ⟨ys, Same.tup sm hy1, hy2.same sm⟩⟩⟩
end
end Pg
/-! Bk3 -/
set_option Elab.async false
set_option linter.all false
set_option maxRecDepth 100000
set_option maxHeartbeats 8000000
namespace Pg
open PySem L2 Mr
abbrev sInit : Stmt := inClass cl_Book 0
abbrev sPlain : Stmt := inClass cl_Book 5
abbrev sReach : Stmt := inClass cl_Book 6
abbrev sBut : Stmt := inClass cl_Book 8
/-- None in a tuple of tuples -/
def rNoneInT (K : PySem.W.Frag) : R2 := fun x y H Q => ∃ p xs, x = .non ∧ y = .ref p ∧ SqT K H p xs ∧ (∀ z ∈ xs, ∃ a ys, z = .ref a ∧ H a = some (.tup ys)) ∧ Q (.bl false) H
theorem op_noneInT {X : Cx} (hu : X.A.units + 64 < cLine) : OpR X (compareOp .In) (rNoneInT X.K) := by
  intro pins s σ H x y v u Q I rx ry h
  obtain ⟨p, xs, rfl, rfl, hq, f, q⟩ := h
  cases rx
  cases ry
  obtain ⟨its, rv, hl, _⟩ := I.tuple hq
  have hu1 : X.A.in1.units < cLine := by show X.A.units + 1 < cLine; omega
  have mem : ∀ {xs : List V} {us : List Value}, Vals xs us → (∀ z ∈ xs, ∃ a ys, z = .ref a ∧ H a = some (.tup ys)) → ∀ u ∈ us, SeqAt.EqAt X.A.in1 s u .none false := fun {xs us} r => by
    induction r with
    | nil => intro _ u m; cases m
    | @cons x u xs us r1 r ih =>
      intro g u' m
      rcases List.mem_cons.mp m with rfl | m
      · obtain ⟨a, ys, rfl, ha⟩ := g _ List.mem_cons_self
        cases r1
        obtain ⟨_, hl2, _⟩ := I.tuple (SqT.of ha)
        rename_i hl3
        exact SeqAt.EqAt.tuple_none hl3.1 hu1
      · exact ih (fun z hz => g z (List.mem_cons_of_mem _ hz)) u' m
  refine SeqAt.in_tupleAt (fun _ => false) hl (fun z hz => mem rv f z (by simpa using hz)) ⟨.bl _, H, I, rfl, ?_⟩
  rw [show (its.toArray.any fun _ => false) = false by simp]
  exact q
/-- tuple(x) -/
def rTupOf (K : PySem.W.Frag) : List V → Hp → VK → Prop := fun xs H Q => ∃ p ys, xs = [.ref p] ∧ ((SqL K H p ys ∧ ∀ l, H l = none → Q (.ref l) (upd H l (.tup ys))) ∨ (SqT K H p ys ∧ Q (.ref p) H))
theorem tupOf {K : PySem.W.Frag} {H : Hp} {a : Addr} {xs : List V} {Q : VK} (h : SeqV K H a xs) (q : ∀ H' n, Same H H' → SqT K H' n xs → Q (.ref n) H') : rTupOf K [.ref a] H Q := by
  rcases h with g | g
  · exact ⟨a, _, rfl, .inl ⟨g, fun l nl => q _ l (same_new nl _) (SqT.of upd_same)⟩⟩
  · exact ⟨a, _, rfl, .inr ⟨g, q _ a (Same.refl _) g⟩⟩
/-! ### the object -/
theorem fk : ¬ (("names" : Str) = "demands") ∧ ¬ (("names" : Str) = "parts") ∧ ¬ (("demands" : Str) = "parts") := by decide +kernel
def flds (n d p : Addr) : List (Str × V) := [("names", .ref n), ("demands", .ref d), ("parts", .ref p)]
theorem flds2 (n d : Addr) : putF "demands" (.ref d) (putF "names" (.ref n) []) = [(("names" : Str), V.ref n), ("demands", V.ref d)] := by
  show (if ("names" : Str) = "demands" then _ else (("names" : Str), V.ref n) :: putF "demands" (V.ref d) []) = _
  rw [if_neg fk.1]
  rfl
theorem flds3 (n d p : Addr) : putF "parts" (.ref p) (putF "demands" (.ref d) (putF "names" (.ref n) [])) = flds n d p := by
  rw [flds2]
  show (if ("names" : Str) = "parts" then _ else (("names" : Str), V.ref n) :: (if ("demands" : Str) = "parts" then _ else (("demands" : Str), V.ref d) :: putF "parts" (V.ref p) [])) = _
  rw [if_neg fk.2.1, if_neg fk.2.2]
  rfl
theorem flds_get (n d p : Addr) : (flds n d p).lookup ("names" : Str) = some (.ref n) ∧ (flds n d p).lookup ("demands" : Str) = some (.ref d) ∧ (flds n d p).lookup ("parts" : Str) = some (.ref p) := by
  unfold flds
  refine ⟨by simp [List.lookup], ?_, ?_⟩
  · have h : (("demands" : Str) == "names") = false := by decide +kernel
    simp [List.lookup, h]
  · have h1 : (("parts" : Str) == "names") = false := by decide +kernel
    have h2 : (("parts" : Str) == "demands") = false := by decide +kernel
    simp [List.lookup, h1, h2]
theorem flds_no (n d p : Addr) {m : Str} (h1 : (m == "names") = false) (h2 : (m == "demands") = false) (h3 : (m == "parts") = false) : (flds n d p).lookup m = none := by
  unfold flds
  simp [List.lookup, h1, h2, h3]
/-- all tuples stay -/
def TupKp (H H' : Hp) : Prop := (∀ a xs, H a = some (.tup xs) → H' a = some (.tup xs)) ∧ ∀ a o xs, H a = some (.frz o (.tup xs)) → H' a = some (.frz o (.tup xs))
theorem ins_keep {H : Hp} {x C dx : Addr} {fs fs' : List (Str × V)} (h : H x = some (.ins C dx fs)) : TupKp H (upd H x (.ins C dx fs')) := ⟨fun a xs e => by
  rw [upd_ne (fun z => by rw [z, h] at e; cases e)]
  exact e, fun a o xs e => by
  rw [upd_ne (fun z => by rw [z, h] at e; cases e)]
  exact e⟩
theorem lst_keep {H : Hp} {D : Addr} {l : List V} {o : HO} (h : H D = some (.lst l)) : TupKp H (upd H D o) := ⟨fun a xs e => by
  rw [upd_ne (fun z => by rw [z, h] at e; cases e)]
  exact e, fun a o xs e => by
  rw [upd_ne (fun z => by rw [z, h] at e; cases e)]
  exact e⟩
theorem Same.kp {H H' : Hp} (s : Same H H') : TupKp H H' := ⟨fun a _ e => s a _ e, fun a _ _ e => s a _ e⟩
theorem sqT_keep {K : PySem.W.Frag} {H H' : Hp} {a : Addr} {xs : List V} (k : TupKp H H') (h : SqT K H a xs) : SqT K H' a xs := by
  rcases h with (h | ⟨o, h⟩) | h
  · exact .inl (.inl (k.1 _ _ h))
  · exact .inl (.inr ⟨o, k.2 _ _ _ h⟩)
  · exact .inr h
theorem sqL_keep {K : PySem.W.Frag} {H : Hp} {x C dx a : Addr} {fs fs' : List (Str × V)} {xs : List V} (h : H x = some (.ins C dx fs)) (hl : SqL K H a xs) : SqL K (upd H x (.ins C dx fs')) a xs := by
  rcases hl with (e | ⟨o, e⟩) | e
  · exact .inl (.inl (by rw [upd_ne (fun z => by rw [z, h] at e; cases e)]; exact e))
  · exact .inl (.inr ⟨o, by rw [upd_ne (fun z => by rw [z, h] at e; cases e)]; exact e⟩)
  · exact .inr e
theorem LevAt.keep {K : PySem.W.Frag} {H H' : Hp} {a : Addr} {ss : List Stp} (h : LevAt K H a ss) (k : TupKp H H') : LevAt K H' a ss := let ⟨as, h1, h2⟩ := h; ⟨as, sqT_keep k h1, h2.mono fun a xs e => k.1 a xs e⟩
theorem PartAt.keep {K : PySem.W.Frag} {H H' : Hp} {a : Addr} {p : List Stp × Cs × List Stp} (h : PartAt K H a p) (k : TupKp H H') : PartAt K H' a p := let ⟨x, y, h1, h2, h3⟩ := h; ⟨x, y, k.1 _ _ h1, h2.keep k, h3.keep k⟩
abbrev Prt := List Stp × Cs × List Stp
def PartsAt (K : PySem.W.Frag) (H : Hp) (pas : List Addr) (ps : List Prt) : Prop := Paired (PartAt K H) pas ps
theorem PartsAt.keep {K : PySem.W.Frag} {H H' : Hp} (k : TupKp H H') : ∀ {pas : List Addr} {ps : List Prt}, PartsAt K H pas ps → PartsAt K H' pas ps
  | _, _, .nil => .nil
  | _, _, .cons h r => .cons (h.keep k) (PartsAt.keep k r)
theorem PartsAt.same {K : PySem.W.Frag} {H H' : Hp} {pas : List Addr} {ps : List Prt} (h : PartsAt K H pas ps) (s : Same H H') : PartsAt K H' pas ps := PartsAt.keep (Same.kp s) h
theorem PartsAt.mut {K : PySem.W.Frag} {H : Hp} {pas : List Addr} {ps : List Prt} {D : Addr} {l : List V} {o : HO} (h : PartsAt K H pas ps) (e : H D = some (.lst l)) : PartsAt K (upd H D o) pas ps := PartsAt.keep (lst_keep e) h
theorem PartsAt.push {K : PySem.W.Frag} {H : Hp} {t : Addr} {p : Prt} (h : PartAt K H t p) : ∀ {pas : List Addr} {ps : List Prt}, PartsAt K H pas ps → PartsAt K H (pas ++ [t]) (ps ++ [p])
  | _, _, .nil => .cons h .nil
  | _, _, .cons g r => .cons g (PartsAt.push h r)
theorem PartsAt.len {K : PySem.W.Frag} {H : Hp} {pas : List Addr} {ps : List Prt} (h : PartsAt K H pas ps) : pas.length = ps.length := Paired.length h
theorem PartsAt.tup {K : PySem.W.Frag} {H : Hp} : ∀ {pas : List Addr} {ps : List Prt}, PartsAt K H pas ps → ∀ t ∈ pas, ∃ ys, H t = some (.tup ys)
  | _, _, .nil, t, m => by cases m
  | a :: _, p :: _, .cons h r, t, m => by
    rcases List.mem_cons.mp m with rfl | m
    · obtain ⟨x, y, e, _⟩ := h; exact ⟨_, e⟩
    · exact PartsAt.tup r t m
theorem PartsAt.at {K : PySem.W.Frag} {H : Hp} : ∀ {pas : List Addr} {ps : List Prt} {i : Nat} {x : V}, PartsAt K H pas ps → (pas.map V.ref)[i]? = some x → ∃ t p, x = .ref t ∧ ps[i]? = some p ∧ PartAt K H t p
  | _, _, _, _, .nil, h => by cases h
  | a :: ts, s :: R, 0, x, .cons h r, e => by cases e; exact ⟨a, s, rfl, rfl, h⟩
  | a :: ts, s :: R, i + 1, x, .cons h r, e => PartsAt.at (pas := ts) (ps := R) (i := i) r e
/-- demands that are read -/
def DemOk (ns : List Cs) (z : Cs) (p : Prt) : Prop := partsOf z = some p ∧ z.length ≤ 100000 ∧ p.1.length + p.2.2.length < 64 ∧ ∀ s, Stp.nam s ∈ p.1 ∨ Stp.nam s ∈ p.2.2 → s ∈ ns
def DemsOk (ns : List Cs) (zs : List Cs) (ps : List Prt) : Prop := Paired (DemOk ns) zs ps
theorem DemsOk.len {ns zs : List Cs} {ps : List Prt} (h : DemsOk ns zs ps) : zs.length = ps.length := Paired.length h
theorem DemsOk.at {ns : List Cs} : ∀ {zs : List Cs} {ps : List Prt} {i : Nat} {z : Cs}, DemsOk ns zs ps → zs[i]? = some z → ∃ p, ps[i]? = some p ∧ DemOk ns z p
  | _, _, _, _, .nil, h => by cases h
  | a :: ts, s :: R, 0, x, .cons h r, e => by cases e; exact ⟨s, rfl, h⟩
  | a :: ts, s :: R, i + 1, x, .cons h r, e => DemsOk.at (zs := ts) (ps := R) (i := i) r e
theorem DemsOk.erase {ns : List Cs} : ∀ {zs : List Cs} {ps : List Prt} (k : Nat), DemsOk ns zs ps → DemsOk ns (zs.eraseIdx k) (ps.eraseIdx k)
  | _, _, _, .nil => by rw [List.eraseIdx_nil, List.eraseIdx_nil]; exact .nil
  | _, _, 0, .cons h r => by rw [List.eraseIdx_cons_zero, List.eraseIdx_cons_zero]; exact r
  | _, _, k + 1, .cons h r => by rw [List.eraseIdx_cons_succ, List.eraseIdx_cons_succ]; exact .cons h (DemsOk.erase k r)
/-- a book stands at b -/
def BookAt (K : PySem.W.Frag) (C : Addr) (H : Hp) (b : Addr) (ns zs : List Cs) (ps : List Prt) : Prop := ∃ dx n d p pas, H b = some (.ins C dx (flds n d p)) ∧ SqT K H n (ns.map tv) ∧ SqT K H d (zs.map tv) ∧ SqT K H p (pas.map V.ref) ∧ PartsAt K H pas ps
theorem BookAt.same {K : PySem.W.Frag} {C : Addr} {H H' : Hp} {b : Addr} {ns zs : List Cs} {ps : List Prt} (h : BookAt K C H b ns zs ps) (s : Same H H') : BookAt K C H' b ns zs ps :=
  let ⟨dx, n, d, p, pas, h1, h2, h3, h4, h5⟩ := h; ⟨dx, n, d, p, pas, s _ _ h1, Same.tup s h2, Same.tup s h3, Same.tup s h4, h5.same s⟩
/-- what the class is -/
structure BkC (K : PySem.W.Frag) (mg : Str → Option Value) (C : Addr) : Prop where
  cl : Cls K C
  n1 : NoAttr K C "names"
  n2 : NoAttr K C "demands"
  n3 : NoAttr K C "parts"
  mB : mg "Book" = some (.ref C)
section
variable {P : Program} {w : World} {K : PySem.W.Frag} {mg : Str → Option Value} {base : Heap} {pS pC C : Addr}
/-! ### Book.__init__ -/
def spInit (K : PySem.W.Frag) (C : Addr) : Sp := fun vs H Q _ => ∃ (x dx a d : Addr) (ns zs : List Cs) (ps : List Prt), vs = [.ref x, .ref a, .ref d] ∧ H x = some (.ins C dx []) ∧ SeqV K H a (ns.map tv) ∧ SeqV K H d (zs.map tv) ∧ (∀ s ∈ ns, isName s = true) ∧ ns.Nodup ∧ 0 < ns.length ∧ ns.length ≤ 9 ∧ zs.length ≤ 50 ∧ DemsOk ns zs ps ∧
  ∀ H', (∀ b o, H b = some o → b ≠ x → H' b = some o) → BookAt K C H' x ns zs ps → Q .non H'
theorem sc_init : FnScope ["self", "names", "demands", "parts", "demand"] ["self", "names", "demands"] (defScope sInit) := ⟨rfl, rfl, rfl, by decide +kernel, rfl, by decide +kernel, by decide +kernel⟩
theorem ok_init {f : Addr} {fd : FuncData} {dvs : List V} (F : FunD K "__init__" "Book.__init__" (defArgs sInit) (defBody sInit) (defScope sInit) dvs [] f fd) (L : Lx mg) (B : BkC K mg C) (c_are_names : CalX P w K mg base 2 "are_names" (spAreNames K)) (c_is_sequence : CalX P w K mg base 1 "is_sequence" (spIsSeq K)) (c_parts_within : CalX P w K mg base 5 "parts_within" (spWithin K)) :
    FnOk P w K mg base CX0 6 f fd ["self", "names", "demands"] (spInit K C) := by
  refine F.ok sc_init (fun vs H Q E h => ?_) (fun cdv A outer s H vs Q E hr h => ?_)
  · obtain ⟨x, dx, a, d, ns, zs, ps, rfl, _⟩ := h
    rfl
  obtain ⟨x, dx, a, d, ns, zs, ps, rfl, hx, hN, hZ, hn, hd, h0, h9, h50, ok, q⟩ := h
  have nd := sc_init.nd
  rcases hZ with hZ | hZ
  · skip
    refine ⟨_, (pss_cons (ps_if (PW.pt (pw_or (pt_not (pt_val (C8.pe_c c_are_names hr (by decide) rfl (pa_cons (pv 1) pa_nil)))) (pw_or1 (pt_cmpR op_eq (pe_callB call_len_seq (by rfl) L.len PySem.boot_len (pa_cons (pv 1) pa_nil)) pe_int (nomark _))))) (pss_one ps_never) pss_nil)
      (pss_cons (ps_if (pt_not (pt_val (C8.pe_c c_is_sequence hr (by decide) rfl (pa_cons (pv 2) pa_nil)))) (pss_one ps_never) pss_nil)
      (pss_cons (ps_set (i := 3) nd rfl (.inl rfl) (pe_callTy call_tuple_of (by rfl) L.tup (by decide +kernel) (pa_cons (pe_lc (own := [("demand", 4)]) (g := gName 4) (tt := tYes) rfl nd (pi_list (pv 2)) (blkOk_by (N := ["self", "names", "demands", "parts", "demand"]) (sc := defScope sInit) (by decide +kernel)) (fun _ _ _ _ _ => (pg_name (i := 4) nd rfl (Or.inl rfl))) (fun _ _ _ _ _ => pts_nil) (fun _ _ _ _ _ => (C8.pe_c c_parts_within hr (by decide) rfl (pa_cons (pv 4) (pa_cons (pv 1) pa_nil))))) pa_nil)))
      (pss_cons (ps_if (pt_cmpR (op_noneInT hr.units) pe_non (pv 3) rfl) (pss_one ps_never) pss_nil)
      (pss_cons (ps_fld (pv 0) (pe_callTy (show CallR _ _ (rTupOf K) from call_tuple_of) (by rfl) L.tup (by decide +kernel) (pa_cons (pv 1) pa_nil)) rfl)
      (pss_cons (ps_fld (pv 0) (pe_callTy call_tuple_of (by rfl) L.tup (by decide +kernel) (pa_cons (pv 2) pa_nil)) rfl)
      (pss_one (ps_fld (pv 0) (pv 3) rfl)))))))), ?_⟩
    refine ⟨_, rfl, a, ns, rfl, hN, hn, hd, by omega, fun H1 s1 => ⟨_, rfl, iteF ?_⟩⟩
    refine ⟨_, rfl, a, _, rfl, hN.same s1, rfl, _, rfl, ?_⟩
    have n0 : (((ns.map tv).length : Nat) : Int) ≠ 0 := by rw [List.length_map]; omega
    rw [int_eq, decide_eq_false n0]
    refine iteF ⟨_, rfl, _, rfl, .inl ⟨d, _, rfl, SeqV.same (.inl hZ) s1, fun H2 s2 => ⟨_, rfl, iteF ?_⟩⟩⟩
    have s12 := s1.trans s2
    refine ⟨_, rfl, d, rfl, ⟨_, Same.seq s12 hZ⟩, fun D nD => lc_list (K := K) (a := d) (xs := zs.map tv) (fun i H' => Same H2 H' ∧ ∃ pas : List Addr, H' D = some (.lst (pas.map V.ref)) ∧ PartsAt K H' pas (ps.take i))
      ⟨same_new nD _, [], upd_same, .nil⟩ (fun i H' _ q => Same.seq (s12.trans q.1) hZ) ?c1 ?c2⟩
    case c1 =>
      rintro i x H' hi ⟨s3, pas, hD, hP⟩
      obtain ⟨z, hz, rfl⟩ := at_name hi
      obtain ⟨p, hp, k1, k2, k3, k4⟩ := ok.at hz
      have sm := s12.trans s3
      have lt := (List.getElem?_eq_some_iff.mp hz).1
      have lp := hP.len
      rw [List.length_take] at lp
      refine ⟨rfl, _, rfl, _, rfl, z, p, a, ns, rfl, k2, k1, k3, hN.same sm, k4, fun H4 t s4 nt ht => ?_⟩
      have hD4 := s4 _ _ hD
      refine ⟨_, hD4, big (by rw [List.length_map]; omega), same_mut (s3.trans s4) nD, pas ++ [t], by rw [upd_same, List.map_append]; rfl, ?_⟩
      rw [List.take_succ, hp]
      exact ((hP.same s4).push ht).mut hD4
    case c2 =>
      rintro H3 ⟨s3, pas, hD, hP⟩
      rw [List.length_map, ok.len, List.take_length] at hP
      have lp := hP.len
      refine ⟨D, _, rfl, .inl ⟨SqL.of hD, fun T nT => ?_⟩⟩
      have s4 := same_new nT (.tup (pas.map V.ref))
      have hT : upd H3 T (.tup (pas.map V.ref)) T = some (.tup (pas.map V.ref)) := upd_same
      have hP4 := hP.same s4
      have sm := s12.trans (s3.trans s4)
      generalize upd H3 T (.tup (pas.map V.ref)) = H4 at s4 hT hP4 sm
      refine ⟨_, rfl, T, _, rfl, rfl, SqT.of hT, fun z hz => ?_, _, rfl, iteF ?_⟩
      · obtain ⟨t, mt, rfl⟩ := List.mem_map.mp hz
        obtain ⟨ys, e⟩ := hP4.tup t mt
        exact ⟨t, ys, rfl, e⟩
      have hx4 := sm _ _ hx
      -- self.names = tuple(names)
      refine ⟨_, rfl, ?_⟩
      dsimp only [tNil]
      refine tupOf (hN.same sm) fun H5 n s5 hn5 => ?_
      have hx5 := s5 _ _ hx4
      refine ⟨_, rfl, x, C, dx, _, rfl, hx5, B.cl, B.n1, (by show 0 < 1000; decide), ?_⟩
      have k6 := ins_keep (fs' := putF "names" (.ref n) []) hx5
      have hn6 := sqT_keep k6 hn5
      have hT6 := k6.1 _ _ (s5 _ _ hT)
      have hP6 := (hP4.same s5).keep k6
      have hZ6 : SqL K (upd H5 x (.ins C dx (putF "names" (.ref n) []))) d (zs.map tv) := sqL_keep hx5 (Same.seq (sm.trans s5) hZ)
      have kp6 : ∀ b o, H b = some o → b ≠ x → upd H5 x (.ins C dx (putF "names" (.ref n) [])) b = some o := fun b o e ne => by rw [upd_ne ne]; exact s5 _ _ (sm _ _ e)
      have hx6 : upd H5 x (.ins C dx (putF "names" (.ref n) [])) x = some (.ins C dx (putF "names" (.ref n) [])) := upd_same
      generalize upd H5 x (.ins C dx (putF "names" (.ref n) [])) = H6 at hn6 hT6 hP6 hZ6 kp6 hx6
      refine ⟨_, rfl, d, _, rfl, .inl ⟨hZ6, fun e ne => ?_⟩⟩
      have s7 := same_new ne (.tup (zs.map tv))
      have he7 : upd H6 e (.tup (zs.map tv)) e = some (.tup (zs.map tv)) := upd_same
      generalize upd H6 e (.tup (zs.map tv)) = H7 at s7 he7
      have hx7 := s7 _ _ hx6
      refine ⟨_, rfl, x, C, dx, _, rfl, hx7, B.cl, B.n2, (by show 1 < 1000; decide), ?_⟩
      have k8 := ins_keep (fs' := putF "demands" (.ref e) (putF "names" (.ref n) [])) hx7
      have kp8 : ∀ b o, H b = some o → b ≠ x → upd H7 x (.ins C dx (putF "demands" (.ref e) (putF "names" (.ref n) []))) b = some o := fun b o g ne => by rw [upd_ne ne]; exact s7 _ _ (kp6 b o g ne)
      refine ⟨_, rfl, _, rfl, x, C, dx, _, rfl, upd_same, B.cl, B.n3, (by rw [flds2]; show 2 < 1000; decide), ?_⟩
      have hx8 : upd H7 x (.ins C dx (putF "demands" (.ref e) (putF "names" (.ref n) []))) x = some (.ins C dx (putF "demands" (.ref e) (putF "names" (.ref n) []))) := upd_same
      have k9 := ins_keep (fs' := putF "parts" (.ref T) (putF "demands" (.ref e) (putF "names" (.ref n) []))) hx8
      refine q _ (fun b o g ne => by rw [upd_ne ne]; exact kp8 b o g ne) ⟨dx, n, e, T, pas, by rw [upd_same, flds3], sqT_keep k9 (sqT_keep k8 (Same.tup s7 hn6)), SqT.of (k9.1 _ _ (k8.1 _ _ he7)), SqT.of (k9.1 _ _ (k8.1 _ _ (s7 _ _ hT6))), ((hP6.same s7).keep k8).keep k9⟩
  · skip
    refine ⟨_, (pss_cons (ps_if (PW.pt (pw_or (pt_not (pt_val (C8.pe_c c_are_names hr (by decide) rfl (pa_cons (pv 1) pa_nil)))) (pw_or1 (pt_cmpR op_eq (pe_callB call_len_seq (by rfl) L.len PySem.boot_len (pa_cons (pv 1) pa_nil)) pe_int (nomark _))))) (pss_one ps_never) pss_nil)
      (pss_cons (ps_if (pt_not (pt_val (C8.pe_c c_is_sequence hr (by decide) rfl (pa_cons (pv 2) pa_nil)))) (pss_one ps_never) pss_nil)
      (pss_cons (ps_set (i := 3) nd rfl (.inl rfl) (pe_callTy call_tuple_of (by rfl) L.tup (by decide +kernel) (pa_cons (pe_lc (own := [("demand", 4)]) (g := gName 4) (tt := tYes) rfl nd (pi_tup (pv 2)) (blkOk_by (N := ["self", "names", "demands", "parts", "demand"]) (sc := defScope sInit) (by decide +kernel)) (fun _ _ _ _ _ => (pg_name (i := 4) nd rfl (Or.inl rfl))) (fun _ _ _ _ _ => pts_nil) (fun _ _ _ _ _ => (C8.pe_c c_parts_within hr (by decide) rfl (pa_cons (pv 4) (pa_cons (pv 1) pa_nil))))) pa_nil)))
      (pss_cons (ps_if (pt_cmpR (op_noneInT hr.units) pe_non (pv 3) rfl) (pss_one ps_never) pss_nil)
      (pss_cons (ps_fld (pv 0) (pe_callTy (show CallR _ _ (rTupOf K) from call_tuple_of) (by rfl) L.tup (by decide +kernel) (pa_cons (pv 1) pa_nil)) rfl)
      (pss_cons (ps_fld (pv 0) (pe_callTy call_tuple_of (by rfl) L.tup (by decide +kernel) (pa_cons (pv 2) pa_nil)) rfl)
      (pss_one (ps_fld (pv 0) (pv 3) rfl)))))))), ?_⟩
    refine ⟨_, rfl, a, ns, rfl, hN, hn, hd, by omega, fun H1 s1 => ⟨_, rfl, iteF ?_⟩⟩
    refine ⟨_, rfl, a, _, rfl, hN.same s1, rfl, _, rfl, ?_⟩
    have n0 : (((ns.map tv).length : Nat) : Int) ≠ 0 := by rw [List.length_map]; omega
    rw [int_eq, decide_eq_false n0]
    refine iteF ⟨_, rfl, _, rfl, .inl ⟨d, _, rfl, SeqV.same (.inr hZ) s1, fun H2 s2 => ⟨_, rfl, iteF ?_⟩⟩⟩
    have s12 := s1.trans s2
    refine ⟨_, rfl, d, rfl, ⟨_, Same.tup s12 hZ⟩, fun D nD => lc_tup (K := K) (a := d) (xs := zs.map tv) (fun i H' => Same H2 H' ∧ ∃ pas : List Addr, H' D = some (.lst (pas.map V.ref)) ∧ PartsAt K H' pas (ps.take i))
      ⟨same_new nD _, [], upd_same, .nil⟩ (fun i H' _ q => Same.tup (s12.trans q.1) hZ) ?c1 ?c2⟩
    case c1 =>
      rintro i x H' hi ⟨s3, pas, hD, hP⟩
      obtain ⟨z, hz, rfl⟩ := at_name hi
      obtain ⟨p, hp, k1, k2, k3, k4⟩ := ok.at hz
      have sm := s12.trans s3
      have lt := (List.getElem?_eq_some_iff.mp hz).1
      have lp := hP.len
      rw [List.length_take] at lp
      refine ⟨rfl, _, rfl, _, rfl, z, p, a, ns, rfl, k2, k1, k3, hN.same sm, k4, fun H4 t s4 nt ht => ?_⟩
      have hD4 := s4 _ _ hD
      refine ⟨_, hD4, big (by rw [List.length_map]; omega), same_mut (s3.trans s4) nD, pas ++ [t], by rw [upd_same, List.map_append]; rfl, ?_⟩
      rw [List.take_succ, hp]
      exact ((hP.same s4).push ht).mut hD4
    case c2 =>
      rintro H3 ⟨s3, pas, hD, hP⟩
      rw [List.length_map, ok.len, List.take_length] at hP
      have lp := hP.len
      refine ⟨D, _, rfl, .inl ⟨SqL.of hD, fun T nT => ?_⟩⟩
      have s4 := same_new nT (.tup (pas.map V.ref))
      have hT : upd H3 T (.tup (pas.map V.ref)) T = some (.tup (pas.map V.ref)) := upd_same
      have hP4 := hP.same s4
      have sm := s12.trans (s3.trans s4)
      generalize upd H3 T (.tup (pas.map V.ref)) = H4 at s4 hT hP4 sm
      refine ⟨_, rfl, T, _, rfl, rfl, SqT.of hT, fun z hz => ?_, _, rfl, iteF ?_⟩
      · obtain ⟨t, mt, rfl⟩ := List.mem_map.mp hz
        obtain ⟨ys, e⟩ := hP4.tup t mt
        exact ⟨t, ys, rfl, e⟩
      have hx4 := sm _ _ hx
      -- self.names = tuple(names)
      refine ⟨_, rfl, ?_⟩
      dsimp only [tNil]
      refine tupOf (hN.same sm) fun H5 n s5 hn5 => ?_
      have hx5 := s5 _ _ hx4
      refine ⟨_, rfl, x, C, dx, _, rfl, hx5, B.cl, B.n1, (by show 0 < 1000; decide), ?_⟩
      have k6 := ins_keep (fs' := putF "names" (.ref n) []) hx5
      have hn6 := sqT_keep k6 hn5
      have hT6 := k6.1 _ _ (s5 _ _ hT)
      have hP6 := (hP4.same s5).keep k6
      have hZ6 : SqT K (upd H5 x (.ins C dx (putF "names" (.ref n) []))) d (zs.map tv) := sqT_keep k6 (Same.tup (sm.trans s5) hZ)
      have kp6 : ∀ b o, H b = some o → b ≠ x → upd H5 x (.ins C dx (putF "names" (.ref n) [])) b = some o := fun b o e ne => by rw [upd_ne ne]; exact s5 _ _ (sm _ _ e)
      have hx6 : upd H5 x (.ins C dx (putF "names" (.ref n) [])) x = some (.ins C dx (putF "names" (.ref n) [])) := upd_same
      generalize upd H5 x (.ins C dx (putF "names" (.ref n) [])) = H6 at hn6 hT6 hP6 hZ6 kp6 hx6
      refine ⟨_, rfl, d, _, rfl, .inr ⟨hZ6, ?_⟩⟩
      refine ⟨_, rfl, x, C, dx, _, rfl, hx6, B.cl, B.n2, (by show 1 < 1000; decide), ?_⟩
      have k8 := ins_keep (fs' := putF "demands" (.ref d) (putF "names" (.ref n) [])) hx6
      have kp8 : ∀ b o, H b = some o → b ≠ x → upd H6 x (.ins C dx (putF "demands" (.ref d) (putF "names" (.ref n) []))) b = some o := fun b o g ne => by rw [upd_ne ne]; exact kp6 b o g ne
      refine ⟨_, rfl, _, rfl, x, C, dx, _, rfl, upd_same, B.cl, B.n3, (by rw [flds2]; show 2 < 1000; decide), ?_⟩
      have hx8 : upd H6 x (.ins C dx (putF "demands" (.ref d) (putF "names" (.ref n) []))) x = some (.ins C dx (putF "demands" (.ref d) (putF "names" (.ref n) []))) := upd_same
      have k9 := ins_keep (fs' := putF "parts" (.ref T) (putF "demands" (.ref d) (putF "names" (.ref n) []))) hx8
      refine q _ (fun b o g ne => by rw [upd_ne ne]; exact kp8 b o g ne) ⟨dx, n, d, T, pas, by rw [upd_same, flds3], sqT_keep k9 (sqT_keep k8 hn6), sqT_keep k9 (sqT_keep k8 hZ6), SqT.of (k9.1 _ _ (k8.1 _ _ hT6)), (hP6.keep k8).keep k9⟩
end
end Pg
/-! Se2 -/
set_option Elab.async false
set_option linter.all false
set_option maxRecDepth 100000
set_option maxHeartbeats 4000000
namespace Sx
open PySem PySem.Spec PyProof.Rows L2
section
variable {X : Cx}
/-- len of a set of texts, by another list of the same ones, each once -/
theorem call_lenAny : CallR X (.builtin "len") (fun xs H Q => ∃ (a : Addr) (ks l : List Str) (n : Nat), xs = [.ref a] ∧ H a = some (TxS X.w a ks n) ∧ l.Nodup ∧ (∀ x, x ∈ l ↔ x ∈ ks) ∧ Q (.int l.length) H) := by
  intro pins s σ H xs us Q I rel h
  obtain ⟨a, ks, l, n, rfl, ha, nd, same, q⟩ := h
  rw [Vals.ref1 rel]
  obtain ⟨o, es, ep, t, ⟨ho, hex, hd⟩, g, nd2, hm, ⟨hb, hbn⟩, hf, hr, hl⟩ := to_get I ha
  have size : es.size = l.length := by
    have p : l.Perm (es.toList.map elName) := (List.perm_ext_iff_of_nodup nd nd2).mpr fun x => (same x).trans (hm x)
    have e := p.length_eq
    rw [List.length_map, Array.length_toList] at e
    exact e.symm
  have small : (es.size : Int) < 2 ^ 63 := by
    have lt : es.size < scanBound := Nat.lt_of_le_of_lt hb hbn
    have : scanBound ≤ 2 ^ 62 := by decide
    omega
  exact call_len_set ho hex hd hf small ⟨.int l.length, H, I.tok _, ⟨_, by rw [size]⟩, q⟩
end
end Sx
/-! Ax1 -/
set_option Elab.async false
set_option linter.all false
set_option maxRecDepth 100000
set_option maxHeartbeats 4000000
namespace Pg
open PySem L2 Mr
/-- no text, of a known kind -/
def NoStr (K : PySem.W.Frag) (H : Hp) (v : V) : Prop := ∃ ty : String, TyX K H v (.type ty) ∧ kitB ty "str" = some false
theorem NoStr.same {K : PySem.W.Frag} {H H' : Hp} {v : V} (h : NoStr K H v) (s : Same H H') : NoStr K H' v := let ⟨ty, a, b⟩ := h; ⟨ty, tyX_same a s, b⟩
/-- neither a list nor a tuple -/
def NotSeq (K : PySem.W.Frag) (H : Hp) (v : V) : Prop := ∃ t : Value, TyX K H v t ∧ PySem.W.kitAny K t [.type "list", .type "tuple"] = some false
theorem NotSeq.same {K : PySem.W.Frag} {H H' : Hp} {v : V} (h : NotSeq K H v) (s : Same H H') : NotSeq K H' v := let ⟨ty, a, b⟩ := h; ⟨ty, tyX_same a s, b⟩
theorem NotSeq.of {K : PySem.W.Frag} {H : Hp} {v : V} {ty : String} (h : TyX K H v (.type ty)) (k1 : kitB ty "list" = some false) (k2 : kitB ty "tuple" = some false) : NotSeq K H v := ⟨_, h, seq_kit.2 _ k1 k2⟩
/-- one of the things in a lot: a text, or none; g: whether it is a name -/
def ItemG (K : PySem.W.Frag) (H : Hp) (g : V → Bool) (x : V) : Prop := (∃ z : Cs, x = tv z ∧ z.length ≤ 100000 ∧ g x = isName z) ∨ (NoStr K H x ∧ g x = false)
theorem ItemG.same {K : PySem.W.Frag} {H H' : Hp} {g : V → Bool} {x : V} (h : ItemG K H g x) (s : Same H H') : ItemG K H' g x := h.imp id fun ⟨a, b⟩ => ⟨a.same s, b⟩
section
variable {P : Program} {w : World} {K : PySem.W.Frag} {mg : Str → Option Value} {base : Heap} {pS pC : Addr}
/-! ### is_sequence, of any value -/
def spSeqX (K : PySem.W.Frag) : Sp := fun vs H Q _ => ∃ v, vs = [v] ∧ ((∃ a xs, v = .ref a ∧ SeqV K H a xs ∧ ∀ H', Same H H' → Q (.bl true) H') ∨ (NotSeq K H v ∧ ∀ H', Same H H' → Q (.bl false) H'))
theorem ok_seqX {f : Addr} {fd : FuncData} (F : Fun K "is_sequence" "is_sequence" st_is_sequence f fd) (L : Lx mg) (R : Bx2 mg) : FnOk P w K mg base CX0 1 f fd ["thing"] (spSeqX K) := by
  refine F.ok sc_is_seq (fun vs H Q E h => ?_) (fun cdv A outer s H vs Q E hr h => ?_)
  · obtain ⟨v, rfl, _⟩ := h
    rfl
  obtain ⟨v, rfl, h⟩ := h
  have nd := sc_is_seq.nd
  refine ⟨_, (pss_one (ps_ret (pe_callB call_isiT (by rfl) R.isi (by decide +kernel) (pa_cons (pv 0) (pa_cons (pe_tup (pa_cons (pe_bltn (v := .ty "list") (by rfl) L.list (by decide +kernel) rfl) (pa_cons (pe_bltn (v := .ty "tuple") (by rfl) L.tup (by decide +kernel) rfl) pa_nil))) pa_nil))))), ?_⟩
  refine ⟨_, rfl, (by show 2 ≤ sizeLine; decide), fun p np => ?_⟩
  have s1 := same_new np (.tup [.ty "list", .ty "tuple"])
  have cl : Paired ClsV [V.ty "list", V.ty "tuple"] [.type "list", .type "tuple"] := .cons (.ty _) (.cons (.ty _) .nil)
  rcases h with ⟨a, xs, rfl, hs, q⟩ | ⟨hs, q⟩
  · rcases seqV_ty (hs.same s1) with ht | ht
    · exact ⟨_, p, _, _, _, true, rfl, upd_same, cl, ht, seq_kit.1 _ (.inl rfl), q _ s1⟩
    · exact ⟨_, p, _, _, _, true, rfl, upd_same, cl, ht, seq_kit.1 _ (.inr rfl), q _ s1⟩
  · obtain ⟨t, ht, kt⟩ := hs.same s1
    exact ⟨_, p, _, _, _, false, rfl, upd_same, cl, ht, kt, q _ s1⟩
/-! ### is_name, of any value -/
def spNameX (K : PySem.W.Frag) : Sp := fun vs H Q E => spIsName vs H Q E ∨ ∃ v : V, vs = [v] ∧ NoStr K H v ∧ ∀ H', Same H H' → Q (.bl false) H'
theorem ok_nameX {f : Addr} {fd : FuncData} (F : Fun K "is_name" "is_name" st_is_name f fd) (T : Tx K w mg pS pC) : FnOk P w K mg base CX0 1 f fd ["thing"] (spNameX K) := by
  have G1 := ok_is_name (P := P) (base := base) F T
  have G2 : FnOk P w K mg base CX0 1 f fd ["thing"] (fun vs H Q E => ∃ v : V, vs = [v] ∧ NoStr K H v ∧ ∀ H', Same H H' → Q (.bl false) H') := by
    refine F.ok sc_is_name (fun vs H Q E h => ?_) (fun cdv A outer s H vs Q E hr h => ?_)
    · obtain ⟨v, rfl, _⟩ := h
      rfl
    obtain ⟨v, rfl, ⟨ty, hty, hk⟩, q⟩ := h
    refine ⟨_, pss_cons (ps_if (PW.pt (pw_or (pt_not (pt_val (pe_callB call_isi (by rfl) T.isi (by decide +kernel) (pa_cons (pv 0) (pa_cons (pe_bltn (v := .ty "str") (by rfl) T.str (by decide +kernel) rfl) pa_nil)))))
        (pw_or1 (pt_cmpR op_in_seq (pv 0) (pe_tup (pa_cons pe_str (pa_cons pe_str pa_nil))) rfl)))) (pss_one (ps_ret pe_bl)) pss_nil)
      (pss_one (ps_ret (pe_and (pe_cmpR op_le (pe_callB call_len (by rfl) T.len PySem.boot_len (pa_cons (pv 0) pa_nil)) pe_int (nomark _))
        (pe_and (pe_m0 PySem.F.slot_str_isascii PySem.F.type_str_isascii mt_isascii (pv 0)) (pe_and (pe_m0 PySem.F.slot_str_isalpha PySem.F.type_str_isalpha mt_isalpha (pv 0)) (pe_one (pe_m0 PySem.F.slot_str_islower PySem.F.type_str_islower mt_islower (pv 0)))))))), ?_⟩
    exact ⟨_, rfl, _, _, _, _, _, rfl, .ty "str", hty, kit_ty hk, false, rfl, iteT (q H (Same.refl H))⟩
  exact ⟨fun vs H Q E h => h.elim (G1.len vs H Q E) (G2.len vs H Q E), fun A outer s H args us vs Q E hr e0 hb r h => h.elim (G1.run A outer s H args us vs Q E hr e0 hb r) (G2.run A outer s H args us vs Q E hr e0 hb r)⟩
/-! ### are_names, of any value -/
def spAreX (K : PySem.W.Frag) : Sp := fun vs H Q _ => ∃ v, vs = [v] ∧ ((NotSeq K H v ∧ ∀ H', Same H H' → Q (.bl false) H') ∨ (∃ (a : Addr) (xs : List V) (g : V → Bool), v = .ref a ∧ SeqV K H a xs ∧ xs.length ≤ 50 ∧ (∀ x ∈ xs, ItemG K H g x) ∧
  ((xs.all g = false ∧ ∀ H', Same H H' → Q (.bl false) H') ∨ (∃ ns l : List Cs, xs = ns.map tv ∧ xs.all g = true ∧ l.Nodup ∧ (∀ s, s ∈ l ↔ s ∈ ns) ∧ ∀ H', Same H H' → Q (.bl (decide (l.length = ns.length))) H'))))
theorem ok_areX {f : Addr} {fd : FuncData} (F : Fun K "are_names" "are_names" st_are_names f fd) (L : Lx mg) (R : Bx2 mg) (c_is_sequence : CalX P w K mg base 1 "is_sequence" (spSeqX K)) (c_is_name : CalX P w K mg base 1 "is_name" (spNameX K)) :
    FnOk P w K mg base CX0 2 f fd ["thing"] (spAreX K) := by
  refine F.ok sc_are_names (fun vs H Q E h => ?_) (fun cdv A outer s H vs Q E hr h => ?_)
  · obtain ⟨v, rfl, _⟩ := h
    rfl
  obtain ⟨v, rfl, h⟩ := h
  have nd := sc_are_names.nd
  rcases h with ⟨hv, q⟩ | ⟨a, xs, g, rfl, hS, h50, items, h⟩
  · refine ⟨_, (pss_cons (ps_if (PW.pt (pw_or (pt_not (pt_val (C8.pe_c c_is_sequence hr (by decide) rfl (pa_cons (pv 0) pa_nil)))) (pw_or1 (pt_not (pt_val (pe_callB (cr_all rfl) (by rfl) R.all (by decide +kernel) (pa_cons (pe_lc (own := [("name", 1)]) (g := gName 1) (tt := tYes) rfl nd (pi_list (pv 0)) (blkOk_by (N := ["thing", "name"]) (sc := defScope st_are_names) (by decide +kernel)) (fun _ _ _ _ _ => (pg_name (i := 1) nd rfl (Or.inl rfl))) (fun _ _ _ _ _ => pts_nil) (fun _ _ _ _ _ => (C8.pe_c c_is_name hr (by decide) rfl (pa_cons (pv 1) pa_nil)))) pa_nil))))))) (pss_one (ps_ret pe_bl)) pss_nil)
      (pss_one (ps_ret (pe_cmpR op_eq (pe_callB Sx.call_lenAny (by rfl) L.len PySem.boot_len (pa_cons (pe_callTy (Sx.cr_setTexts2 rfl) (by rfl) R.set (by decide +kernel) (pa_cons (pv 0) pa_nil)) pa_nil)) (pe_callB call_len_seq (by rfl) L.len PySem.boot_len (pa_cons (pv 0) pa_nil)) (nomark _))))), ?_⟩
    exact ⟨_, rfl, _, rfl, .inr ⟨hv, fun H1 s1 => ⟨_, rfl, iteT (q H1 s1)⟩⟩⟩
  rcases hS with hS | hS
  · refine ⟨_, (pss_cons (ps_if (PW.pt (pw_or (pt_not (pt_val (C8.pe_c c_is_sequence hr (by decide) rfl (pa_cons (pv 0) pa_nil)))) (pw_or1 (pt_not (pt_val (pe_callB (cr_all rfl) (by rfl) R.all (by decide +kernel) (pa_cons (pe_lc (own := [("name", 1)]) (g := gName 1) (tt := tYes) rfl nd (pi_list (pv 0)) (blkOk_by (N := ["thing", "name"]) (sc := defScope st_are_names) (by decide +kernel)) (fun _ _ _ _ _ => (pg_name (i := 1) nd rfl (Or.inl rfl))) (fun _ _ _ _ _ => pts_nil) (fun _ _ _ _ _ => (C8.pe_c c_is_name hr (by decide) rfl (pa_cons (pv 1) pa_nil)))) pa_nil))))))) (pss_one (ps_ret pe_bl)) pss_nil)
      (pss_one (ps_ret (pe_cmpR op_eq (pe_callB Sx.call_lenAny (by rfl) L.len PySem.boot_len (pa_cons (pe_callTy (Sx.cr_setTexts2 rfl) (by rfl) R.set (by decide +kernel) (pa_cons (pv 0) pa_nil)) pa_nil)) (pe_callB call_len_seq (by rfl) L.len PySem.boot_len (pa_cons (pv 0) pa_nil)) (nomark _))))), ?_⟩
    refine ⟨_, rfl, _, rfl, .inl ⟨a, _, rfl, .inl hS, fun H1 s1 => ⟨_, rfl, iteF ?_⟩⟩⟩
    refine ⟨_, rfl, a, rfl, ⟨_, Same.seq s1 hS⟩, fun D nD => lc_list (K := K) (a := a) (xs := xs) (fun n H' => Same H1 H' ∧ H' D = some (.lst ((xs.take n).map fun x => V.bl (g x)))) ⟨same_new nD _, upd_same⟩ (fun n H' _ p => Same.seq (s1.trans p.1) hS) ?c1 ?c2⟩
    case c1 =>
      rintro n x H' hn' ⟨s2, hD⟩
      have lt := (List.getElem?_eq_some_iff.mp hn').1
      have it := (items x (List.mem_of_getElem? hn')).same (s1.trans s2)
      have fin : ∀ H3, Same H' H3 → ∃ acc, H3 D = some (.lst acc) ∧ acc.length < sizeLine ∧ Same H1 (upd H3 D (.lst (acc ++ [V.bl (g x)]))) ∧ upd H3 D (.lst (acc ++ [V.bl (g x)])) D = some (.lst ((xs.take (n + 1)).map fun x => V.bl (g x))) := fun H3 s3 => by
        refine ⟨_, s3 _ _ hD, big (by rw [List.length_map, List.length_take]; omega), same_mut (s2.trans s3) nD, ?_⟩
        rw [upd_same, List.take_succ, hn', List.map_append]
        rfl
      rcases it with ⟨z, rfl, hz, e⟩ | ⟨no, e⟩
      · rw [e] at fin
        exact ⟨rfl, _, rfl, .inl ⟨z, rfl, hz, fin⟩⟩
      · rw [e] at fin
        exact ⟨rfl, _, rfl, .inr ⟨x, rfl, no, fin⟩⟩
    case c2 =>
      rintro H2 ⟨s2, hD⟩
      rw [List.take_length] at hD
      have sm := s1.trans s2
      refine ⟨D, xs.map g, rfl, SqL.of (by rw [hD, List.map_map]; rfl), _, rfl, ?_⟩
      rw [List.all_map, show (id ∘ g) = g from rfl]
      rcases h with ⟨e, q⟩ | ⟨ns, l, rfl, e, ndl, mem, q⟩
      · rw [e]
        exact iteT (q H2 sm)
      · rw [e]
        refine iteF ⟨_, rfl, a, ns.map S, rfl, .inl (by rw [List.map_map]; exact Same.seq sm hS), by rw [List.length_map] at h50 ⊢; omega, fun p np => ?_⟩
        have s3 := sm.trans (same_new np (Sx.TxS w p (ns.map S) (ns.map S).length))
        refine ⟨p, ns.map S, l.map S, _, rfl, upd_same, nodup_S ndl, fun x => ?_, _, rfl, a, _, rfl, .inl (Same.seq s3 hS), rfl, ?_⟩
        · constructor
          · intro m
            obtain ⟨s0, ms, rfl⟩ := List.mem_map.mp m
            exact List.mem_map_of_mem ((mem s0).mp ms)
          · intro m
            obtain ⟨s0, ms, rfl⟩ := List.mem_map.mp m
            exact List.mem_map_of_mem ((mem s0).mpr ms)
        · rw [int_eq, List.length_map, List.length_map, show decide (((l.length : Nat) : Int) = ((ns.length : Nat) : Int)) = decide (l.length = ns.length) from decide_eq_decide.mpr (by omega)]
          exact q _ s3
  · refine ⟨_, (pss_cons (ps_if (PW.pt (pw_or (pt_not (pt_val (C8.pe_c c_is_sequence hr (by decide) rfl (pa_cons (pv 0) pa_nil)))) (pw_or1 (pt_not (pt_val (pe_callB (cr_all rfl) (by rfl) R.all (by decide +kernel) (pa_cons (pe_lc (own := [("name", 1)]) (g := gName 1) (tt := tYes) rfl nd (pi_tup (pv 0)) (blkOk_by (N := ["thing", "name"]) (sc := defScope st_are_names) (by decide +kernel)) (fun _ _ _ _ _ => (pg_name (i := 1) nd rfl (Or.inl rfl))) (fun _ _ _ _ _ => pts_nil) (fun _ _ _ _ _ => (C8.pe_c c_is_name hr (by decide) rfl (pa_cons (pv 1) pa_nil)))) pa_nil))))))) (pss_one (ps_ret pe_bl)) pss_nil)
      (pss_one (ps_ret (pe_cmpR op_eq (pe_callB Sx.call_lenAny (by rfl) L.len PySem.boot_len (pa_cons (pe_callTy (Sx.cr_setTexts2 rfl) (by rfl) R.set (by decide +kernel) (pa_cons (pv 0) pa_nil)) pa_nil)) (pe_callB call_len_seq (by rfl) L.len PySem.boot_len (pa_cons (pv 0) pa_nil)) (nomark _))))), ?_⟩
    refine ⟨_, rfl, _, rfl, .inl ⟨a, _, rfl, .inr hS, fun H1 s1 => ⟨_, rfl, iteF ?_⟩⟩⟩
    refine ⟨_, rfl, a, rfl, ⟨_, Same.tup s1 hS⟩, fun D nD => lc_tup (K := K) (a := a) (xs := xs) (fun n H' => Same H1 H' ∧ H' D = some (.lst ((xs.take n).map fun x => V.bl (g x)))) ⟨same_new nD _, upd_same⟩ (fun n H' _ p => Same.tup (s1.trans p.1) hS) ?c1 ?c2⟩
    case c1 =>
      rintro n x H' hn' ⟨s2, hD⟩
      have lt := (List.getElem?_eq_some_iff.mp hn').1
      have it := (items x (List.mem_of_getElem? hn')).same (s1.trans s2)
      have fin : ∀ H3, Same H' H3 → ∃ acc, H3 D = some (.lst acc) ∧ acc.length < sizeLine ∧ Same H1 (upd H3 D (.lst (acc ++ [V.bl (g x)]))) ∧ upd H3 D (.lst (acc ++ [V.bl (g x)])) D = some (.lst ((xs.take (n + 1)).map fun x => V.bl (g x))) := fun H3 s3 => by
        refine ⟨_, s3 _ _ hD, big (by rw [List.length_map, List.length_take]; omega), same_mut (s2.trans s3) nD, ?_⟩
        rw [upd_same, List.take_succ, hn', List.map_append]
        rfl
      rcases it with ⟨z, rfl, hz, e⟩ | ⟨no, e⟩
      · rw [e] at fin
        exact ⟨rfl, _, rfl, .inl ⟨z, rfl, hz, fin⟩⟩
      · rw [e] at fin
        exact ⟨rfl, _, rfl, .inr ⟨x, rfl, no, fin⟩⟩
    case c2 =>
      rintro H2 ⟨s2, hD⟩
      rw [List.take_length] at hD
      have sm := s1.trans s2
      refine ⟨D, xs.map g, rfl, SqL.of (by rw [hD, List.map_map]; rfl), _, rfl, ?_⟩
      rw [List.all_map, show (id ∘ g) = g from rfl]
      rcases h with ⟨e, q⟩ | ⟨ns, l, rfl, e, ndl, mem, q⟩
      · rw [e]
        exact iteT (q H2 sm)
      · rw [e]
        refine iteF ⟨_, rfl, a, ns.map S, rfl, .inr (by rw [List.map_map]; exact Same.tup sm hS), by rw [List.length_map] at h50 ⊢; omega, fun p np => ?_⟩
        have s3 := sm.trans (same_new np (Sx.TxS w p (ns.map S) (ns.map S).length))
        refine ⟨p, ns.map S, l.map S, _, rfl, upd_same, nodup_S ndl, fun x => ?_, _, rfl, a, _, rfl, .inr (Same.tup s3 hS), rfl, ?_⟩
        · constructor
          · intro m
            obtain ⟨s0, ms, rfl⟩ := List.mem_map.mp m
            exact List.mem_map_of_mem ((mem s0).mp ms)
          · intro m
            obtain ⟨s0, ms, rfl⟩ := List.mem_map.mp m
            exact List.mem_map_of_mem ((mem s0).mpr ms)
        · rw [int_eq, List.length_map, List.length_map, show decide (((l.length : Nat) : Int) = ((ns.length : Nat) : Int)) = decide (l.length = ns.length) from decide_eq_decide.mpr (by omega)]
          exact q _ s3
end
end Pg
/-! Ax2 -/
set_option Elab.async false
set_option linter.all false
set_option maxRecDepth 100000
set_option maxHeartbeats 4000000
namespace Pg
open PySem L2 Mr
section
variable {P : Program} {w : World} {K : PySem.W.Frag} {mg : Str → Option Value} {base : Heap} {pS pC : Addr}
/-! ### parts_within, of any value -/
/-- no demand of these names -/
def NoDem (K : PySem.W.Frag) (H : Hp) (ns : List Cs) (v : V) : Prop := (∃ z : Cs, v = tv z ∧ z.length ≤ 100000 ∧ (partsOf z = none ∨ ∃ p s, partsOf z = some p ∧ p.1.length + p.2.2.length < 64 ∧ (Stp.nam s ∈ p.1 ∨ Stp.nam s ∈ p.2.2) ∧ s ∉ ns)) ∨ NoStr K H v
theorem NoDem.same {K : PySem.W.Frag} {H H' : Hp} {ns : List Cs} {v : V} (h : NoDem K H ns v) (s : Same H H') : NoDem K H' ns v := h.imp id fun a => a.same s
def spNoPart (K : PySem.W.Frag) : Sp := fun vs H Q _ => ∃ (v : V) (b : Addr) (ns : List Cs), vs = [v, .ref b] ∧ NoDem K H ns v ∧ SeqV K H b (ns.map tv) ∧ ∀ H', Same H H' → Q .non H'
theorem ok_noPart {f : Addr} {fd : FuncData} (F : Fun K "parts_within" "parts_within" st_parts_within f fd) (R : Bx2 mg) (c_parts_of : CalX P w K mg base 4 "parts_of" (spPartsOf K)) (c_names_in : CalX P w K mg base 1 "names_in" (spNames K)) :
    FnOk P w K mg base CX0 5 f fd ["thing", "names"] (spNoPart K) := by
  refine F.ok sc_within (fun vs H Q E h => ?_) (fun cdv A outer s H vs Q E hr h => ?_)
  · obtain ⟨v, b, ns, rfl, _⟩ := h
    rfl
  obtain ⟨v, b, ns, rfl, hv, hb, q⟩ := h
  have nd := sc_within.nd
  refine ⟨_, (pss_cons (ps_set (i := 2) nd rfl (.inl rfl) (C8.pe_c c_parts_of hr (by decide) rfl (pa_cons (pv 0) pa_nil)))
      (pss_cons (ps_if (pt_cmpR op_isN (pv 2) pe_non (nomark _)) (pss_one (ps_ret pe_non)) pss_nil)
      (pss_cons (ps_asg (pv 2) (pg_tup (n := 3) rfl (pgs_cons (pg_name (i := 3) nd rfl (Or.inl rfl)) (pgs_cons (pg_name (i := 4) nd rfl (Or.inl rfl)) (pgs_cons (pg_name (i := 5) nd rfl (Or.inl rfl)) pgs_nil)))))
      (pss_one (ps_ret (pe_ifExp (pt_val (pe_callB (cr_all rfl) (by rfl) R.all (by decide +kernel) (pa_cons (pe_lc (own := [("name", 6)]) (g := gName 6) (tt := tYes) rfl nd (pi_tup (C8.pe_c c_names_in hr (by decide) rfl (pa_cons (pe_op (show OpR _ _ (rCatA K) from op_catA) (pv 3) (pv 5)) pa_nil))) (blkOk_by (N := ["thing", "names", "parts", "low", "_", "high", "name"]) (sc := defScope st_parts_within) (by decide +kernel)) (fun _ _ _ _ _ => (pg_name (i := 6) nd rfl (Or.inl rfl))) (fun _ _ _ _ _ => pts_nil) (fun _ _ _ _ _ => (pe_cmpR (show OpR _ _ (rIn K false) from op_in_seq) (pv 6) (pv 1) rfl))) pa_nil))) (pv 2) pe_non)))))), ?_⟩
  have none_ : ∀ H', Same H H' → Q .non H' := q
  rcases hv with ⟨z, rfl, hz, hp | ⟨p, s0, hp, few, hs, out⟩⟩ | ⟨ty, hty, hk⟩
  · exact ⟨_, rfl, _, rfl, .inl ⟨z, rfl, hz, fun _ H1 s1 => ⟨_, rfl, rfl, _, rfl, iteT (q H1 s1)⟩, fun lo r hi e => by rw [hp] at e; cases e⟩⟩
  · refine ⟨_, rfl, _, rfl, .inl ⟨z, rfl, hz, fun n => (by rw [hp] at n; cases n), fun lo r hi e H1 a x y s1 na ha hx hy => ?_⟩⟩
    rw [hp] at e
    cases e
    refine ⟨_, rfl, rfl, _, rfl, iteF ⟨_, rfl, a, _, rfl, SqT.of ha, rfl, _, _, rfl, _, _, rfl, _, _, rfl, rfl, ?_⟩⟩
    obtain ⟨xs, hx1, hx2⟩ := hx
    obtain ⟨ys, hy1, hy2⟩ := hy
    have l1 := hx2.len
    have l2 := hy2.len
    refine ⟨_, rfl, _, rfl, ?_⟩
    refine catA_of hx1 hy1 ?_ fun H2 c s2 hc => ?_
    · rw [List.length_map, List.length_map]
      exact Nat.le_of_lt (big (by show _ ≤ 100000; have few : lo.length + hi.length < 64 := few; omega))
    refine ⟨c, lo ++ hi, rfl, ⟨xs ++ ys, by rw [List.map_append]; exact hc, (hx2.same s2).app (hy2.same s2)⟩, by rw [List.length_append]; exact few, fun H3 d ks s3 hd _ _ hm hl => ?_⟩
    have inn : ∀ k ∈ ks, ∃ u : Cs, k = S u ∧ inV (V.str k) (ns.map tv) = decide (u ∈ ns) := fun k mk => by
      obtain ⟨u, rfl, _⟩ := (hm k).mp mk
      exact ⟨u, rfl, inV_names u ns⟩
    refine ⟨d, rfl, ⟨_, SqT.of hd⟩, fun D nD => lc_tup (K := K) (a := d) (xs := ks.map V.str) (fun i H' => Same H3 H' ∧ H' D = some (.lst ((ks.take i).map fun k => V.bl (inV (V.str k) (ns.map tv))))) ⟨same_new nD _, upd_same⟩ (fun i H' _ p => SqT.of (p.1 _ _ hd)) ?c1 ?c2⟩
    case c1 =>
      rintro i v H' hk0 ⟨s4, hD⟩
      obtain ⟨k, hk, rfl⟩ := at_str hk0
      have lt := (List.getElem?_eq_some_iff.mp hk).1
      have sm := ((s1.trans s2).trans s3).trans s4
      refine ⟨rfl, _, rfl, _, rfl, b, ns.map tv, rfl, hb.same sm, rfl, List.all_eq_true.mpr (fun x m => flat_names ns x m), ?_⟩
      show ∃ acc, H' D = some (.lst acc) ∧ acc.length < sizeLine ∧ _
      refine ⟨_, hD, big (by rw [List.length_map, List.length_take]; have few : (lo ++ hi).length < 64 := by { rw [List.length_append]; exact few }; omega), same_mut s4 nD, ?_⟩
      rw [upd_same, List.take_succ, hk, List.map_append]
      rfl
    case c2 =>
      rintro H4 ⟨s4, hD⟩
      rw [List.length_map, List.take_length] at hD
      refine ⟨D, ks.map fun k => inV (V.str k) (ns.map tv), rfl, SqL.of (by rw [hD, List.map_map]; rfl), _, rfl, ?_⟩
      have fls : ((ks.map fun k => inV (V.str k) (ns.map tv)).all id) = false := by
        rw [List.all_eq_false]
        refine ⟨inV (V.str (S s0)) (ns.map tv), List.mem_map_of_mem (f := fun k => inV (V.str k) (ns.map tv)) ((hm (S s0)).mpr ⟨s0, rfl, List.mem_append.mpr hs⟩), ?_⟩
        rw [show inV (V.str (S s0)) (ns.map tv) = decide (s0 ∈ ns) from inV_names s0 ns, decide_eq_false out]
        decide
      rw [fls]
      exact iteF (q _ (((s1.trans s2).trans s3).trans s4))
  · exact ⟨_, rfl, _, rfl, .inr ⟨ty, hty, hk, fun H1 s1 => ⟨_, rfl, rfl, _, rfl, iteT (q H1 s1)⟩⟩⟩
end
end Pg
/-! Ax3 -/
set_option Elab.async false
set_option linter.all false
set_option maxRecDepth 100000
set_option maxHeartbeats 8000000
namespace Pg
open PySem L2 Mr
/-- two promises of one def -/
def spOr (a b : Sp) : Sp := fun vs H Q E => a vs H Q E ∨ b vs H Q E
theorem fn_or {P : Program} {w : World} {K : PySem.W.Frag} {mg : Str → Option Value} {base : Heap} {CX : CXT} {k : Nat} {f : Addr} {fd : FuncData} {ps : List Str} {a b : Sp} (F : FnOk P w K mg base CX k f fd ps a) (G : FnOk P w K mg base CX k f fd ps b) : FnOk P w K mg base CX k f fd ps (spOr a b) :=
  ⟨fun vs H Q E h => h.elim (F.len vs H Q E) (G.len vs H Q E), fun A outer s H args us vs Q E hr e0 hb r h => h.elim (F.run A outer s H args us vs Q E hr e0 hb r) (G.run A outer s H args us vs Q E hr e0 hb r)⟩
/-- a def that lets nothing out, where things may be let out -/
theorem fn_up {P : Program} {w : World} {K : PySem.W.Frag} {mg : Str → Option Value} {base : Heap} {CX : CXT} {k : Nat} {f : Addr} {fd : FuncData} {ps : List Str} {sp : Sp} (F : FnOk P w K mg base CX0 k f fd ps sp) : FnOk P w K mg base CX k f fd ps sp :=
  ⟨F.len, fun A outer s H args us vs Q E hr e0 hb r h => codeAny_mono (F.run A outer s H args us vs Q E hr e0 hb r h) fun x s' hx => by
    match x, hx with
    | .ok (.ret u), hx => exact hx
    | .ok .next, hx => exact hx.elim
    | .ok .brk, hx => exact hx.elim
    | .ok .cont, hx => exact hx.elim
    | .error e, hx => exact hx.elim⟩
def isNon : V → Bool
  | .non => true
  | _ => false
/-- None in a tuple of None and tuples -/
def rNoneAny (K : PySem.W.Frag) : R2 := fun x y H Q => ∃ p xs, x = .non ∧ y = .ref p ∧ SqT K H p xs ∧ (∀ z ∈ xs, z = .non ∨ ∃ a ys, z = .ref a ∧ H a = some (.tup ys)) ∧ Q (.bl (xs.any isNon)) H
theorem op_noneAny {X : Cx} (hu : X.A.units + 64 < cLine) : OpR X (compareOp .In) (rNoneAny X.K) := by
  intro pins s σ H x y v u Q I rx ry h
  obtain ⟨p, xs, rfl, rfl, hq, f, q⟩ := h
  cases rx
  cases ry
  obtain ⟨its, rv, hl, _⟩ := I.tuple hq
  have hu1 : X.A.in1.units < cLine := by show X.A.units + 1 < cLine; omega
  let e : Value → Bool := fun u => match u with | .none => true | _ => false
  have mem : ∀ {xs : List V} {us : List Value}, Vals xs us → (∀ z ∈ xs, z = .non ∨ ∃ a ys, z = .ref a ∧ H a = some (.tup ys)) → (∀ u ∈ us, SeqAt.EqAt X.A.in1 s u .none (e u)) ∧ us.any e = xs.any isNon := fun {xs us} r => by
    induction r with
    | nil => exact fun _ => ⟨fun u m => (by cases m), rfl⟩
    | @cons x u xs us r1 r ih =>
      intro g
      obtain ⟨i1, i2⟩ := ih fun z hz => g z (List.mem_cons_of_mem _ hz)
      rw [List.any_cons, List.any_cons, i2]
      rcases g _ List.mem_cons_self with rfl | ⟨a, ys, rfl, ha⟩
      · cases r1
        refine ⟨fun u' m => ?_, rfl⟩
        rcases List.mem_cons.mp m with rfl | m
        · exact SeqAt.EqAt.same _
        · exact i1 u' m
      · cases r1
        obtain ⟨_, hl2, hl3, _⟩ := I.tuple (SqT.of ha)
        refine ⟨fun u' m => ?_, rfl⟩
        rcases List.mem_cons.mp m with rfl | m
        · exact SeqAt.EqAt.tuple_none hl3 hu1
        · exact i1 u' m
  obtain ⟨m1, m2⟩ := mem rv f
  refine SeqAt.in_tupleAt e hl (fun z hz => m1 z (by simpa using hz)) ⟨.bl _, H, I, rfl, ?_⟩
  rw [show its.toArray.any e = its.any e by simp, m2]
  exact q
/-! ### the error -/
abbrev sExB : Stmt := inClass cl_InvalidBook 0
structure ExB (K : PySem.W.Frag) (mg : Str → Option Value) (cB fJ : Addr) : Prop where
  T : OexC K cB
  iC : PySem.W.findIn K (.ref cB) "__init__" = some (some (.ref fJ))
  tI : PySem.W.typeIn K (.ref fJ) = some (.type "function")
  noF : PySem.W.findIn K (.ref cB) "word" = some none
  mB : mg "InvalidBook" = some (.ref cB)
theorem keep_exc {H : Hp} {a d : Addr} {o1 o2 : HO} {o3 o4 : HO} (na : H a = none) (nd : H d = none) : Same H (upd (L2.del (upd (upd (upd H a o1) d o2) a o3) a) d o4) := fun b u e => by
  have i := ne_of_none e na
  have j := ne_of_none e nd
  rw [upd_ne j, L2.del_ne i, upd_ne i, upd_ne j, upd_ne i]
  exact e
section
variable {P : Program} {w : World} {K : PySem.W.Frag} {mg : Str → Option Value} {base : Heap} {pS pC C cB fJ : Addr}
def spExI (K : PySem.W.Frag) : Sp := fun vs H Q _ => ∃ (a C : Addr) (v : V), vs = [.ref a, v] ∧ OexC K C ∧ PySem.W.findIn K (.ref C) "word" = some none ∧ H a = some (exo a C none) ∧ ∀ dx, H dx = none → dx ≠ a → Q .non (upd (upd H dx (exd dx [("word", v)])) a (exo a C (some dx)))
theorem sc_exI : FnScope ["self", "word"] ["self", "word"] (defScope sExB) := ⟨rfl, rfl, rfl, by decide +kernel, rfl, by decide +kernel, by decide +kernel⟩
theorem ok_exI {f : Addr} {fd : FuncData} (F : Fun K "__init__" "InvalidBook.__init__" sExB f fd) : FnOk P w K mg base CX0 1 f fd ["self", "word"] (spExI K) := by
  refine F.ok sc_exI (fun vs H Q E h => ?_) (fun cdv A outer s H vs Q E hr h => ?_)
  · obtain ⟨a, C, v, rfl, _⟩ := h
    rfl
  obtain ⟨a, C, v, rfl, T, no, ha, q⟩ := h
  exact ⟨_, pss_one (ps_ost (pv 0) (pv 1)), _, rfl, _, rfl, a, C, rfl, T, no, .inl ⟨ha, q⟩⟩
/-! ### Book.__init__, refusing -/
def BadNames (K : PySem.W.Frag) (H : Hp) (v : V) : Prop := NotSeq K H v ∨ ∃ (a : Addr) (xs : List V) (g : V → Bool), v = .ref a ∧ SeqV K H a xs ∧ xs.length ≤ 50 ∧ (∀ x ∈ xs, ItemG K H g x) ∧
  (xs = [] ∨ xs.all g = false ∨ ∃ ns l : List Cs, xs = ns.map tv ∧ xs.all g = true ∧ l.Nodup ∧ (∀ s, s ∈ l ↔ s ∈ ns) ∧ l.length ≠ ns.length)
def GoodNames (K : PySem.W.Frag) (H : Hp) (v : V) (ns : List Cs) : Prop := ∃ a, v = .ref a ∧ SqL K H a (ns.map tv) ∧ (∀ s ∈ ns, isName s = true) ∧ ns.Nodup ∧ 0 < ns.length ∧ ns.length ≤ 9
def BadDems (K : PySem.W.Frag) (H : Hp) (ns : List Cs) (u : V) : Prop := NotSeq K H u ∨ ∃ d xs, u = .ref d ∧ SqL K H d xs ∧ xs.length ≤ 50 ∧ (∀ x ∈ xs, NoDem K H ns x ∨ ∃ z p, x = tv z ∧ DemOk ns z p) ∧ ∃ x ∈ xs, NoDem K H ns x
theorem BadNames.same {K : PySem.W.Frag} {H H' : Hp} {v : V} (h : BadNames K H v) (s : Same H H') : BadNames K H' v := by
  rcases h with h | ⟨a, xs, g, e, h1, h2, h3, h4⟩
  · exact .inl (h.same s)
  · exact .inr ⟨a, xs, g, e, h1.same s, h2, fun x m => (h3 x m).same s, h4⟩
theorem BadDems.same {K : PySem.W.Frag} {H H' : Hp} {ns : List Cs} {u : V} (h : BadDems K H ns u) (s : Same H H') : BadDems K H' ns u := by
  rcases h with h | ⟨d, xs, e, h1, h2, h3, x, m, h4⟩
  · exact .inl (h.same s)
  · exact .inr ⟨d, xs, e, Same.seq s h1, h2, fun x m => (h3 x m).imp (·.same s) id, x, m, h4.same s⟩
def spBad (K : PySem.W.Frag) (C cB : Addr) : Sp := fun vs H _ E => ∃ (x : Addr) (v u : V), vs = [.ref x, v, u] ∧
  ((BadNames K H v ∧ ∀ H' d', Same H H' → H' d' = some (.xd [("word", .str "names")]) → E (.ref cB) (some d') H') ∨
   (∃ ns, GoodNames K H v ns ∧ BadDems K H ns u ∧ ∀ H' d', Same H H' → H' d' = some (.xd [("word", .str "demands")]) → E (.ref cB) (some d') H'))
theorem ok_bad {f : Addr} {fd fdJ : FuncData} {dvs : List V} (F : FunD K "__init__" "Book.__init__" (defArgs sInit) (defBody sInit) (defScope sInit) dvs [] f fd) (L : Lx mg) (Y : ExB K mg cB fJ) (GJ : FnOk P w K mg base CX0 1 fJ fdJ ["self", "word"] (spExI K)) (bJ : Binds K fdJ ["self", "word"] [])
    (c_are_names : CalX P w K mg base 2 "are_names" (spAreX K)) (c_is_sequence : CalX P w K mg base 1 "is_sequence" (spSeqX K)) (c_parts_within : CalX P w K mg base 5 "parts_within" (spOr (spWithin K) (spNoPart K))) :
    FnOk P w K mg base (L2.CX P w) 6 f fd ["self", "names", "demands"] (spBad K C cB) := by
  refine F.ok sc_init (fun vs H Q E h => ?_) (fun cdv A outer s H vs Q E hr h => ?_)
  · obtain ⟨x, v, u, rfl, _⟩ := h
    rfl
  obtain ⟨x, v, u, rfl, h⟩ := h
  have nd := sc_init.nd
  refine ⟨_, (pss_cons (ps_if (PW.pt (pw_or (pt_not (pt_val (C8.pe_c c_are_names hr (by decide) rfl (pa_cons (pv 1) pa_nil)))) (pw_or1 (pt_cmpR op_eq (pe_callB call_len_seq (by rfl) L.len PySem.boot_len (pa_cons (pv 1) pa_nil)) pe_int (nomark _))))) (pss_one (ps_raise rfl (takes_of rfl rfl rfl rfl) (pmk_oex Y.T Y.iC Y.tI GJ (hr.mono (by decide)) bJ .nil pass0 rfl Y.mB (pa_cons pe_str pa_nil)))) pss_nil)
      (pss_cons (ps_if (pt_not (pt_val (C8.pe_c c_is_sequence hr (by decide) rfl (pa_cons (pv 2) pa_nil)))) (pss_one (ps_raise rfl (takes_of rfl rfl rfl rfl) (pmk_oex Y.T Y.iC Y.tI GJ (hr.mono (by decide)) bJ .nil pass0 rfl Y.mB (pa_cons pe_str pa_nil)))) pss_nil)
      (pss_cons (ps_set (i := 3) nd rfl (.inl rfl) (pe_callTy (show CallR _ _ (rTupOf K) from call_tuple_of) (by rfl) L.tup (by decide +kernel) (pa_cons (pe_lc (own := [("demand", 4)]) (g := gName 4) (tt := tYes) rfl nd (pi_list (pv 2)) (blkOk_by (N := ["self", "names", "demands", "parts", "demand"]) (sc := defScope sInit) (by decide +kernel)) (fun _ _ _ _ _ => (pg_name (i := 4) nd rfl (Or.inl rfl))) (fun _ _ _ _ _ => pts_nil) (fun _ _ _ _ _ => (C8.pe_c c_parts_within hr (by decide) rfl (pa_cons (pv 4) (pa_cons (pv 1) pa_nil))))) pa_nil)))
      (pss_cons (ps_if (pt_cmpR (op_noneAny hr.units) pe_non (pv 3) rfl) (pss_one (ps_raise rfl (takes_of rfl rfl rfl rfl) (pmk_oex Y.T Y.iC Y.tI GJ (hr.mono (by decide)) bJ .nil pass0 rfl Y.mB (pa_cons pe_str pa_nil)))) pss_nil)
      pss_never)))), ?_⟩
  -- the error flies
  have fly : ∀ {H1 : Hp} {wd : Str}, (∀ H' d', Same H1 H' → H' d' = some (.xd [("word", .str wd)]) → E (.ref cB) (some d') H') → [V.str wd].length ≤ 1000 ∧ ∀ a, H1 a = none → spExI K (.ref a :: ([V.str wd] ++ [])) (upd H1 a (exo a cB none))
      (fun v H2 => v = .non ∧ ∃ (d : Addr) (fs : List (Str × V)), H2 a = some (exo a cB (some d)) ∧ H2 d = some (exd d fs) ∧ H1 d = none ∧ E (.ref cB) (some d) (upd (L2.del H2 a) d (.xd fs))) (fun _ _ _ => False) := fun {H1 wd} q => by
    refine ⟨by show 1 ≤ 1000; decide, fun a na => ⟨a, cB, .str wd, rfl, Y.T, Y.noF, upd_same, fun dx ndx ne => ⟨rfl, dx, [("word", .str wd)], upd_same, ?_, (upd_none ndx).2, ?_⟩⟩⟩
    · rw [upd_ne ne]; exact upd_same
    · exact q _ dx (keep_exc na (upd_none ndx).2) upd_same
  rcases h with ⟨bad, q⟩ | ⟨ns, ⟨a, rfl, hN, hn, hd, h0, h9⟩, bad, q⟩
  · rcases bad with bad | ⟨a, xs, g, rfl, hS, h50, items, how⟩
    · exact ⟨_, rfl, _, rfl, .inl ⟨bad, fun H1 s1 => ⟨_, rfl, iteT (iteT (fly fun H' d' s' e => q H' d' (s1.trans s') e))⟩⟩⟩
    · rcases how with rfl | e | ⟨ns, l, rfl, e, ndl, mem, ne⟩
      · refine ⟨_, rfl, _, rfl, .inr ⟨a, [], g, rfl, hS, h50, items, .inr ⟨[], [], rfl, rfl, List.nodup_nil, fun _ => Iff.rfl, fun H1 s1 => ⟨_, rfl, iteF ?_⟩⟩⟩⟩
        refine ⟨_, rfl, a, _, rfl, hS.same s1, rfl, _, rfl, ?_⟩
        exact iteT (fly fun H' d' s' e => q H' d' (s1.trans s') e)
      · exact ⟨_, rfl, _, rfl, .inr ⟨a, xs, g, rfl, hS, h50, items, .inl ⟨e, fun H1 s1 => ⟨_, rfl, iteT (iteT (fly fun H' d' s' e => q H' d' (s1.trans s') e))⟩⟩⟩⟩
      · refine ⟨_, rfl, _, rfl, .inr ⟨a, _, g, rfl, hS, h50, items, .inr ⟨ns, l, rfl, e, ndl, mem, fun H1 s1 => ⟨_, rfl, ?_⟩⟩⟩⟩
        rw [decide_eq_false ne]
        exact iteT (iteT (fly fun H' d' s' e => q H' d' (s1.trans s') e))
  · have itm : ∀ x ∈ ns.map tv, ItemG K H (fun _ => true) x := fun x m => by
      obtain ⟨z, mz, rfl⟩ := List.mem_map.mp m
      exact .inl ⟨z, rfl, Nat.le_trans (name_len (hn z mz)) (by decide), (hn z mz).symm⟩
    have all1 : (ns.map tv).all (fun _ => true) = true := by rw [List.all_eq_true]; exact fun _ _ => rfl
    refine ⟨_, rfl, _, rfl, .inr ⟨a, _, _, rfl, .inl hN, by rw [List.length_map]; omega, itm, .inr ⟨ns, ns, rfl, all1, hd, fun _ => Iff.rfl, fun H1 s1 => ⟨_, rfl, ?_⟩⟩⟩⟩
    rw [decide_eq_true rfl]
    refine iteF ⟨_, rfl, a, _, rfl, .inl (Same.seq s1 hN), rfl, _, rfl, ?_⟩
    have n0 : (((ns.map tv).length : Nat) : Int) ≠ 0 := by rw [List.length_map]; omega
    rw [int_eq, decide_eq_false n0]
    refine iteF ?_
    rcases bad with bad | ⟨d, xs, rfl, hZ, h50, items, x0, m0, b0⟩
    · exact ⟨_, rfl, _, rfl, .inr ⟨bad.same s1, fun H2 s2 => ⟨_, rfl, iteT (fly fun H' d' s' e => q H' d' ((s1.trans s2).trans s') e)⟩⟩⟩
    · refine ⟨_, rfl, _, rfl, .inl ⟨d, xs, rfl, .inl (Same.seq s1 hZ), fun H2 s2 => ⟨_, rfl, iteF ?_⟩⟩⟩
      have s12 := s1.trans s2
      refine ⟨_, rfl, d, rfl, ⟨_, Same.seq s12 hZ⟩, fun D nD => lc_list (K := K) (a := d) (xs := xs) (fun i H' => Same H2 H' ∧ ∃ zs : List V, H' D = some (.lst zs) ∧ zs.length = i ∧ (∀ z ∈ zs, z = .non ∨ ∃ a ys, z = .ref a ∧ H' a = some (.tup ys)) ∧ ∀ j x, j < i → xs[j]? = some x → NoDem K H ns x → V.non ∈ zs)
        ⟨same_new nD _, [], upd_same, rfl, (fun z m => by cases m), fun j x lt => absurd lt (Nat.not_lt_zero _)⟩ (fun i H' _ p => Same.seq (s12.trans p.1) hZ) ?c1 ?c2⟩
      case c1 =>
        rintro i y H' hi ⟨s3, zs, hD, lz, kz, bz⟩
        have lt := (List.getElem?_eq_some_iff.mp hi).1
        have sm := s12.trans s3
        have push : ∀ H3 z, Same H' H3 → (z = .non ∨ ∃ a ys, z = .ref a ∧ H3 a = some (.tup ys)) → (NoDem K H ns y → z = .non) → ∃ acc, H3 D = some (.lst acc) ∧ acc.length < sizeLine ∧ Same H2 (upd H3 D (.lst (acc ++ [z]))) ∧ ∃ zs : List V, upd H3 D (.lst (acc ++ [z])) D = some (.lst zs) ∧ zs.length = i + 1 ∧
            (∀ z' ∈ zs, z' = .non ∨ ∃ a ys, z' = .ref a ∧ upd H3 D (.lst (acc ++ [z])) a = some (.tup ys)) ∧ ∀ j x, j < i + 1 → xs[j]? = some x → NoDem K H ns x → V.non ∈ zs := fun H3 z s4 hz nz => by
          have hD3 := s4 _ _ hD
          have kp : ∀ {a ys o}, H3 a = some (.tup ys) → upd H3 D (.lst o) a = some (.tup ys) := fun {a ys o} e => by
            rw [upd_ne (fun z => by rw [z, hD3] at e; cases e)]; exact e
          refine ⟨zs, hD3, big (by omega), same_mut (s3.trans s4) nD, zs ++ [z], upd_same, by rw [List.length_append, lz]; rfl, fun z' m => ?_, fun j x lj hj b => ?_⟩
          · rcases List.mem_append.mp m with m | m
            · rcases kz z' m with e | ⟨a, ys, e1, e2⟩
              · exact .inl e
              · exact .inr ⟨a, ys, e1, kp (s4 _ _ e2)⟩
            · rw [List.mem_singleton.mp m]
              rcases hz with e | ⟨a, ys, e1, e2⟩
              · exact .inl e
              · exact .inr ⟨a, ys, e1, kp e2⟩
          · rcases Nat.lt_or_ge j i with l | l
            · exact List.mem_append_left _ (bz j x l hj b)
            · have : j = i := by omega
              subst this
              rw [hi] at hj
              cases hj
              rw [nz b]
              exact List.mem_append_right _ List.mem_cons_self
        by_cases bad : NoDem K H ns y
        · exact ⟨rfl, _, rfl, _, rfl, .inr ⟨y, a, ns, rfl, bad.same sm, .inl (Same.seq sm hN), fun H3 s4 => push H3 .non s4 (.inl rfl) fun _ => rfl⟩⟩
        · rcases items y (List.mem_of_getElem? hi) with b | ⟨z, p, rfl, e1, e2, e3, e4⟩
          · exact absurd b bad
          · refine ⟨rfl, _, rfl, _, rfl, .inl ⟨z, p, a, ns, rfl, e2, e1, e3, .inl (Same.seq sm hN), e4, fun H3 t s4 nt ht => ?_⟩⟩
            obtain ⟨p1, p2, ht1, _⟩ := ht
            exact push H3 _ s4 (.inr ⟨t, _, rfl, ht1⟩) fun b => absurd b bad
      case c2 =>
        rintro H3 ⟨s3, zs, hD, lz, kz, bz⟩
        obtain ⟨j, hj⟩ := List.getElem?_of_mem m0
        have nin := bz j x0 (List.getElem?_eq_some_iff.mp hj).1 hj b0
        refine ⟨D, _, rfl, .inl ⟨SqL.of hD, fun T nT => ?_⟩⟩
        have s4 := same_new nT (.tup zs)
        refine ⟨_, rfl, T, zs, rfl, rfl, SqT.of upd_same, fun z m => (kz z m).imp id fun ⟨a, ys, e1, e2⟩ => ⟨a, ys, e1, s4 _ _ e2⟩, _, rfl, ?_⟩
        rw [show zs.any isNon = true from List.any_eq_true.mpr ⟨_, nin, rfl⟩]
        exact iteT (fly fun H' d' s' e => q H' d' ((s12.trans (s3.trans s4)).trans s') e)
end
end Pg
/-! Tm -/
set_option Elab.async false
set_option linter.all false
set_option maxRecDepth 100000
set_option maxHeartbeats 4000000
/-! Several except clauses, some of them with a name; isinstance of a caught error that has a dict. -/
namespace L2
open PySem PySem.Spec PyProof.Rows
abbrev Suit := Addr → Value → Option Addr → TS
abbrev Clause := Value × Option Nat × Suit
def endsAs (i : Nat) (D : Ends) : Ends := { nx := fun σ' H' => D.nx (σ'.set i none) H', rt := D.rt, bk := fun σ' H' => D.bk (σ'.set i none) H', ct := fun σ' H' => D.ct (σ'.set i none) H' }
/-- what the clauses wish -/
def wCl (K : PySem.W.Frag) (Wout : WX) (D : Ends) : List Clause → WX
  | [] => Wout
  | (c, none, ts) :: r => fun cls d σ H => ∃ b, PySem.W.exmOne K cls c = some b ∧ (b = true → ∀ a, H a = none → ts a cls d D σ H) ∧ (b = false → wCl K Wout D r cls d σ H)
  | (c, some i, ts) :: r => fun cls d σ H => ∃ b, PySem.W.exmOne K cls c = some b ∧ (b = true → ∀ a, H a = none → ts a cls d (endsAs i D) (σ.set i (some (.ref a))) H) ∧ (b = false → wCl K Wout D r cls d σ H)
def SuitOk (X : Cx) (b : List Stmt) (ts : Suit) : Prop := ∀ (a : Addr) (oe : Obj) (cls : Value) (d : Option Addr) (pn : List (Addr × Obj)), Zc cls d oe → (∃ vs, oe.data = .fields vs) → PSs (X.suite a ((a, oe) :: pn)) b (ts a cls d)
inductive ClOk (X : Cx) : List ExceptHandler → List Clause → Prop
  | nil : ClOk X [] []
  | plain {x : Str} {c : Value} {ts : Suit} {b₀ : Stmt} {su : List Stmt} {np p' : Pos} {hds : List ExceptHandler} {l : List Clause} (hc : Names X x c) (hsu : SuitOk X (b₀ :: su) ts) (r : ClOk X hds l) :
      ClOk X (.ExceptHandler (some (.Name x np)) none (b₀ :: su) p' :: hds) ((c, none, ts) :: l)
  | named {x n : Str} {i : Nat} {c : Value} {ts : Suit} {b₀ : Stmt} {su : List Stmt} {np p' : Pos} {hds : List ExceptHandler} {l : List Clause} (hc : Names X x c) (hN : X.N.Nodup) (hi : X.N[i]? = some n) (hln : X.env.kindOf n = some .local)
      (hsu : SuitOk X (b₀ :: su) ts) (r : ClOk X hds l) : ClOk X (.ExceptHandler (some (.Name x np)) (some n) (b₀ :: su) p' :: hds) ((c, some i, ts) :: l)
section
variable {X : Cx} {body : List Stmt} {h₀ : ExceptHandler} {hds : List ExceptHandler} {l : List Clause} {pos : Pos} {tb : WX → TS} {Wout : WX}
theorem ps_try_cl (hs : X.stack = X.env :: X.outer) (hf : X.env.frame = some X.env.locals) (tk : Takes X Wout)
    (hb : ∀ (W : WX) (pn : List (Addr × Obj)) (xe : Value → Shared → Prop), Takes (X.tr pn xe) W → PassesOwn (model X.prog X.w) X.A X.env xe → PSs (X.tr pn xe) body (tb W))
    (hh : ClOk X (h₀ :: hds) l) : PS X (.Try body (h₀ :: hds) [] [] pos) (fun D σ H => tb (wCl X.K Wout D l) D σ H) := by
  refine ⟨fun pins s σ H D I h => ?_⟩
  have ok := I.ok
  have frs_ : X.A.frames = some (X.env :: X.outer) := by rw [ok.frames, hs]
  refine wpAny_Try_except ?_
  refine wpAny_mono ((hb (wCl X.K Wout D l) (X.pn ++ pins) (fun e t1 => wpAny (model X.prog X.w) X.A (noteFrame e X.env) (fun _ t2 => wpAny (model X.prog X.w) X.A (setFlight e none) (fun _ t3 =>
    wpAny (model X.prog X.w) X.A (handleBy e X.env (h₀ :: hds)) (SP X pins D) X.xe t3) X.xe t2) X.xe t1) (fun u s' xx => ?_) PassesOwn.looking).run [] s σ H D (I.toTry _) h) (fun f s1 hsp => ?_) (fun e s1 he => he)
  case refine_2 =>
    cases f with
    | next => exact let ⟨σ', H', J', q⟩ := hsp; wpAny_execs_nil ⟨σ', H', J'.ofTry ok, q⟩
    | brk => exact let ⟨σ', H', J', q⟩ := hsp; ⟨σ', H', J'.ofTry ok, q⟩
    | cont => exact let ⟨σ', H', J', q⟩ := hsp; ⟨σ', H', J'.ofTry ok, q⟩
    | ret u => exact let ⟨v, σ', H', J', r, q⟩ := hsp; ⟨v, σ', H', J'.ofTry ok, r, q⟩
  obtain ⟨a, B, sI, pins', σ', H', cls, d, rfl, J', nb, up, sky0, na, os, ag, w⟩ := xx
  have J : Inv X pins σ' H' sI := J'.ofTry ok
  have sky1 : Sky B (X.env :: X.outer) a (Zc cls d) X.env.locals s'.heap := by rw [← hs]; exact sky0
  show wpAny (model X.prog X.w) X.A (noteFrame (.ref a) X.env) _ _ _
  refine Sky.land Zc.steady frs_ hf sky1 fun hA flA upA => ?_
  have JA : Inv X pins σ' H' { s' with heap := hA } := J.landed nb flA.1 (up.trans upA) os ag
  obtain ⟨oA, vsA, heA, hzA, hdA⟩ := flA.there
  have nfr : a ∉ frs (X.env :: X.outer) := fun hm => by
    obtain ⟨_, o', e', hnf⟩ := flA.2.2.1.mem hm
    rw [heA] at e'; cases e'
    exact hnf _ hdA
  have nL : a ≠ X.env.locals := fun z => nfr (List.mem_filterMap.mpr ⟨X.env, List.mem_cons_self, by rw [hf, z]⟩)
  have nF : a ∉ X.fs := fun hm => let ⟨e, he, q⟩ := List.mem_filterMap.mp hm; nfr (List.mem_filterMap.mpr ⟨e, List.mem_cons_of_mem _ he, q⟩)
  have SA := JA.suite heA hdA na nL nF
  have LT : PySem.W.Looks (model X.prog X.w) hA (typeOf (.ref a)) cls := fun A Q E s k q => wpAny_typeOf_ref (k _ _ heA) (by rw [hzA.1]; exact q)
  have test : ∀ {x : Str} {c : Value} {np : Pos}, Names X x c → ∀ {Q : Value → Shared → Prop} {E : Value → Shared → Prop}, Q c { s' with heap := hA } → wpAny (model X.prog X.w) (X.A.mark (some (.ref a))) (eval (.Name x np) X.env) Q E { s' with heap := hA } := fun {x c np} hc {Q E} q => by
    obtain ⟨hg, hdbg, hm | ⟨hm, hv, hnn⟩⟩ := hc
    · exact ld_glob (X := X.suite a ((a, oA) :: (X.pn ++ pins))) SA hg hm q hdbg
    · exact ld_blt (X := X.suite a ((a, oA) :: (X.pn ++ pins))) SA hg hm hv q hnn hdbg
  have go : ∀ {hs' : List ExceptHandler} {l' : List Clause}, ClOk X hs' l' → wCl X.K Wout D l' cls d σ' H' → wpAny (model X.prog X.w) X.A (handleBy (.ref a) X.env hs') (SP X pins D) X.xe { s' with heap := hA } := by
    intro hs' l' hk
    induction hk with
    | nil =>
      intro w
      refine wpAny_handleBy_nil ?_
      obtain ⟨k1, k2, k3, oe, vs, T, oT, ts', he, hz, hd, h1, hr⟩ := id flA
      unfold PySem.passOn
      refine wpAny_bind (wpAny_field he hd h1 ?_)
      rw [if_neg (show ¬ ((Value.ref T == Value.none) = true) from by simp)]
      have fin : wpAny (model X.prog X.w) X.A (setFlight (.ref a) X.env.frame) (fun _ t4 => wpAny (model X.prog X.w) X.A (throw (.ref a) : Sem Flow) (SP X pins D) X.xe t4) X.xe { s' with heap := hA } := by
        rw [hf]
        refine HandSPX.setFlight_upZ flA fun h4 hh4 up4 => wpAny_throw (tk _ _ ⟨a, B, sI, pins, σ', H', cls, d, rfl, J, nb, (up.trans upA).trans up4, .inr (.inr (by rw [hs]; exact hh4)), na, os, ag, w⟩)
      first
        | exact wpAny_bind (wpAny_pure (wpAny_bind fin))
        | exact wpAny_bind fin
    | @plain x c ts b₀ su np p' hds2 l2 hc hsu r ih =>
      intro w
      obtain ⟨b, hb1, hyes, hno⟩ := w
      refine wpAny_handleBy_cons (codeAny_handlers_test ?_) (by intro q; cases q)
      have LM := PySem.W.exm_one (M := model X.prog X.w) JA.kIn LT hb1
      refine test hc (LM.here ?_)
      cases b with
      | false =>
        show wpAny _ X.A (handleBy (.ref a) X.env hds2) _ _ _
        exact ih (hno rfl)
      | true =>
        refine codeAny_handlers_suite ?_
        refine HandSPX.lands_againZ flA fun hB flB upB => ?_
        have JB : Inv X pins σ' H' { s' with heap := hB } := J.landed nb flB.1 ((up.trans upA).trans upB) os ag
        obtain ⟨oB, vsB, heB, hzB, hdB⟩ := flB.there
        refine wpAny_mono ((hsu a oB cls d (X.pn ++ pins) hzB ⟨_, hdB⟩).run [] _ _ H' _ (JB.suite heB hdB na nL nF) (hyes rfl a na)) (fun f s6 hsp => ?_) (fun _ _ z => False.elim z)
        cases f with
        | next => exact let ⟨σ6, H6, S6, q6⟩ := hsp; ⟨_, _, S6.unsuite ok, q6⟩
        | brk => exact let ⟨σ6, H6, S6, q6⟩ := hsp; ⟨_, _, S6.unsuite ok, q6⟩
        | cont => exact let ⟨σ6, H6, S6, q6⟩ := hsp; ⟨_, _, S6.unsuite ok, q6⟩
        | ret u => exact let ⟨v6, σ6, H6, S6, r6, q6⟩ := hsp; ⟨_, _, _, S6.unsuite ok, r6, q6⟩
    | @named x n i c ts b₀ su np p' hds2 l2 hc hN hi hln hsu r ih =>
      intro w
      obtain ⟨b, hb1, hyes, hno⟩ := w
      refine wpAny_handleBy_cons (codeAny_handlers_test ?_) (by intro q; cases q)
      have LM := PySem.W.exm_one (M := model X.prog X.w) JA.kIn LT hb1
      refine test hc (LM.here ?_)
      cases b with
      | false =>
        show wpAny _ X.A (handleBy (.ref a) X.env hds2) _ _ _
        exact ih (hno rfl)
      | true =>
        refine codeAny_handlers_suite_as ?_
        refine HandSPX.lands_againZ flA fun hB flB upB => ?_
        have JB : Inv X pins σ' H' { s' with heap := hB } := J.landed nb flB.1 ((up.trans upA).trans upB) os ag
        obtain ⟨oB, vsB, heB, hzB, hdB⟩ := flB.there
        refine store_ok (X := X.suite a ((a, oB) :: (X.pn ++ pins))) (v := .ref a) (JB.suite heB hdB na nL nF) hN hi (.inl hln) rfl (fun s5 S5 => ?_) (.inr hln)
        refine wpAny_mono ((hsu a oB cls d (X.pn ++ pins) hzB ⟨_, hdB⟩).run [] s5 _ H' _ S5 (hyes rfl a na)) (fun f s6 hsp => ?_) (fun _ _ z => False.elim z)
        have last : ∀ {σ6 : St} {H6 : Hp} {Q : Shared → Prop}, Inv (X.suite a ((a, oB) :: (X.pn ++ pins))) [] σ6 H6 s6 → (∀ s7, Inv X pins (σ6.set i none) H6 s7 → Q s7) →
            wpAny (model X.prog X.w) X.A (do bindName X.env n .none; unbindBehindTheSuite X.env n p') (fun _ s7 => Q s7) X.xe s6 := fun {σ6 H6 Q} S6 hq => gone_ok (S6.unsuite ok) hN hi hln hq
        cases f with
        | next => exact let ⟨σ6, H6, S6, q6⟩ := hsp; last S6 fun s7 J7 => ⟨_, _, J7, q6⟩
        | brk => exact let ⟨σ6, H6, S6, q6⟩ := hsp; last S6 fun s7 J7 => ⟨_, _, J7, q6⟩
        | cont => exact let ⟨σ6, H6, S6, q6⟩ := hsp; last S6 fun s7 J7 => ⟨_, _, J7, q6⟩
        | ret u => exact let ⟨v6, σ6, H6, S6, r6, q6⟩ := hsp; last S6 fun s7 J7 => ⟨_, _, _, J7, r6, q6⟩
  exact go hh w
end
/-! ### isinstance(e, c), e the caught error, with a dict of its own or without -/
theorem class_any {prog : Program} {w : World} {A : Around} {E : Value → Shared → Prop} {s : Shared} {K : PySem.W.Frag} {x D : Addr} {ox : Obj} {od : Option Obj} {Q : Option Value → Shared → Prop} (C : ExcC K D)
    (X : K.In s.heap) (I : PySem.W.InstAt s.heap x ox D od) (h : Q (some (.ref D)) { s with toks := s.toks + 1 }) : wpAny (model prog w) A (getAttr? (.ref x) "__class__") Q E s := by
  have hf : PySem.W.findObj K D od "__class__" = some (.bind (.builtin "getset_descriptor.__get__") (.builtin "object.__class__")) := by
    obtain ⟨cd, hc, _⟩ := PySem.W.any_some C.hd
    unfold PySem.W.findObj
    rw [hc, Option.bind_some, C.ha, Option.bind_some]
    simp [C.hn, C.ht]
  obtain ⟨hp, g, d, t, os⟩ := s
  have l0 := I.type (M := model prog w)
  have l1 := PySem.W.looks_findIn (M := model prog w) X C.hg
  have l2 := PySem.W.looks_findIn (M := model prog w) X C.hk
  have l3 := PySem.W.looks_find (M := model prog w) X I hf
  have sb : PySem.W.Looks (model prog w) hp (isInstance (.ref x) (.type "BaseException")) true := l0.andThen (PySem.W.looks_subIn X C.hs)
  have no2 : (Value.builtin "BaseException.__getattribute__" == Value.builtin "object.__getattribute__") = false := by decide +kernel
  have no1 : (onTheHeap (Value.ref D) && Value.builtin "BaseException.__getattribute__" == Value.builtin "object.__getattribute__") = false := by rw [no2]; rfl
  unfold getAttr? getAttrBy? getAttrBy
  refine wpAny_bind (wpAny_mkText (wpAny_bind (wpAny_attempt (wpAny_holding (wpAny_bind (l0.at (wpAny_bind (l1.at ?_))))))))
  show wpAny _ _ (if (onTheHeap (Value.ref D) && Value.builtin "BaseException.__getattribute__" == Value.builtin "object.__getattribute__") = true then _ else _) _ _ _
  rw [no1, if_neg Bool.false_ne_true]
  unfold getAttrByItsOwn hookBefore
  refine wpAny_bind ?_
  rw [if_pos (show onTheHeap (Value.ref D) = true from rfl)]
  refine l2.at ?_
  refine wpAny_bind (wpAny_attempt (wpAny_holding ?_))
  unfold callGetattribute
  rw [show (false && onTheHeap (Value.builtin "BaseException.__getattribute__")) = false from rfl, if_neg Bool.false_ne_true]
  unfold boundAndCalled
  rw [PySem.F.excAttr_ValueError.ga.bind (.ref x)]
  refine wpAny_bind (wpAny_pure ?_)
  show wpAny _ _ (call (.builtin "BaseException.__getattribute__") [.ref x, .str "__class__" t]) _ _ _
  refine wpAny_call (codeAny_call_builtin PySem.F.excAttr_ValueError.ga.plain PySem.F.entry_bexc_ga ?_)
  refine @PySem.W.check_slot (model prog w) _ _ ⟨hp, g, d, t + 1, os⟩ "BaseException.__getattribute__" "BaseException" "__getattribute__" (.ref x) [.str "__class__" t] [] _ (by decide +kernel) (by decide +kernel) sb (PySem.F.args_bexc_ga (.ref x) (.str "__class__" t)) ?_
  unfold Builtin.«object.__getattribute__»
  refine wpAny_bind (wpAny_of_eq (a := ((Value.ref x : Value), [Value.str "__class__" t])) (by first | rfl | (simp only [slotArgs]; rfl)) ?_)
  refine wpAny_bind (wpAny_pure (wpAny_bind (l0.at (wpAny_bind (l3.at ?_)))))
  show wpAny _ _ (holding [Value.builtin "object.__class__"] (call (.builtin "getset_descriptor.__get__") [.builtin "object.__class__", .ref x, .ref D]) >>= ret) _ _ _
  refine wpAny_bind (wpAny_holding (wpAny_call (PySem.W.class_get (s := ⟨hp, g, d, t + 1, os⟩) (ox := ox) (od := od) X I C.hm ?_)))
  refine wpAny_pure ?_
  show wpAny _ _ (handedOut (.ref D)) _ _ _
  rw [PySem.W.handedOut_of (v := .ref D) rfl]
  first
    | exact wpAny_pure (wpAny_pure h)
    | exact wpAny_pure h
    | exact wpAny_pure (wpAny_bind (wpAny_pure (wpAny_pure h)))
theorem kit_any {K : PySem.W.Frag} {x D : Addr} {ox : Obj} {od : Option Obj} (C : ExcC K D) : PySem.W.KitX K (.ref x) (.ref D) (fun h => PySem.W.InstAt h x ox D od) where
  ty := fun _ _ _ I => I.type
  it := fun _ _ X _ => by
    obtain ⟨cdD, hcD, _⟩ := PySem.W.any_some C.hd
    unfold PySem.W.clsIn at hcD
    split at hcD
    · rename_i c' d' cd' sl' ho
      intro A' Q' E' s' k q
      unfold isType loadHead
      exact wpAny_bind (wpAny_loadPart (k _ _ (X _ _ ho)) (wpAny_pure q))
    · cases hcD
  ne := fun h tp dd its n sl X htp => Bool.eq_false_iff.mpr fun q => by
    obtain ⟨cdD, hcD, _⟩ := PySem.W.any_some C.hd
    have e : D = tp := Value.ref.inj (beq_iff_eq.mp q)
    subst e
    unfold PySem.W.clsIn at hcD
    split at hcD
    · rename_i c' d' cd' sl' ho
      have z := (X _ _ ho).symm.trans htp
      cases z
    · cases hcD
  ca := fun X I k => class_any C X I k
def rIsX (K : PySem.W.Frag) (D a : Addr) (cls : Value) (d : Option Addr) : List V → Hp → VK → Prop := fun xs H Q => cls = .ref D ∧ ∃ (c : V) (cv : Value) (b : Bool), xs = [.ref a, c] ∧ (d = none ∨ ∃ dd fs, d = some dd ∧ H dd = some (.xd fs)) ∧ (∀ u, RelV c u → u = cv) ∧ PySem.W.kitOne K (.ref D) cv = some b ∧ Q (.bl b) H
theorem call_isX {X : Cx} {a D : Addr} {cls : Value} {d : Option Addr} {oe : Obj} {pn : List (Addr × Obj)} (C : ExcC X.K D) (hz : Zc cls d oe) (hf : ∃ vs, oe.data = .fields vs) : CallR (X.suite a ((a, oe) :: pn)) (.builtin "isinstance") (rIsX X.K D a cls d) := by
  intro pins s σ H xs us Q I r h
  obtain ⟨rfl, c, cv, b, rfl, hdx, hcv, e, q⟩ := h
  cases r with
  | cons rx rr =>
    cases rr with
    | cons rt rr =>
      cases rr
      cases rx
      have ec := hcv _ rt
      subst ec
      obtain ⟨hget, _⟩ := I.pin (a, oe) (List.mem_append.mpr (.inl List.mem_cons_self))
      obtain ⟨vs, hv⟩ := hf
      obtain ⟨od, J⟩ : ∃ od, PySem.W.InstAt s.heap a oe D od := by
        rcases hdx with rfl | ⟨dd, fs, rfl, hx⟩
        · obtain ⟨oc, od, oda, osl⟩ := oe
          obtain ⟨h1, h2⟩ := hz
          dsimp only at h1 h2 hv
          subst h1 h2 hv
          exact ⟨none, hget, rfl, rfl, trivial⟩
        · have hx' : ObjOk X.prog X.w H s.heap dd (.xd fs) := I.hok dd _ hx
          obtain ⟨mA, hns, _⟩ := hx'
          obtain ⟨od, ho, _⟩ := lookIn_ns hns
          exact ⟨some od, hget, hz.1, by unfold PySem.W.notCls; rw [hv] <;> rfl, by rw [hz.2]; exact ho⟩
      exact PySem.W.kia_one (kit_any C) I.kIn J e (fun z => nomatch z) fun tk => ⟨.bl b, H, I.kept (t' := tk) fun _ _ z => z, rfl, q⟩
end L2
/-! Nn -/
set_option Elab.async false
set_option linter.all false
set_option maxRecDepth 100000
set_option maxHeartbeats 4000000
/-! An own exception class over KeyError (which is made by LookupError's maker), with an __init__ that stores. -/
namespace PySem
namespace Nnx
open PySem.W PySem.Calls PyProof.Rows PySem.HandSPX Builtin Builtin.ObjectAttr
abbrev keT : List Value := [.type "KeyError", .type "LookupError", .type "Exception", .type "BaseException", .type "object"]
theorem ke_pass (self : Value) : refuseLoop self "__setattr__" keT = pure () := by kernel_rfl
theorem ke_has (C : Addr) : (Value.ref C :: keT).contains (.type "LookupError") = true ∧ (Value.ref C :: keT).contains (.type "AttributeError") = false ∧ (Value.ref C :: keT).contains (.type "NameError") = false ∧ (Value.ref C :: keT).contains (.type "object") = true := by
  have e : ∀ T : String, (Value.ref C :: keT).contains (.type T) = keT.contains (.type T) := fun T => by rw [List.contains_cons]; rfl
  rw [e, e, e, e]
  decide +kernel
abbrev keO (nm q : Str) (C N : Addr) (bs : List Value) (sn : List Str) (sub : List Value) (ab : Bool) (col : Option Bool) (dd : Option Addr) (k0 k1 k2 k3 k5 : Option Value) : Obj :=
  excClassObj nm q C N bs keT true sn sub ab col dd k0 k1 k2 k3 k5 "LookupError.__new__"
section
variable {M : Model} {A : Around} {E : Value → Shared → Prop} {hp : Heap} {g : Array GenState} {d : Drawn} {t : Nat} {os : OsState}
variable {nm q : Str} {C N : Addr} {bs : List Value} {sn : List Str} {sub : List Value} {ab : Bool} {col : Option Bool} {dd : Option Addr} {k0 k1 k2 k3 k5 : Option Value}
theorem ke_check {us : List Value} {Q : Unit → Shared → Prop} (lk : hp.get? C = some (keO nm q C N bs sn sub ab col dd k0 k1 k2 k3 k5)) (z : Q () ⟨hp, g, d, t, os⟩) :
    wpAny M A (checkBuiltinCall "LookupError.__new__" ⟨.ref C :: us, []⟩) Q E ⟨hp, g, d, t, os⟩ := by
  have FL := F.excBase_LookupError
  have c1 := (ke_has C).1
  have st := FL.noStar
  simp only [checkBuiltinCall, FL.newKind, FL.newSplit, FL.newRow]
  repeat (first | (refine wpAny_isSubtype_exc lk ?_; rw [c1]) | refine wpAny_loadPart_at lk ?_ | refine wpAny_staticBase_exc lk ?_ | refine wpAny_madeBy_exc lk ?_ | simp only [bne_self_eq_false, Bool.false_eq_true, if_false] | wp_step)
  exact z
end
section
variable {prog : Program} {w : World} {A : Around} {E : Value → Shared → Prop} {R : Result → Shared → Prop} {hp : Heap} {g : Array GenState} {d : Drawn} {t : Nat} {os : OsState}
variable {nm q : Str} {C N : Addr} {bs : List Value} {sn : List Str} {sub : List Value} {ab : Bool} {col : Option Bool} {dd : Option Addr} {k0 k1 k2 k3 k5 : Option Value}
theorem ke_new {us : List Value} (lk : hp.get? C = some (keO nm q C N bs sn sub ab col dd k0 k1 k2 k3 k5)) (few : us.length ≤ sizeLine)
    (z : R (.ok (.ret (.ref (hp.objs.size + 1)))) ⟨(hp.push (PySem.W.kdv_tup us)).push (excO C hp.objs.size), g, d, t, os⟩) :
    codeAny (model prog w) A (.builtin "LookupError.__new__" ⟨.ref C :: us, []⟩) R ⟨hp, g, d, t, os⟩ := by
  have FL := F.excBase_LookupError
  have en := FL.ends
  obtain ⟨c1, c2, c3, _⟩ := ke_has C
  refine codeAny_builtinAt FL.entry ?_
  unfold Builtin.«BaseException.__new__»
  refine wpAt_bind ?_
  show wpAt _ _ _ (stack >>= _) _ _ _
  refine wpAt_bind (wpAt_stack fun p below => wpAt_of_wpAny ?_)
  wp_walk
  refine wpAt_of_wpAny ?_
  rw [FL.owner]
  repeat (first | with_reducible refine wpAny_madeHere_exc FL.canon lk ?_ | with_reducible refine wpAny_loadPart_at lk ?_ | (with_reducible refine wpAny_isSubtype_exc lk ?_; first | rw [c1] | rw [c2] | rw [c3]) | wp_step)
  show R _ _
  rw [Heap.size_push]
  exact z
theorem ke_type {us : List Value} {fI : Addr} {Q : Fin → Shared → Prop} (lk : hp.get? C = some (keO nm q C N bs sn sub ab col dd k0 k1 k2 k3 k5)) (few : us.length ≤ sizeLine)
    (li : W.Looks (model prog w) hp (typeLookup (.ref C) "__init__") (some (.ref fI))) (lb : ∀ self, W.Looks (model prog w) hp (bindSpecial (.ref fI) self) (.ref fI, [self]))
    (z : codeAny (model prog w) A (.call (.ref fI) ⟨.ref (hp.objs.size + 1) :: us, []⟩)
      (fun r s' => match r with | .ok (.ret v) => v = .none ∧ Q (.done (.ret (.ref (hp.objs.size + 1)))) s' | .ok _ => False | .error e => E e s')
      ⟨(hp.push (PySem.W.kdv_tup us)).push (excO C hp.objs.size), g, d, t, os⟩) :
    wpAny (model prog w) A (Builtin.«type.__call__» ⟨.ref C :: us, []⟩) Q E ⟨hp, g, d, t, os⟩ := by
  repeat (first | with_reducible refine wpAny_loadPart_at lk ?_ | with_reducible refine wpAny_madeBy_exc lk ?_ | wp_step)
  refine codeAny_call_builtin_code (Code.quiet_builtin _ F.excBase_LookupError.quiet) (ke_check lk ?_)
  refine ke_new lk few ?_
  show wpAny _ _ _ _ _ _
  have kp : ∀ b o, hp.get? b = some o → ((hp.push (PySem.W.kdv_tup us)).push (excO C hp.objs.size)).get? b = some o := fun b o e => Heap.get?_push_of_some _ (Heap.get?_push_of_some _ e)
  have lk1 := kp _ _ lk
  have ge : ((hp.push (PySem.W.kdv_tup us)).push (excO C hp.objs.size)).get? (hp.objs.size + 1) = some (excO C hp.objs.size) := by heap_get
  have cc : (Value.ref C :: keT).contains (.ref C) = true := by simp
  have i1 := li.keeps kp
  have b1 := (lb (.ref (hp.objs.size + 1))).keeps kp
  unfold isInstance
  repeat (first | with_reducible refine wpAny_loadPart_at ge ?_ | (with_reducible refine wpAny_isSubtype_exc lk1 ?_; rw [cc]) | wp_step)
  show wpAny _ _ (typeLookup (.ref C) _) _ _ _
  refine i1.at ?_
  refine wpAny_holding (wpAny_bind (b1.at ?_))
  refine wpAny_bind (wpAny_call (codeAny_mono z fun r s' y => ?_))
  rcases r with e | (v | _ | _ | _) <;> first | exact y | exact y.elim | skip
  obtain ⟨rfl, y⟩ := y
  first
    | exact wpAny_pure (wpAny_pure y)
    | (wp_walk; exact y)
theorem ke_call {us : List Value} {fI : Addr} (lk : hp.get? C = some (keO nm q C N bs sn sub ab col dd k0 k1 k2 k3 k5)) (few : us.length ≤ sizeLine)
    (li : W.Looks (model prog w) hp (typeLookup (.ref C) "__init__") (some (.ref fI))) (lb : ∀ self, W.Looks (model prog w) hp (bindSpecial (.ref fI) self) (.ref fI, [self]))
    (z : codeAny (model prog w) (A.under (.builtin "type.__call__" ⟨.ref C :: us, []⟩)) (.call (.ref fI) ⟨.ref (hp.objs.size + 1) :: us, []⟩) (W.InitBack (hp.objs.size + 1) R)
      ⟨(hp.push (PySem.W.kdv_tup us)).push (excO C hp.objs.size), g, d, t, os⟩) : codeAny (model prog w) A (.call (.ref C) ⟨us, []⟩) R ⟨hp, g, d, t, os⟩ := by
  have f1 := tc_lookup
  have f2 := tc_bind (.ref C)
  have ty : (⟨hp, g, d, t, os⟩ : Shared).TypeIs (.ref C) "type" := ⟨_, lk, rfl⟩
  refine codeAny_of_tree ?_
  show wpAny _ _ (callAny (.ref C) _) _ _ _
  repeat (any_goals (first | assumption | with_reducible refine wpAny_loadPart_at lk ?_ | wp_step))
  refine ⟨rfl, ?_⟩
  refine codeAny_call_builtin_at (Code.quiet_builtin _ (by decide +kernel)) entry_typeCall (wpAny_check_type_call_sub lk (ke_type lk few li lb ?_))
  refine codeAny_mono z fun r s' y => ?_
  rcases r with e | (v | _ | _ | _) <;> exact y
/-- self.name = v, on such an exception without a dict -/
theorem ke_store {K : W.Frag} {name : Str} {tk : Tok} {v : Value} {x : Addr} {fv : Array Value} {cd : ClassData} (X : K.In hp) (hx : hp.get? x = some { cls := .ref C, data := .fields fv }) (hcd : W.clsIn K C = some cd) (hm : cd.mro = .ref C :: keT) (hh : cd.hasDict = true)
    (ha : W.findIn K (.ref C) name = some none)
    (z : ∀ h' tk' dx, (∀ b o, b ≠ x → hp.get? b = some o → h'.get? b = some o) → hp.objs.size ≤ dx → dx ≠ x → h'.get? x = some { cls := .ref C, dict := some dx, data := .fields fv } →
      h'.Ns1 dx (fun y => if y = name then some v else none) → R (.ok (.ret .none)) ⟨h', g, d, tk', os⟩) :
    codeAny (model prog w) A (.call (.builtin "object.__setattr__") ⟨[.ref x, .str name tk, v], []⟩) R ⟨hp, g, d, t, os⟩ := by
  have I : W.InstAt hp x { cls := .ref C, data := .fields fv } C none := ⟨hx, rfl, rfl, trivial⟩
  have so := F.store_object
  have ob : cd.mro.contains (.type "object") = true := by rw [hm]; exact (ke_has C).2.2.2
  have ne : cd.mro.isEmpty = false := by rw [hm]; rfl
  have nx : x ≠ hp.objs.size := Nat.ne_of_lt (Heap.lt_size hx)
  have sb : W.Looks (model prog w) hp (isInstance (.ref x) (.type "object")) true := I.type.andThen (W.looks_mroIn X (by unfold W.mroIn; rw [hcd, Option.bind_some, if_neg (by rw [ne]; decide), ob]))
  refine codeAny_call_builtin so.slot.plain so.entry (@W.check_slot (model prog w) _ _ ⟨hp, g, d, t, os⟩ "object.__setattr__" "object" "__setattr__" (.ref x) [.str name tk, v] [] _ so.kind so.split sb (so.args (.ref x) (.str name tk) v) ?_)
  have lm : W.Looks (model prog w) hp (mroOf (.ref C)) cd.mro := (W.looks_clsIn X hcd).andThen .now
  have ls : W.Looks (model prog w) hp (storeTaker? none) none := .now
  have lc : W.Looks (model prog w) hp (classData C) cd := W.looks_clsIn X hcd
  rw [W.osa_eq, refuse_eq]
  refine wpAny_bind (wpAny_bind (I.type.at (wpAny_bind (lm.at ?_))))
  rw [hm, refuseLoop_ref, ke_pass]
  refine wpAny_pure (wpAny_bind (I.type.at (wpAny_bind ((W.looks_findIn X ha).at (wpAny_bind (ls.at ?_))))))
  show wpAny _ _ (storeInOwnDict (.ref x) (.ref C) (.str name tk) name v false) _ _ _
  obtain ⟨cn, cb, cm, cns, cq, ch, csn, csb, cab, ccol, cdel⟩ := cd
  dsimp only at hh
  subst hh
  unfold storeInOwnDict ownDictForStores
  repeat (first | with_reducible refine store_in_new ?_ ?_ | with_reducible refine wpAny_loadPart_at hx ?_ | with_reducible refine lc.at ?_ | wp_step)
  · exact ⟨_, #[], _, (Heap.get?_update_ne _ _ _ _ nx.symm).trans (Heap.get?_push_at rfl rfl), rfl, fun e he => absurd he (by simp), fun _ => rfl⟩
  · intro h' tk' hn' sd
    have hx1 : (hp.push { cls := .type "dict", data := .dict #[] }).get? x = some { cls := .ref C, data := .fields fv } := Heap.get?_push_of_some _ hx
    refine z h' tk' hp.objs.size (fun b o hb ho => ?_) (Nat.le_refl _) nx.symm ?_ hn'
    · exact (sd.2 b (Nat.ne_of_lt (Heap.lt_size ho))).trans ((Heap.get?_update_ne _ _ _ _ hb).trans (Heap.get?_push_of_some _ ho))
    · exact (sd.2 x nx).trans (Heap.get?_update_self _ hx1 rfl)
end
end Nnx
end PySem
namespace L2
open PySem PySem.Spec PyProof.Rows PySem.Nnx
/-- what the written part says of a class over KeyError -/
structure KeC (K : PySem.W.Frag) (C : Addr) : Prop where
  cls : ∃ nm q N bs sn sub ab col dd k0 k1 k2 k3 k5, K.lookup C = some (keO nm q C N bs sn sub ab col dd k0 k1 k2 k3 k5)
  sa : PySem.W.findIn K (.ref C) "__setattr__" = some (some (.builtin "object.__setattr__"))
  exC : PySem.W.subIn K (.ref C) (.type "BaseException") = some true
  tyC : PySem.W.typeIn K (.ref C) = some (.type "type")
  kC : PySem.W.keepIn K (.ref C) = true
section
variable {X : Cx} {pins : List (Addr × Obj)} {σ : St} {H : Hp} {s : Shared} {a C dx : Addr} {f : Str} {y : V} {u : Value} {fs : List (Str × V)} {Q : Unit → Shared → Prop} {E : Value → Shared → Prop} {A : Around}
theorem kst_new (T : KeC X.K C) (I : Inv X pins σ H s) (e : H a = some (exo a C none)) (hno : PySem.W.findIn X.K (.ref C) f = some none) (ry : RelV y u)
    (h : ∀ dx s', H dx = none → dx ≠ a → Inv X pins σ (upd (upd H dx (exd dx [(f, y)])) a (exo a C (some dx))) s' → Q () s') : wpAny (model X.prog X.w) A (setAttr (.ref a) f u) Q E s := by
  obtain ⟨nm, q, N, bs, sn, sub, ab, col, dd, k0, k1, k2, k3, k5, lC⟩ := T.cls
  have hcl : PySem.W.clsIn X.K C = some { name := nm, bases := bs, mro := .ref C :: keT, ns := N, qualname := q, hasDict := true, slotNames := sn, subclasses := sub, abstract := ab, collection := col, hasDel := false } := by unfold PySem.W.clsIn; rw [lC] <;> rfl
  obtain ⟨t1, ho⟩ := exo_at I.hok e
  obtain ⟨hp, g, d, t, os⟩ := s
  refine PySem.W.set_plain I.kIn (ox := PySem.HandSPX.excO C t1) (od := none) ⟨ho, rfl, rfl, trivial⟩ T.sa ?_
  refine ke_store I.kIn ho hcl rfl rfl hno (fun h' tk' dx k dn ndx hx hn => ?_)
  have fresh : H dx = none := I.hok.fresh dn
  have ne1 : ∀ {b : Addr} {o : Obj}, hp.get? b = some o → b ≠ dx := fun {b o} p => Nat.ne_of_lt (Nat.lt_of_lt_of_le (Heap.lt_size p) dn)
  have ne2 : ∀ {b : Addr}, H b = none → b ≠ a := fun {b} p z => by
    rw [z, e] at p
    cases p
  have un1 : Un X.fs [] H (upd (upd H dx (exd dx [(f, y)])) a (exo a C (some dx))) hp h' := {
    keep := fun b o p n _ _ => k b o (ne2 n) p
    slot := fun b o p n _ _ => ⟨o.slots, k b o (ne2 n) p⟩
    free := fun b o p n _ => by rw [upd_ne (ne2 n), upd_ne (ne1 p)]; exact n
    there := fun b o p _ => by
      by_cases hb : b = a
      · exact ⟨_, hb ▸ hx⟩
      · exact ⟨o, k b o hb p⟩
    tups := fun b xs p => by rw [upd_ne (at_ne e p exo_tup), upd_ne (ne_of_none p fresh)]; exact p
    frzs := fun b o v p => by rw [upd_ne (at_ne e p exo_frz), upd_ne (ne_of_none p fresh)]; exact p
    tbls := fun b ps p => ⟨#[], by rw [upd_ne (at_ne e p exo_tbl), upd_ne (ne_of_none p fresh), p]; simp⟩ }
  refine h dx _ fresh ndx (I.un (t' := tk') un1 fun b o p => ?_)
  by_cases hb : b = a
  · subst hb
    rw [upd_same] at p
    cases p
    exact exo_ok hx
  rw [upd_ne hb] at p
  by_cases hd : b = dx
  · subst hd
    rw [upd_same] at p
    cases p
    exact exd_ok hn (relO_put (fs := []) ry fun _ => True.intro)
  rw [upd_ne hd] at p
  exact (I.hok b o p).stay (fun c v hc z => k c v (hc.elim (fun hc => by rw [hc]; exact hb) fun hc => at_ne e hc exo_own) z)
    (fun c hc => by rw [upd_ne (at_ne e hc exo_own), upd_ne (ne_of_none hc fresh)]; exact hc) (fun c xs hc => by rw [upd_ne (at_ne e hc exo_tup), upd_ne (ne_of_none hc fresh)]; exact hc)
end
def tKst (K : PySem.W.Frag) (f : Str) (to te : TE) : TS := fun D σ H => te σ H fun y H1 => to σ H1 fun x H2 => ∃ a C : Addr, x = .ref a ∧ KeC K C ∧ PySem.W.findIn K (.ref C) f = some none ∧ H2 a = some (exo a C none) ∧
  ∀ dx, H2 dx = none → dx ≠ a → D.nx σ (upd (upd H2 dx (exd dx [(f, y)])) a (exo a C (some dx)))
section
variable {X : Cx} {o e : Expr} {es : List Expr} {to te : TE} {ta : TA} {f : Str} {p p' pos : Pos}
theorem ps_kst (ho : PE X o to) (he : PE X e te) (hs : swapsWith e (some (.Attribute o f p')) pos.line X.env = pure false := by rfl) : PS X (.Assign [.Attribute o f p'] e pos) (tKst X.K f to te) := by
  refine ⟨fun pins s σ H D I h => ?_⟩
  refine plainObj_wpAny_Assign_Attribute (thn (he.run pins s σ H _ I h) fun v s1 ⟨y, H1, I1, r1, q1⟩ => thn (ho.run pins s1 σ H1 _ I1 q1) fun u s2 ⟨x, H2, I2, r2, a, C, ex, T, hno, ea, q⟩ => ?_) hs
  subst ex
  obtain rfl : u = Value.ref a := r2
  exact kst_new T I2 ea hno r1 fun dx s' n ne J => ⟨σ, _, J, q dx n ne⟩
theorem pmk_key {CX : CXT} {x : Str} {C fI : Addr} {k : Nat} {fd : FuncData} {ps : List Str} {sp : Sp} (T : KeC X.K C) (iC : PySem.W.findIn X.K (.ref C) "__init__" = some (some (.ref fI))) (tI : PySem.W.typeIn X.K (.ref fI) = some (.type "function"))
    (F1 : FnOk X.prog X.w X.K X.mg X.base CX k fI fd ps sp) (hr : Room (k + 1) X.A) (hb : Binds X.K fd ps []) (hx : Passes CX X (fun _ _ _ => False)) (hg : Gl X x) (hm : X.mg x = some (.ref C)) (ha : PA X (e :: es) ta)
    (hdb : (x == ("__debug__" : Str)) = false := by decide) (he : starEach (e :: es) X.env = (false, eval e X.env) :: starEach es X.env := by rfl) (hpl : (backTo pos (starEach es X.env)).any (·.1) = false := by rfl) :
    PMk X (.Call (.Name x p) (e :: es) [] pos) (tMkO C sp [] ta) := by
  intro pins s σ H Q I h
  obtain ⟨nm, q, N, bs, sn, sub, ab, col, dd, k0, k1, k2, k3, k5, lC⟩ := T.cls
  refine wpAny_Call_Name_kw (ld_glob I hg hm ?_ hdb)
  refine PySem.W.callWith_K (h₀ := X.base) I.ok.mod.kin T.kC (thn (ha.run pos pins s σ H _ I h) fun us s1 ⟨vs, H1, I1, r1, few, q1⟩ => ⟨I1.kIn, ?_⟩) he hpl
  show wpAny _ _ (call (.ref C) us) _ _ _
  obtain ⟨hp, g, dr, tk, os⟩ := s1
  have up1 : hp.objs.size ≤ hp.objs.size + 1 := Nat.le_succ _
  have hq := q1 (hp.objs.size + 1) (I1.hok.fresh up1)
  have kp : ∀ b o, hp.get? b = some o → ((hp.push (PySem.W.kdv_tup us)).push (PySem.HandSPX.excO C hp.objs.size)).get? b = some o := fun b o e => Heap.get?_push_of_some _ (Heap.get?_push_of_some _ e)
  have ge : ((hp.push (PySem.W.kdv_tup us)).push (PySem.HandSPX.excO C hp.objs.size)).get? (hp.objs.size + 1) = some (PySem.HandSPX.excO C hp.objs.size) := by heap_get
  have I2 := I1.laid (t' := tk) (a := hp.objs.size + 1) (o := exo (hp.objs.size + 1) C none) (h' := (hp.push (PySem.W.kdv_tup us)).push (PySem.HandSPX.excO C hp.objs.size)) kp up1 (exo_ok ge)
  have r2 : Vals (V.ref (hp.objs.size + 1) :: vs) (Value.ref (hp.objs.size + 1) :: us) := .cons rfl r1
  rw [List.append_nil] at hq
  have ln : (Value.ref (hp.objs.size + 1) :: us).length = ps.length := by
    have z := r2.length
    rw [F1.len _ _ _ _ hq] at z
    exact z.symm
  have fw : us.length ≤ sizeLine := by
    have z := Paired.length r1
    rw [sizeLine_eq]
    omega
  have bi := hb ⟨(hp.push (PySem.W.kdv_tup us)).push (PySem.HandSPX.excO C hp.objs.size), g, dr, tk, os⟩ (Value.ref (hp.objs.size + 1) :: us) I2.kIn (by rw [List.append_nil]; exact ln)
  rw [List.append_nil] at bi
  refine wpAny_call (ke_call (I1.kIn _ _ lC) fw (PySem.W.looks_findIn I1.kIn iC) (fun self => PySem.W.bind_fn I1.kIn self tI)
    (codeAny_mono (F1.run _ X.stack _ _ ⟨Value.ref (hp.objs.size + 1) :: us, []⟩ (Value.ref (hp.objs.size + 1) :: us) _ _ (fun _ _ _ => False) (hr.make C us []) (I2.env0.make C us []) bi r2 hq) fun r s' hq' => ?_))
  cases r with
  | error er => exact hx pins σ _ _ er s' I2 hq'
  | ok fl =>
    cases fl with
    | next => exact False.elim hq'
    | brk => exact False.elim hq'
    | cont => exact False.elim hq'
    | ret u =>
      obtain ⟨v, H2, os2, bare2, un2, hok2, rv, ev, d, fs, ea, ed, hd1, q2⟩ := hq'
      subst ev
      obtain ⟨h2, g2, d2, t2, os'⟩ := s'
      exact ⟨rv, mk_end (raises_own T.exC T.tyC) I1 up1 kp un2 hok2 os2 bare2 ea ed hd1 q2⟩
/-- C(), C an own exception class without own __init__ -/
theorem pmk_own0 {C : Addr} {bmB : List Value} {B newId initId : String} {x : Str} (F : ExcBaseFacts B newId initId bmB) (q : PySem.W.excIn X.K C bmB newId = true) (gC : X.mg x = some (.ref C)) (kC : PySem.W.keepIn X.K (.ref C) = true) (r : Raises X (.ref C)) (hg : Gl X x)
    (hdb : (x == ("__debug__" : Str)) = false := by decide) : PMk X (.Call (.Name x p) [] [] pos) (fun _ H Q => Q (.ref C) none H) := by
  intro pins s σ H Q I h
  refine wpAny_Call_Name_kw (ld_glob I hg gC ?_ hdb)
  refine PySem.W.callWith_K0 I.kIn kC ?_
  obtain ⟨bm, N, nm, qn, bs, hdct, sn, sub, ab, col, dd, k0, k1, k2, k3, k5, mN, hC, hN, hni, T⟩ := exc_obj I.kIn q
  refine wpAny_call_exc_subT F T hC hN hni (fun h' e hm => mk_of I hm r h (I.hok.gone hm.new)) (Nat.zero_le _)
end
end L2
/-! Bd13 -/
set_option Elab.async false
set_option linter.all false
set_option maxRecDepth 100000
set_option maxHeartbeats 4000000
/-! long texts that are no levels -/
namespace Mr
open PySem
theorem toks_map {t r : Cs} (h : tokAt (t ++ r) = t) (h0 : t ≠ []) : toks (t ++ r) = (toks r).map (t :: ·) := by
  have l0 : 0 < t.length := List.length_pos_iff.mpr h0
  have ht : t.isEmpty = false := by cases t with | nil => exact absurd rfl h0 | cons => rfl
  have he : (t ++ r).isEmpty = false := by cases t with | nil => exact absurd rfl h0 | cons => rfl
  have e : (t ++ r).length = ((t ++ r).length - 1) + 1 := by rw [List.length_append]; omega
  unfold toks
  rw [e]
  show (if (t ++ r).isEmpty then some [] else if (tokAt (t ++ r)).isEmpty then none else (toksF ((t ++ r).length - 1) ((t ++ r).drop (tokAt (t ++ r)).length)).map (tokAt (t ++ r) :: ·)) = _
  rw [he, h, ht]
  simp only [Bool.false_eq_true, if_false]
  rw [List.drop_left, toksF_fuel _ r.length r (by rw [List.length_append]; omega) (Nat.le_refl _)]
theorem toks_stuck {z : Cs} (h : tokAt z = []) (h0 : z ≠ []) : toks z = none := by
  cases z with
  | nil => exact absurd rfl h0
  | cons a r =>
    unfold toks
    show (if (a :: r).isEmpty then some [] else if (tokAt (a :: r)).isEmpty then none else _) = none
    rw [h]
    rfl
/-- from p on, the text leads to no level -/
def Bad (p : PSt) (z : Cs) : Prop := ((toks z).bind (parse p)).bind ended = none
theorem Bad.step {p q : PSt} {t r : Cs} (h : tokAt (t ++ r) = t) (h0 : t ≠ []) (ht : turn p t = some q) (b : Bad q r) : Bad p (t ++ r) := by
  unfold Bad at b ⊢
  rw [toks_map h h0]
  cases e : toks r with
  | none => rfl
  | some ts =>
    rw [e] at b
    show (parse p (t :: ts)).bind ended = none
    rw [parse_step ht]
    exact b
theorem Bad.halt {p : PSt} {t r : Cs} (h : tokAt (t ++ r) = t) (h0 : t ≠ []) (ht : turn p t = none) : Bad p (t ++ r) := by
  unfold Bad
  rw [toks_map h h0]
  cases e : toks r with
  | none => rfl
  | some ts =>
    show (parse p (t :: ts)).bind ended = none
    unfold parse
    rw [ht]
    rfl
theorem Bad.done {p : PSt} (e : ended p = none) : Bad p [] := e
theorem Bad.stuck {p : PSt} {z : Cs} (h : tokAt z = []) (h0 : z ≠ []) : Bad p z := by
  unfold Bad
  rw [toks_stuck h h0]
  rfl
def p0 : PSt := ⟨[], [], .level⟩
theorem Bad.none {z : Cs} (b : Bad p0 z) : stepsOf z = Option.none := by
  unfold Bad at b
  unfold stepsOf
  cases e : toks z with
  | none => rfl
  | some ts =>
    rw [e] at b
    exact b
theorem Bad.sign {p q : PSt} {g r : Cs} (hg : g ∈ signs) (ht : turn p g = some q) (b : Bad q r) : Bad p (g ++ r) := .step (tok_sign hg r) (sign_ne hg) ht b
theorem Bad.nosign {p : PSt} {g r : Cs} (hg : g ∈ signs) (ht : turn p g = Option.none) : Bad p (g ++ r) := .halt (tok_sign hg r) (sign_ne hg) ht
theorem Bad.word {p q : PSt} {t r : Cs} (hw : word t) (hs : sep0 r) (ht : turn p t = some q) (b : Bad q r) : Bad p (t ++ r) := .step (tok_word hw hs) hw.1 ht b
def rep (n : Nat) (z : Cs) : Cs := (List.replicate n z).flatten
theorem rep_succ (n : Nat) (z : Cs) : rep (n + 1) z = z ++ rep n z := by unfold rep; rw [List.replicate_succ, List.flatten_cons]
theorem rep_zero (z : Cs) : rep 0 z = [] := rfl
def cU : Cs := [117]
def cV : Cs := [118]
def c1 : Cs := [49]
theorem wU : isName cU = true ∧ isName cV = true ∧ leaf c1 .number = some (.plus (valOf c1)) := by decide +kernel
theorem w1 : word c1 := ⟨by decide, by decide +kernel⟩
theorem leafU (ss : List Stp) (st : List (Bool × Int)) : turn ⟨ss, st, .level⟩ cU = some ⟨ss ++ [.nam cU], st, .sign⟩ := turn_leaf (leaf_name wU.1)
theorem leafV (ss : List Stp) (st : List (Bool × Int)) : turn ⟨ss, st, .level⟩ cV = some ⟨ss ++ [.nam cV], st, .sign⟩ := turn_leaf (leaf_name wU.2.1)
theorem sg : cMax ∈ signs ∧ cImax ∈ signs ∧ cPlus ∈ signs ∧ cSep ∈ signs ∧ cEnd ∈ signs := by decide
theorem no_turn (ss : List Stp) (st : List (Bool × Int)) : turn ⟨ss, st, .level⟩ cEnd = none ∧ turn ⟨ss, st, .number⟩ cPlus = none ∧ turn ⟨ss, st, .sign⟩ cMax = none ∧ turn ⟨ss, [], .sign⟩ cSep = none ∧ turn ⟨ss, [], .sign⟩ cEnd = none := by
  refine ⟨?_, ?_, ?_, ?_, ?_⟩
  · unfold turn; rw [show leaf cEnd (PSt.mk ss st .level).w = none from leaf_sign sg.2.2.2.2]; rfl
  · unfold turn; rw [show leaf cPlus (PSt.mk ss st .number).w = none from leaf_sign sg.2.2.1]; rfl
  · unfold turn; rw [show leaf cMax (PSt.mk ss st .sign).w = none from leaf_sign sg.1]; rfl
  · unfold turn; rw [show leaf cSep (PSt.mk ss [] .sign).w = none from leaf_sign sg.2.2.2.1]; rfl
  · unfold turn; rw [show leaf cEnd (PSt.mk ss [] .sign).w = none from leaf_sign sg.2.2.2.2]; rfl
theorem long_turn {t : Cs} (l : 5 < t.length) (ss : List Stp) (st : List (Bool × Int)) : turn ⟨ss, st, .level⟩ t = none := by
  have n1 : isName t = false := by
    unfold isName
    rw [decide_eq_false (show ¬ t.length ≤ 4 by omega)]
    simp
  have n2 : isNum t = false := by
    unfold isNum
    rw [decide_eq_false (show ¬ t.length ≤ 4 by omega)]
    simp
  have n3 : t ≠ cMax := fun e => by rw [e] at l; exact absurd l (by decide)
  have n4 : t ≠ cImax := fun e => by rw [e] at l; exact absurd l (by decide)
  have e : leaf t .level = none := by unfold leaf; rw [n1, n2]; rfl
  unfold turn
  rw [show leaf t (PSt.mk ss st .level).w = none from e]
  simp [n3, n4]
theorem f1 : ∀ (n : Nat) (ss : List Stp) (st : List (Bool × Int)), Bad ⟨ss, st, .level⟩ (rep n cMax)
  | 0, ss, st => .done rfl
  | n + 1, ss, st => by rw [rep_succ]; exact .sign sg.1 (turn_opn ss true st) (f1 n _ _)
theorem f2 : ∀ (n : Nat) (ss : List Stp) (st : List (Bool × Int)), (0 < n ∨ st ≠ []) → Bad ⟨ss, st, .level⟩ (rep n cImax ++ cU)
  | 0, ss, st, h => by
    have h : st ≠ [] := h.elim (fun z => absurd z (Nat.lt_irrefl 0)) id
    rw [rep_zero, List.nil_append, ← List.append_nil cU]
    refine .word (name_word wU.1) sep_nil (leafU _ _) (.done ?_)
    cases st with
    | nil => exact absurd rfl h
    | cons a b => rfl
  | n + 1, ss, st, _ => by rw [rep_succ, List.append_assoc]; exact .sign sg.2.1 (turn_opn ss false st) (f2 n _ _ (.inr (List.cons_ne_nil _ _)))
def z3 : Cs := cMax ++ (cU ++ cSep)
theorem f3 : ∀ (n : Nat) (ss : List Stp) (st : List (Bool × Int)), Bad ⟨ss, st, .level⟩ (rep n z3)
  | 0, ss, st => .done rfl
  | n + 1, ss, st => by
    rw [rep_succ]
    unfold z3
    rw [List.append_assoc, List.append_assoc]
    exact .sign sg.1 (turn_opn ss true st) (.word (name_word wU.1) (sep_sep _) (leafU _ _) (.sign sg.2.2.2.1 (turn_sep _ _ _ _) (f3 n _ _)))
def z4 : Cs := cU ++ (cPlus ++ c1)
theorem f4 {n : Nat} (h : 2 ≤ n) : Bad p0 (z4 ++ rep n cPlus) := by
  obtain ⟨m, rfl⟩ : ∃ m, n = m + 1 + 1 := ⟨n - 2, by omega⟩
  rw [rep_succ, rep_succ]
  unfold z4
  rw [List.append_assoc, List.append_assoc]
  exact .word (name_word wU.1) (sep_plus _) (leafU _ _) (.sign sg.2.2.1 (turn_plus _ _) (.word w1 (sep_plus _) (turn_leaf wU.2.2) (.sign sg.2.2.1 (turn_plus _ _) (.nosign sg.2.2.1 (no_turn _ _).2.1))))
theorem rep_len (n : Nat) (z : Cs) : (rep n z).length = n * z.length := by
  induction n with
  | zero => rw [rep_zero, Nat.zero_mul]; rfl
  | succ n ih => rw [rep_succ, List.length_append, ih, Nat.succ_mul, Nat.add_comm]
theorem rep_mem {n : Nat} {z : Cs} {c : Nat} (h : c ∈ rep n z) : c ∈ z := by
  obtain ⟨l, hl, hc⟩ := List.mem_flatten.mp h
  rw [(List.mem_replicate.mp hl).2] at hc
  exact hc
theorem f5 {n : Nat} {t : Cs} (l1 : t.length = 1) (hw : ∀ c ∈ t, isAl c = true) (h : 6 ≤ n) : Bad p0 (rep n t) := by
  have ln : (rep n t).length = n := by rw [rep_len, l1, Nat.mul_one]
  have w : Mr.word (rep n t) := ⟨fun e => by rw [e] at ln; simp at ln; omega, fun c m => hw c (rep_mem m)⟩
  rw [← List.append_nil (rep n t)]
  exact .halt (tok_word w sep_nil) w.1 (long_turn (by omega) _ _)
theorem f7 {n : Nat} {c : Nat} (hc : c = 32 ∨ c = 44) (h : 2 ≤ n) : Bad p0 (rep n [c]) := by
  obtain ⟨m, rfl⟩ : ∃ m, n = m + 1 + 1 := ⟨n - 2, by omega⟩
  rw [rep_succ, rep_succ]
  refine .stuck ?_ (List.cons_ne_nil _ _)
  rcases hc with rfl | rfl
  · show tokAt (32 :: 32 :: rep m [32]) = []
    unfold tokAt
    rw [show signs.find? (fun g => g.isPrefixOf (32 :: 32 :: rep m [32])) = none from rfl]
    show (32 :: 32 :: rep m [32]).takeWhile isAl = []
    rw [List.takeWhile_cons, sep_al.1]
    rfl
  · show tokAt (44 :: 44 :: rep m [44]) = []
    unfold tokAt
    rw [show signs.find? (fun g => g.isPrefixOf (44 :: 44 :: rep m [44])) = none from rfl]
    show (44 :: 44 :: rep m [44]).takeWhile isAl = []
    rw [List.takeWhile_cons, sep_al.2.1]
    rfl
theorem f8 {n : Nat} (h : 1 ≤ n) : Bad p0 (rep n cEnd) := by
  obtain ⟨m, rfl⟩ : ∃ m, n = m + 1 := ⟨n - 1, by omega⟩
  rw [rep_succ]
  exact .nosign sg.2.2.2.2 (no_turn _ _).1
def z9 : Cs := cMax ++ (cU ++ (cSep ++ (cU ++ cEnd)))
theorem f9 {n : Nat} (h : 2 ≤ n) : Bad p0 (rep n z9) := by
  obtain ⟨m, rfl⟩ : ∃ m, n = m + 1 + 1 := ⟨n - 2, by omega⟩
  rw [rep_succ, rep_succ]
  unfold z9
  simp only [List.append_assoc]
  exact .sign sg.1 (turn_opn _ true _) (.word (name_word wU.1) (sep_sep _) (leafU _ _) (.sign sg.2.2.2.1 (turn_sep _ _ _ _) (.word (name_word wU.1) (sep_end _) (leafU _ _) (.sign sg.2.2.2.2 (turn_end _ true _ _ (by decide)) (.nosign sg.1 (no_turn _ _).2.2.1)))))
def z11 : Cs := cU ++ cSep
theorem f11 {n : Nat} (h : 1 ≤ n) : Bad p0 (rep n z11) := by
  obtain ⟨m, rfl⟩ : ∃ m, n = m + 1 := ⟨n - 1, by omega⟩
  rw [rep_succ]
  unfold z11
  rw [List.append_assoc]
  exact .word (name_word wU.1) (sep_sep _) (leafU _ _) (.nosign sg.2.2.2.1 (no_turn _ []).2.2.2.1)
theorem f12 : ∀ (n : Nat) (ss : List Stp) (st : List (Bool × Int)) (r : Cs), Bad ⟨ss, st, .level⟩ (rep n cImax ++ (cEnd ++ r))
  | 0, ss, st, r => by rw [rep_zero, List.nil_append]; exact .nosign sg.2.2.2.2 (no_turn _ _).1
  | n + 1, ss, st, r => by rw [rep_succ, List.append_assoc]; exact .sign sg.2.1 (turn_opn ss false st) (f12 n _ _ r)
def z13 : Cs := cMax ++ (cU ++ (cSep ++ cV))
theorem f13 {n : Nat} (h : 2 ≤ n) : Bad p0 (z13 ++ rep n cEnd) := by
  obtain ⟨m, rfl⟩ : ∃ m, n = m + 1 + 1 := ⟨n - 2, by omega⟩
  rw [rep_succ, rep_succ]
  unfold z13
  simp only [List.append_assoc]
  exact .sign sg.1 (turn_opn _ true _) (.word (name_word wU.1) (sep_sep _) (leafU _ _) (.sign sg.2.2.2.1 (turn_sep _ _ _ _) (.word (name_word wU.2.1) (sep_end _) (leafV _ _) (.sign sg.2.2.2.2 (turn_end _ true _ _ (by decide)) (.nosign sg.2.2.2.2 (no_turn _ []).2.2.2.2)))))
end Mr
/-! Nx -/
set_option Elab.async false
set_option linter.all false
set_option maxRecDepth 100000
set_option maxHeartbeats 4000000
namespace Pg
open PySem L2 Mr
abbrev veT : List Value := [.type "ValueError", .type "Exception", .type "BaseException", .type "object"]
/-- an own error without a word of its own -/
structure El (K : PySem.W.Frag) (mg : Str → Option Value) (cL : Addr) : Prop where
  mL : mg "InvalidLevel" = some (.ref cL)
  x : PySem.W.excIn K cL veT "ValueError.__new__" = true
  k : PySem.W.keepIn K (.ref cL) = true
  b : PySem.W.subIn K (.ref cL) (.type "BaseException") = some true
  t : PySem.W.typeIn K (.ref cL) = some (.type "type")
section
variable {P : Program} {w : World} {K : PySem.W.Frag} {mg : Str → Option Value} {base : Heap} {pS pC cL : Addr}
/-! ### read_level, names_of, either way -/
def spLevX (K : PySem.W.Frag) (cL : Addr) : Sp := fun vs H Q E => ∃ z : Cs, vs = [tv z] ∧ z.length ≤ 100000 ∧
  ((stepsOf z = none ∧ ∀ H', Same H H' → E (.ref cL) none H') ∨ ∃ ss, stepsOf z = some ss ∧ ∀ H' p, Same H H' → LevAt K H' p ss → Q (.ref p) H')
theorem sc_levX : FnScope ["level", "steps"] ["level"] (defScope st_read_level) := ⟨rfl, rfl, rfl, by decide +kernel, rfl, by decide +kernel, by decide +kernel⟩
theorem ok_levX {f : Addr} {fd : FuncData} (F : Fun K "read_level" "read_level" st_read_level f fd) (X : El K mg cL) (c_steps_of : CalX P w K mg base 3 "steps_of" (spSteps K)) :
    FnOk P w K mg base (L2.CX P w) 4 f fd ["level"] (spLevX K cL) := by
  refine F.okX sc_levX (fun vs H Q E h => ?_) (fun cdv A outer s H vs Q E hr h => ?_)
  · obtain ⟨z, rfl, _⟩ := h
    rfl
  obtain ⟨z, rfl, hz, h⟩ := h
  have nd := sc_levX.nd
  refine ⟨_, pss_cons (ps_set (i := 1) nd rfl (.inl rfl) (C8.pe_c c_steps_of hr (by decide) rfl (pa_cons (pv 0) pa_nil)))
    (pss_cons (ps_if (pt_cmpR op_isN (pv 1) pe_non (nomark _)) (pss_one (ps_raise rfl (takes_of rfl rfl rfl rfl) (pmk_own0 PySem.F.excBase_ValueError X.x X.mL X.k (raises_own X.b X.t) rfl))) pss_nil) (pss_one (ps_ret (pv 1)))), ?_⟩
  refine ⟨_, rfl, _, rfl, .inl ⟨z, rfl, hz, fun n H' s => ?_, fun ss e l H' p as s hp ha => ?_⟩⟩
  · rcases h with ⟨_, q0⟩ | ⟨ss, e, _⟩
    · exact ⟨_, rfl, rfl, _, rfl, iteT (q0 H' s)⟩
    · rw [n] at e; cases e
  · rcases h with ⟨e', _⟩ | ⟨ss', e', q1⟩
    · rw [e'] at e; cases e
    · rw [e'] at e
      cases e
      exact ⟨_, rfl, rfl, _, rfl, iteF ⟨_, rfl, q1 H' p s ⟨as, SqT.of hp, ha⟩⟩⟩
def spNamX (K : PySem.W.Frag) (cL : Addr) : Sp := fun vs H Q E => ∃ z : Cs, vs = [tv z] ∧ z.length ≤ 100000 ∧
  ((stepsOf z = none ∧ ∀ H', Same H H' → E (.ref cL) none H') ∨ ∃ ss, stepsOf z = some ss ∧ ss.length < 64 ∧ ∀ H' v, Same H H' → Q v H')
theorem sc_namX : FnScope ["level"] ["level"] (defScope st_names_of) := ⟨rfl, rfl, rfl, by decide +kernel, rfl, by decide +kernel, by decide +kernel⟩
theorem ok_namX {f fR : Addr} {fd fdR : FuncData} (F : Fun K "names_of" "names_of" st_names_of f fd) (GR : FnOk P w K mg base (L2.CX P w) 4 fR fdR ["level"] (spLevX K cL)) (bR : Binds K fdR ["level"] []) (kR : PySem.W.keepIn K (.ref fR) = true) (mR : mg "read_level" = some (.ref fR)) (c_names_in : CalX P w K mg base 1 "names_in" (spNames K)) :
    FnOk P w K mg base (L2.CX P w) 5 f fd ["level"] (spNamX K cL) := by
  refine F.okX sc_namX (fun vs H Q E h => ?_) (fun cdv A outer s H vs Q E hr h => ?_)
  · obtain ⟨z, rfl, _⟩ := h
    rfl
  obtain ⟨z, rfl, hz, h⟩ := h
  refine ⟨_, pss_one (ps_ret (C8.pe_c c_names_in hr (by decide) rfl (pa_cons (pe_callS GR (hr.mono (by decide)) rfl mR kR bR (fun σ => passAt (takes_of rfl rfl rfl rfl) σ) (pa_cons (pv 0) pa_nil)) pa_nil))), ?_⟩
  rcases h with ⟨e, q⟩ | ⟨ss, e, few, q⟩
  · exact ⟨_, rfl, z, rfl, hz, .inl ⟨e, q⟩⟩
  · exact ⟨_, rfl, z, rfl, hz, .inr ⟨ss, e, fun H1 p s1 hp => ⟨p, ss, rfl, hp, few, fun H2 p2 ys s2 h1 _ _ _ _ => q _ _ (s1.trans s2)⟩⟩⟩
end
end Pg
/-! Bk4 -/
set_option Elab.async false
set_option linter.all false
set_option maxRecDepth 100000
set_option maxHeartbeats 8000000
namespace Pg
open PySem L2 Mr
theorem rel_eq : (∀ r ∈ rels, decide (V.str (S r) = V.str ("=" : Str)) = decide (r = cEq)) ∧ (∀ r ∈ rels, decide (V.str (S r) = V.str ("<=" : Str)) = decide (r = cLe)) ∧ (∀ r ∈ rels, decide (V.str (S r) = V.str ("<" : Str)) = decide (r = cLt)) ∧ tv cLt = .str ("<" : Str) ∧ tv cLe = .str ("<=" : Str) ∧ tv cEq = .str ("=" : Str) := by decide +kernel
theorem slA_of {K : PySem.W.Frag} {H : Hp} {a : Addr} {xs : List V} {lo hi : Option Int} {Q : VK} (hx : SqT K H a xs) (q : ∀ H' p, Same H H' → SqT K H' p (cutV xs lo hi) → Q (.ref p) H') : rSlA K (.ref a) lo hi H Q := by
  refine ⟨a, xs, rfl, hx, fun h => q _ _ (Same.refl _) ?_, fun _ p np => q _ _ (same_new np _) (SqT.of upd_same)⟩
  have e : cutV xs lo hi = xs := by
    unfold cutV
    rw [h.1, h.2, List.drop_zero, Nat.sub_zero, List.take_length]
  rw [e]
  exact hx
theorem sIx_some (n d k : Nat) : HT.sIx n d (some (k : Int)) = min k n := by
  show (if ((k : Int) < 0) then ((k : Int) + (n : Int)).toNat else min (k : Int).toNat n) = _
  rw [if_neg (by omega), Int.toNat_natCast]
theorem cut_lo (xs : List V) (k : Nat) : cutV xs none (some (k : Int)) = xs.take k := by
  unfold cutV
  rw [sIx_some, HT.sIx_none, List.drop_zero, Nat.sub_zero, List.take_eq_take_iff]
  omega
theorem cut_hi (xs : List V) (k : Nat) : cutV xs (some (k : Int)) none = xs.drop k := by
  unfold cutV
  rw [sIx_some, HT.sIx_none]
  by_cases c : k ≤ xs.length
  · rw [Nat.min_eq_left c, List.take_of_length_le (by rw [List.length_drop]; exact Nat.le_refl _)]
  · rw [Nat.min_eq_right (by omega), List.drop_of_length_le (Nat.le_refl _), List.drop_of_length_le (by omega), List.take_nil]
theorem map_erase {α β : Type} (f : α → β) : ∀ (l : List α) (k : Nat), (l.map f).eraseIdx k = (l.eraseIdx k).map f
  | [], _ => rfl
  | _ :: _, 0 => rfl
  | a :: l, k + 1 => by rw [List.map_cons, List.eraseIdx_cons_succ, List.eraseIdx_cons_succ, List.map_cons, map_erase f l k]
theorem erase_take {α : Type} (l : List α) (n : Nat) : l.take n ++ l.drop (n + 1) = l.eraseIdx n := (List.eraseIdx_eq_take_drop_succ l n).symm
theorem noPart_of {σ : St} {H : Hp} {Q : Option Int → Hp → Prop} (h : Q none H) : tNoPart σ H Q := h
end Pg
/-! Ow -/
set_option Elab.async false
set_option linter.all false
set_option maxRecDepth 100000
set_option maxHeartbeats 2000000
/-! len(), == and != of instances whose class has its own __len__ and __eq__ (and no __ne__). -/
namespace Ow
open PySem PySem.Spec PyProof.Rows L2
section
variable {X : Cx} {CX : CXT} {C f : Addr} {fd : FuncData} {ps : List Str} {sp : Sp} {E : XK} {n : Nat}
/-- the own def runs at some surrounding, and what it answers is taken over -/
theorem runs {A : Around} {pins : List (Addr × Obj)} {σ : L2.St} {H : Hp} {s : Shared} {us : List Value} {vs : List V} {Q : VK} {R : Value → Shared → Prop} (F : FnOk X.prog X.w X.K X.mg X.base CX n f fd ps sp) (hb : Binds X.K fd ps []) (hx : Passes CX X E)
    (hr : Room n A) (e0 : Env0 X.prog X.w X.K X.mg X.base A X.stack s H) (I : Inv X pins σ H s) (r : Vals vs us) (h : sp vs H Q E) (out : ∀ v H' s' u, Inv X pins σ H' s' → RelV v u → Q v H' → R u s') :
    wpAny (model X.prog X.w) A (call (.ref f) us) R X.xe s := by
  have many : us.length = ps.length := by rw [← r.length]; exact F.len _ _ _ _ h
  have bind : BindsTo s fd ⟨us, []⟩ (ps.zip us) := by
    have t := hb s us I.kIn (by simpa using many)
    simpa using t
  refine wpAny_call (codeAny_mono (F.run A X.stack s H ⟨us, []⟩ us vs Q E hr e0 bind r h) fun x s' q => ?_)
  match x, q with
  | .error e, q => exact hx pins σ H s e s' I q
  | .ok .next, q => exact q.elim
  | .ok .brk, q => exact q.elim
  | .ok .cont, q => exact q.elim
  | .ok (.ret u), q =>
    obtain ⟨v, H', I', rv, qv⟩ := I.after q
    exact out v H' s' u I' rv qv
/-- len(x), x's class has a __len__ of its own -/
theorem call_lenOwn (F : FnOk X.prog X.w X.K X.mg X.base CX n f fd ps sp) (hs : PySem.W.findIn X.K (.ref C) "__len__" = some (some (.ref f))) (hf : PySem.W.isFn X.K (.ref f) = true) (hb : Binds X.K fd ps []) (hx : Passes CX X E) (hr : Room (n + 1) X.A) :
    CallR X (.builtin "len") (fun xs H Q => ∃ a dx fs, xs = [.ref a] ∧ H a = some (.ins C dx fs) ∧ sp [.ref a] H (fun v H' => ∃ k : Nat, v = .int k ∧ k < 2 ^ 62 ∧ Q (.int k) H') E) := by
  intro pins s σ H xs us Q I r h
  obtain ⟨a, dx, fs, rfl, ha, h⟩ := h
  rw [Vals.ref1 r]
  obtain ⟨mA, J, _⟩ := ins_get I.hok ha
  obtain ⟨od, J, _⟩ := J.look
  obtain ⟨m, hF⟩ := I.fr
  refine PySem.W.len_K hF I.ok.mod.kin J hs hf (runs F hb hx hr.in1 I.env0.in1 I (us := [.ref a]) (vs := [.ref a]) (.cons rfl .nil) h fun v H' s' u I' rv q => ?_)
  obtain ⟨k, rfl, small, q⟩ := q
  obtain ⟨tk, rfl⟩ : ∃ tk, u = .int (k : Int) tk := rv
  exact ⟨⟨by omega, by omega⟩, ⟨.int k, H', I'.tok _, ⟨_, rfl⟩, q⟩⟩
/-- x == y, x's class has an __eq__ of its own, y is of the class, too -/
theorem op_eqOwn (F : FnOk X.prog X.w X.K X.mg X.base CX n f fd ps sp) (hs : PySem.W.findIn X.K (.ref C) "__eq__" = some (some (.ref f))) (hf : PySem.W.isFn X.K (.ref f) = true) (hb : Binds X.K fd ps []) (hx : Passes CX X E) (hr : Room n X.A) :
    OpR X (compareOp .Eq) (fun x y H Q => ∃ a b dx dy fs gs, x = .ref a ∧ y = .ref b ∧ H a = some (.ins C dx fs) ∧ H b = some (.ins C dy gs) ∧ sp [.ref a, .ref b] H (fun v H' => ∃ c, v = .bl c ∧ Q (.bl c) H') E) := by
  intro pins s σ H x y v u Q I rx ry h
  obtain ⟨a, b, dx, dy, fs, gs, rfl, rfl, ha, hb', h⟩ := h
  cases rx
  cases ry
  obtain ⟨mA, J, _⟩ := ins_get I.hok ha
  obtain ⟨mB, J', _⟩ := ins_get I.hok hb'
  obtain ⟨od, J, _⟩ := J.look
  obtain ⟨od', J', _⟩ := J'.look
  obtain ⟨m, hF⟩ := I.fr
  show wpAny (model X.prog X.w) X.A (richCompare .Eq (.ref a) (.ref b)) (EP X pins σ Q) X.xe s
  refine PySem.W.cmp_K (op := .Eq) (tb := .ref C) hr.units0 hF I.ok.mod.kin J J'.type (by simp [PySem.W.notFirst]) hs hf (runs F hb hx hr I.env0 I (us := [.ref a, .ref b]) (vs := [.ref a, .ref b]) (.cons rfl (.cons rfl .nil)) h fun v H' s' u I' rv q => ?_)
  obtain ⟨c, rfl, q⟩ := q
  have rv : u = .bool c := rv
  subst rv
  exact ⟨.bl c, H', I', rfl, q⟩
/-- a name of a written name space -/
theorem ns_has {K : PySem.W.Frag} {h : Heap} {N : Addr} {mg : Str → Option Value} {x : Str} {v : Value} (X : K.In h) (G : h.Ns N mg) (e : PySem.W.nsIn K N x = some (some v)) : mg x = some v := by
  rcases G with ⟨o, es, ep, here, isD, _, reads⟩
  rw [← reads]
  unfold PySem.W.nsIn at e
  split at e
  case h_1 c dd es' n' sl lk =>
    have same := (here.symm.trans (X _ _ lk))
    have same := Option.some.inj same
    subst same
    have dat : Data.dict es' n' = Data.dict es ep := isD
    injection dat with e1 e2
    subst e1
    split at e
    case h_1 en f =>
      have ev := Option.some.inj (Option.some.inj e)
      subst ev
      simp only [nsFind, findBy]
      rw [← Array.find?_toList, f]
      rfl
    case h_2 => split at e <;> cases e
  case h_2 => cases e
/-- what the class is, of which != asks the own == -/
structure NeC (K : PySem.W.Frag) (C f : Addr) : Prop where
  at_ : ∃ (of : Obj) (nm q : Str) (N : Addr) (hdct : Bool) (sn : List Str) (sub : List Value) (ab : Bool) (col : Option Bool) (dd : Option Addr) (k0 k1 k2 k3 k5 : Option Value) (newId : String),
    K.lookup C = some (excClassObj nm q C N [.type "object"] [.type "object"] hdct sn sub ab col dd k0 k1 k2 k3 k5 newId) ∧ PySem.W.nsOkIn K N = true ∧ PySem.W.nsIn K N "__eq__" = some (some (.ref f)) ∧ PySem.W.nsIn K N "__ne__" = some none ∧ K.lookup f = some of ∧ of.cls = .type "function"
/-- x != y by the own == -/
theorem op_neOwn (T : NeC X.K C f) (F : FnOk X.prog X.w X.K X.mg X.base CX n f fd ps sp) (hb : Binds X.K fd ps []) (hx : Passes CX X E) (hr : Room (n + 1) X.A) :
    OpR X (compareOp .NotEq) (fun x y H Q => ∃ a b dx dy fs gs, x = .ref a ∧ y = .ref b ∧ H a = some (.ins C dx fs) ∧ H b = some (.ins C dy gs) ∧ sp [.ref a, .ref b] H (fun v H' => ∃ c, v = .bl c ∧ Q (.bl (!c)) H') E) := by
  intro pins s σ H x y v u Q I rx ry h
  obtain ⟨a, b, dx, dy, fs, gs, rfl, rfl, ha, hb', h⟩ := h
  cases rx
  cases ry
  obtain ⟨mA, J, _⟩ := ins_get I.hok ha
  obtain ⟨mB, J', _⟩ := ins_get I.hok hb'
  obtain ⟨od, J, _⟩ := J.look
  obtain ⟨od', J', _⟩ := J'.look
  obtain ⟨of, nm, q0, N, hdct, sn, sub, ab, col, dd, k0, k1, k2, k3, k5, newId, hC, hN, hE, hNe, hF, hFc⟩ := T.at_
  have kin := I.kIn
  have ns := Heap.Ns.of_isNs (PySem.W.isNs_of_in kin hN)
  have OX : s.heap.OwnEqNoNe a C f "object" [.type "object"] := ⟨_, of, nm, q0, N, _, hdct, sn, sub, ab, col, dd, k0, k1, k2, k3, k5, newId, _, _, J.at_, J.cls, kin _ _ hC, ns, ns_has kin ns hE, kin _ _ hF, hFc, PySem.F.cmp_object.mro, PySem.F.cmp_object.eq.lookup, PySem.W.ns_none_of kin ns hNe⟩
  have room : X.A.units + 1 < cLine := by have := hr.un; omega
  have run := runs F hb hx hr.in1 I.env0.in1 I (us := [.ref a, .ref b]) (vs := [.ref a, .ref b]) (R := fun v s' => ∃ c, v = .bool c ∧ EP X pins σ Q (.bool (!c)) s') (.cons rfl (.cons rfl .nil)) h fun v H' s' u I' rv q => by
    obtain ⟨c, rfl, q⟩ := q
    have rv : u = .bool c := rv
    exact ⟨c, rv, .bl (!c), H', I', rfl, q⟩
  obtain ⟨hp, gn, dr, tk, os⟩ := s
  exact compareOp_ne_ownEq PySem.F.cmp_object OX J'.at_ J'.cls room run
end
end Ow
/-! Ow2 -/
set_option Elab.async false
set_option linter.all false
set_option maxRecDepth 100000
set_option maxHeartbeats 2000000
/-! str(x) by the class's own __str__; == and != of an instance against a text or a number by the class's own __eq__. -/
namespace Ow
open PySem PySem.Spec PyProof.Rows L2
section
variable {X : Cx} {CX : CXT} {C f : Addr} {fd : FuncData} {ps : List Str} {sp : Sp} {E : XK} {n : Nat}
/-- str(x), x's class has a __str__ of its own -/
theorem call_strOwn (F : FnOk X.prog X.w X.K X.mg X.base CX n f fd ps sp) (hs : PySem.W.findIn X.K (.ref C) "__str__" = some (some (.ref f))) (hf : PySem.W.isFn X.K (.ref f) = true) (hb : Binds X.K fd ps []) (hx : Passes CX X E) (hr : Room (n + 2) X.A) :
    CallR X (.type "str") (fun xs H Q => ∃ a dx fs, xs = [.ref a] ∧ H a = some (.ins C dx fs) ∧ sp [.ref a] H (fun v H' => ∃ t : Str, v = .str t ∧ Q (.str t) H') E) := by
  intro pins s σ H xs us Q I r h
  obtain ⟨a, dx, fs, rfl, ha, h⟩ := h
  rw [Vals.ref1 r]
  obtain ⟨mA, J, _⟩ := ins_get I.hok ha
  obtain ⟨od, J, _⟩ := J.look
  have hu : X.A.in1.in1.units < cLine := by
    have := hr.in1.in1.un
    omega
  refine PySem.W.kso_call hu I.kIn J hs hf (runs F hb hx hr.in1.in1 I.env0.in1.in1 I (us := [.ref a]) (vs := [.ref a]) (.cons rfl .nil) h fun v H' s' u I' rv q => ?_)
  obtain ⟨t, rfl, q⟩ := q
  obtain ⟨tk, rfl⟩ : ∃ tk, u = .str t tk := rv
  exact ⟨.str t, H', I', ⟨_, rfl⟩, q⟩
/-- an instance of the class, a text or a number -/
inductive Oth (C : Addr) (H : Hp) : V → Prop
  | ins {b dy : Addr} {gs : List (Str × V)} : H b = some (.ins C dy gs) → Oth C H (.ref b)
  | str (t : Str) : Oth C H (.str t)
  | int (i : Int) : Oth C H (.int i)
theorem sub_no {K : PySem.W.Frag} {C : Addr} : PySem.W.notFirst K C (.type "str") = true ∧ PySem.W.notFirst K C (.type "int") = true := by
  constructor <;> · unfold PySem.W.notFirst; rfl
theorem op_eqOwnV (F : FnOk X.prog X.w X.K X.mg X.base CX n f fd ps sp) (hs : PySem.W.findIn X.K (.ref C) "__eq__" = some (some (.ref f))) (hf : PySem.W.isFn X.K (.ref f) = true) (hb : Binds X.K fd ps []) (hx : Passes CX X E) (hr : Room n X.A) :
    OpR X (compareOp .Eq) (fun x y H Q => ∃ a dx fs, x = .ref a ∧ H a = some (.ins C dx fs) ∧ Oth C H y ∧ sp [.ref a, y] H (fun v H' => ∃ c, v = .bl c ∧ Q (.bl c) H') E) := by
  intro pins s σ H x y v u Q I rx ry h
  obtain ⟨a, dx, fs, rfl, ha, ho, h⟩ := h
  cases rx
  obtain ⟨mA, J, _⟩ := ins_get I.hok ha
  obtain ⟨od, J, _⟩ := J.look
  obtain ⟨m, hF⟩ := I.fr
  show wpAny (model X.prog X.w) X.A (richCompare .Eq (.ref a) u) (EP X pins σ Q) X.xe s
  have run := runs F hb hx hr I.env0 I (us := [.ref a, u]) (vs := [.ref a, y]) (R := fun v s' => ∃ c, v = .bool c ∧ EP X pins σ Q (.bool c) s') (.cons rfl (.cons ry .nil)) h fun v H' s' u I' rv q => by
    obtain ⟨c, rfl, q⟩ := q
    have rv : u = .bool c := rv
    exact ⟨c, rv, .bl c, H', I', rfl, q⟩
  have run2 : wpAny (model X.prog X.w) X.A (call (.ref f) [.ref a, u]) (fun v s' => EP X pins σ Q v s' ∧ v ≠ .notImplemented) X.xe s := wpAny_mono run (fun v s' ⟨c, e, q⟩ => by subst e; exact ⟨q, fun z => nomatch z⟩) fun _ _ z => z
  cases ho with
  | ins hy =>
    cases ry
    obtain ⟨mB, J', _⟩ := ins_get I.hok hy
    obtain ⟨od', J', _⟩ := J'.look
    exact PySem.W.cmp_K (op := .Eq) (tb := .ref C) hr.units0 hF I.ok.mod.kin J J'.type (by simp [PySem.W.notFirst]) hs hf (wpAny_mono run (fun v s' ⟨c, e, q⟩ => by subst e; exact q) fun _ _ z => z)
  | str t =>
    obtain ⟨tk, rfl⟩ := ry
    exact PySem.W.cmp_K (op := .Eq) (tb := .type "str") hr.units0 hF I.ok.mod.kin J .now sub_no.1 hs hf (wpAny_mono run (fun v s' ⟨c, e, q⟩ => by subst e; exact q) fun _ _ z => z)
  | int i =>
    obtain ⟨tk, rfl⟩ := ry
    exact PySem.W.cmp_K (op := .Eq) (tb := .type "int") hr.units0 hF I.ok.mod.kin J .now sub_no.2 hs hf (wpAny_mono run (fun v s' ⟨c, e, q⟩ => by subst e; exact q) fun _ _ z => z)
end
end Ow
/-! Gd -/
set_option Elab.async false
set_option linter.all false
set_option maxRecDepth 100000
set_option maxHeartbeats 4000000
/-! A law's own call, where it is known that nothing is under way: repr of a tuple needs that. -/
namespace Gd
open PySem PySem.Spec PyProof.Rows L2
/-- a promise at one surrounding -/
def RunAt (P : Program) (w : World) (K : PySem.W.Frag) (mg : Str → Option Value) (base : Heap) (CX : CXT) (A : Around) (k : Nat) (f : Addr) (fd : FuncData) (ps : List Str) (sp : Sp) : Prop :=
  ∀ (outer : List Env) (s : Shared) (H : Hp) (args : Args) (us : List Value) (vs : List V) (Q : VK) (E : XK), Room k A → Env0 P w K mg base A outer s H →
    BindsTo s fd args (ps.zip us) → Vals vs us → sp vs H Q E → codeAny (model P w) A (.call (.ref f) args) (CR CX outer P w H s Q E) s
section
variable {P : Program} {w : World} {K : PySem.W.Frag} {mg : Str → Option Value} {base : Heap} {A : Around}
theorem runAt_of {CX : CXT} {x qual : Str} {st : Stmt} {f : Addr} {fd : FuncData} {N ps : List Str} {k : Nat} {sp : Sp} (F : Fun K x qual st f fd)
    (S : FnScope N ps (defScope st)) (len : ∀ vs H Q E, sp vs H Q E → vs.length = ps.length)
    (body : ∀ (cdv : Value) (outer : List Env) (s : Shared) (H : Hp) (vs : List V) (Q : VK) (E : XK), Room k (A.deeper (envOfC qual (defScope st) s.heap.objs.size f cdv)) →
      sp vs H Q E → ∃ t, PSs (cxOf CX P w K mg base N qual (defScope st) f cdv A outer s H E).nox (defBody st) t ∧ t { nx := fun _ H' => Q .non H', rt := Q } (start N vs) H) :
    RunAt P w K mg base CX A (k + 1) f fd ps sp := by
  obtain ⟨oc, od, kV, doc, pm, an, cdv, ct, osl, rfl, lk, hcd⟩ := F.ex
  intro outer s H args us vs Q E hr e0 bind rel prom
  have keep : ∀ b o, base.get? b = some o → s.heap.get? b = some o := fun b o e => (e0.bs b o e).1
  have inS := e0.mod.kin.keeps keep
  have few := e0.mod.nolimit.keeps keep
  have n_eq := len _ _ _ _ prom
  have kinds : ∀ y ∈ ps.zip us, (defScope st).names.lookup y.1 = some .local ∨ ((defScope st).names.lookup y.1 = some .cell ∧
      ((cellsFrom (s.heap.objs.size + 1) (defScope st).names []).lookup y.1).isSome = true) := by
    rintro ⟨n, v⟩ hy
    cases S.par n (List.of_mem_zip hy).1 with
    | inl q => exact Or.inl q
    | inr q => exact Or.inr (And.intro q (PySem.W.cellsFrom_some _ _ _ (Or.inl q)))
  refine codeAny_call_function hr.depth (inS _ _ lk) rfl S.co S.gen rfl (PySem.W.codeRec_of inS hcd) (bind _ _ _ _ (wpAny_newFunctionEnv_cells S.kind kinds ?_))
  intro env he s1 x
  subst he
  obtain ⟨t, run, start_⟩ := body cdv outer s H vs Q E (hr.deeper _) prom
  have I := inv_start (CX := CX) (E := E) S hr.hd e0 n_eq rel x
  refine And.intro (few.keeps x.toInCall.keep) (codeAny_func ?_)
  refine wpAny_mono (run.nox.run [] s1 _ H _ I start_) ?_ ?_
  · intro fl s' h
    match fl, h with
    | .ret u, ⟨v, _, H', J, rv, q⟩ => exact ⟨v, H', J.os, J.bare, J.base, J.hok, rv, q⟩
    | .next, ⟨_, H', J, q⟩ => exact ⟨V.non, H', J.os, J.bare, J.base, J.hok, rfl, q⟩
    | .brk, ⟨_, _, _, q⟩ => exact q.elim
    | .cont, ⟨_, _, _, q⟩ => exact q.elim
  · intro e s' h
    exact h
end
end Gd
/-! Gd2 -/
set_option Elab.async false
set_option linter.all false
set_option maxRecDepth 100000
set_option maxHeartbeats 4000000
namespace Gd
open PySem PySem.Spec PyProof.Rows L2
section
variable {P : Program} {w : World} {K : PySem.W.Frag} {mg mb : Str → Option Value} {CX : CXT} {k : Nat} {fa a : Addr} {fd : FuncData} {x : Str} {sp : Sp} {s₁ : Shared} {vs : List Value} {ns : List Int}
/-- what is asked of a law's call -/
abbrev Went (P : Program) (w : World) (fa a : Addr) (s₁ : Shared) : Prop :=
  codeAny (model P w) callerA (.call (.ref fa) ⟨[.ref a], []⟩) (fun r s' => r = .ok (.ret (.bool true)) ∧ OldK s₁.heap s'.heap ∧ s'.os = s₁.os ∧ AllBare s'.gens) s₁
/-- the call, from a heap in which the script alone may be tracked -/
theorem went_of {H : Hp} (KX : K.In s₁.heap) (hns : s₁.heap.Ns mainGlobals mg) (hb : s₁.heap.Ns builtinsNs mb) (hbb : ∀ x : Str, x ≠ "__name__" → mb x = bootBuiltins x)
    (hlim : s₁.heap.NoLimit) (hg : s₁.gens = #[]) (ha : s₁.heap.get? a = some { cls := .type "list", data := .seq vs.toArray }) (hr : Room k callerA)
    (F : ∀ base : Heap, K.In base → base.Ns mainGlobals mg → RunAt P w K mg base CX callerA k fa fd [x] sp) (hbind : ∀ (s : Shared) (u : Value), BindsTo s fd ⟨[u], []⟩ [(x, u)])
    (hCX : ∀ H e s', CX [] H s₁ (fun _ _ _ => False) e s' → False) (hO : Only H) (hsp : sp [.ref a] H (fun v _ => v = .bl true) fun _ _ _ => False)
    (hok : HOk P w H s₁.heap) (one : ∀ b, H b ≠ none → b = a) (own : H a ≠ none → K.lookup a = none) : Went P w fa a s₁ := by
  have free : ∀ (b : Addr) (o : Obj), s₁.heap.get? b = some o → (b = a → H a = none) → H b = none := by
    intro b o e f
    by_cases z : H b = none
    · exact z
    · have z2 := one b z
      rw [z2] at z ⊢
      exact f z2
  have notD : ∀ (b : Addr) (o : Obj) (es : Array DictEntry) (ep : Nat), s₁.heap.get? b = some o → o.data = .dict es ep → H b = none := by
    intro b o es ep e d
    refine free b o e fun z => ?_
    rw [z, ha] at e
    rw [← Option.some.inj e] at d
    exact absurd d (by intro y; cases y)
  have hid : ∀ {b : Addr} {o : Obj}, s₁.heap.get? b = some o → H b = none → (hidT s₁.heap H).get? b = some o := fun e n => hidT_get e n
  have names : ∀ {b : Addr} {m : Str → Option Value}, s₁.heap.Ns b m → (hidT s₁.heap H).Ns b m := by
    rintro b m ⟨o, es, ep, e, d, r⟩
    exact ⟨o, es, ep, hid e (notD b o es ep e d), d, r⟩
  have inB : K.In (hidT s₁.heap H) := by
    intro b o e
    refine hid (KX b o e) (free b o (KX b o e) fun z => ?_)
    by_cases y : H a = none
    · exact y
    · rw [z, own y] at e
      cases e
  obtain ⟨mc, lim1, lim2⟩ := hlim
  have e0 : Env0 P w K mg (hidT s₁.heap H) callerA [] s₁ H :=
    { frames := rfl, mod := ⟨inB, names hns, ⟨mb, names hb, hbb⟩, ⟨mc, names lim1, lim2⟩⟩, bs := fun b o e => of_hidT e, bsz := Nat.le_of_eq (hidT_size _ _), funs := trivial,
      frf := fun b z => absurd z List.not_mem_nil, hok := hok, bare := .of_eq hg }
  refine codeAny_mono (F _ inB (names hns) [] s₁ H _ [.ref a] [.ref a] _ _ hr e0 (hbind s₁ (.ref a)) (.cons rfl .nil) hsp) ?_
  intro r s' h
  match r, h with
  | .error e, h => exact (hCX H e s' h).elim
  | .ok .next, h => exact h.elim
  | .ok .brk, h => exact h.elim
  | .ok .cont, h => exact h.elim
  | .ok (.ret u), ⟨v, H', os, bare, un, hok', rv, q⟩ =>
    have q : v = .bl true := q
    rw [q] at rv
    have eu : u = Value.bool true := rv
    rw [eu]
    refine ⟨rfl, OldK.of_keep ?_, os, bare⟩
    intro b o e
    match hb2 : H b with
    | none => exact un.keep b o e hb2 List.not_mem_nil List.not_mem_nil
    | some u2 =>
      rcases hO b with z | ⟨ob, xs, z⟩
      · rw [hb2] at z
        cases z
      · have g1 := (hok b _ z).1
        have g2 := (hok' b _ (un.frzs b ob _ z)).1
        rw [e] at g1
        rw [Option.some.inj g1]
        exact g2
theorem went (KX : K.In s₁.heap) (hns : s₁.heap.Ns mainGlobals mg) (hb : s₁.heap.Ns builtinsNs mb) (hbb : ∀ x : Str, x ≠ "__name__" → mb x = bootBuiltins x)
    (hlim : s₁.heap.NoLimit) (hg : s₁.gens = #[]) (ha : s₁.heap.get? a = some { cls := .type "list", data := .seq vs.toArray }) (hi : IntsAre vs ns) (hl : ns.length ≤ sizeLine) (hr : Room k callerA)
    (F : ∀ base : Heap, K.In base → base.Ns mainGlobals mg → RunAt P w K mg base CX callerA k fa fd [x] sp) (hbind : ∀ (s : Shared) (u : Value), BindsTo s fd ⟨[u], []⟩ [(x, u)])
    (hsp : ∀ H : Hp, Only H → SqL K H a (ns.map V.int) → sp [.ref a] H (fun v _ => v = .bl true) fun _ _ _ => False)
    (hCX : ∀ H e s', CX [] H s₁ (fun _ _ _ => False) e s' → False) : Went P w fa a s₁ := by
  have rel := vals_ints hi
  have many := hi.length
  match hk : K.lookup a with
  | some o =>
    have e := KX a o hk
    rw [ha] at e
    have eo := (Option.some.inj e).symm
    rw [eo] at hk
    have hO : Only (fun _ => none) := fun _ => Or.inl rfl
    refine went_of (H := fun _ => none) KX hns hb hbb hlim hg ha hr F hbind hCX hO (hsp _ hO (Or.inr ⟨_, vs.toArray, _, hk, rfl, rfl, rfl, ?_, ?_⟩)) ?_ ?_ ?_
    · rw [List.size_toArray, many]; exact hl
    · rw [List.toList_toArray]; exact rel
    · intro b u z; exact absurd z (by intro y; cases y)
    · intro b z; exact absurd rfl z
    · intro z; exact absurd rfl z
  | none =>
    let ob : Obj := { cls := .type "list", data := .seq vs.toArray }
    let H0 : Hp := upd (fun _ => none) a (.frz ob (.lst (ns.map V.int)))
    have here : H0 a = some (.frz ob (.lst (ns.map V.int))) := upd_same
    have off : ∀ b, b ≠ a → H0 b = none := fun b n => upd_ne n
    have hO : Only H0 := fun b => by
      by_cases n : b = a
      · exact Or.inr ⟨ob, ns.map V.int, n ▸ here⟩
      · exact Or.inl (off b n)
    refine went_of (H := H0) KX hns hb hbb hlim hg ha hr F hbind hCX hO (hsp H0 hO (Or.inl (Or.inr ⟨ob, here⟩))) ?_ ?_ fun _ => hk
    · intro b u z
      by_cases n : b = a
      · rw [n, here] at z
        rw [← Option.some.inj z, n]
        exact ⟨ha, by rw [List.length_map]; exact hl, vs, _, rel, ha⟩
      · rw [off b n] at z
        cases z
    · intro b z
      by_cases n : b = a
      · exact n
      · exact absurd (off b n) z
end
/-- the goal that the head leaves, where the law's own promise may know that nothing is under way -/
theorem walk_at {l : PySem.W.OpenLaw} {n k : Nat} {q : Program} {loose : List Str} {XP : (Str → Option Value) → Heap → Prop} {YP : World → Heap → Prop} {d : DefRec} {K : Params → PySem.W.Frag} {sp : PySem.W.Frag → Sp} {x : Str}
    (hn : l.most = some n) (hn2 : n ≤ sizeLine) (hdf : d.params.defaults = []) (hr : Room k callerA) (hY : ∀ (w : World) (h : Heap), YP w h → (K w.params).In h)
    (F : ∀ (w : World) (mg : Str → Option Value) (fa : Addr) (h : Heap), (K w.params).In h → h.Ns mainGlobals mg → mg d.name = some (.ref fa) →
      ∃ fd : FuncData, (∀ (s : Shared) (u : Value), BindsTo s fd ⟨[u], []⟩ [(x, u)]) ∧ ∀ base : Heap, (K w.params).In base → base.Ns mainGlobals mg → RunAt l.prog w (K w.params) mg base CX0 callerA k fa fd [x] (sp (K w.params)))
    (hsp : ∀ (K : PySem.W.Frag) (H : Hp) (a : Addr) (ns : List Int), ns.length ≤ n → Only H → SqL K H a (ns.map V.int) → sp K [.ref a] H (fun v _ => v = .bl true) fun _ _ _ => False) :
    PySem.W.WalkO q loose XP YP l.row.toRowW d [] (fun f vs => PySem.call f vs) := by
  refine Att.attach_call hn hdf ?_
  intro w s₀ s₁ mg mb fa o pm cd doc a vs ns G Y ho hd hcd hmg hobj hints hlen hg
  obtain ⟨fd, bind, run⟩ := F w mg fa _ (hY w _ Y) G.T.g hmg
  exact went (hY w _ Y) G.T.g G.T.b G.T.builtins G.T.nolimit hg hobj hints (Nat.le_trans hlen hn2) hr run bind (fun H hO hS => hsp (K w.params) H a ns hlen hO hS) fun _ _ _ z => z
end Gd
/-! Rp -/
set_option Elab.async false
set_option linter.all false
set_option maxRecDepth 100000
set_option maxHeartbeats 4000000
/-! repr of whole numbers and of written data, where nothing is under way. -/
namespace Gd
open PySem PySem.Spec PyProof.Rows L2
section
variable {X : Cx}
theorem call_reprD (hg : X.A.guards = some []) (hu : X.A.units + 64 < cLine) : CallR X (.builtin "repr") (fun xs H Q =>
    (∃ i, xs = [.int i] ∧ i.natAbs.log2 < 1920 ∧ Q (.str (toString i)) H) ∨
    ∃ (a : Addr) (d : PyData), xs = [.ref a] ∧ Dp X.K H (.ref a) d ∧ d.showable = true ∧ d.hasDict = false ∧ d.depth < 60 ∧ d.shown.length ≤ sizeLine ∧ Q (.str d.shown) H) := by
  intro pins s σ H xs us Q I rel h
  rcases h with h | ⟨a, d, rfl, hd, hs, nd, dp, sz, q⟩
  · exact SkE.call_repr_int pins s σ H xs us Q I rel h
  · obtain ⟨u, rfl, ru⟩ := vals1 rel
    obtain ⟨as, rd⟩ := Dp.reads I d (.ref a) u hd ru
    cases ru
    refine repr_of_reads' rd hs (fun z => by rw [nd] at z; cases z) hg (by omega) (fun b o e => e) ?_ sz
    intro h' u tk keep
    exact ⟨.str d.shown, H, I.kept keep, ⟨u, rfl⟩, q⟩
end
/-- a tuple of texts -/
def texts (l : List Str) : PyData := .tuple (l.map PyData.str)
theorem dp_all {K : PySem.W.Frag} {H : Hp} : ∀ l : List Str, DpAll K H (l.map V.str) (l.map PyData.str)
  | [] => .nil
  | x :: l => .cons (.str x) (dp_all l)
theorem dp_texts {K : PySem.W.Frag} {H : Hp} {a : Addr} {l : List Str} (h : SqT K H a (l.map V.str)) : Dp K H (.ref a) (texts l) := Dp.tup h (dp_all l)
theorem strs_ok : ∀ l : List Str, PyData.showableAll (l.map PyData.str) = true ∧ PyData.hasDictAll (l.map PyData.str) = false ∧ PyData.depthAll (l.map PyData.str) ≤ 1 ∧ PyData.shownAll (l.map PyData.str) = l.map reprText
  | [] => by simp only [List.map_nil, PyData.showableAll, PyData.hasDictAll, PyData.depthAll, PyData.shownAll]; exact ⟨trivial, trivial, by decide, trivial⟩
  | x :: l => by
    obtain ⟨h1, h2, h3, h4⟩ := strs_ok l
    refine ⟨?_, ?_, ?_, ?_⟩
    · simp only [List.map_cons, PyData.showableAll, PyData.showable, h1, Bool.and_self]
    · simp only [List.map_cons, PyData.hasDictAll, PyData.hasDict, h2, Bool.or_self]
    · simp only [List.map_cons, PyData.depthAll, PyData.depth]
      omega
    · simp only [List.map_cons, PyData.shownAll, PyData.shown, h4]
theorem texts_ok (l : List Str) : (texts l).showable = true ∧ (texts l).hasDict = false ∧ (texts l).depth < 60 ∧ (texts l).shown = tupleText (l.map reprText) := by
  obtain ⟨h1, h2, h3, h4⟩ := strs_ok l
  unfold texts
  refine ⟨?_, ?_, ?_, ?_⟩
  · simp only [PyData.showable, h1]
  · simp only [PyData.hasDict, h2]
  · simp only [PyData.depth]
    omega
  · simp only [PyData.shown, h4]
theorem cost_le : ∀ (l : List Str), (∀ y ∈ l, y.length ≤ 10) → fmtCost l ≤ 104 * l.length
  | [], _ => Nat.zero_le _
  | y :: l, h => by
    have h1 := h y List.mem_cons_self
    have h2 := cost_le l fun z hz => h z (List.mem_cons_of_mem _ hz)
    rw [fmtCost_cons, List.length_cons]
    omega
theorem texts_len (l : List Str) (hc : ∀ y ∈ l, ∀ c ∈ y.cps.toList, c < 16 ^ 8) (h : ∀ y ∈ l, y.length ≤ 10) (hl : l.length ≤ 100) : (texts l).shown.length ≤ sizeLine := by
  rw [(texts_ok l).2.2.2]
  have h1 := fmt_text (l.map reprText)
  have h2 := fmt_piled l hc
  have h3 := cost_le l h
  have h4 : (100000 : Nat) ≤ sizeLine := by decide
  omega
end Gd
/-! Bw5 -/
set_option Elab.async false
set_option linter.all false
set_option maxRecDepth 100000
set_option maxHeartbeats 4000000
namespace Pg
open PySem L2 Mr StX
abbrev sLen : Stmt := inClass cl_Book 2
abbrev sEqB : Stmt := inClass cl_Book 3
abbrev sStr : Stmt := inClass cl_Book 4
/-- texts of plain signs -/
def Asc (l : List Cs) : Prop := ∀ z ∈ l, ∀ c ∈ z, c < 128
def dT (l : List Cs) : PyData := .tuple (l.map fun c => .str (S c))
def dL (l : List Cs) : PyData := .list (l.map fun c => .str (S c))
theorem dpA_txs {K : PySem.W.Frag} {H : Hp} : ∀ l : List Cs, DpAll K H (l.map tv) (l.map fun c => PyData.str (S c))
  | [] => .nil
  | x :: l => .cons (.str (S x)) (dpA_txs l)
theorem dp_T {K : PySem.W.Frag} {H : Hp} {a : Addr} {l : List Cs} (h : SqT K H a (l.map tv)) : L2.Dp K H (.ref a) (dT l) := .tup h (dpA_txs l)
theorem dp_L {K : PySem.W.Frag} {H : Hp} {a : Addr} {l : List Cs} (h : SqL K H a (l.map tv)) : L2.Dp K H (.ref a) (dL l) := .lst h (dpA_txs l)
theorem strOk_of {z : Cs} (h : ∀ c ∈ z, c < 128) : PyData.strOk (S z) = true := by
  unfold PyData.strOk
  rw [Array.all_eq_true']
  intro c hc
  have : c ∈ z := by
    have : c ∈ (S z).cps.toList := by simpa using hc
    simpa [S] using this
  have := h c this
  simp
  omega
theorem lay_txs : ∀ {l : List Cs}, Asc l → PyData.canLayAll0 (l.map fun c => PyData.str (S c)) = true ∧ PyData.depthAll (l.map fun c => PyData.str (S c)) ≤ 1
  | [], _ => ⟨by simp only [List.map_nil, PyData.canLayAll0], by simp only [List.map_nil, PyData.depthAll]; decide⟩
  | x :: l, h => by
    obtain ⟨h1, h2⟩ := lay_txs (l := l) fun z m => h z (List.mem_cons_of_mem _ m)
    refine ⟨?_, ?_⟩
    · rw [List.map_cons, PyData.canLayAll0, PyData.canLay0, strOk_of (h x List.mem_cons_self), h1]
      rfl
    · rw [List.map_cons, PyData.depthAll, PyData.depth]
      omega
theorem shaped_T {l : List Cs} (h : Asc l) : SeqAt.shaped (dT l) = true := by
  obtain ⟨h1, h2⟩ := lay_txs h
  unfold SeqAt.shaped dT
  rw [PyData.canLay0, h1, PyData.depth]
  simp
  omega
theorem shaped_L {l : List Cs} (h : Asc l) : SeqAt.shaped (dL l) = true := by
  obtain ⟨h1, h2⟩ := lay_txs h
  unfold SeqAt.shaped dL
  rw [PyData.canLay0, h1, PyData.depth]
  simp
  omega
theorem eqvA_txs : ∀ l m : List Cs, PyData.eqvAll (l.map fun c => PyData.str (S c)) (m.map fun c => PyData.str (S c)) = decide (l = m)
  | [], [] => by simp [PyData.eqvAll]
  | [], _ :: _ => by simp [PyData.eqvAll]
  | _ :: _, [] => by simp [PyData.eqvAll]
  | x :: l, y :: m => by
    rw [List.map_cons, List.map_cons, PyData.eqvAll, PyData.eqv, eqvA_txs l m]
    have : (S x == S y) = decide (x = y) := by
      rw [Bool.eq_iff_iff]
      simp [S_inj]
    rw [this]
    simp
theorem eqv_T (l m : List Cs) : PyData.eqv (dT l) (dT m) = decide (l = m) := by unfold dT; rw [PyData.eqv, eqvA_txs]
theorem eqv_L (l m : List Cs) : PyData.eqv (dL l) (dL m) = decide (l = m) := by unfold dL; rw [PyData.eqv, eqvA_txs]
/-- the text of a book -/
def bookStr (ns zs : List Cs) : Str := Txt.join "\n" (Txt.join " " ("names" :: ns.map S) :: zs.map S)
theorem sum_le {l : List Str} {n : Nat} (h : ∀ x ∈ l, x.length ≤ n) : (l.map (·.length)).sum ≤ l.length * n := by
  induction l with
  | nil => simp
  | cons a l ih =>
    have i1 := ih fun t ht => h t (List.mem_cons_of_mem _ ht)
    have i2 := h a List.mem_cons_self
    rw [List.map_cons, List.sum_cons, List.length_cons, Nat.add_mul]
    omega
section
variable {P : Program} {w : World} {K : PySem.W.Frag} {mg : Str → Option Value} {base : Heap} {pS pC C cD : Addr}
/-! ### __len__ -/
def spLen (K : PySem.W.Frag) (C : Addr) : Sp := fun vs H Q _ => ∃ (b : Addr) (ns zs : List Cs) (ps : List Prt), vs = [.ref b] ∧ BookAt K C H b ns zs ps ∧ Q (.int zs.length) H
theorem sc_len : FnScope ["self"] ["self"] (defScope sLen) := ⟨rfl, rfl, rfl, by decide +kernel, rfl, by decide +kernel, by decide +kernel⟩
theorem ok_len {f : Addr} {fd : FuncData} (F : Fun K "__len__" "Book.__len__" sLen f fd) (L : Lx mg) (B : BkC K mg C) : FnOk P w K mg base CX0 1 f fd ["self"] (spLen K C) := by
  refine F.ok sc_len (fun vs H Q E h => ?_) (fun cdv A outer s H vs Q E hr h => ?_)
  · obtain ⟨b, ns, zs, ps, rfl, _⟩ := h
    rfl
  obtain ⟨b, ns, zs, ps, rfl, ⟨dx, n, d, p, pas, hb, hn, hd, hp, hP⟩, q⟩ := h
  refine ⟨_, pss_one (ps_ret (pe_callB call_len_seq (by rfl) L.len PySem.boot_len (pa_cons (pe_fld (pv 0) rfl) pa_nil))), ?_⟩
  refine ⟨_, rfl, b, C, dx, _, _, rfl, hb, B.cl, B.n2, (flds_get n d p).2.1, d, _, rfl, .inr hd, ?_⟩
  rw [List.length_map]
  exact q
/-! ### __eq__ -/
def spEqB (K : PySem.W.Frag) (C : Addr) : Sp := fun vs H Q _ => ∃ (a : Addr) (v : V) (ns zs : List Cs) (ps : List Prt), vs = [.ref a, v] ∧ BookAt K C H a ns zs ps ∧ Asc ns ∧ Asc zs ∧
  ((∃ (b : Addr) (ns' zs' : List Cs) (ps' : List Prt), v = .ref b ∧ BookAt K C H b ns' zs' ps' ∧ Asc ns' ∧ Asc zs' ∧ Q (.bl (decide (ns = ns' ∧ zs = zs'))) H) ∨ (((∃ t, v = .str t) ∨ ∃ i, v = .int i) ∧ Q (.bl false) H))
theorem sc_eqB : FnScope ["self", "other"] ["self", "other"] (defScope sEqB) := ⟨rfl, rfl, rfl, by decide +kernel, rfl, by decide +kernel, by decide +kernel⟩
theorem ok_eqB {f : Addr} {fd : FuncData} (F : Fun K "__eq__" "Book.__eq__" sEqB f fd) (isi : mg "isinstance" = none) (B : BkC K mg C) (hty : ∀ (H : Hp) (a dx : Addr) (fs : List (Str × V)), H a = some (.ins C dx fs) → TyX K H (.ref a) (.ref C)) (self_ : PySem.W.kitOne K (.ref C) (.ref C) = some true)
    (kS : PySem.W.kitOne K (.type "str") (.ref C) = some false) (kI : PySem.W.kitOne K (.type "int") (.ref C) = some false) :
    FnOk P w K mg base CX0 1 f fd ["self", "other"] (spEqB K C) := by
  refine F.ok sc_eqB (fun vs H Q E h => ?_) (fun cdv A outer s H vs Q E hr h => ?_)
  · obtain ⟨a, v, ns, zs, ps, rfl, _⟩ := h
    rfl
  obtain ⟨a, v, ns, zs, ps, rfl, ⟨dx, n, d, p, pas, ha, hn, hd, _, _⟩, hA1, hA2, h⟩ := h
  refine ⟨_, pss_one (ps_ret (pe_and (pe_callB call_isi (by rfl) isi (by decide +kernel) (pa_cons (pv 1) (pa_cons (pe_glob (v := .ref C) (by rfl) B.mB rfl) pa_nil))) (pe_and (pe_cmpR (op_eqD hr.units) (pe_fld (pv 0) rfl) (pe_fld (pv 1) rfl) (nomark _)) (pe_one (pe_cmpR (op_eqD hr.units) (pe_fld (pv 0) rfl) (pe_fld (pv 1) rfl) (nomark _)))))), ?_⟩
  rcases h with ⟨b, ns', zs', ps', rfl, ⟨dx', n', d', p', pas', hb, hn', hd', _, _⟩, hB1, hB2, q⟩ | ⟨hv, q⟩
  · refine ⟨_, rfl, _, _, _, _, true, rfl, .own C, hty _ _ _ _ hb, self_, _, rfl, iteT ?_⟩
    refine ⟨_, rfl, a, C, dx, _, _, rfl, ha, B.cl, B.n1, (flds_get n d p).1, _, rfl, b, C, dx', _, _, rfl, hb, B.cl, B.n1, (flds_get n' d' p').1, _, _, dp_T hn, dp_T hn', shaped_T hA1, shaped_T hB1, _, rfl, ?_⟩
    rw [eqv_T]
    by_cases e : ns = ns'
    · rw [decide_eq_true e]
      refine iteT ⟨_, rfl, a, C, dx, _, _, rfl, ha, B.cl, B.n2, (flds_get n d p).2.1, _, rfl, b, C, dx', _, _, rfl, hb, B.cl, B.n2, (flds_get n' d' p').2.1, _, _, dp_T hd, dp_T hd', shaped_T hA2, shaped_T hB2, ?_⟩
      rw [eqv_T]
      rw [show decide (ns = ns' ∧ zs = zs') = decide (zs = zs') by simp [e]] at q
      exact q
    · rw [decide_eq_false e]
      rw [decide_eq_false (fun z => e z.1)] at q
      exact iteF q
  · rcases hv with ⟨t, rfl⟩ | ⟨i, rfl⟩
    · exact ⟨_, rfl, _, _, _, _, false, rfl, .own C, .base (.str t), kS, _, rfl, iteF q⟩
    · exact ⟨_, rfl, _, _, _, _, false, rfl, .own C, .base (.int i), kI, _, rfl, iteF q⟩
/-! ### __str__ -/
def spStr (K : PySem.W.Frag) (C : Addr) : Sp := fun vs H Q _ => ∃ (b : Addr) (ns zs : List Cs) (ps : List Prt), vs = [.ref b] ∧ BookAt K C H b ns zs ps ∧ ns.length ≤ 50 ∧ (∀ s ∈ ns, s.length ≤ 4) ∧ zs.length ≤ 50 ∧ (∀ z ∈ zs, z.length ≤ 100000) ∧ ∀ H', Same H H' → Q (.str (bookStr ns zs)) H'
theorem sc_str : FnScope ["self", "lines"] ["self"] (defScope sStr) := ⟨rfl, rfl, rfl, by decide +kernel, rfl, by decide +kernel, by decide +kernel⟩
theorem ok_str {f : Addr} {fd : FuncData} (F : Fun K "__str__" "Book.__str__" sStr f fd) (B : BkC K mg C) : FnOk P w K mg base CX0 1 f fd ["self"] (spStr K C) := by
  refine F.ok sc_str (fun vs H Q E h => ?_) (fun cdv A outer s H vs Q E hr h => ?_)
  · obtain ⟨b, ns, zs, ps, rfl, _⟩ := h
    rfl
  obtain ⟨b, ns, zs, ps, rfl, ⟨dx, n, d, p, pas, hb, hn, hd, hp, hP⟩, l9, n4, l50, z5, q⟩ := h
  have nd := sc_str.nd
  refine ⟨_, pss_cons (ps_set (i := 1) nd rfl (.inl rfl) (pe_lst (pa_cons (pe_join pe_str (pe_lst (pa_cons pe_str (pa_star (pe_fld (pv 0) rfl) pa_nil)))) (pa_star (pe_fld (pv 0) rfl) pa_nil))))
    (pss_one (ps_ret (pe_join pe_str (pv 1)))), ?_⟩
  refine ⟨⟨_, rfl⟩, _, rfl, b, C, dx, _, _, rfl, hb, B.cl, B.n1, (flds_get n d p).1, n, ns.map tv, rfl, .inl hn, ?_, fun p1 m1 => ?_⟩
  · rw [List.append_nil, List.length_cons, List.length_map]
    show _ ≤ 16777216
    omega
  have s1 := same_new m1 (.lst (V.str ("names" : Str) :: (ns.map tv ++ [])))
  have nm4 : ∀ x ∈ ("names" : Str) :: ns.map S, x.length ≤ 5 := fun x m => by
    rcases List.mem_cons.mp m with rfl | m
    · decide +kernel
    · obtain ⟨y, hy, rfl⟩ := List.mem_map.mp m
      rw [len_S]
      have := n4 y hy
      omega
  have ln : (("names" : Str) :: ns.map S).length ≤ 51 := by rw [List.length_cons, List.length_map]; omega
  have sm := sum_le nm4
  have e1 : (" " : Str).length = 1 := by decide +kernel
  have e2 : ("\n" : Str).length = 1 := by decide +kernel
  refine ⟨_, p1, ("names" : Str) :: ns.map S, rfl, rfl, .inl (SqL.of ?_), ?_, ?_⟩
  · rw [upd_same, List.append_nil, List.map_cons, List.map_map]
    rfl
  · rw [e1]
    omega
  generalize upd H p1 (.lst (V.str ("names" : Str) :: (ns.map tv ++ []))) = H1 at s1
  have lj := StrLaws.join_length_le " " (("names" : Str) :: ns.map S)
  rw [← StrLaws.glued_eq_join, e1] at lj
  have lj2 : (Txt.join " " (("names" : Str) :: ns.map S)).length ≤ 400 := by
    show (Builtin.Str.glued _ _).length ≤ _
    omega
  refine ⟨_, rfl, b, C, dx, _, _, rfl, s1 _ _ hb, B.cl, B.n2, (flds_get n d p).2.1, d, zs.map tv, rfl, .inl (Same.tup s1 hd), ?_, fun p2 m2 => ?_⟩
  · rw [List.append_nil, List.length_cons, List.length_map]
    show _ ≤ 16777216
    omega
  have s2 := same_new m2 (.lst (V.str (Txt.join " " (("names" : Str) :: ns.map S)) :: (zs.map tv ++ [])))
  have zm : ∀ x ∈ Txt.join " " (("names" : Str) :: ns.map S) :: zs.map S, x.length ≤ 100000 := fun x m => by
    rcases List.mem_cons.mp m with rfl | m
    · omega
    · obtain ⟨y, hy, rfl⟩ := List.mem_map.mp m
      rw [len_S]
      exact z5 y hy
  have sz := sum_le zm
  have lz : (Txt.join " " (("names" : Str) :: ns.map S) :: zs.map S).length ≤ 51 := by rw [List.length_cons, List.length_map]; omega
  refine ⟨⟨_, rfl⟩, _, rfl, _, p2, Txt.join " " (("names" : Str) :: ns.map S) :: zs.map S, rfl, rfl, .inl (SqL.of ?_), ?_, ?_⟩
  · rw [upd_same, List.append_nil, List.map_cons, List.map_map]
    rfl
  · rw [e2]
    omega
  · exact q _ (s1.trans s2)
end
end Pg
/-! En -/
set_option Elab.async false
set_option linter.all false
set_option maxRecDepth 100000
set_option maxHeartbeats 2000000
/-! enumerate of a tuple; of a list or a tuple. -/
namespace En
open PySem PySem.Spec PyProof.Rows L2
theorem new_meets (l : Addr) (items : Array Value) (ol : Obj) (n : Nat) (hc : ol.cls = .type "tuple") (hd : ol.data = .seq items n) :
    Meets (Builtin.«enumerate.__new__» ⟨[.type "enumerate", .ref l], []⟩) (fun _ R s => s.heap.get? l = some ol ∧
      R (.ok (.ret (.ref (s.heap.push { cls := .type "tuple_iterator", data := .fields #[.ref l, .int 0 0] }).objs.size)))
        { s with heap := (s.heap.push { cls := .type "tuple_iterator", data := .fields #[.ref l, .int 0 0] }).push { cls := .type "enumerate", data := .fields #[.none, .bool false, .ref s.heap.objs.size, rawInt 0, .none, .none] } }) :=
  .of_wp fun prog w A R s h => by
    obtain ⟨hp, g, d, tk, os⟩ := s
    obtain ⟨gl, r⟩ := h
    have hsub := sub_enumerate
    have hT : Heap.IsTuple (Shared.heap ⟨hp, g, d, tk, os⟩) l items := ⟨_, gl, hc, n, hd⟩
    obtain ⟨oc, od, oda, osl⟩ := ol
    dsimp only at hc hd
    subst hc hd
    wp_walk using AutoSeq1.wpAny_loadPart' gl
    refine wpAny_stack_any fun st => wpAny_pure ?_
    split
    · rename_i c _ _ _ _ _
      cases (c == Value.type "enumerate") <;> · wp_walk using AutoSeq1.wpAny_loadPart' gl, wpAny_pyIter_tuple hT
                                                exact ⟨_, rfl, r⟩
    · wp_walk using AutoSeq1.wpAny_loadPart' gl, wpAny_pyIter_tuple hT
      exact ⟨_, rfl, r⟩
section
variable {prog : Program} {w : World} {A : Around} {E : Value → Shared → Prop} {s : Shared}
theorem call_enum {l : Addr} {items : Array Value} {Q : Value → Shared → Prop} (hT : s.heap.IsTuple l items)
    (q : ∀ g, IsEnum g (s.heap.objs.size + 1) s.heap.objs.size 0 .none → g.IsTupleIter s.heap.objs.size l 0 → (∀ b o, s.heap.get? b = some o → g.get? b = some o) → Q (.ref (s.heap.objs.size + 1)) { s with heap := g }) :
    wpAny (model prog w) A (call (.type "enumerate") [.ref l]) Q E s := by
  obtain ⟨ol, gl, hc, n, hd⟩ := id hT
  refine callType_new F.called_enumerate (by decide) (F.typeCall_enumerate_1 _) (F.newCall_enumerate_1 _) (fun ob => F.args_object_init_2 ob _) F.entry_enumerate_new (new_meets l items ol n hc hd) ⟨gl, ?_⟩
  have z1 : (s.heap.push { cls := .type "tuple_iterator", data := .fields #[.ref l, .int 0 0] }).objs.size = s.heap.objs.size + 1 := Heap.size_push ..
  have e1 : ((s.heap.push { cls := .type "tuple_iterator", data := .fields #[.ref l, .int 0 0] }).push { cls := .type "enumerate", data := .fields #[.none, .bool false, .ref s.heap.objs.size, rawInt 0, .none, .none] }).get? (s.heap.push { cls := .type "tuple_iterator", data := .fields #[.ref l, .int 0 0] }).objs.size = some { cls := .type "enumerate", data := .fields #[.none, .bool false, .ref s.heap.objs.size, rawInt 0, .none, .none] } := Heap.get?_push_size _ rfl
  rw [z1] at e1
  show _ ∧ _
  rw [z1]
  exact ⟨⟨_, e1, rfl⟩, q _ e1 ⟨_, Heap.get?_push_of_some _ (Heap.get?_push_size _ rfl), rfl, rfl⟩ fun b o e => Heap.get?_push_of_some _ (Heap.get?_push_of_some _ e)⟩
end
section
variable {prog : Program} {w : World} {A : Around} {E : Value → Shared → Prop} {s : Shared}
theorem next_end {e it l : Addr} {k : Nat} {i : Int} {items : Array Value} {old : Value} {Q : Option Value → Shared → Prop} (hA : A.in1.handled = none) (g1 : IsEnum s.heap e it i old) (g2 : s.heap.IsTupleIter it l k) (g3 : s.heap.IsTuple l items) (ex : items[k]? = none)
    (q : ∀ g, Heap.ExtBut it s.heap g → Q none { s with heap := g }) : wpAny (model prog w) A (pyNext (.ref e)) Q E s := by
  have ty : s.TypeIs (.ref e) "enumerate" := ⟨_, g1, rfl⟩
  unfold pyNext
  refine wpAny_bind (wpAny_attempt (wpAny_callSpecial?_slot (name := Str.ofString "__next__") ty F.slot_enumerate_next (wpAny_call_entry F.slot_enumerate_next ty F.entry_enumerate_next ?_ (F.args_enumerate_next_1 _))))
  show wpAny _ _ (field (.ref e) 2 >>= _) _ _ _
  refine wpAny_bind (wpAny_field g1 rfl (x := .ref it) rfl ?_)
  refine wpAny_bind (RZ.nextOf_tuple_end hA g2 g3 ex fun g v eb hv => ?_)
  obtain ⟨o, ho, hc⟩ := hv
  exact wpAny_bind (wpAny_isInstance (T := "StopIteration") (b := true) ⟨o, ho, hc⟩ isSubtype_stop (wpAny_pure (q g eb)))
end
/-- the tuple at a, each item in a new pair with its place -/
def Itt (K : PySem.W.Frag) (a : Addr) : L2.It :=
  ⟨fun i H => ∃ (xs : List V) (x : V), SqT K H a xs ∧ xs[i]? = some x, fun i H v H' => ∃ T x, v = .ref T ∧ H T = none ∧ H' = upd H T (.tup [.int (i : Nat), x]) ∧ ∀ xs, SqT K H a xs → xs[i]? = some x, fun i H => ∃ xs : List V, SqT K H a xs ∧ xs.length ≤ i⟩
theorem turn {P : Program} {w : World} {K : PySem.W.Frag} {elts : List Expr} {kk : Nat} {tpos : Pos} (a e it : Addr) :
    L2.Turn P w K (.Tuple elts kk tpos) (Itt K a) [e, it] e (fun i h => (∃ old, IsEnum h e it ((i : Nat) : Int) old) ∧ h.IsTupleIter it a i ∧ e ≠ it ∧ a ≠ it ∧ a ≠ e) where
  mem := by simp
  obj := fun i h st b hb => by
    obtain ⟨⟨old, g1⟩, ⟨o, g2, _, g3⟩, _⟩ := st
    have : b = e ∨ b = it := by simpa using hb
    rcases this with z | z
    · rw [z]; exact ⟨_, g1, fun v q => nomatch q⟩
    · rw [z]; exact ⟨o, g2, fun v q => by rw [g3] at q; cases q⟩
  keep := fun i h g st k => by
    obtain ⟨⟨old, g1⟩, g2, n⟩ := st
    exact ⟨⟨old, k e (by simp) _ g1⟩, g2.at fun o q => k it (by simp) o q, n⟩
  item := by
    intro X hP hw hK hc i pins s σ H E I hf st hg
    subst hP hw hK
    obtain ⟨⟨old, g1⟩, g2, ne, na, nae⟩ := st
    obtain ⟨xs, x, hq, hx⟩ := hg
    obtain ⟨its, rv, p, hz⟩ := I.tuple hq
    obtain ⟨u, hu, ru⟩ := rv.get hx
    have hit : i < its.toArray.size := by
      have := (List.getElem?_eq_some_iff.mp hu).1
      simpa using this
    have el : e < s.heap.objs.size := Heap.lt_size g1
    have il : it < s.heap.objs.size := by obtain ⟨_, q, _⟩ := g2; exact Heap.lt_size q
    refine wpAny_pyNext_enum_itemD (Draws.tuple (show X.A.in1.handled = none from I.ok.hd hc) it a na its.toArray) g1 ⟨g2, p⟩ hit ne (by simp [ne, nae.symm]) fun y g tk hy b1 b2 b3 b4 b5 => ?_
    have ey : y = u := by
      have hy : its.toArray[i]? = some y := hy
      have : its[i]? = some y := by simpa using hy
      rw [hu] at this
      exact (Option.some.inj this).symm
    subst ey
    refine ⟨_, rfl, wpAny_letOwnedTupleGo_enum (s := { s with heap := g, toks := tk + 1 }) b1 fun g' b1' sb => ?_⟩
    have kp : ∀ b ob, b ∉ [e, it] → s.heap.get? b = some ob → g'.get? b = some ob := fun b ob nb q => (sb.2 b (fun z => nb (by simp [z]))).trans (b5 b ob (fun z => nb (by simp [z])) (fun z => nb (by simp [z])) q)
    have hT2 : g'.get? s.heap.objs.size = some { cls := .type "tuple", data := .seq #[.int i tk, y] } := (sb.2 _ (Nat.ne_of_gt el)).trans b3
    have new : ObjOk X.prog X.w (upd H s.heap.objs.size (.tup [.int (i : Nat), x])) g' s.heap.objs.size (.tup [.int (i : Nat), x]) :=
      ⟨by show 2 ≤ sizeLine; decide, [.int i tk, y], .cons ⟨_, rfl⟩ (.cons ru .nil), ⟨_, hT2, rfl, _, rfl⟩⟩
    have I1 : Inv X pins σ (upd H s.heap.objs.size (.tup [.int (i : Nat), x])) { s with heap := g', toks := tk + 1 } := I.turnedNew (ch := [e, it]) kp hf (Nat.le_refl _) new
    refine ⟨.ref s.heap.objs.size, _, I1, rfl, ⟨_, x, rfl, I.hok.fresh (Nat.le_refl _), rfl, fun ys hy => by rw [I.tuple_inj hy hq]; exact hx⟩, ⟨⟨y, ?_⟩, b2.1.at fun o q => (sb.2 it (Ne.symm ne)).trans q, ne, na, nae⟩, fun b hb => ?_⟩
    · rw [show ((i + 1 : Nat) : Int) = (i : Int) + 1 by omega]
      exact b1'
    · have lb : b < s.heap.objs.size := by
        have : b = e ∨ b = it := by simpa using hb
        rcases this with z | z
        · exact z ▸ el
        · exact z ▸ il
      rw [upd_ne (Nat.ne_of_lt lb)]
      exact (hf b hb).1
  done := by
    intro X hP hw hK hc i pins s σ H E I hf st hg
    subst hP hw hK
    obtain ⟨⟨old, g1⟩, g2, ne, na, nae⟩ := st
    obtain ⟨xs, hq, hx⟩ := hg
    obtain ⟨its, rv, p, hz⟩ := I.tuple hq
    obtain ⟨f0, f1, f2, f3, f4, f5⟩ := hf it (by simp)
    have hl := rv.length
    exact next_end (I.ok.hd hc) g1 g2 p (by simp; omega) fun g eb => ⟨rfl, I.turned (t' := s.toks) (fun b o hb q => eb b o hb q) f0 f1 f3 f4 f5⟩
  self := fun A i s Q E st q => let ⟨⟨_, g1⟩, _⟩ := st; wpAny_pyIter_enum g1 q
def EnA (K : PySem.W.Frag) (a : Addr) (xs : List V) (R : L2.It → Hp → Prop) (H : Hp) : Prop := (SqL K H a xs ∧ R (Ite K a) H) ∨ (SqT K H a xs ∧ R (Itt K a) H)
def iEnumA (K : PySem.W.Frag) (ta : TA) : TI := fun σ H R => ta σ H fun vs H1 => ∃ a xs, vs = [.ref a] ∧ EnA K a xs R H1
theorem pi_enumA {X : Cx} {e : Expr} {ta : TA} {p pos tpos : Pos} {elts : List Expr} {kk : Nat} (hg : Gl X "enumerate") (hm : X.mg "enumerate" = none) (ha : PA X [e] ta) (hs : starEach [e] X.env = [(false, eval e X.env)] := by rfl) :
    PI X (.Tuple elts kk tpos) (.Call (.Name "enumerate" p) [e] [] pos) (iEnumA X.K ta) := by
  refine ⟨fun pins s σ H R I h => ?_⟩
  refine Call_ (ld_blt I hg hm boot_enumerate (PyProof.Rows.callWith_type1 (thn (ha.run pos pins s σ H _ I h) fun us s1 ⟨vs, H1, I1, r1, q1⟩ => ?_) hs rfl))
  obtain ⟨a, xs, rfl, q⟩ := q1
  obtain ⟨u, rfl, r⟩ := vals1 r1
  cases r
  have fresh : ∀ b, b ∈ [s1.heap.objs.size + 1, s1.heap.objs.size] → FpOk X pins H1 b := fun b hb => by
    have le : s1.heap.objs.size ≤ b := by
      have : b = s1.heap.objs.size + 1 ∨ b = s1.heap.objs.size := by simpa using hb
      rcases this with z | z <;> rw [z]
      · exact Nat.le_add_right _ _
      · exact Nat.le_refl _
    exact I1.fpOk le (I1.hok.fresh le)
  rcases q with ⟨hq, q⟩ | ⟨hq, q⟩
  · obtain ⟨its, rv, p', hz⟩ := I1.list hq
    refine call_enumerate_list p'.isList fun g g1 g2 _ kp => wpAny_pyIter_enum g1 ?_
    exact ⟨s1.heap.objs.size + 1, [s1.heap.objs.size + 1, s1.heap.objs.size], _, _, H1, rfl, I1.kept (t' := s1.toks) kp, turn_enum a (s1.heap.objs.size + 1) s1.heap.objs.size, ⟨⟨.none, g1⟩, g2, Nat.succ_ne_self _⟩, fresh, q⟩
  · obtain ⟨its, rv, p', hz⟩ := I1.tuple hq
    have la : a < s1.heap.objs.size := let ⟨_, e, _⟩ := p'; Heap.lt_size e
    refine call_enum p' fun g g1 g2 kp => wpAny_pyIter_enum g1 ?_
    exact ⟨s1.heap.objs.size + 1, [s1.heap.objs.size + 1, s1.heap.objs.size], _, _, H1, rfl, I1.kept (t' := s1.toks) kp, turn a (s1.heap.objs.size + 1) s1.heap.objs.size, ⟨⟨.none, g1⟩, g2, Nat.succ_ne_self _, Nat.ne_of_lt la, Nat.ne_of_lt (Nat.lt_succ_of_lt la)⟩, fresh, q⟩
theorem walk_enumT {K : PySem.W.Frag} {a : Addr} {xs : List V} : Walk (Itt K a) xs.length (fun H => SqT K H a xs) (YPair (fun i => some (.int (i : Nat))) (fun i => xs[i]?)) := by
  refine ⟨fun i _ hi q => ⟨xs, xs[i], q, by simp [hi]⟩, fun _ q => ⟨xs, q, Nat.le_refl _⟩, fun i H v H' _ q y => ?_⟩
  obtain ⟨T, x, h1, h2, h3, h4⟩ := y
  exact ⟨T, .int (i : Nat), x, h1, h2, h3, rfl, h4 xs q⟩
end En
/-! Ru -/
set_option Elab.async false
set_option linter.all false
set_option maxRecDepth 100000
set_option maxHeartbeats 2000000
/-! a first and the rest as targets; enumerate from a start; a class made that stands in a name; a classmethod. -/
namespace Ru
open PySem PySem.Spec PyProof.Rows L2
section
variable {X : Cx}
theorem pgs_star {e : Expr} {es : List Expr} {sp : Pos} {t : TG} {u : TGs} (h1 : PG X e t) (h2 : PGs X es u)
    (hs : (assignEach (.Starred e sp :: es) X.env).map (·.2) = assign e X.env :: (assignEach es X.env).map (·.2) := by rfl) : PGs X (.Starred e sp :: es) (gCons t u) := ⟨by
  rintro pins s σ H vs us Q I r ⟨v, vr, rfl, h⟩
  obtain ⟨y, ys, rfl, ry, rr⟩ : ∃ y ys, us = y :: ys ∧ RelV v y ∧ Vals vr ys := by
    cases r with
    | cons a b => exact ⟨_, _, rfl, a, b⟩
  rw [hs]
  exact assignInOrder_cons (thn (h1.run pins s σ H _ _ _ I ry h) fun _ s1 z => let ⟨σ1, H1, I1, q1⟩ := z; h2.run pins s1 σ1 H1 _ _ Q I1 rr q1)⟩
/-- a, *b = a list that is not empty -/
def gHead (K : PySem.W.Frag) (t : TGs) : TG := fun v σ H Q => ∃ a x xs, v = .ref a ∧ SqL K H a (x :: xs) ∧ xs.length < 16000 ∧ ∀ p, H p = none → t [x, .ref p] σ (upd H p (.lst xs)) Q
theorem unpack_head {w : World} {prog : Program} {A : Around} {E : Value → Shared → Prop} {s : Shared} {l : Addr} {y : Value} {ys : List Value} {Q : List Value → Shared → Prop} (hh : A.handled = none) (hl : s.heap.IsList l (y :: ys).toArray) (hz : ys.length < 16000)
    (h : ∀ (h' : Heap) (tk : Nat), (∀ b o, s.heap.get? b = some o → h'.get? b = some o) → Q [y, .ref h'.objs.size] { s with heap := h'.push { cls := .type "list", data := .seq ys.toArray }, toks := tk }) :
    wpAny (model prog w) A (unpackItems (.ref l) 2 (some 1)) Q E s := by
  have hlt : l < s.heap.objs.size := let ⟨_, e, _⟩ := hl; Heap.lt_size e
  have hne : l ≠ s.heap.objs.size := Nat.ne_of_lt hlt
  unfold unpackItems notIterableAtAll
  refine wpAny_bind (wpAny_bind (wpAny_specialOf hl.typeIs slot_list_iter.lookup (wpAny_pure ?_)))
  rw [if_neg (by decide)]
  refine wpAny_bind (wpAny_holding (wpAny_pyIter_list hl ?_))
  refine wpAny_bind (wpAny_holding (PySem.W.kun_draw hne 1 0 _ _ ⟨_, Heap.get?_push_size _ rfl, rfl, rfl⟩ (hl.push _) (by simp) fun h1 i1 s1 => ?_))
  have l1 : h1.IsList l (y :: ys).toArray := (hl.push _).extBut s1.extBut hne
  obtain ⟨oi, hoi, _⟩ := id i1
  obtain ⟨ol, hol, _⟩ := id l1
  show wpAny _ _ (if ((([y] : List Value)).length < 1) then _ else _) _ _ _
  rw [if_neg (show ¬ (([y] : List Value).length < 1) from Nat.lt_irrefl 1)]
  refine wpAny_bind (wpAny_holding (PySem.W.kun_collect (s := { s with heap := h1 }) (T := "list_iterator") (.inr (.inr (.inl rfl))) (Walks.list (A := A.in1) hh s.heap.objs.size l hne _) (fun j u st => st.1.typeIs) (k := 1) (by simp) ⟨i1, l1⟩ (Heap.lt_size hoi) (Heap.lt_size hol) (fun h2 tk hk => ?_) (by rw [sizeLine_eq]; simp; omega)))
  show wpAny _ _ (if (ys.length < 0) then _ else _) _ _ _
  rw [if_neg (Nat.not_lt_zero _)]
  show wpAny _ _ (newList (ys.take (ys.length - 0)) >>= fun d => pure ([y] ++ [d] ++ ys.drop (ys.length - 0))) _ _ _
  rw [Nat.sub_zero, List.take_length, List.drop_length]
  exact wpAny_bind (wpAny_newList (wpAny_pure (h h2 tk fun b o e => hk b o (Nat.ne_of_lt (Heap.lt_size e)) (s1.extBut b o (Nat.ne_of_lt (Heap.lt_size e)) (Heap.get?_push_of_some _ e)))) (by rw [sizeLine_eq]; omega))
theorem pg_head {es : List Expr} {k : Nat} {pos : Pos} {t : TGs} (hc : X.calm = true) (h : PGs X es t) (hn : (assignEach es X.env).length = 2 := by rfl) (hst : (assignEach es X.env).findIdx? (·.1) = some 1 := by rfl) : PG X (.Tuple es k pos) (gHead X.K t) := ⟨by
  rintro pins s σ H v u Q I r ⟨a, x, xs, rfl, hq, hl, hw⟩
  cases r
  obtain ⟨its, rv, pl, hz⟩ := I.list hq
  obtain ⟨y, ys, rfl, ry, rr⟩ : ∃ y ys, its = y :: ys ∧ RelV x y ∧ Vals xs ys := by
    cases rv with
    | cons a b => exact ⟨_, _, rfl, a, b⟩
  have lh := rr.length
  have hL : s.heap.IsList a (y :: ys).toArray := by
    obtain ⟨o, m, e, c, d, q⟩ := pl
    exact ⟨o, e, c, m, q⟩
  rw [PyProof.Rows.assign_Tuple]
  refine wpAny_bind (wpAny_standAt ?_)
  unfold unpack
  rw [hn, hst]
  refine wpAny_bind (wpAny_holding (unpack_head (I.ok.hd hc) hL (by omega) fun g tk kp => ?_))
  have I1 : Inv X pins σ H { s with heap := g, toks := tk } := I.kept (t' := tk) kp
  have hf : H g.objs.size = none := I1.hok.fresh (Nat.le_refl _)
  have I2 : Inv X pins σ (upd H g.objs.size (.lst xs)) { s with heap := g.push { cls := .type "list", data := .seq ys.toArray }, toks := tk } :=
    I1.laid (t' := tk) (fun b u e => Heap.get?_push_of_some _ e) (Nat.le_refl _) ⟨by show xs.length ≤ sizeLine; rw [sizeLine_eq]; omega, ys, 0, rr, Heap.get?_push_size _ rfl⟩
  exact h.run pins _ σ _ [x, .ref g.objs.size] _ Q I2 (.cons ry (.cons rfl .nil)) (hw _ hf)⟩
end
theorem next_endL {prog : Program} {w : World} {A : Around} {E : Value → Shared → Prop} {s : Shared} {e it l : Addr} {k : Nat} {i : Int} {items : Array Value} {old : Value} {Q : Option Value → Shared → Prop} (hA : A.handled = none) (g1 : IsEnum s.heap e it i old) (g2 : s.heap.IsListIter it l k) (g3 : s.heap.IsList l items) (ex : items[k]? = none)
    (q : ∀ g, Heap.ExtBut it s.heap g → Q none { s with heap := g }) : wpAny (model prog w) A (pyNext (.ref e)) Q E s := by
  have ty : s.TypeIs (.ref e) "enumerate" := ⟨_, g1, rfl⟩
  unfold pyNext
  refine wpAny_bind (wpAny_attempt (wpAny_callSpecial?_slot (name := Str.ofString "__next__") ty F.slot_enumerate_next (wpAny_call_entry F.slot_enumerate_next ty F.entry_enumerate_next ?_ (F.args_enumerate_next_1 _))))
  show wpAny _ _ (field (.ref e) 2 >>= _) _ _ _
  refine wpAny_bind (wpAny_field g1 rfl (x := .ref it) rfl (wpAny_bind (wpAny_nextOf_list_end hA g2 g3 ex fun g v eb hv => ?_)))
  obtain ⟨o, ho, hc⟩ := hv
  exact wpAny_bind (wpAny_isInstance (T := "StopIteration") (b := true) ⟨o, ho, hc⟩ isSubtype_stop (wpAny_pure (q g eb)))
/-- the list at a, each item in a new pair with its place, from one -/
def It1 (K : PySem.W.Frag) (a : Addr) : L2.It :=
  ⟨fun i H => ∃ (xs : List V) (x : V), SqL K H a xs ∧ xs[i]? = some x, fun i H v H' => ∃ T x, v = .ref T ∧ H T = none ∧ H' = upd H T (.tup [.int ((i : Nat) + 1 : Int), x]) ∧ ∀ xs, SqL K H a xs → xs[i]? = some x, fun i H => ∃ xs : List V, SqL K H a xs ∧ xs.length ≤ i⟩
theorem turn1 {P : Program} {w : World} {K : PySem.W.Frag} {elts : List Expr} {kk : Nat} {tpos : Pos} (a e it : Addr) :
    L2.Turn P w K (.Tuple elts kk tpos) (It1 K a) [e, it] e (fun i h => (∃ old, IsEnum h e it ((i : Nat) + 1 : Int) old) ∧ h.IsListIter it a i ∧ e ≠ it ∧ a ≠ it ∧ a ≠ e) where
  mem := by simp
  obj := fun i h st b hb => by
    obtain ⟨⟨old, g1⟩, ⟨o, g2, _, g3⟩, _⟩ := st
    have : b = e ∨ b = it := by simpa using hb
    rcases this with z | z
    · rw [z]; exact ⟨_, g1, fun v q => nomatch q⟩
    · rw [z]; exact ⟨o, g2, fun v q => by rw [g3] at q; cases q⟩
  keep := fun i h g st k => by
    obtain ⟨⟨old, g1⟩, g2, n⟩ := st
    exact ⟨⟨old, k e (by simp) _ g1⟩, g2.at fun o q => k it (by simp) o q, n⟩
  item := by
    intro X hP hw hK hc i pins s σ H E I hf st hg
    subst hP hw hK
    obtain ⟨⟨old, g1⟩, g2, ne, na, nae⟩ := st
    obtain ⟨xs, x, hq, hx⟩ := hg
    obtain ⟨its, rv, p, hz⟩ := I.list hq
    obtain ⟨u, hu, ru⟩ := rv.get hx
    have hit : i < its.toArray.size := by
      have := (List.getElem?_eq_some_iff.mp hu).1
      simpa using this
    have el : e < s.heap.objs.size := Heap.lt_size g1
    have il : it < s.heap.objs.size := by obtain ⟨_, q, _⟩ := g2; exact Heap.lt_size q
    refine wpAny_pyNext_enum_itemC (Draws.list (show X.A.in1.handled = none from I.ok.hd hc) it a na its.toArray) g1 ⟨g2, p.isList⟩ hit ne (by simp [ne, nae.symm]) fun y g tk hy b1 b2 b3 b4 b5 => ?_
    have ey : y = u := by
      have hy : its.toArray[i]? = some y := hy
      have : its[i]? = some y := by simpa using hy
      rw [hu] at this
      exact (Option.some.inj this).symm
    subst ey
    refine ⟨_, rfl, wpAny_letOwnedTupleGo_enum (s := { s with heap := g, toks := tk + 1 }) b1 fun g' b1' sb => ?_⟩
    have kp : ∀ b ob, b ∉ [e, it] → s.heap.get? b = some ob → g'.get? b = some ob := fun b ob nb q => (sb.2 b (fun z => nb (by simp [z]))).trans (b5 b ob (fun z => nb (by simp [z])) (fun z => nb (by simp [z])) q)
    have hT2 : g'.get? s.heap.objs.size = some { cls := .type "tuple", data := .seq #[.int ((i : Nat) + 1 : Int) tk, y] } := (sb.2 _ (Nat.ne_of_gt el)).trans b3
    have new : ObjOk X.prog X.w (upd H s.heap.objs.size (.tup [.int ((i : Nat) + 1 : Int), x])) g' s.heap.objs.size (.tup [.int ((i : Nat) + 1 : Int), x]) :=
      ⟨by show 2 ≤ sizeLine; decide, [.int ((i : Nat) + 1 : Int) tk, y], .cons ⟨_, rfl⟩ (.cons ru .nil), ⟨_, hT2, rfl, _, rfl⟩⟩
    have I1 : Inv X pins σ (upd H s.heap.objs.size (.tup [.int ((i : Nat) + 1 : Int), x])) { s with heap := g', toks := tk + 1 } := I.turnedNew (ch := [e, it]) kp hf (Nat.le_refl _) new
    refine ⟨.ref s.heap.objs.size, _, I1, rfl, ⟨_, x, rfl, I.hok.fresh (Nat.le_refl _), rfl, fun ys hy => by rw [I.list_inj hy hq]; exact hx⟩, ⟨⟨y, ?_⟩, b2.1.at fun o q => (sb.2 it (Ne.symm ne)).trans q, ne, na, nae⟩, fun b hb => ?_⟩
    · rw [show ((i + 1 : Nat) : Int) = (i : Int) + 1 by omega]
      exact b1'
    · have lb : b < s.heap.objs.size := by
        have : b = e ∨ b = it := by simpa using hb
        rcases this with z | z
        · exact z ▸ el
        · exact z ▸ il
      rw [upd_ne (Nat.ne_of_lt lb)]
      exact (hf b hb).1
  done := by
    intro X hP hw hK hc i pins s σ H E I hf st hg
    subst hP hw hK
    obtain ⟨⟨old, g1⟩, g2, ne, na, nae⟩ := st
    obtain ⟨xs, hq, hx⟩ := hg
    obtain ⟨its, rv, p, hz⟩ := I.list hq
    obtain ⟨f0, f1, f2, f3, f4, f5⟩ := hf it (by simp)
    have hl := rv.length
    exact next_endL (I.ok.hd hc) g1 g2 p.isList (by simp; omega) fun g eb => ⟨rfl, I.turned (t' := s.toks) (fun b o hb q => eb b o hb q) f0 f1 f3 f4 f5⟩
  self := fun A i s Q E st q => let ⟨⟨_, g1⟩, _⟩ := st; wpAny_pyIter_enum g1 q
theorem walk1 {K : PySem.W.Frag} {a : Addr} {xs : List V} : Walk (It1 K a) xs.length (fun H => SqL K H a xs) (YPair (fun i => some (.int ((i : Nat) + 1 : Int))) (fun i => xs[i]?)) := by
  refine ⟨fun i _ hi q => ⟨xs, xs[i], q, by simp [hi]⟩, fun _ q => ⟨xs, q, Nat.le_refl _⟩, fun i H v H' _ q y => ?_⟩
  obtain ⟨T, x, h1, h2, h3, h4⟩ := y
  exact ⟨T, .int ((i : Nat) + 1 : Int), x, h1, h2, h3, rfl, h4 xs q⟩
section
variable {X : Cx}
def iEnum1 (K : PySem.W.Frag) (ta : TA) : TI := fun σ H R => ta σ H fun vs H1 => ∃ a xs, vs = [.ref a] ∧ SqL K H1 a xs ∧ R (It1 K a) H1
theorem pi_enum1 {e : Expr} {ta : TA} {p pos tpos kpos c1 : Pos} {elts : List Expr} {kk kc : Nat} (hg : Gl X "enumerate") (hm : X.mg "enumerate" = none) (ha : PA X [e] ta) (hs : starEach [e] X.env = (false, eval e X.env) :: starEach [] X.env := by rfl) :
    PI X (.Tuple elts kk tpos) (.Call (.Name "enumerate" p) [e] [⟨some "start", .Constant (.int 1) kc c1, kpos⟩] pos) (iEnum1 X.K ta) := by
  refine ⟨fun pins s σ H R I h => ?_⟩
  refine wpAny_Call_Name_kw (ld_blt I hg hm boot_enumerate ?_)
  refine PySem.W.callWith_of (P := fun _ => True) (by rw [hs]; rfl) (fun _ _ => ⟨.machine, .inr (.inl rfl), PySem.W.Looks.of_pure rfl⟩) ?_
  refine evalArgs_kw2 rfl (thn (ha.run pos pins s σ H _ I h) fun us s1 ⟨vs, H1, I1, r1, q1⟩ => ?_) hs
  refine thn ((pk_cons (nm := some "start") (kpos := kpos) (pe_int (i := 1) (j := kc) (pos := c1)) pk_nil).run pos pins s1 σ H1 (fun zs H2 => zs = [.int 1] ∧ H2 = H1) I1 ⟨rfl, rfl⟩) fun ks s2 ⟨zs, H2, I2, r2, ez, eH⟩ => ⟨trivial, ?_⟩
  subst ez eH
  obtain ⟨u2, rfl, tk, rfl⟩ := vals1 r2
  obtain ⟨a, xs, rfl, hq, q⟩ := q1
  obtain ⟨u, rfl, r⟩ := vals1 r1
  cases r
  have fresh : ∀ b, b ∈ [s2.heap.objs.size + 1, s2.heap.objs.size] → FpOk X pins H2 b := fun b hb => by
    have le : s2.heap.objs.size ≤ b := by
      have : b = s2.heap.objs.size + 1 ∨ b = s2.heap.objs.size := by simpa using hb
      rcases this with z | z <;> rw [z]
      · exact Nat.le_add_right _ _
      · exact Nat.le_refl _
    exact I2.fpOk le (I2.hok.fresh le)
  obtain ⟨its, rv, p', hz⟩ := I2.list hq
  have la : a < s2.heap.objs.size := let ⟨_, e, _⟩ := p'.isList; Heap.lt_size e
  refine enum_begins_start (begins_list a its.toArray) p'.isList (by decide) (by decide) fun g g1 g2 _ kp => wpAny_pyIter_enum g1 ?_
  exact ⟨s2.heap.objs.size + 1, [s2.heap.objs.size + 1, s2.heap.objs.size], _, _, H2, rfl, I2.kept (t' := s2.toks) kp, turn1 a (s2.heap.objs.size + 1) s2.heap.objs.size, ⟨⟨.none, g1⟩, ⟨_, g2, rfl, rfl⟩, Nat.succ_ne_self _, Nat.ne_of_lt la, Nat.ne_of_lt (Nat.lt_succ_of_lt la)⟩, fresh, q⟩
/-! a class that stands in a name -/
variable {CX : CXT} {k i : Nat} {f C : Addr} {fd : FuncData} {ps : List Str} {sp : Sp} {E : XK} {x : Str} {p pos : Pos} {e : Expr} {es : List Expr} {t : TA} {ds : List Value} {dvs : List V}
theorem pe_makeV (M : Mk X.K C f) (F : FnOk X.prog X.w X.K X.mg X.base CX k f fd ps sp) (hr : Room (k + 1) X.A) (hN : X.N[i]? = some x) (hv : Vis X.env.scope x) (hb : Binds X.K fd ps ds) (hd : Vals dvs ds) (hx : Passes CX X E)
    (ha : PA X (e :: es) t) (hdb : (x == ("__debug__" : Str)) = false := by decide) (hcd : (x == ("__classdict__" : Str)) = false := by decide) (he : starEach (e :: es) X.env = (false, eval e X.env) :: starEach es X.env := by rfl) (hpl : (backTo pos (starEach es X.env)).any (·.1) = false := by rfl) :
    PE X (.Call (.Name x p) (e :: es) [] pos) (fun σ H Q => σ[i]? = some (some (.ref C)) ∧ tMake C sp dvs E t σ H Q) := by
  refine ⟨fun pins s σ H Q I h => ?_⟩
  obtain ⟨hs, h⟩ := h
  refine wpAny_Call_Name_kw (thn ((pe_var (pos := p) (i := i) hN hv hdb hcd).run pins s σ H (fun v H1 => v = .ref C ∧ H1 = H) I ⟨.ref C, hs, rfl, rfl⟩) fun u s1 ⟨v, H1, I1, r1, ev, eH⟩ => ?_)
  subst ev eH
  cases r1
  exact PySem.W.callWith_K (h₀ := X.base) I.ok.mod.kin M.kp (thn (ha.run pos pins s1 σ H1 _ I1 h) fun us s2 ⟨vs, H2, I2, r, q⟩ => ⟨I2.kIn, run_make M F hr hb hd hx I2 r q⟩) he hpl
end
end Ru
/-! Rd -/
set_option Elab.async false
set_option linter.all false
set_option maxRecDepth 100000
set_option maxHeartbeats 4000000
namespace Pg
open PySem L2 Mr StX
abbrev sRead : Stmt := inClass cl_Book 1
theorem split_at {sep : Str} {c : Nat} (e : TL.tl sep = [c]) (hk : sep.cps.all (· < 256) = true) {x : Str} {l : List Cs} (hx : c ∉ TL.tl x) (h : ∀ z ∈ l, c ∉ z) : Txt.split (Txt.join sep (x :: l.map S)) sep = x :: l.map S :=
  TL.split_join e hk (List.cons_ne_nil _ _) fun p m => by
    rcases List.mem_cons.mp m with rfl | m
    · exact hx
    · obtain ⟨z, hz, rfl⟩ := List.mem_map.mp m
      rw [tl_S]
      exact h z hz
theorem not_join {c : Nat} {G : List Nat} (hg : c ∉ G) : ∀ {ps : List (List Nat)}, (∀ p ∈ ps, c ∉ p) → c ∉ TL.joinL G ps
  | [], _ => List.not_mem_nil
  | [p], h => h p List.mem_cons_self
  | p :: q :: r, h => fun m => by
    rcases List.mem_append.mp (show c ∈ p ++ (G ++ TL.joinL G (q :: r)) from m) with m | m
    · exact h p List.mem_cons_self m
    · rcases List.mem_append.mp m with m | m
      · exact hg m
      · exact not_join hg (fun z hz => h z (List.mem_cons_of_mem _ hz)) m
section
variable {P : Program} {w : World} {K : PySem.W.Frag} {mg : Str → Option Value} {base : Heap} {pS pC C : Addr}
/-! ### Book.read, of the text of a book -/
def spRead (K : PySem.W.Frag) (C : Addr) : Sp := fun vs H Q _ => ∃ (ns zs : List Cs) (ps : List Prt), vs = [.ref C, .str (bookStr ns zs)] ∧ (∀ s ∈ ns, isName s = true) ∧ ns.Nodup ∧ 0 < ns.length ∧ ns.length ≤ 9 ∧ zs.length ≤ 50 ∧ DemsOk ns zs ps ∧ (∀ z ∈ zs, 10 ∉ z) ∧ (∀ z ∈ ns, 10 ∉ z ∧ 32 ∉ z) ∧ (bookStr ns zs).length ≤ 10000000 ∧ (Txt.join " " ("names" :: ns.map S)).length ≤ 10000000 ∧
  ∀ H' b, Same H H' → BookAt K C H' b ns zs ps → Q (.ref b) H'
theorem sc_read : FnScope ["cls", "text", "first", "lines", "word", "names", "at", "line", "name"] ["cls", "text"] (defScope sRead) := ⟨rfl, rfl, rfl, by decide +kernel, rfl, by decide +kernel, by decide +kernel⟩
theorem ok_read {f0 fI : Addr} {fd fdI : FuncData} (F : Fun K "read" "Book.read" sRead f0 fd) (L : Lx mg) (R : Bx2 mg) (enu : mg "enumerate" = none) (M : Mk K C fI) (GI : FnOk P w K mg base CX0 6 fI fdI ["self", "names", "demands"] (spInit K C)) (bI : Binds K fdI ["self", "names", "demands"] [])
    (c_is_name : CalX P w K mg base 1 "is_name" spIsName) (c_parts_of : CalX P w K mg base 4 "parts_of" (spPartsOf K)) :
    FnOk P w K mg base CX0 8 f0 fd ["cls", "text"] (spRead K C) := by
  refine F.ok sc_read (fun vs H Q E h => ?_) (fun cdv A outer s H vs Q E hr h => ?_)
  · obtain ⟨ns, zs, ps, rfl, _⟩ := h
    rfl
  obtain ⟨ns, zs, ps, rfl, hn, hd, h0, h9, z50, dok, nz, nn, lb, ll, q⟩ := h
  have nd := sc_read.nd
  refine ⟨_, pss_cons (ps_if (pt_not (pt_val (pe_callB call_isi (by rfl) R.isi (by decide +kernel) (pa_cons (pv 1) (pa_cons (pe_bltn (v := .ty "str") (by rfl) L.str (by decide +kernel) rfl) pa_nil))))) (pss_one ps_never) pss_nil)
    (pss_cons (ps_asg (pe_split (pv 1) pe_str) (Ru.pg_head rfl (pgs_cons (pg_name (i := 2) nd rfl (Or.inl rfl)) (Ru.pgs_star (pg_name (i := 3) nd rfl (Or.inl rfl)) pgs_nil))))
    (pss_cons (ps_asg (pe_split (pv 2) pe_str) (Ru.pg_head rfl (pgs_cons (pg_name (i := 4) nd rfl (Or.inl rfl)) (Ru.pgs_star (pg_name (i := 5) nd rfl (Or.inl rfl)) pgs_nil))))
    (pss_cons (ps_if (PW.pt (pw_or (pt_cmpR op_ne (pv 4) pe_str (nomark _)) (pw_or (pt_cmpR op_eq (pe_callB call_len_seq (by rfl) L.len PySem.boot_len (pa_cons (pv 5) pa_nil)) pe_int (nomark _)) (pw_or1 (pt_not (pt_val (pe_callB (cr_all rfl) (by rfl) R.all (by decide +kernel) (pa_cons (pe_lc (own := [("name", 8)]) (g := gName 8) (tt := tYes) rfl nd (pi_list (pv 5)) (blkOk_by (N := ["cls", "text", "first", "lines", "word", "names", "at", "line", "name"]) (sc := defScope sRead) (by decide +kernel)) (fun _ _ _ _ _ => (pg_name (i := 8) nd rfl (Or.inl rfl))) (fun _ _ _ _ _ => pts_nil) (fun _ _ _ _ _ => (C8.pe_c c_is_name hr (by decide) rfl (pa_cons (pv 8) pa_nil)))) pa_nil)))))))) (pss_one ps_never) pss_nil)
    (pss_cons (ps_for PassesOwn.never rfl (Ru.pi_enum1 (by rfl) enu (pa_cons (pv 3) pa_nil)) (pg_tup (n := 2) rfl (pgs_cons (pg_name (i := 6) nd rfl (Or.inl rfl)) (pgs_cons (pg_name (i := 7) nd rfl (Or.inl rfl)) pgs_nil))) (pss_one (ps_if (pt_cmpR op_isN (C8.pe_c c_parts_of hr (by decide) rfl (pa_cons (pv 7) pa_nil)) pe_non (nomark _)) (pss_one ps_never) pss_nil)))
    (pss_one (ps_ret (Ru.pe_makeV (i := 0) M GI (hr.mono (by decide)) rfl (Or.inl rfl) bI .nil pass0 (pa_cons (pv 5) (pa_cons (pv 3) pa_nil))))))))), ?_⟩
  have e10 : TL.tl ("\n" : Str) = [10] := by decide +kernel
  have e32 : TL.tl (" " : Str) = [32] := by decide +kernel
  have nm10 : ∀ (l : List Str), (∀ z ∈ l, 10 ∉ TL.tl z) → 10 ∉ TL.tl (Txt.join " " l) := fun l h m => by
    rw [TL.join_eq, TL.tl_join, e32] at m
    exact not_join (by decide) (fun p mp => by
      obtain ⟨z, hz, rfl⟩ := List.mem_map.mp mp
      exact h z hz) m
  have ex1 : Txt.split (bookStr ns zs) "\n" = Txt.join " " (("names" : Str) :: ns.map S) :: zs.map S := split_at e10 (by decide +kernel) (nm10 _ fun z m => by
    rcases List.mem_cons.mp m with rfl | m
    · decide +kernel
    · obtain ⟨y, hy, rfl⟩ := List.mem_map.mp m
      rw [tl_S]
      exact (nn y hy).1) nz
  have ex2 : Txt.split (Txt.join " " (("names" : Str) :: ns.map S)) " " = ("names" : Str) :: ns.map S := split_at e32 (by decide +kernel) (by decide +kernel) fun z m => (nn z m).2
  have sl : (10000002 : Nat) ≤ sizeLine := by decide
  refine ⟨_, rfl, _, _, _, _, true, rfl, .ty "str", .base (.str _), kit_ty (by decide +kernel), _, rfl, ?_⟩
  refine iteF ⟨_, rfl, ⟨_, rfl⟩, _, _, rfl, rfl, by decide +kernel, Nat.le_trans (Nat.add_le_add_right lb 2) sl, fun p1 np1 => ?_⟩
  rw [ex1]
  have s1 := same_new np1 (.lst ((Txt.join " " (("names" : Str) :: ns.map S) :: zs.map S).map V.str))
  have hp1 : upd H p1 (.lst ((Txt.join " " (("names" : Str) :: ns.map S) :: zs.map S).map V.str)) p1 = some (.lst (.str (Txt.join " " (("names" : Str) :: ns.map S)) :: zs.map tv)) := by rw [upd_same, List.map_cons, List.map_map]; rfl
  generalize upd H p1 (.lst ((Txt.join " " (("names" : Str) :: ns.map S) :: zs.map S).map V.str)) = H1 at s1 hp1
  refine ⟨p1, _, _, rfl, SqL.of hp1, by rw [List.length_map]; omega, fun p2 np2 => ⟨_, _, rfl, _, _, rfl, rfl, ?_⟩⟩
  have s2 := same_new np2 (.lst (zs.map tv))
  have hp2 : upd H1 p2 (.lst (zs.map tv)) p2 = some (.lst (zs.map tv)) := upd_same
  generalize upd H1 p2 (.lst (zs.map tv)) = H2 at s2 hp2
  refine ⟨_, rfl, ⟨_, rfl⟩, _, _, rfl, rfl, by decide +kernel, Nat.le_trans (Nat.add_le_add_right ll 2) sl, fun p3 np3 => ?_⟩
  rw [ex2]
  have s3 := same_new np3 (.lst ((("names" : Str) :: ns.map S).map V.str))
  have hp3 : upd H2 p3 (.lst ((("names" : Str) :: ns.map S).map V.str)) p3 = some (.lst (.str "names" :: ns.map tv)) := by rw [upd_same, List.map_cons, List.map_map]; rfl
  generalize upd H2 p3 (.lst ((("names" : Str) :: ns.map S).map V.str)) = H3 at s3 hp3
  refine ⟨p3, _, _, rfl, SqL.of hp3, by rw [List.length_map]; omega, fun p4 np4 => ⟨_, _, rfl, _, _, rfl, rfl, ?_⟩⟩
  have s4 := same_new np4 (.lst (ns.map tv))
  have hp4 : upd H3 p4 (.lst (ns.map tv)) p4 = some (.lst (ns.map tv)) := upd_same
  generalize upd H3 p4 (.lst (ns.map tv)) = H4 at s4 hp4
  have s24 := s3.trans s4
  have hp2' := s24 _ _ hp2
  have s04 := s1.trans (s2.trans s24)
  have nlen : ∀ s ∈ ns, s.length ≤ 100000 := fun s m => Nat.le_trans (name_len (hn s m)) (by decide)
  refine ⟨_, rfl, rfl, _, rfl, ?_⟩
  rw [eq_self]
  refine iteF ⟨_, rfl, p4, _, rfl, .inl (SqL.of hp4), rfl, _, rfl, ?_⟩
  rw [int_eq, decide_eq_false (by rw [List.length_map]; omega)]
  refine iteF ⟨_, rfl, p4, rfl, ⟨_, SqL.of hp4⟩, fun D nD => lc_list (K := K) (a := p4) (xs := ns.map tv) (fun n H' => Same H4 H' ∧ H' D = some (.lst ((ns.take n).map fun _ => V.bl true))) ⟨same_new nD _, upd_same⟩ (fun n H' _ p => SqL.of (p.1 _ _ hp4)) ?c1 ?c2⟩
  case c1 =>
    rintro n x H' hn' ⟨s5, hD⟩
    obtain ⟨y, hy, rfl⟩ := at_name hn'
    have lt := (List.getElem?_eq_some_iff.mp hy).1
    have my := List.mem_of_getElem? hy
    refine ⟨rfl, _, rfl, y, rfl, nlen y my, fun H6 s6 => ?_⟩
    rw [hn y my]
    refine ⟨_, s6 _ _ hD, big (by rw [List.length_map, List.length_take]; omega), same_mut (s5.trans s6) nD, ?_⟩
    rw [upd_same, List.take_succ, hy, List.map_append]
    rfl
  case c2 =>
    rintro H5 ⟨s5, hD⟩
    rw [List.length_map, List.take_length] at hD
    refine ⟨D, ns.map fun _ => true, rfl, SqL.of (by rw [hD, List.map_map]; rfl), _, rfl, ?_⟩
    rw [all_true ns]
    have hp2'' := s5 _ _ hp2'
    have hp4' := s5 _ _ hp4
    refine iteF ⟨_, rfl, p2, _, rfl, SqL.of hp2'', for_it Ru.walk1 (fun i σ H' => Same H5 H' ∧ ∃ u6 u7 u8, σ = [some (.ref C), some (.str (bookStr ns zs)), some (.str (Txt.join " " (("names" : Str) :: ns.map S))), some (.ref p2), some (.str "names"), some (.ref p4), u6, u7, u8]) ⟨Same.refl _, _, _, _, rfl⟩ (fun i σ H' _ p => SqL.of (p.1 _ _ hp2'')) ?_ ?_⟩
    · rintro i y σ H6 H7 hi ⟨s6, u6, u7, u8, rfl⟩ ⟨T, x, z, rfl, nT, rfl, ex, ez⟩
      have ex := Option.some.inj ex
      subst ex
      have ez : (zs.map tv)[i]? = some z := ez
      rw [List.getElem?_map] at ez
      obtain ⟨y, hy, rfl⟩ := Option.map_eq_some_iff.mp ez
      have s7 := same_new nT (.tup [.int ((i : Nat) + 1 : Int), tv y])
      obtain ⟨p, hp, d1, d2, d3, d4⟩ := dok.at hy
      refine ⟨T, _, rfl, SqT.of upd_same, rfl, _, _, rfl, _, _, rfl, rfl, _, rfl, _, rfl, .inl ⟨y, rfl, d2, fun n => (by rw [d1] at n; cases n), fun lo r hi' e H8 a x1 x2 s8 na ha hx hy' => ?_⟩⟩
      exact ⟨rfl, _, rfl, iteF ⟨s6.trans (s7.trans s8), _, _, _, rfl⟩⟩
    · rintro σ H6 ⟨s6, u6, u7, u8, rfl⟩
      refine ⟨rfl, _, rfl, _, rfl, fun x dx nx ndx nex => ?_⟩
      have sx : Same H6 (upd (upd H6 dx (.own x)) x (.ins C dx [])) := fun b o e => by
        rw [upd_ne (ne_of_none e nx), upd_ne (ne_of_none e ndx)]
        exact e
      refine ⟨x, dx, p4, p2, ns, zs, ps, rfl, upd_same, .inl (SqL.of (sx _ _ (s6 _ _ hp4'))), .inl (SqL.of (sx _ _ (s6 _ _ hp2''))), hn, hd, h0, h9, z50, dok, fun H7 kp hX => ⟨rfl, ?_⟩⟩
      exact q _ x (s04.trans (s5.trans (s6.trans fun b o e => kp b o (sx _ _ e) (ne_of_none e nx)))) hX
end
end Pg
/-! Rx -/
set_option Elab.async false
set_option linter.all false
set_option maxRecDepth 100000
set_option maxHeartbeats 4000000
namespace Pg
open PySem L2 Mr StX
abbrev sExT : Stmt := inClass cl_InvalidText 0
structure ExT (K : PySem.W.Frag) (mg : Str → Option Value) (cT fJ : Addr) : Prop where
  T : OexC K cT
  iC : PySem.W.findIn K (.ref cT) "__init__" = some (some (.ref fJ))
  tI : PySem.W.typeIn K (.ref fJ) = some (.type "function")
  noF : PySem.W.findIn K (.ref cT) "at" = some none
  mT : mg "InvalidText" = some (.ref cT)
section
variable {P : Program} {w : World} {K : PySem.W.Frag} {mg : Str → Option Value} {base : Heap} {pS pC C cT fJ : Addr}
def spExT (K : PySem.W.Frag) : Sp := fun vs H Q _ => ∃ (a C : Addr) (v : V), vs = [.ref a, v] ∧ OexC K C ∧ PySem.W.findIn K (.ref C) "at" = some none ∧ H a = some (exo a C none) ∧ ∀ dx, H dx = none → dx ≠ a → Q .non (upd (upd H dx (exd dx [("at", v)])) a (exo a C (some dx)))
theorem sc_exT : FnScope ["self", "at"] ["self", "at"] (defScope sExT) := ⟨rfl, rfl, rfl, by decide +kernel, rfl, by decide +kernel, by decide +kernel⟩
theorem ok_exT {f : Addr} {fd : FuncData} (F : Fun K "__init__" "InvalidText.__init__" sExT f fd) : FnOk P w K mg base CX0 1 f fd ["self", "at"] (spExT K) := by
  refine F.ok sc_exT (fun vs H Q E h => ?_) (fun cdv A outer s H vs Q E hr h => ?_)
  · obtain ⟨a, C, v, rfl, _⟩ := h
    rfl
  obtain ⟨a, C, v, rfl, T, no, ha, q⟩ := h
  exact ⟨_, pss_one (ps_ost (pv 0) (pv 1)), _, rfl, _, rfl, a, C, rfl, T, no, .inl ⟨ha, q⟩⟩

/-! ### Book.read, of a text whose second line is no demand -/
def spReadB (K : PySem.W.Frag) (C cT : Addr) : Sp := fun vs H _ E => ∃ (ns zs : List Cs) (z : Cs), zs = [z] ∧ vs = [.ref C, .str (bookStr ns zs)] ∧ (∀ s ∈ ns, isName s = true) ∧ 0 < ns.length ∧ ns.length ≤ 9 ∧ z.length ≤ 100000 ∧ partsOf z = none ∧ (∀ z ∈ zs, 10 ∉ z) ∧ (∀ z ∈ ns, 10 ∉ z ∧ 32 ∉ z) ∧ (bookStr ns zs).length ≤ 10000000 ∧ (Txt.join " " ("names" :: ns.map S)).length ≤ 10000000 ∧
  ∀ H' d, Same H H' → H' d = some (.xd [("at", .int 1)]) → E (.ref cT) (some d) H'
theorem ok_readB {f0 : Addr} {fd fdJ : FuncData} (F : Fun K "read" "Book.read" sRead f0 fd) (L : Lx mg) (R : Bx2 mg) (enu : mg "enumerate" = none) (Y : ExT K mg cT fJ) (GJ : FnOk P w K mg base CX0 1 fJ fdJ ["self", "at"] (spExT K)) (bJ : Binds K fdJ ["self", "at"] [])
    (c_is_name : CalX P w K mg base 1 "is_name" spIsName) (c_parts_of : CalX P w K mg base 4 "parts_of" (spPartsOf K)) :
    FnOk P w K mg base (L2.CX P w) 8 f0 fd ["cls", "text"] (spReadB K C cT) := by
  refine F.okX sc_read (fun vs H Q E h => ?_) (fun cdv A outer s H vs Q E hr h => ?_)
  · obtain ⟨ns, zs, z, _, rfl, _⟩ := h
    rfl
  obtain ⟨ns, zs, z, ez, rfl, hn, h0, h9, lz, hz, nz, nn, lb, ll, q⟩ := h
  have z50 : zs.length ≤ 50 := by rw [ez]; show 1 ≤ 50; decide
  have nd := sc_read.nd
  refine ⟨_, pss_cons (ps_if (pt_not (pt_val (pe_callB call_isi (by rfl) R.isi (by decide +kernel) (pa_cons (pv 1) (pa_cons (pe_bltn (v := .ty "str") (by rfl) L.str (by decide +kernel) rfl) pa_nil))))) (pss_one ps_never) pss_nil)
    (pss_cons (ps_asg (pe_split (pv 1) pe_str) (Ru.pg_head rfl (pgs_cons (pg_name (i := 2) nd rfl (Or.inl rfl)) (Ru.pgs_star (pg_name (i := 3) nd rfl (Or.inl rfl)) pgs_nil))))
    (pss_cons (ps_asg (pe_split (pv 2) pe_str) (Ru.pg_head rfl (pgs_cons (pg_name (i := 4) nd rfl (Or.inl rfl)) (Ru.pgs_star (pg_name (i := 5) nd rfl (Or.inl rfl)) pgs_nil))))
    (pss_cons (ps_if (PW.pt (pw_or (pt_cmpR op_ne (pv 4) pe_str (nomark _)) (pw_or (pt_cmpR op_eq (pe_callB call_len_seq (by rfl) L.len PySem.boot_len (pa_cons (pv 5) pa_nil)) pe_int (nomark _)) (pw_or1 (pt_not (pt_val (pe_callB (cr_all rfl) (by rfl) R.all (by decide +kernel) (pa_cons (pe_lc (own := [("name", 8)]) (g := gName 8) (tt := tYes) rfl nd (pi_list (pv 5)) (blkOk_by (N := ["cls", "text", "first", "lines", "word", "names", "at", "line", "name"]) (sc := defScope sRead) (by decide +kernel)) (fun _ _ _ _ _ => (pg_name (i := 8) nd rfl (Or.inl rfl))) (fun _ _ _ _ _ => pts_nil) (fun _ _ _ _ _ => (C8.pe_c c_is_name hr (by decide) rfl (pa_cons (pv 8) pa_nil)))) pa_nil)))))))) (pss_one ps_never) pss_nil)
    (pss_cons (ps_for (passes_of rfl) rfl (Ru.pi_enum1 (by rfl) enu (pa_cons (pv 3) pa_nil)) (pg_tup (n := 2) rfl (pgs_cons (pg_name (i := 6) nd rfl (Or.inl rfl)) (pgs_cons (pg_name (i := 7) nd rfl (Or.inl rfl)) pgs_nil))) (pss_one (ps_if (pt_cmpR op_isN (C8.pe_c c_parts_of hr (by decide) rfl (pa_cons (pv 7) pa_nil)) pe_non (nomark _)) (pss_one (ps_raise rfl (takes_of rfl rfl rfl rfl) (pmk_oex Y.T Y.iC Y.tI GJ (hr.mono (by decide)) bJ .nil pass0 rfl Y.mT (pa_cons (pv 6) pa_nil)))) pss_nil)))
    (pss_one ps_never))))), ?_⟩
  have e10 : TL.tl ("\n" : Str) = [10] := by decide +kernel
  have e32 : TL.tl (" " : Str) = [32] := by decide +kernel
  have nm10 : ∀ (l : List Str), (∀ z ∈ l, 10 ∉ TL.tl z) → 10 ∉ TL.tl (Txt.join " " l) := fun l h m => by
    rw [TL.join_eq, TL.tl_join, e32] at m
    exact not_join (by decide) (fun p mp => by
      obtain ⟨z, hz, rfl⟩ := List.mem_map.mp mp
      exact h z hz) m
  have ex1 : Txt.split (bookStr ns zs) "\n" = Txt.join " " (("names" : Str) :: ns.map S) :: zs.map S := split_at e10 (by decide +kernel) (nm10 _ fun z m => by
    rcases List.mem_cons.mp m with rfl | m
    · decide +kernel
    · obtain ⟨y, hy, rfl⟩ := List.mem_map.mp m
      rw [tl_S]
      exact (nn y hy).1) nz
  have ex2 : Txt.split (Txt.join " " (("names" : Str) :: ns.map S)) " " = ("names" : Str) :: ns.map S := split_at e32 (by decide +kernel) (by decide +kernel) fun z m => (nn z m).2
  have sl : (10000002 : Nat) ≤ sizeLine := by decide
  refine ⟨_, rfl, _, _, _, _, true, rfl, .ty "str", .base (.str _), kit_ty (by decide +kernel), _, rfl, ?_⟩
  refine iteF ⟨_, rfl, ⟨_, rfl⟩, _, _, rfl, rfl, by decide +kernel, Nat.le_trans (Nat.add_le_add_right lb 2) sl, fun p1 np1 => ?_⟩
  rw [ex1]
  have s1 := same_new np1 (.lst ((Txt.join " " (("names" : Str) :: ns.map S) :: zs.map S).map V.str))
  have hp1 : upd H p1 (.lst ((Txt.join " " (("names" : Str) :: ns.map S) :: zs.map S).map V.str)) p1 = some (.lst (.str (Txt.join " " (("names" : Str) :: ns.map S)) :: zs.map tv)) := by rw [upd_same, List.map_cons, List.map_map]; rfl
  generalize upd H p1 (.lst ((Txt.join " " (("names" : Str) :: ns.map S) :: zs.map S).map V.str)) = H1 at s1 hp1
  refine ⟨p1, _, _, rfl, SqL.of hp1, by rw [List.length_map]; omega, fun p2 np2 => ⟨_, _, rfl, _, _, rfl, rfl, ?_⟩⟩
  have s2 := same_new np2 (.lst (zs.map tv))
  have hp2 : upd H1 p2 (.lst (zs.map tv)) p2 = some (.lst (zs.map tv)) := upd_same
  generalize upd H1 p2 (.lst (zs.map tv)) = H2 at s2 hp2
  refine ⟨_, rfl, ⟨_, rfl⟩, _, _, rfl, rfl, by decide +kernel, Nat.le_trans (Nat.add_le_add_right ll 2) sl, fun p3 np3 => ?_⟩
  rw [ex2]
  have s3 := same_new np3 (.lst ((("names" : Str) :: ns.map S).map V.str))
  have hp3 : upd H2 p3 (.lst ((("names" : Str) :: ns.map S).map V.str)) p3 = some (.lst (.str "names" :: ns.map tv)) := by rw [upd_same, List.map_cons, List.map_map]; rfl
  generalize upd H2 p3 (.lst ((("names" : Str) :: ns.map S).map V.str)) = H3 at s3 hp3
  refine ⟨p3, _, _, rfl, SqL.of hp3, by rw [List.length_map]; omega, fun p4 np4 => ⟨_, _, rfl, _, _, rfl, rfl, ?_⟩⟩
  have s4 := same_new np4 (.lst (ns.map tv))
  have hp4 : upd H3 p4 (.lst (ns.map tv)) p4 = some (.lst (ns.map tv)) := upd_same
  generalize upd H3 p4 (.lst (ns.map tv)) = H4 at s4 hp4
  have s24 := s3.trans s4
  have hp2' := s24 _ _ hp2
  have s04 := s1.trans (s2.trans s24)
  have nlen : ∀ s ∈ ns, s.length ≤ 100000 := fun s m => Nat.le_trans (name_len (hn s m)) (by decide)
  refine ⟨_, rfl, rfl, _, rfl, ?_⟩
  rw [eq_self]
  refine iteF ⟨_, rfl, p4, _, rfl, .inl (SqL.of hp4), rfl, _, rfl, ?_⟩
  rw [int_eq, decide_eq_false (by rw [List.length_map]; omega)]
  refine iteF ⟨_, rfl, p4, rfl, ⟨_, SqL.of hp4⟩, fun D nD => lc_list (K := K) (a := p4) (xs := ns.map tv) (fun n H' => Same H4 H' ∧ H' D = some (.lst ((ns.take n).map fun _ => V.bl true))) ⟨same_new nD _, upd_same⟩ (fun n H' _ p => SqL.of (p.1 _ _ hp4)) ?c1 ?c2⟩
  case c1 =>
    rintro n x H' hn' ⟨s5, hD⟩
    obtain ⟨y, hy, rfl⟩ := at_name hn'
    have lt := (List.getElem?_eq_some_iff.mp hy).1
    have my := List.mem_of_getElem? hy
    refine ⟨rfl, _, rfl, y, rfl, nlen y my, fun H6 s6 => ?_⟩
    rw [hn y my]
    refine ⟨_, s6 _ _ hD, big (by rw [List.length_map, List.length_take]; omega), same_mut (s5.trans s6) nD, ?_⟩
    rw [upd_same, List.take_succ, hy, List.map_append]
    rfl
  case c2 =>
    rintro H5 ⟨s5, hD⟩
    rw [List.length_map, List.take_length] at hD
    refine ⟨D, ns.map fun _ => true, rfl, SqL.of (by rw [hD, List.map_map]; rfl), _, rfl, ?_⟩
    rw [all_true ns]
    have hp2'' := s5 _ _ hp2'
    have hp4' := s5 _ _ hp4
    have fly : ∀ {H1 : Hp} {wv : V}, (∀ H' d', Same H1 H' → H' d' = some (.xd [("at", wv)]) → E (.ref cT) (some d') H') → [wv].length ≤ 1000 ∧ ∀ a, H1 a = none → spExT K (.ref a :: ([wv] ++ [])) (upd H1 a (exo a cT none))
      (fun v H2 => v = .non ∧ ∃ (d : Addr) (fs : List (Str × V)), H2 a = some (exo a cT (some d)) ∧ H2 d = some (exd d fs) ∧ H1 d = none ∧ E (.ref cT) (some d) (upd (L2.del H2 a) d (.xd fs))) (fun _ _ _ => False) := fun {H1 wv} q => by
      refine ⟨by show 1 ≤ 1000; decide, fun a na => ⟨a, cT, wv, rfl, Y.T, Y.noF, upd_same, fun dx ndx ne => ⟨rfl, dx, [("at", wv)], upd_same, ?_, (upd_none ndx).2, ?_⟩⟩⟩
      · rw [upd_ne ne]; exact upd_same
      · exact q _ dx (keep_exc na (upd_none ndx).2) upd_same
    refine iteF ⟨_, rfl, p2, _, rfl, SqL.of hp2'', for_it Ru.walk1 (fun i σ H' => Same H5 H' ∧ i = 0 ∧ ∃ u6 u7 u8, σ = [some (.ref C), some (.str (bookStr ns zs)), some (.str (Txt.join " " (("names" : Str) :: ns.map S))), some (.ref p2), some (.str "names"), some (.ref p4), u6, u7, u8]) ⟨Same.refl _, rfl, _, _, _, rfl⟩ (fun i σ H' _ p => SqL.of (p.1 _ _ hp2'')) ?_ ?_⟩
    · rintro i y σ H6 H7 hi ⟨s6, i0, u6, u7, u8, rfl⟩ ⟨T, x, v, rfl, nT, rfl, ex, ev⟩
      have ex := Option.some.inj ex
      subst ex i0
      have ev : (zs.map tv)[0]? = some v := ev
      rw [ez] at ev
      have ev : v = tv z := (Option.some.inj ev).symm
      subst ev
      have s7 := same_new nT (.tup [.int ((0 : Nat) + 1 : Int), tv z])
      refine ⟨T, _, rfl, SqT.of upd_same, rfl, _, _, rfl, _, _, rfl, rfl, _, rfl, _, rfl, .inl ⟨z, rfl, lz, fun n H8 s8 => ⟨rfl, _, rfl, iteT ?_⟩, fun lo r hi' e => by rw [hz] at e; cases e⟩⟩
      exact ⟨_, rfl, fly fun H' d' s' e => q H' d' (s04.trans (s5.trans (s6.trans (s7.trans (s8.trans s'))))) e⟩
    · rintro σ H6 ⟨s6, i0, u6, u7, u8, rfl⟩
      rw [ez] at i0
      cases i0
end
end Pg
/-! Bw1 -/
set_option Elab.async false
set_option linter.all false
set_option maxRecDepth 100000
set_option maxHeartbeats 4000000
namespace Pg
open PySem L2 Mr
abbrev sWith : Stmt := inClass cl_Book 7
section
variable {P : Program} {w : World} {K : PySem.W.Frag} {mg : Str → Option Value} {base : Heap} {pS pC C cD cE cL cB : Addr}
structure ExD (K : PySem.W.Frag) (mg : Str → Option Value) (cD : Addr) : Prop where
  mD : mg "InvalidDemand" = some (.ref cD)
  x : PySem.W.excIn K cD veT "ValueError.__new__" = true
  k : PySem.W.keepIn K (.ref cD) = true
  b : PySem.W.subIn K (.ref cD) (.type "BaseException") = some true
  t : PySem.W.typeIn K (.ref cD) = some (.type "type")
def spWithD (K : PySem.W.Frag) (C cD : Addr) : Sp := fun vs H Q E => ∃ (b : Addr) (v : V) (ns zs : List Cs) (ps : List Prt), vs = [.ref b, v] ∧ BookAt K C H b ns zs ps ∧
  ((NoDem K H ns v ∧ ∀ H', Same H H' → E (.ref cD) none H') ∨ (∃ z p, v = tv z ∧ DemOk ns z p ∧ (∀ s ∈ ns, isName s = true) ∧ ns.Nodup ∧ 0 < ns.length ∧ ns.length ≤ 9 ∧ zs.length ≤ 40 ∧ DemsOk ns zs ps ∧ ∀ H' c, Same H H' → BookAt K C H' c ns (zs ++ [z]) (ps ++ [p]) → Q (.ref c) H'))
theorem sc_with : FnScope ["self", "demand"] ["self", "demand"] (defScope sWith) := ⟨rfl, rfl, rfl, by decide +kernel, rfl, by decide +kernel, by decide +kernel⟩
theorem dems_snoc {ns : List Cs} {z : Cs} {p : Prt} (h : DemOk ns z p) : ∀ {zs : List Cs} {ps : List Prt}, DemsOk ns zs ps → DemsOk ns (zs ++ [z]) (ps ++ [p])
  | _, _, .nil => .cons h .nil
  | _, _, .cons g r => .cons g (dems_snoc h r)
theorem ok_with {f fI : Addr} {fd fdI : FuncData} (F : Fun K "with_demand" "Book.with_demand" sWith f fd) (B : BkC K mg C) (Y : ExD K mg cD) (M : Mk K C fI) (GI : FnOk P w K mg base CX0 6 fI fdI ["self", "names", "demands"] (spInit K C)) (bI : Binds K fdI ["self", "names", "demands"] []) (c_parts_within : CalX P w K mg base 5 "parts_within" (spOr (spWithin K) (spNoPart K))) :
    FnOk P w K mg base (L2.CX P w) 8 f fd ["self", "demand"] (spWithD K C cD) := by
  refine F.okX sc_with (fun vs H Q E h => ?_) (fun cdv A outer s H vs Q E hr h => ?_)
  · obtain ⟨b, v, ns, zs, ps, rfl, _⟩ := h
    rfl
  obtain ⟨b, v, ns, zs, ps, rfl, ⟨dx, n, d, p, pas, hb, hn, hd, hp, hP⟩, h⟩ := h
  have nd := sc_with.nd
  refine ⟨_, pss_cons (ps_if (pt_cmpR op_isN (C8.pe_c c_parts_within hr (by decide) rfl (pa_cons (pv 1) (pa_cons (pe_fld (pv 0) rfl) pa_nil))) pe_non (nomark _)) (pss_one (ps_raise rfl (takes_of rfl rfl rfl rfl) (pmk_own0 PySem.F.excBase_ValueError Y.x Y.mD Y.k (raises_own Y.b Y.t) rfl))) pss_nil)
    (pss_one (ps_ret (pe_make M GI (hr.mono (by decide)) rfl B.mB bI .nil pass0 (pa_cons (pe_fld (pv 0) rfl) (pa_cons (pe_op (show OpR _ _ (rCatA K) from op_catA) (pe_fld (pv 0) rfl) (pe_tup (pa_cons (pv 1) pa_nil))) pa_nil))))), ?_⟩
  refine ⟨_, rfl, _, rfl, b, C, dx, _, _, rfl, hb, B.cl, B.n1, (flds_get n d p).1, ?_⟩
  rcases h with ⟨no, q⟩ | ⟨z, pr, rfl, ⟨e1, e2, e3, e4⟩, k1, k2, k3, k4, k5, k6, q⟩
  · exact .inr ⟨v, n, ns, rfl, no, .inr hn, fun H1 s1 => ⟨rfl, _, rfl, iteT (q H1 s1)⟩⟩
  · refine .inl ⟨z, pr, n, ns, rfl, e2, e1, e3, .inr hn, e4, fun H1 t s1 nt ht => ⟨rfl, _, rfl, iteF ?_⟩⟩
    refine ⟨_, rfl, b, C, dx, _, _, rfl, s1 _ _ hb, B.cl, B.n1, (flds_get n d p).1, _, rfl, b, C, dx, _, _, rfl, s1 _ _ hb, B.cl, B.n2, (flds_get n d p).2.1, _, rfl, (by show 1 ≤ sizeLine; decide), fun t1 n1 => ?_⟩
    have s2 := same_new n1 (.tup [tv z])
    have m5 : (1000 : Nat) ≤ sizeLine := by decide
    refine catA_of (Same.tup (s1.trans s2) hd) (SqT.of upd_same) (by rw [List.length_map]; show _ + 1 ≤ _; omega) fun H3 q3 s3 h3 => ?_
    intro x dx' nx ndx nex
    have s13 := s1.trans (s2.trans s3)
    have sx : Same H3 (upd (upd H3 dx' (.own x)) x (.ins C dx' [])) := fun b o e => by
      rw [upd_ne (ne_of_none e nx), upd_ne (ne_of_none e ndx)]
      exact e
    refine ⟨x, dx', n, q3, ns, zs ++ [z], ps ++ [pr], rfl, upd_same, .inr (Same.tup (s13.trans sx) hn), .inr (by rw [List.map_append]; exact Same.tup sx h3), k1, k2, k3, k4, by rw [List.length_append]; show _ + 1 ≤ _; omega, dems_snoc ⟨e1, e2, e3, e4⟩ k6, fun H4 kp bk => ⟨rfl, ?_⟩⟩
    exact q H4 x (fun b o e => kp b o (sx _ _ (s13 _ _ e)) (ne_of_none (s13 _ _ e) nx)) bk
end
end Pg
/-! Hx -/
set_option Elab.async false
set_option linter.all false
set_option maxRecDepth 100000
set_option maxHeartbeats 4000000
namespace Gd
open PySem PySem.Spec PyProof.Rows L2 Mr Pg
theorem fold_cat (a : Array Nat) : ∀ (n : Nat) (acc : Array Nat), (List.replicate n a).foldl (· ++ ·) acc = acc ++ (rep n a.toList).toArray
  | 0, acc => by show acc = acc ++ #[]; simp
  | n + 1, acc => by
    rw [List.replicate_succ, List.foldl_cons, fold_cat a n, rep_succ]
    apply Array.ext'
    simp
theorem made_rep (n : Nat) (z : Cs) : (⟨(List.replicate n (S z).cps).foldl (· ++ ·) #[]⟩ : Str) = S (rep n z) := by
  rw [fold_cat]
  show (⟨#[] ++ (rep n z).toArray⟩ : Str) = _
  simp [S]
section
variable {X : Cx}
/-- a text, so many times -/
theorem op_mulX : OpR X (binaryOp .Mult) (fun x y H Q => ∃ (z : Cs) (k : Nat), x = tv z ∧ y = .int k ∧ z.length ≤ 100 ∧ k ≤ 1000 ∧ Q (tv (rep k z)) H) := by
  intro pins s σ H x y v u Q I rx ry h
  obtain ⟨z, k, rfl, rfl, lt, lk, q⟩ := h
  obtain ⟨tk, rfl⟩ := rx
  obtain ⟨tk2, rfl⟩ := ry
  have big : (100 : Nat) * 1000 ≤ sizeLine := by decide
  have lz : (S z).length = z.length := len_S z
  have le : (S z).length * k ≤ 100 * 1000 := by rw [lz]; exact Nat.mul_le_mul lt lk
  have hl : Builtin.Str.tooLong ((S z).length * ((k : Int)).toNat) = false := by
    unfold Builtin.Str.tooLong
    rw [Int.toNat_natCast]
    simp
    omega
  refine PySem.P.mul_str (by rw [decide_eq_false (by omega), decide_eq_false (by omega)]; rfl) (fun h1 _ => ?_) (fun _ _ => hl) ?_
  · have : (100 : Int) ≤ (2 ^ 63 - 1) / (k : Int) := by
      rw [Int.le_ediv_iff_mul_le (by omega)]
      omega
    omega
  · split
    · rename_i h1
      have k0 : k = 0 := by omega
      subst k0
      exact ⟨by decide, tv (rep 0 z), H, I.tok _, ⟨_, rfl⟩, q⟩
    · split
      · rename_i h1 h2
        have e : rep k z = z := by
          rcases Bool.or_eq_true_iff.mp h2 with e | e
          · have k1 : k = 1 := by have := beq_iff_eq.mp e; omega
            rw [k1]
            show [z].flatten = z
            simp
          · have z0 : z.length = 0 := by rw [← lz]; exact beq_iff_eq.mp e
            have z0 : z = [] := List.length_eq_zero_iff.mp z0
            apply List.length_eq_zero_iff.mp ?_ |>.trans z0.symm
            rw [rep_len, z0]
            simp
        rw [e] at q
        exact ⟨tv z, H, I, ⟨_, rfl⟩, q⟩
      · have q := q
        refine ⟨fits_reps hl, tv (rep k z), H, I.tok _, ?_, q⟩
        rw [Int.toNat_natCast, made_rep]
        exact ⟨_, rfl⟩
end
end Gd
namespace Pg
open PySem L2 Mr
theorem passAll {X : Cx} {W : WX} {n : Nat} (tk : L2.Takes X W) (hn : X.N.length = n) : Passes (L2.CX X.prog X.w) X (fun c d H => ∀ σ : L2.St, σ.length = n → W c d σ H) := fun pins σ H s e s' I ⟨a, B, H', cls, d, z1, z2, z3, z4, z5, z6, z7, z8⟩ =>
  L2.passAt tk σ pins H s e s' I ⟨a, B, H', cls, d, z1, z2, z3, z4, z5, z6, z7, z8 σ (I.len.trans hn)⟩
/-- what the law's hearing asks of the errors -/
structure Ez (K : PySem.W.Frag) (mg : Str → Option Value) (cL cB cD cT : Addr) : Prop where
  mL : mg "InvalidLevel" = some (.ref cL)
  mB : mg "InvalidBook" = some (.ref cB)
  mD : mg "InvalidDemand" = some (.ref cD)
  mT : mg "InvalidText" = some (.ref cT)
  xB : XfC K cB
  noB : PySem.W.findIn K (.ref cB) "word" = some none
  xT : XfC K cT
  noT : PySem.W.findIn K (.ref cT) "at" = some none
  ll : PySem.W.exmOne K (.ref cL) (.ref cL) = some true
  bl : PySem.W.exmOne K (.ref cB) (.ref cL) = some false
  bb : PySem.W.exmOne K (.ref cB) (.ref cB) = some true
  dl : PySem.W.exmOne K (.ref cD) (.ref cL) = some false
  db : PySem.W.exmOne K (.ref cD) (.ref cB) = some false
  dd : PySem.W.exmOne K (.ref cD) (.ref cD) = some true
  tl : PySem.W.exmOne K (.ref cT) (.ref cL) = some false
  tb : PySem.W.exmOne K (.ref cT) (.ref cB) = some false
  td : PySem.W.exmOne K (.ref cT) (.ref cD) = some false
  tt : PySem.W.exmOne K (.ref cT) (.ref cT) = some true
section
variable {P : Program} {w : World} {K : PySem.W.Frag} {mg : Str → Option Value} {base : Heap} {pS pC C cL cB cD cT : Addr}
def rAS : V → V → Hp → VK → Prop := fun x y H Q => ∃ i j, x = .str i ∧ y = .str j ∧ i.length + j.length ≤ sizeLine ∧ Q (.str (i ++ j)) H
def ans (f : Int) : V := if f = 1 then .str "demands" else if f = 2 then .str "demand" else .int 1
def spHeard : Sp := fun vs H Q _ => ∃ (f : Int) (z : Cs), vs = [.int f, tv z] ∧ z.length ≤ 100000 ∧ 10 ∉ z ∧
  ((f = 0 ∧ ((stepsOf z = none ∧ ∀ H', Same H H' → Q (.str "level") H') ∨ ∃ ss, stepsOf z = some ss ∧ ss.length < 64 ∧ ∀ H', Same H H' → Q (.str "let") H')) ∨
   ((f = 1 ∨ f = 2 ∨ f = 3) ∧ ((partsOf z = none ∧ ∀ H', Same H H' → Q (ans f) H') ∨ ∃ p, DemOk [cU] z p ∧ ∀ H', Same H H' → Q (.str "let") H')))
theorem sc_heard : FnScope ["_law_form", "_law_told", "_law_found", "e"] ["_law_form", "_law_told"] (defScope st__law_heard) := ⟨rfl, rfl, rfl, by decide +kernel, rfl, by decide +kernel, by decide +kernel⟩
theorem u_ok : (∀ s ∈ [cU], isName s = true) ∧ [cU].Nodup ∧ (∀ z ∈ [cU], 10 ∉ z ∧ 32 ∉ z) ∧ tv cU = .str "u" := by decide +kernel
theorem u_text (z : Cs) : ("names u\n" : Str) ++ S z = bookStr [cU] [z] := by
  have e1 : ("names u\n" : Str) = Txt.join " " (("names" : Str) :: [cU].map S) ++ "\n" := by decide +kernel
  rw [e1]
  unfold bookStr
  rw [TL.join_eq "\n"]
  rfl
theorem ok_heard {f0 fI fN fW fR pR te : Addr} {fd fdI fdN fdW : FuncData} {mc : Value} (F : Fun K "_law_heard" "_law_heard" st__law_heard f0 fd) (Y : Ez K mg cL cB cD cT) (B : BkC K mg C) (M : Mk K C fI)
    (GN : FnOk P w K mg base (L2.CX P w) 5 fN fdN ["level"] (spNamX K cL)) (bN : Binds K fdN ["level"] []) (kN : PySem.W.keepIn K (.ref fN) = true) (mN : mg "names_of" = some (.ref fN))
    (GX : FnOk P w K mg base (L2.CX P w) 6 fI fdI ["self", "names", "demands"] (spOr (spInit K C) (spBad K C cB))) (bI : Binds K fdI ["self", "names", "demands"] [])
    (GI : FnOk P w K mg base CX0 6 fI fdI ["self", "names", "demands"] (spInit K C)) (bI1 : Binds K fdI ["self", "names", "demands"] [.ref te]) (rI1 : Vals [V.ref te] [Value.ref te]) (hte : ∀ H, SqT K H te [])
    (mW : Meth K C "with_demand" fW) (GW : FnOk P w K mg base (L2.CX P w) 8 fW fdW ["self", "demand"] (spWithD K C cD)) (bW : Binds K fdW ["self", "demand"] [])
    (cr : ClX.CRead K C mc) (cm : ClX.CMet K C mc "read" pR fR) (FR : FnR P w K mg base (L2.CX P w) 8 fR (spOr (spRead K C) (spReadB K C cT))) :
    FnOk P w K mg base CX0 9 f0 fd ["_law_form", "_law_told"] spHeard := by
  refine F.ok sc_heard (fun vs H Q E h => ?_) (fun cdv A outer s H vs Q E hr h => ?_)
  · obtain ⟨f, z, rfl, _⟩ := h
    rfl
  obtain ⟨f, z, rfl, lz, nz, h⟩ := h
  have nd := sc_heard.nd
  refine ⟨_, pss_cons (ps_set (i := 2) nd rfl (.inl rfl) pe_str)
    (pss_cons (ps_try_cl (tb := fun W => tIfS (tTest (tOp rEq (tVar 0) (tC (.int 0)))) (tDrop (tCall (spNamX K cL) [] (fun c d H => ∀ σ : L2.St, σ.length = 4 → W c d σ H) (tCons (tVar 1) tNil)))
          (tIfS (tTest (tOp rEq (tVar 0) (tC (.int 1)))) (tDrop (tMake C (spOr (spInit K C) (spBad K C cB)) [] (fun c d H => ∀ σ : L2.St, σ.length = 4 → W c d σ H) (tCons (tLst (tCons (tC (.str "u")) tNil)) (tCons (tLst (tCons (tVar 1) tNil)) tNil))))
          (tIfS (tTest (tOp rEq (tVar 0) (tC (.int 2)))) (tDrop (tMeth C "with_demand" (spWithD K C cD) [] (fun c d H => ∀ σ : L2.St, σ.length = 4 → W c d σ H) (tMake C (spInit K C) [.ref te] C8.E0 (tCons (tLst (tCons (tC (.str "u")) tNil)) tNil)) (tCons (tVar 1) tNil)))
          (tDrop (ClX.tCMeth C (spOr (spRead K C) (spReadB K C cT)) (fun c d H => ∀ σ : L2.St, σ.length = 4 → W c d σ H) (tC (.ref C)) (tCons (tOp rAS (tC (.str "names u\n")) (tVar 1)) tNil)))))) rfl rfl takes0
        (fun W pn xe tk _ => pss_one (ps_if (pt_cmpR op_eq (pv 0) pe_int (nomark _)) (pss_one (ps_expr (pe_call GN (hr.mono (by decide)) rfl mN kN bN .nil (passAll tk rfl) (pa_cons (pv 1) pa_nil))))
          (pss_one (ps_if (pt_cmpR op_eq (pv 0) pe_int (nomark _)) (pss_one (ps_expr (pe_make M GX (hr.mono (by decide)) rfl B.mB bI .nil (passAll tk rfl) (pa_cons (pe_lst (pa_cons pe_str pa_nil)) (pa_cons (pe_lst (pa_cons (pv 1) pa_nil)) pa_nil)))))
          (pss_one (ps_if (pt_cmpR op_eq (pv 0) pe_int (nomark _)) (pss_one (ps_expr (pe_meth (pe_make M GI (hr.mono (by decide)) rfl B.mB bI1 rI1 pass0 (pa_cons (pe_lst (pa_cons pe_str pa_nil)) pa_nil)) B.cl mW GW (hr.mono (by decide)) bW .nil (passAll tk rfl) (pa_cons (pv 1) pa_nil))))
          (pss_one (ps_expr (ClX.pe_cmeth (pe_glob (v := .ref C) (by rfl) B.mB rfl) cr cm FR (hr.mono (by decide)) (passAll tk rfl) (pa_cons (pe_op (show OpR _ _ rAS from op_add_str) pe_str (pv 1)) pa_nil))))))))))
        (L2.ClOk.plain ⟨rfl, by decide, .inl Y.mL⟩ (fun a oe cls dd pn hz hf => pss_one (ps_set (i := 2) nd rfl (.inl rfl) pe_str))
        (L2.ClOk.named (i := 3) (n := "e") ⟨rfl, by decide, .inl Y.mB⟩ nd rfl rfl (fun a oe cls dd pn hz hf => pss_one (ps_set (i := 2) nd rfl (.inl rfl) (pe_xf Y.xB Y.noB hz hf (pv 3))))
        (L2.ClOk.plain ⟨rfl, by decide, .inl Y.mD⟩ (fun a oe cls dd pn hz hf => pss_one (ps_set (i := 2) nd rfl (.inl rfl) pe_str))
        (L2.ClOk.named (i := 3) (n := "e") ⟨rfl, by decide, .inl Y.mT⟩ nd rfl rfl (fun a oe cls dd pn hz hf => pss_one (ps_set (i := 2) nd rfl (.inl rfl) (pe_xf Y.xT Y.noT hz hf (pv 3))))
          L2.ClOk.nil)))))
    (pss_one (ps_ret (pv 2)))), ?_⟩
  have hand : ∀ {σ : L2.St}, σ.length = 4 → ∃ s0 s1 s2 s3, σ = [s0, s1, s2, s3] := fun {σ} hl => by
    match σ, hl with
    | [s0, s1, s2, s3], _ => exact ⟨_, _, _, _, rfl⟩
  have mk : ∀ {H' : Hp} {x dx : Addr}, H' x = none → H' dx = none → Same H' (upd (upd H' dx (.own x)) x (.ins C dx [])) := fun {H' x dx} nx ndx b o e => by
    rw [upd_ne (ne_of_none e nx), upd_ne (ne_of_none e ndx)]
    exact e
  have nodem : ∀ {H' : Hp}, partsOf z = none → NoDem K H' [cU] (tv z) := fun {H'} e => .inl ⟨z, rfl, lz, .inl e⟩
  refine ⟨_, rfl, rfl, _, rfl, ?_⟩
  rw [int_eq]
  rcases h with ⟨rfl, h⟩ | ⟨hf, h⟩
  · rw [decide_eq_true rfl]
    refine iteT ⟨_, rfl, z, rfl, lz, ?_⟩
    rcases h with ⟨e, q⟩ | ⟨ss, e, few, q⟩
    · refine .inl ⟨e, fun H' s' σ hl => ⟨true, Y.ll, fun _ a na => ?_, fun z => by cases z⟩⟩
      obtain ⟨s0, s1, s2, s3, rfl⟩ := hand hl
      exact ⟨_, rfl, q H' s'⟩
    · exact .inr ⟨ss, e, few, fun H' v s' => ⟨_, rfl, q H' s'⟩⟩
  rw [decide_eq_false (by omega)]
  refine iteF ⟨_, rfl, rfl, _, rfl, ?_⟩
  rw [int_eq]
  by_cases f1 : f = 1
  · rw [decide_eq_true f1]
    refine iteT ⟨(by show 1 ≤ sizeLine; decide), fun a1 n1 => ?_⟩
    have s1 := same_new n1 (.lst [.str "u"])
    have h1 : upd H a1 (.lst [.str "u"]) a1 = some (.lst ([cU].map tv)) := by rw [upd_same, ← u_ok.2.2.2]; rfl
    generalize upd H a1 (.lst [.str "u"]) = H1 at s1 h1
    refine ⟨_, rfl, (by show 1 ≤ sizeLine; decide), fun a2 n2 => ?_⟩
    have s2 := same_new n2 (.lst [tv z])
    have h2 : upd H1 a2 (.lst [tv z]) a2 = some (.lst ([z].map tv)) := upd_same
    generalize upd H1 a2 (.lst [tv z]) = H2 at s2 h2
    intro x dx nx ndx nex
    have sx := mk nx ndx
    have g1 := sx _ _ (s2 _ _ h1)
    have g2 := sx _ _ h2
    rcases h with ⟨e, q⟩ | ⟨p, ok, q⟩
    · unfold ans at q
      rw [if_pos f1] at q
      refine .inr ⟨x, .ref a1, .ref a2, rfl, .inr ⟨[cU], ⟨a1, rfl, SqL.of g1, u_ok.1, u_ok.2.1, by decide, by decide⟩, .inr ⟨a2, [tv z], rfl, SqL.of g2, (by show 1 ≤ 50; decide), fun y m => .inl (by rw [List.mem_singleton.mp m]; exact nodem e), tv z, List.mem_singleton.mpr rfl, nodem e⟩, fun H' d' s' e' σ hl => ⟨false, Y.bl, fun z => (by cases z), fun _ => ⟨true, Y.bb, fun _ a na => ?_, fun z => by cases z⟩⟩⟩⟩
      obtain ⟨s0, s1', s2', s3, rfl⟩ := hand hl
      exact ⟨_, rfl, rfl, rfl, d', _, _, rfl, e', rfl, _, rfl, q _ (s1.trans (s2.trans (sx.trans s')))⟩
    · exact .inl ⟨x, dx, a1, a2, [cU], [z], [p], rfl, upd_same, .inl (SqL.of g1), .inl (SqL.of g2), u_ok.1, u_ok.2.1, by decide, by decide, (by show 1 ≤ 50; decide), .cons ok .nil, fun H4 kp bk => ⟨rfl, _, rfl, q _ (s1.trans (s2.trans fun b o e => kp b o (sx _ _ e) (ne_of_none e nx)))⟩⟩
  rw [decide_eq_false f1]
  refine iteF ⟨_, rfl, rfl, _, rfl, ?_⟩
  rw [int_eq]
  by_cases f2 : f = 2
  · rw [decide_eq_true f2]
    refine iteT ⟨(by show 1 ≤ sizeLine; decide), fun a1 n1 => ?_⟩
    have s1 := same_new n1 (.lst [.str "u"])
    have h1 : upd H a1 (.lst [.str "u"]) a1 = some (.lst ([cU].map tv)) := by rw [upd_same, ← u_ok.2.2.2]; rfl
    generalize upd H a1 (.lst [.str "u"]) = H1 at s1 h1
    intro x dx nx ndx nex
    have sx := mk nx ndx
    refine ⟨x, dx, a1, te, [cU], [], [], rfl, upd_same, .inl (SqL.of (sx _ _ h1)), .inr (hte _), u_ok.1, u_ok.2.1, by decide, by decide, Nat.zero_le _, .nil, fun H4 kp bk => ⟨rfl, ?_⟩⟩
    have s4 : Same H1 H4 := fun b o e => kp b o (sx _ _ e) (ne_of_none e nx)
    obtain ⟨dy, n, d, p0, pas, hi, _⟩ := id bk
    refine ⟨x, dy, _, rfl, hi, flds_no n d p0 (m := "with_demand") (by decide +kernel) (by decide +kernel) (by decide +kernel), _, rfl, x, tv z, [cU], [], [], rfl, bk, ?_⟩
    rcases h with ⟨e, q⟩ | ⟨p, ok, q⟩
    · unfold ans at q
      rw [if_neg f1, if_pos f2] at q
      refine .inl ⟨nodem e, fun H' s' σ hl => ⟨false, Y.dl, fun z => (by cases z), fun _ => ⟨false, Y.db, fun z => (by cases z), fun _ => ⟨true, Y.dd, fun _ a na => ?_, fun z => by cases z⟩⟩⟩⟩
      obtain ⟨s0, s1', s2', s3, rfl⟩ := hand hl
      exact ⟨_, rfl, q _ (s1.trans (s4.trans s'))⟩
    · exact .inr ⟨z, p, rfl, ok, u_ok.1, u_ok.2.1, by decide, by decide, Nat.zero_le _, .nil, fun H' c s' _ => ⟨_, rfl, q _ (s1.trans (s4.trans s'))⟩⟩
  rw [decide_eq_false f2]
  have m5 : (1000000 : Nat) ≤ sizeLine := by decide
  have l8 : ("names u\n" : Str).length = 8 := by decide +kernel
  refine iteF ⟨rfl, _, rfl, _, _, rfl, rfl, by rw [l8, len_S]; omega, ?_⟩
  rw [u_text z]
  have lb : (bookStr [cU] [z]).length ≤ 10000000 := by
    rw [← u_text z, Str.length_append, l8, len_S]
    omega
  have ll : (Txt.join " " (("names" : Str) :: [cU].map S)).length ≤ 10000000 := by
    have : (Txt.join " " (("names" : Str) :: [cU].map S)).length = 7 := by decide +kernel
    rw [this]
    decide
  have nz1 : ∀ y ∈ [z], 10 ∉ y := fun y m => by rw [List.mem_singleton.mp m]; exact nz
  rcases h with ⟨e, q⟩ | ⟨p, ok, q⟩
  · unfold ans at q
    rw [if_neg f1, if_neg f2] at q
    refine .inr ⟨[cU], [z], z, rfl, rfl, u_ok.1, by decide, by decide, lz, e, nz1, u_ok.2.2.1, lb, ll, fun H' d' s' e' σ hl => ⟨false, Y.tl, fun z => (by cases z), fun _ => ⟨false, Y.tb, fun z => (by cases z), fun _ => ⟨false, Y.td, fun z => (by cases z), fun _ => ⟨true, Y.tt, fun _ a na => ?_, fun z => by cases z⟩⟩⟩⟩⟩
    obtain ⟨s0, s1', s2', s3, rfl⟩ := hand hl
    exact ⟨_, rfl, rfl, rfl, d', _, _, rfl, e', rfl, _, rfl, q _ s'⟩
  · exact .inl ⟨[cU], [z], [p], rfl, u_ok.1, u_ok.2.1, by decide, by decide, (by show 1 ≤ 50; decide), .cons ok .nil, nz1, u_ok.2.2.1, lb, ll, fun H' b s' _ => ⟨_, rfl, q _ s'⟩⟩
end
end Pg
/-! Bs2 -/
set_option Elab.async false
set_option linter.all false
set_option maxRecDepth 100000
set_option maxHeartbeats 4000000
namespace Pg
open PySem L2 Mr
/-- a list that the box is not -/
def SqB (K : PySem.W.Frag) (H : Hp) (b a : Addr) (xs : List V) : Prop := (a ≠ b ∧ SqL K H a xs) ∨ ∀ H', SqL K H' a xs
theorem SqB.mk {K : PySem.W.Frag} {H H' : Hp} {b a : Addr} {xs : List V} (h : SqL K H a xs) (s : Same H H') (n : H b = none) : SqB K H' b a xs := by
  rcases h with (e | ⟨o, e⟩) | c
  · exact .inl ⟨(fun z => by rw [z, n] at e; cases e), .inl (.inl (s _ _ e))⟩
  · exact .inl ⟨(fun z => by rw [z, n] at e; cases e), .inl (.inr ⟨o, s _ _ e⟩)⟩
  · exact .inr fun _ => .inr c
theorem SqB.bx {K : PySem.W.Frag} {H H' : Hp} {b a : Addr} {xs : List V} (h : SqB K H b a xs) (x : Bx H H' b) : SqB K H' b a xs := by
  rcases h with ⟨n, h⟩ | h
  · exact .inl ⟨n, seqL_upd x n h⟩
  · exact .inr h
theorem SqB.get {K : PySem.W.Frag} {H : Hp} {b a : Addr} {xs : List V} (h : SqB K H b a xs) : SqL K H a xs := h.elim (·.2) (· H)
/-- pairs (key, value) in tuples -/
def PairsAt (H : Hp) (ps : List Addr) (kvs : List (Key × V)) : Prop := ps.length = kvs.length ∧ ∀ (i : Nat) p kv, ps[i]? = some p → kvs[i]? = some kv → H p = some (.tup [kV kv.1, kv.2])
theorem PairsAt.same {H H' : Hp} {ps : List Addr} {kvs : List (Key × V)} (h : PairsAt H ps kvs) (s : Same H H') : PairsAt H' ps kvs := ⟨h.1, fun i p kv e1 e2 => s _ _ (h.2 i p kv e1 e2)⟩
theorem PairsAt.mut {H : Hp} {ps : List Addr} {kvs : List (Key × V)} {D : Addr} {l : List V} {o : HO} (h : PairsAt H ps kvs) (e : H D = some (.lst l)) : PairsAt (upd H D o) ps kvs :=
  ⟨h.1, fun i p kv e1 e2 => by have g := h.2 i p kv e1 e2; rw [upd_ne (fun z => by rw [z, e] at g; cases g)]; exact g⟩
theorem PairsAt.push {H : Hp} {ps : List Addr} {kvs : List (Key × V)} {p : Addr} {kv : Key × V} (h : PairsAt H ps kvs) (g : H p = some (.tup [kV kv.1, kv.2])) : PairsAt H (ps ++ [p]) (kvs ++ [kv]) := by
  refine ⟨by rw [List.length_append, List.length_append, h.1]; rfl, fun i p' kv' e1 e2 => ?_⟩
  by_cases lt : i < ps.length
  · rw [List.getElem?_append_left lt] at e1
    rw [List.getElem?_append_left (h.1 ▸ lt)] at e2
    exact h.2 i p' kv' e1 e2
  · have hl := h.1
    rw [List.getElem?_append_right (by omega)] at e1 e2
    rw [← hl] at e2
    match hh : i - ps.length with
    | 0 => rw [hh] at e1 e2; cases e1; cases e2; exact g
    | j + 1 => rw [hh] at e1; cases e1
theorem paired_of {α β : Type} {F : α → β → Prop} : ∀ {ps : List α} {qs : List β}, ps.length = qs.length → (∀ (i : Nat) p q, ps[i]? = some p → qs[i]? = some q → F p q) → Paired F ps qs
  | [], [], _, _ => .nil
  | [], _ :: _, h, _ => by cases h
  | _ :: _, [], h, _ => by cases h
  | a :: ps, b :: qs, h, f => .cons (f 0 a b rfl rfl) (paired_of (Nat.succ.inj h) fun i p q e1 e2 => f (i + 1) p q e1 e2)
theorem PairsAt.paired {K : PySem.W.Frag} {H : Hp} {ps : List Addr} {kvs : List (Key × V)} (h : PairsAt H ps kvs) : Paired (fun p kv => SqT K H p [kV kv.1, kv.2]) ps kvs := paired_of h.1 fun i p kv e1 e2 => SqT.of (h.2 i p kv e1 e2)
theorem fold_put (F : Cs → V) : ∀ (l pre : List Cs), (pre ++ l).Nodup → (l.map fun s => ((Sum.inr (S s), F s) : Key × V)).foldl (fun acc kv => putK acc kv.1 kv.2) (pre.map fun s => ((Sum.inr (S s), F s) : Key × V)) = (pre ++ l).map fun s => ((Sum.inr (S s), F s) : Key × V)
  | [], pre, _ => by rw [List.append_nil]; rfl
  | a :: l, pre, nd => by
    have na : a ∉ pre := fun h => by
      have := List.nodup_append.mp nd
      exact this.2.2 a h a List.mem_cons_self rfl
    rw [List.map_cons, List.foldl_cons]
    show (l.map _).foldl _ (putK (pre.map _) (Sum.inr (S a)) (F a)) = _
    rw [put_name na, names_cong (G := F) (fun s hs => by by_cases e : s = a <;> simp [e]), fold_put F l (pre ++ [a]) (by rw [List.append_assoc]; exact nd), List.append_assoc]
    rfl
theorem merge_names {F : Cs → V} {l : List Cs} (nd : l.Nodup) : mergeK [] (l.map fun s => ((Sum.inr (S s), F s) : Key × V)) = l.map fun s => ((Sum.inr (S s), F s) : Key × V) := by
  have := fold_put F l [] (by rw [List.nil_append]; exact nd)
  rw [List.nil_append] at this
  exact this
end Pg
/-! La1 -/
set_option Elab.async false
set_option linter.all false
set_option maxRecDepth 100000
set_option maxHeartbeats 4000000
namespace Pg
open PySem L2 Mr
section
variable {P : Program} {w : World} {K : PySem.W.Frag} {mg : Str → Option Value} {base : Heap} {pS pC : Addr}
/-! ### _law_box -/
def spBox (K : PySem.W.Frag) : Sp := fun vs H Q _ => ∃ (a : Addr) (ns : List Int) (k o : Int), vs = [.ref a, .int k, .int o] ∧ SqL K H a (ns.map V.int) ∧ 0 ≤ k ∧ k < 1000 ∧ 0 ≤ o ∧ o < 1000 ∧
  ∀ H' b, Same H H' → H b = none → BoxAt H' b → Q (.ref b) H'
theorem sc_box : FnScope ["_law_script", "_law_k", "_law_own", "_law_cell", "_law_seed"] ["_law_script", "_law_k", "_law_own"] (defScope st__law_box) := ⟨rfl, rfl, rfl, by decide +kernel, rfl, by decide +kernel, by decide +kernel⟩
theorem ok_box {f : Addr} {fd : FuncData} (F : Fun K "_law_box" "_law_box" st__law_box f fd) (L : Lx mg) : FnOk P w K mg base CX0 1 f fd ["_law_script", "_law_k", "_law_own"] (spBox K) := by
  refine F.ok sc_box (fun vs H Q E h => ?_) (fun cdv A outer s H vs Q E hr h => ?_)
  · obtain ⟨a, ns, k, o, rfl, _⟩ := h
    rfl
  obtain ⟨a, ns, k, o, rfl, hS, hk0, hk1, ho0, ho1, q⟩ := h
  have nd := sc_box.nd
  refine ⟨_, pss_cons (ps_set (i := 3) nd rfl (.inl rfl) (pe_op op_add (pe_op op_add (pe_op op_mul pe_int (pv 1)) (pe_op op_mul pe_int (pv 2))) pe_int))
    (C8.pss_cut (ps_if (pt_cmpR op_lt (pv 1) (pe_callB call_len_seq (by rfl) L.len PySem.boot_len (pa_cons (pv 0) pa_nil)) (nomark _))
        (pss_one (ps_set (i := 3) nd rfl (.inl rfl) (pe_callB call_abs (by rfl) L.abs (by decide +kernel) (pa_cons (pe_ix ix_list (pv 0) (pv 1) (fun _ _ => rfl)) pa_nil))))
      (pss_one (ps_if (pt_cmpR op_gt (pe_callB call_len_seq (by rfl) L.len PySem.boot_len (pa_cons (pv 0) pa_nil)) pe_int (nomark _))
        (pss_one (ps_set (i := 3) nd rfl (.inl rfl) (pe_op op_add (pv 3) (pe_op op_mul (pe_op op_mod (pe_callTy call_int1 (by rfl) L.int (by decide +kernel) (pa_cons (pe_callB call_abs (by rfl) L.abs (by decide +kernel)
          (pa_cons (pe_ix ix_list (pv 0) (pe_op op_modN (pe_callTy call_int1 (by rfl) L.int (by decide +kernel) (pa_cons (pv 1) pa_nil)) (pe_callB call_len_seq (by rfl) L.len PySem.boot_len (pa_cons (pv 0) pa_nil))) (fun _ _ => rfl)) pa_nil)) pa_nil)) pe_int) pe_int)))) pss_nil)))
    (pss_cons (ps_set (i := 4) nd rfl (.inl rfl) (pe_op op_add (pe_op op_mod (pe_callTy call_int1 (by rfl) L.int (by decide +kernel) (pa_cons
        (pe_op op_add (pe_op op_mul (pe_op op_mod (pe_callTy call_int1 (by rfl) L.int (by decide +kernel) (pa_cons (pv 3) pa_nil)) pe_int) pe_int) (pe_op op_mul pe_int (pe_op op_add (pv 1) (pe_op op_mul pe_int (pv 2))))) pa_nil)) pe_int) pe_int))
    (pss_one (ps_ret (pe_lst (pa_cons (pe_ix ix_list (pe_lst (pa_cons pe_int (pa_cons (pv 3) pa_nil))) (pe_callTy call_int1 (by rfl) L.int (by decide +kernel) (pa_cons (pe_cmpR op_ge (pv 3) (pe_op op_pow pe_int pe_int) (nomark _)) pa_nil)) (fun _ _ => rfl))
      (pa_cons (pv 4) (pa_cons pe_int pa_nil)))))))), ?_⟩
  refine ⟨_, rfl, _, _, rfl, rfl, .inl ⟨by decide, by decide⟩, _, rfl, _, _, rfl, rfl, .inl ⟨by decide, by decide⟩, _, _, rfl, rfl, _, _, rfl, rfl, ?_⟩
  have hl : (ns.map V.int).length = ns.length := List.length_map _
  refine ⟨fun σ H' => H' = H ∧ ∃ cell, σ = [some (.ref a), some (.int k), some (.int o), some (.int cell), none], ?_, ?_⟩
  · refine ⟨_, rfl, _, rfl, a, _, rfl, .inl hS, _, _, rfl, rfl, _, rfl, ite2 (fun c => ?_) (fun c => ?_)⟩
    · have c' : k < ((ns.map V.int).length : Int) := of_decide_eq_true c
      rw [hl] at c'
      obtain ⟨n0, hat⟩ := at_int hk0 c'
      exact ⟨_, rfl, _, rfl, a, _, _, _, rfl, rfl, hS, hat, _, rfl, rfl, _, rfl⟩
    · refine ⟨_, rfl, a, _, rfl, .inl hS, _, _, rfl, rfl, _, rfl, ite2 (fun d => ?_) (fun d => ⟨rfl, _, rfl⟩)⟩
      have d' : (0 : Int) < ((ns.map V.int).length : Int) := of_decide_eq_true d
      rw [hl] at d'
      have m0 : 0 ≤ k.fmod (ns.length : Int) := Int.fmod_nonneg_of_pos _ d'
      have m1 : k.fmod (ns.length : Int) < (ns.length : Int) := Int.fmod_lt_of_pos _ d'
      obtain ⟨n0, hat⟩ := at_int m0 m1
      refine ⟨_, rfl, _, rfl, _, rfl, .inl ⟨_, rfl, _, rfl, a, _, rfl, .inl hS, _, _, rfl, rfl, ?_, a, _, _, _, rfl, rfl, hS, (by rw [hl]; exact hat), _, rfl, .inl ⟨_, rfl, _, _, rfl, rfl, (by show (0 : Int) < 2147483629; decide), _, _, rfl, rfl, .inr ⟨by decide, by decide⟩, _, _, rfl, rfl, rfl, _, rfl⟩⟩⟩
      rw [hl]; omega
  · rintro σ H' ⟨rfl, cell, rfl⟩
    refine ⟨_, rfl, .inl ⟨_, rfl, _, _, rfl, rfl, (by show (0 : Int) < 2147483629; decide), _, _, rfl, rfl, .inr ⟨by decide, by decide⟩, _, rfl, _, rfl, _, _, rfl, rfl, .inl ⟨by decide, by decide⟩, _, _, rfl, rfl, _, _, rfl, rfl, .inl ⟨by decide, by decide⟩, _, _, rfl, rfl, .inl ⟨_, rfl, _, _, rfl, rfl, (by show (0 : Int) < 2147483629; decide), _, _, rfl, rfl, ?_⟩⟩⟩
    refine ⟨_, rfl, (by show 2 ≤ sizeLine; decide), fun p np => ⟨_, rfl, _, _, rfl, rfl, ⟨by decide, by decide, by decide⟩, _, _, rfl, rfl, .inr ⟨_, rfl, ?_⟩⟩⟩
    have fin : ∀ (d s : Int) (b : Addr), upd H' p (.lst [.int 0, .int cell]) b = none → Q (.ref b) (upd (upd H' p (.lst [.int 0, .int cell])) b (boxV d s 0)) := fun d s b nb =>
      q _ b ((same_new np _).trans (same_new nb _)) (upd_none nb).2 ⟨_, _, _, upd_same⟩
    by_cases c : (10 : Int) ^ (18 : Int).toNat ≤ cell
    · rw [decide_eq_true c]
      exact ⟨p, _, _, _, rfl, rfl, SqL.of upd_same, rfl, _, rfl, (by show 3 ≤ sizeLine; decide), fun b nb => fin _ _ b nb⟩
    · rw [decide_eq_false c]
      exact ⟨p, _, _, _, rfl, rfl, SqL.of upd_same, rfl, _, rfl, (by show 3 ≤ sizeLine; decide), fun b nb => fin _ _ b nb⟩
/-! ### _law_take -/
def spTake : Sp := fun vs H Q _ => ∃ (b : Addr) (n : Int), vs = [.ref b, .int n] ∧ BoxAt H b ∧ 1 ≤ n ∧ n < 1000000 ∧ ∀ r d s c, 0 ≤ r → r < n → Q (.int r) (upd H b (boxV d s c))
theorem sc_take : FnScope ["_law_box_here", "_law_many", "_law_digit", "_law_raw", "_law_wide"] ["_law_box_here", "_law_many"] (defScope st__law_take) := ⟨rfl, rfl, rfl, by decide +kernel, rfl, by decide +kernel, by decide +kernel⟩
theorem ok_take {f : Addr} {fd : FuncData} (F : Fun K "_law_take" "_law_take" st__law_take f fd) (L : Lx mg) : FnOk P w K mg base CX0 1 f fd ["_law_box_here", "_law_many"] spTake := by
  refine F.ok sc_take (fun vs H Q E h => ?_) (fun cdv A outer s H vs Q E hr h => ?_)
  · obtain ⟨b, n, rfl, _⟩ := h
    rfl
  obtain ⟨b, n, rfl, ⟨d, t, c, hb⟩, hn, hn2, q⟩ := h
  have nd := sc_take.nd
  refine ⟨_, pss_cons (ps_if (pt_cmpR op_gt (pe_ix ix_list (pv 0) pe_int (fun _ _ => rfl)) pe_int (nomark _))
      (pss_cons (ps_set (i := 2) nd rfl (.inl rfl) (pe_op op_modN (pe_callTy call_int1 (by rfl) L.int (by decide +kernel) (pa_cons (pe_ix ix_list (pv 0) pe_int (fun _ _ => rfl)) pa_nil)) (pv 1)))
      (pss_cons (ps_asg (pe_op op_fdivN (pe_ix ix_list (pv 0) pe_int (fun _ _ => rfl)) (pv 1)) (pg_sub (pv 0) pe_int set_list))
      (pss_one (ps_ret (pv 2))))) pss_nil)
    (pss_cons (ps_asg (pe_op op_add (pe_ix ix_list (pv 0) pe_int (fun _ _ => rfl)) pe_int) (pg_sub (pv 0) pe_int set_list))
    (pss_cons (ps_set (i := 3) nd rfl (.inl rfl) (pe_op op_mod (pe_callTy call_int1 (by rfl) L.int (by decide +kernel) (pa_cons
        (pe_op op_mul (pe_op op_add (pe_ix ix_list (pv 0) pe_int (fun _ _ => rfl)) (pe_op op_mul pe_int (pe_ix ix_list (pv 0) pe_int (fun _ _ => rfl)))) pe_int) pa_nil)) pe_int))
    (pss_cons (ps_asg (pe_op op_add (pe_op op_mod (pe_callTy call_int1 (by rfl) L.int (by decide +kernel) (pa_cons (pe_op op_add (pe_op op_mul (pv 3) pe_int) pe_int) pa_nil)) pe_int) pe_int) (pg_sub (pv 0) pe_int set_list))
    (pss_cons (ps_if (pt_cmpR op_lt (pv 1) (pe_op op_pow pe_int pe_int) (nomark _))
      (pss_one (ps_ret (pe_op op_modN (pe_callTy call_int1 (by rfl) L.int (by decide +kernel) (pa_cons (pe_op op_fdivN (pe_op op_add (pe_op op_mul (pv 3) pe_int) (pe_ix ix_list (pv 0) pe_int (fun _ _ => rfl))) pe_int) pa_nil)) (pv 1)))) pss_nil)
    pss_never)))), ?_⟩
  have n0 : n ≠ 0 := by omega
  have m0 : ∀ x : Int, 0 ≤ x.fmod n := fun x => Int.fmod_nonneg_of_pos _ (by omega)
  have m1 : ∀ x : Int, x.fmod n < n := fun x => Int.fmod_lt_of_pos _ (by omega)
  refine ⟨_, rfl, b, _, _, _, rfl, rfl, SqL.of hb, rfl, _, _, rfl, rfl, _, rfl, ite2 (fun e => ?_) (fun e => ?_)⟩
  · refine ⟨_, rfl, b, _, _, _, rfl, rfl, SqL.of hb, rfl, .inl ⟨_, rfl, _, rfl, _, _, rfl, rfl, n0, ?_⟩⟩
    exact ⟨_, rfl, b, _, _, _, rfl, rfl, SqL.of hb, rfl, _, rfl, _, _, rfl, rfl, ⟨n0, by omega⟩, _, rfl, b, _, _, _, rfl, rfl, hb, rfl, _, rfl, q _ _ _ _ (m0 _) (m1 _)⟩
  · refine ⟨_, rfl, b, _, _, _, rfl, rfl, SqL.of hb, rfl, _, _, rfl, rfl, _, rfl, b, _, _, _, rfl, rfl, hb, rfl, ?_⟩
    have h1 : upd H b (boxV d t (c + 1)) b = some (boxV d t (c + 1)) := upd_same
    refine ⟨_, rfl, b, _, _, _, rfl, rfl, SqL.of h1, rfl, _, rfl, b, _, _, _, rfl, rfl, SqL.of h1, rfl, _, _, rfl, rfl, .inl ⟨by decide, by decide⟩, _, _, rfl, rfl, _, _, rfl, rfl, .inr ⟨by decide, by decide⟩, .inl ⟨_, rfl, _, _, rfl, rfl, (by show (0 : Int) < 2147483647; decide), ?_⟩⟩
    refine ⟨_, rfl, _, _, rfl, rfl, .inr ⟨by decide, by decide⟩, _, _, rfl, rfl, .inl ⟨_, rfl, _, _, rfl, rfl, (by show (0 : Int) < 2147483629; decide), _, _, rfl, rfl, _, rfl, b, _, _, _, rfl, rfl, h1, rfl, ?_⟩⟩
    generalize ((((t + 95617 * (c + 1)) * 50021) % 2147483647 * 48271 + 17011) % 2147483629 + 1) = t2
    refine ⟨_, rfl, _, _, rfl, rfl, ⟨by decide, by decide, by decide⟩, _, _, rfl, rfl, _, rfl, ?_⟩
    have lt : n < (2 : Int) ^ (40 : Int).toNat := Int.lt_trans hn2 (by decide)
    rw [decide_eq_true lt]
    refine iteT ⟨_, rfl, _, _, rfl, rfl, .inr ⟨by decide, by decide⟩, _, rfl, b, _, _, _, rfl, rfl, SqL.of upd_same, rfl, _, _, rfl, rfl, _, _, rfl, rfl, ⟨by decide, by decide⟩, .inl ⟨_, rfl, _, rfl, _, _, rfl, rfl, n0, ?_⟩⟩
    rw [upd_upd]
    exact q _ _ _ _ (m0 _) (m1 _)
/-! ### _law_pick -/
def spPick (K : PySem.W.Frag) : Sp := fun vs H Q _ => ∃ (b a : Addr) (xs : List V), vs = [.ref b, .ref a] ∧ BoxAt H b ∧ a ≠ b ∧ SqL K H a xs ∧ 0 < xs.length ∧ xs.length < 1000000 ∧ ∀ x d s c, x ∈ xs → Q x (upd H b (boxV d s c))
theorem sc_pick : FnScope ["_law_box_here", "_law_items"] ["_law_box_here", "_law_items"] (defScope st__law_pick) := ⟨rfl, rfl, rfl, by decide +kernel, rfl, by decide +kernel, by decide +kernel⟩
theorem ok_pick {f fT : Addr} {fd fdT : FuncData} (F : Fun K "_law_pick" "_law_pick" st__law_pick f fd) (L : Lx mg) (GT : FnOk P w K mg base CX0 1 fT fdT ["_law_box_here", "_law_many"] spTake) (bT : Binds K fdT ["_law_box_here", "_law_many"] []) (kT : PySem.W.keepIn K (.ref fT) = true) (mT : mg "_law_take" = some (.ref fT)) :
    FnOk P w K mg base CX0 2 f fd ["_law_box_here", "_law_items"] (spPick K) := by
  refine F.ok sc_pick (fun vs H Q E h => ?_) (fun cdv A outer s H vs Q E hr h => ?_)
  · obtain ⟨b, a, xs, rfl, _⟩ := h
    rfl
  obtain ⟨b, a, xs, rfl, hb, hne, hS, h0, h1, q⟩ := h
  refine ⟨_, pss_one (ps_ret (pe_ix ix_list (pv 1) (pe_call GT hr rfl mT kT bT .nil pass0 (pa_cons (pv 0) (pa_cons (pe_callB call_len_seq (by rfl) L.len PySem.boot_len (pa_cons (pv 1) pa_nil)) pa_nil))) (fun _ _ => rfl))), ?_⟩
  refine ⟨_, rfl, _, rfl, _, rfl, a, _, rfl, .inl hS, b, _, rfl, hb, by omega, by omega, fun r d s c r0 r1 => ?_⟩
  obtain ⟨v, e, e'⟩ := at_any r0 r1
  exact ⟨a, _, _, _, rfl, rfl, seqL_upd Bx.draw hne hS, e, q v d s c (List.mem_of_getElem? e')⟩
/-! ### _law_mixed -/
def spMixed (K : PySem.W.Frag) : Sp := fun vs H Q _ => ∃ (b a : Addr) (xs : List V), vs = [.ref b, .ref a] ∧ BoxAt H b ∧ a ≠ b ∧ SqL K H a xs ∧ xs.length ≤ 1000 ∧ ∀ H' p ys, Bx H H' b → H p = none → p ≠ b → H' p = some (.lst ys) → ys.Perm xs → Q (.ref p) H'
theorem sc_mixed : FnScope ["_law_box_here", "_law_items", "_law_left", "_law_found", "_law_turn"] ["_law_box_here", "_law_items"] (defScope st__law_mixed) := ⟨rfl, rfl, rfl, by decide +kernel, rfl, by decide +kernel, by decide +kernel⟩
theorem ok_mixed {f fT : Addr} {fd fdT : FuncData} (F : Fun K "_law_mixed" "_law_mixed" st__law_mixed f fd) (L : Lx mg) (GT : FnOk P w K mg base CX0 1 fT fdT ["_law_box_here", "_law_many"] spTake) (bT : Binds K fdT ["_law_box_here", "_law_many"] []) (kT : PySem.W.keepIn K (.ref fT) = true) (mT : mg "_law_take" = some (.ref fT)) :
    FnOk P w K mg base CX0 2 f fd ["_law_box_here", "_law_items"] (spMixed K) := by
  refine F.ok sc_mixed (fun vs H Q E h => ?_) (fun cdv A outer s H vs Q E hr h => ?_)
  · obtain ⟨b, a, xs, rfl, _⟩ := h
    rfl
  obtain ⟨b, a, xs, rfl, hb, hne, hS, h1, q⟩ := h
  have nd := sc_mixed.nd
  refine ⟨_, pss_cons (ps_par (i := 2) (j := 3) (by rfl) nd rfl rfl (by decide) rfl rfl (pa_cons (pe_callTy call_list_of (by rfl) L.list (by decide +kernel) (pa_cons (pv 1) pa_nil)) (pa_cons (pe_lst pa_nil) pa_nil)) (by rfl))
    (pss_cons (ps_for PassesOwn.never rfl (pi_range1 rfl L.range (pa_cons (pe_callB call_len_seq (by rfl) L.len PySem.boot_len (pa_cons (pv 2) pa_nil)) pa_nil)) (pg_name (i := 4) nd rfl (.inl rfl))
      (pss_one (ps_expr (pe_bm PySem.F.plainAttrs_list PySem.F.slot_list_append PySem.F.type_list_append mt_append (pv 3) (pa_cons (pe_bm PySem.F.plainAttrs_list PySem.F.slot_list_pop PySem.F.type_list_pop mt_popAt (pv 2)
        (pa_cons (pe_call GT hr rfl mT kT bT .nil pass0 (pa_cons (pv 0) (pa_cons (pe_callB call_len_seq (by rfl) L.len PySem.boot_len (pa_cons (pv 2) pa_nil)) pa_nil))) pa_nil)) pa_nil)))))
    (pss_one (ps_ret (pv 3)))), ?_⟩
  refine ⟨_, rfl, a, _, rfl, .inl hS, fun p1 n1 => ⟨Nat.zero_le _, fun p2 n2 => ⟨_, _, rfl, ?_⟩⟩⟩
  obtain ⟨d12, n2'⟩ := upd_none n2
  have b1 : p1 ≠ b := hb.ne n1
  have b2 : p2 ≠ b := hb.ne n2'
  have h10 : upd (upd H p1 (.lst xs)) p2 (.lst []) p1 = some (.lst xs) := by rw [upd_ne d12.symm]; exact upd_same
  refine ⟨_, rfl, p1, _, rfl, .inl (SqL.of h10), _, rfl, by omega, by omega, for_range (n := xs.length) (fun i σ H' => ∃ (ys zs : List V) (u : Option V), σ = [some (.ref b), some (.ref a), some (.ref p1), some (.ref p2), u] ∧ Bx H H' b ∧ H' p1 = some (.lst ys) ∧ H' p2 = some (.lst zs) ∧ (zs ++ ys).Perm xs ∧ ys.length + i = xs.length)
    ⟨xs, [], none, rfl, Bx.of_same hb ((same_new n1 _).trans (same_new n2 _)), h10, upd_same, List.Perm.refl _, rfl⟩ ?_ ?_⟩
  · rintro i σ H' hi ⟨ys, zs, u, rfl, bx, e1, e2, pm, hl⟩
    refine ⟨_, rfl, .inl ⟨rfl, _, SqL.of e2⟩, _, rfl, .inl ⟨rfl, _, SqL.of e1⟩, _, rfl, _, rfl, p1, _, rfl, .inl (SqL.of e1), b, _, rfl, bx.box, by omega, by omega, fun r d s c r0 r1 => ?_⟩
    obtain ⟨v, ev, ev'⟩ := at_any r0 r1
    have g1 : upd H' b (boxV d s c) p1 = some (.lst ys) := by rw [upd_ne b1]; exact e1
    have hsz : xs.length ≤ 1000 := h1
    have hr : r.toNat < ys.length := by omega
    refine ⟨p1, ys, r, r.toNat, v, rfl, rfl, g1, by omega, by omega, ?_, ev', ?_⟩
    · rw [seqIndex_of r0 r1]
    have g2 : upd (upd H' b (boxV d s c)) p1 (.lst (ys.eraseIdx r.toNat)) p2 = some (.lst zs) := by rw [upd_ne d12, upd_ne b2]; exact e2
    have pl := pm.length_eq
    rw [List.length_append] at pl
    refine ⟨p2, _, _, rfl, rfl, g2, big (by omega), ?_⟩
    have er := erase_perm ys r.toNat v ev'
    refine ⟨ys.eraseIdx r.toNat, zs ++ [v], _, rfl, ((bx.trans Bx.draw).mut n1 b1).mut n2' b2, by rw [upd_ne d12.symm]; exact upd_same, upd_same, ?_, by rw [List.length_eraseIdx_of_lt hr]; omega⟩
    have : (zs ++ [v] ++ ys.eraseIdx r.toNat).Perm (zs ++ ys) := by rw [List.append_assoc]; exact List.Perm.append_left zs er
    exact this.trans pm
  · rintro σ H' ⟨ys, zs, u, rfl, bx, e1, e2, pm, hl⟩
    have e0 : ys = [] := List.length_eq_zero_iff.mp (by omega)
    subst e0
    rw [List.append_nil] at pm
    exact ⟨_, rfl, q H' p2 zs bx n2' b2 e2 pm⟩
end
end Pg
/-! Lk -/
set_option Elab.async false
set_option linter.all false
set_option maxRecDepth 100000
set_option maxHeartbeats 16000000
namespace Pg
open PySem L2 Mr
theorem lit13 : ("max(" : Str) = S cMax ∧ ("imax(" : Str) = S cImax ∧ ("u" : Str) = S cU ∧ ("max(u, " : Str) = S z3 ∧ ("u + 1" : Str) = S z4 ∧ (" + " : Str) = S cPlus ∧ ("1" : Str) = S c1 ∧ (" " : Str) = S [32] ∧ (")" : Str) = S cEnd ∧ ("max(u, u)" : Str) = S z9 ∧ ("," : Str) = S [44] ∧ ("u, " : Str) = S z11 ∧ ("max(u, v" : Str) = S z13 ∧ ("u <= " : Str) = S (cU ++ sepR cLe) ∧ (" < u" : Str) = S (sepR cLt ++ cU) := by decide +kernel
/-- a long text that is no level -/
structure Lng (z : Cs) : Prop where
  no : stepsOf z = none
  lo : ∀ c ∈ z, low c = true
  nl : 10 ∉ z
  le : z.length ≤ 2000
theorem chars13 : ∀ z ∈ [cMax, cImax, cU, z3, z4, cPlus, c1, [32], cEnd, z9, [44], z11, z13], (∀ c ∈ z, low c = true) ∧ 10 ∉ z := by decide +kernel
theorem lng_rep {n : Nat} {z : Cs} (h : z ∈ [cMax, cImax, cU, z3, z4, cPlus, c1, [32], cEnd, z9, [44], z11, z13]) (b : Bad p0 (rep n z)) (l : n * z.length ≤ 2000) : Lng (rep n z) :=
  ⟨b.none, fun c m => (chars13 z h).1 c (rep_mem m), fun m => (chars13 z h).2 (rep_mem m), by rw [rep_len]; exact l⟩
theorem lng_two {n k : Nat} {z y : Cs} (h : z ∈ [cMax, cImax, cU, z3, z4, cPlus, c1, [32], cEnd, z9, [44], z11, z13]) (g : y ∈ [cMax, cImax, cU, z3, z4, cPlus, c1, [32], cEnd, z9, [44], z11, z13]) (b : Bad p0 (rep n z ++ rep k y)) (l : n * z.length + k * y.length ≤ 2000) : Lng (rep n z ++ rep k y) :=
  ⟨b.none, fun c m => (List.mem_append.mp m).elim (fun m => (chars13 z h).1 c (rep_mem m)) (fun m => (chars13 y g).1 c (rep_mem m)), fun m => (List.mem_append.mp m).elim (fun m => (chars13 z h).2 (rep_mem m)) (fun m => (chars13 y g).2 (rep_mem m)), by rw [List.length_append, rep_len, rep_len]; exact l⟩
theorem rep_one (z : Cs) : rep 1 z = z := by rw [rep_succ, rep_zero, List.append_nil]
def some13 (m w : Nat) : List Cs := [rep m cMax, rep m cImax ++ cU, rep m z3, z4 ++ rep m cPlus, rep w cU, rep w c1, rep w [32], rep w cEnd, rep (m / 2) z9, rep w [44], rep w z11, rep m cImax ++ rep m cEnd, z13 ++ rep w cEnd]
theorem lng13 {m w : Nat} (hm : 30 ≤ m) (hm2 : m ≤ 140) (hw : 20 ≤ w) (hw2 : w ≤ 220) : ∀ z ∈ some13 m w, Lng z := by
  have l1 : cMax.length = 4 ∧ cImax.length = 5 ∧ cU.length = 1 ∧ z3.length = 7 ∧ z4.length = 5 ∧ cPlus.length = 3 ∧ c1.length = 1 ∧ cEnd.length = 1 ∧ z9.length = 9 ∧ z11.length = 3 ∧ z13.length = 8 := by decide
  obtain ⟨a1, a2, a3, a4, a5, a6, a7, a8, a9, a10, a11⟩ := l1
  have d2 : m / 2 ≤ 70 ∧ 15 ≤ m / 2 := by omega
  intro z h
  unfold some13 at h
  rcases List.mem_cons.mp h with rfl | h
  · exact lng_rep (by decide) (f1 m [] []) (by rw [a1]; omega)
  rcases List.mem_cons.mp h with rfl | h
  · have := lng_two (n := m) (k := 1) (z := cImax) (y := cU) (by decide) (by decide) (by rw [rep_one]; exact f2 m [] [] (.inl (by omega))) (by rw [a2, a3]; omega)
    rw [rep_one] at this
    exact this
  rcases List.mem_cons.mp h with rfl | h
  · exact lng_rep (by decide) (f3 m [] []) (by rw [a4]; omega)
  rcases List.mem_cons.mp h with rfl | h
  · have := lng_two (n := 1) (k := m) (z := z4) (y := cPlus) (by decide) (by decide) (by rw [rep_one]; exact f4 (by omega)) (by rw [a5, a6]; omega)
    rw [rep_one] at this
    exact this
  rcases List.mem_cons.mp h with rfl | h
  · exact lng_rep (by decide) (f5 a3 (name_word wU.1).2 (by omega)) (by rw [a3]; omega)
  rcases List.mem_cons.mp h with rfl | h
  · exact lng_rep (by decide) (f5 a7 w1.2 (by omega)) (by rw [a7]; omega)
  rcases List.mem_cons.mp h with rfl | h
  · exact lng_rep (by decide) (f7 (.inl rfl) (by omega)) (by show w * 1 ≤ _; omega)
  rcases List.mem_cons.mp h with rfl | h
  · exact lng_rep (by decide) (f8 (by omega)) (by rw [a8]; omega)
  rcases List.mem_cons.mp h with rfl | h
  · exact lng_rep (by decide) (f9 (by omega)) (by rw [a9]; omega)
  rcases List.mem_cons.mp h with rfl | h
  · exact lng_rep (by decide) (f7 (.inr rfl) (by omega)) (by show w * 1 ≤ _; omega)
  rcases List.mem_cons.mp h with rfl | h
  · exact lng_rep (by decide) (f11 (by omega)) (by rw [a10]; omega)
  rcases List.mem_cons.mp h with rfl | h
  · refine lng_two (by decide) (by decide) ?_ (by rw [a2, a8]; omega)
    obtain ⟨k, hk⟩ : ∃ k, m = k + 1 := ⟨m - 1, by omega⟩
    have := f12 m [] [] (rep k cEnd)
    rw [← rep_succ, ← hk] at this
    exact this
  · rw [List.mem_singleton.mp h]
    have := lng_two (n := 1) (k := w) (z := z13) (y := cEnd) (by decide) (by decide) (by rw [rep_one]; exact f13 (by omega)) (by rw [a11, a8]; omega)
    rw [rep_one] at this
    exact this
theorem no_cut {z : Cs} (h : ∀ c ∈ z, low c = true) : cutR rels z = none := by
  obtain ⟨n0, n1⟩ := low_no h
  have a : TL.par (sepR cLe) [] z = none := par_none (c := 60) (i := 1) rfl _ _ n0
  have b : TL.par (sepR cLt) [] z = none := par_none (c := 60) (i := 1) rfl _ _ n0
  have c : TL.par (sepR cEq) [] z = none := par_none (c := 61) (i := 1) rfl _ _ n1
  unfold rels
  rw [cutR, a, cutR, b, cutR, c]
  rfl
theorem Lng.parts {z : Cs} (h : Lng z) : partsOf z = none := by unfold partsOf; rw [no_cut h.lo]; rfl
theorem u_low : ∀ c ∈ cU, low c = true := by decide
theorem Lng.right {z : Cs} (h : Lng z) : partsOf (cU ++ (sepR cLe ++ z)) = none := by
  unfold partsOf
  rw [(cut_text u_low h.lo (by decide)).2]
  show (sidesOf cU z).map _ = none
  unfold sidesOf
  rw [h.no]
  cases stepsOf cU <;> rfl
theorem Lng.left {z : Cs} (h : Lng z) : partsOf (z ++ (sepR cLt ++ cU)) = none := by
  unfold partsOf
  rw [(cut_text h.lo u_low (by decide)).2]
  show (sidesOf z cU).map _ = none
  unfold sidesOf
  rw [h.no]
  rfl
def g0 : Cs := cMax ++ (cU ++ (cSep ++ (cImax ++ (cU ++ (cSep ++ ([51] ++ (cEnd ++ (cEnd ++ (cPlus ++ c1)))))))))
def g1 : Cs := cU ++ (sepR cLe ++ (cMax ++ (cU ++ (cSep ++ ([51] ++ cEnd)))))
def g2 : Cs := cU ++ (sepR cEq ++ cU)
def g3 : Cs := cU ++ (sepR cLt ++ [52])
theorem good_lits : ("max(u, imax(u, 3)) + 1" : Str) = S g0 ∧ ("u <= max(u, 3)" : Str) = S g1 ∧ ("u = u" : Str) = S g2 ∧ ("u < 4" : Str) = S g3 := by decide +kernel
def okB (z : Cs) : Bool := (partsOf z).any fun p => decide (p.1.length + p.2.2.length < 64) && ((p.1 ++ p.2.2).all fun x => match x with | .nam s => decide (s = cU) | _ => true)
theorem dem_of {z : Cs} (h : okB z = true) (l : z.length ≤ 100000) : ∃ p, DemOk [cU] z p := by
  unfold okB at h
  cases e : partsOf z with
  | none => rw [e] at h; cases h
  | some p =>
    rw [e] at h
    obtain ⟨h1, h2⟩ := Bool.and_eq_true_iff.mp (show (decide (p.1.length + p.2.2.length < 64) && _) = true from h)
    refine ⟨p, e, l, of_decide_eq_true h1, fun s m => ?_⟩
    have := List.all_eq_true.mp h2 (.nam s) (List.mem_append.mpr m)
    exact List.mem_singleton.mpr (of_decide_eq_true this)
theorem steps_some {z : Cs} (h : (stepsOf z).any (fun ss => decide (ss.length < 64)) = true) : ∃ ss, stepsOf z = some ss ∧ ss.length < 64 := by
  cases e : stepsOf z with
  | none => rw [e] at h; cases h
  | some ss => rw [e] at h; exact ⟨ss, rfl, of_decide_eq_true h⟩
theorem goods : (stepsOf g0).any (fun ss => decide (ss.length < 64)) = true ∧ okB g1 = true ∧ okB g2 = true ∧ okB g3 = true := by decide +kernel
theorem good_nl : 10 ∉ g0 ∧ 10 ∉ g1 ∧ 10 ∉ g2 ∧ 10 ∉ g3 ∧ g0.length ≤ 100000 ∧ g1.length ≤ 100000 ∧ g2.length ≤ 100000 ∧ g3.length ≤ 100000 := by decide
theorem ne_no (v : V) : ¬ ((!decide (v = v)) = true) := by simp

section
variable {P : Program} {w : World} {K : PySem.W.Frag} {mg : Str → Option Value} {base : Heap} {pS pC C cD : Addr}
def spLaw (K : PySem.W.Frag) : Sp := fun vs H Q _ => ∃ (a : Addr) (ns : List Int), vs = [.ref a] ∧ SqL K H a (ns.map V.int) ∧ ns.length ≤ 63 ∧ ∀ H', Q (.bl true) H'
theorem sc_law : FnScope ["_law_script", "_law_k", "_law_box_here", "_law_many", "_law_wide", "_law_some", "_law_told", "_law_text"] ["_law_script"] (defScope st_law) := ⟨rfl, rfl, rfl, by decide +kernel, rfl, by decide +kernel, by decide +kernel⟩
theorem ok_law {f : Addr} {fd : FuncData} (F : Fun K "law" "law" st_law f fd) (L : Lx mg)
    (c_box : CalX P w K mg base 1 "_law_box" (spBox K)) (c_take : CalX P w K mg base 1 "_law_take" spTake) (c_pick : CalX P w K mg base 2 "_law_pick" (spPick K)) (c_mixed : CalX P w K mg base 2 "_law_mixed" (spMixed K)) (c_heard : CalX P w K mg base 9 "_law_heard" spHeard) :
    FnOk P w K mg base CX0 10 f fd ["_law_script"] (spLaw K) := by
  refine F.ok sc_law (fun vs H Q E h => ?_) (fun cdv A outer s H vs Q E hr h => ?_)
  · obtain ⟨a, ns, rfl, _⟩ := h
    rfl
  obtain ⟨a, ns, rfl, hS, h63, q⟩ := h
  have nd := sc_law.nd
  refine ⟨_, (pss_cons (ps_for PassesOwn.never rfl (pi_range1 rfl L.range (pa_cons (pe_callB (call_max2 rfl) (by rfl) L.max (by decide +kernel) (pa_cons pe_int (pa_cons (pe_callB (call_min2 rfl) (by rfl) L.min (by decide +kernel) (pa_cons pe_int (pa_cons (pe_callB call_len_seq (by rfl) L.len PySem.boot_len (pa_cons (pv 0) pa_nil)) pa_nil))) pa_nil))) pa_nil)) (pg_name (i := 1) nd rfl (Or.inl rfl)) (pss_cons (ps_set (i := 2) nd rfl (.inl rfl) (C8.pe_c c_box hr (by decide) rfl (pa_cons (pv 0) (pa_cons (pv 1) (pa_cons pe_int pa_nil)))))
      (pss_cons (ps_set (i := 3) nd rfl (.inl rfl) (pe_op op_add pe_int (C8.pe_c c_take hr (by decide) rfl (pa_cons (pv 2) (pa_cons pe_int pa_nil)))))
      (pss_cons (ps_set (i := 4) nd rfl (.inl rfl) (pe_op op_add pe_int (C8.pe_c c_take hr (by decide) rfl (pa_cons (pv 2) (pa_cons pe_int pa_nil)))))
      (pss_cons (ps_set (i := 5) nd rfl (.inl rfl) (pe_lst (pa_cons (pe_op Gd.op_mulX pe_str (pv 3)) (pa_cons (pe_op op_add_str (pe_op Gd.op_mulX pe_str (pv 3)) pe_str) (pa_cons (pe_op Gd.op_mulX pe_str (pv 3)) (pa_cons (pe_op op_add_str pe_str (pe_op Gd.op_mulX pe_str (pv 3))) (pa_cons (pe_op Gd.op_mulX pe_str (pv 4)) pa_nil)))))))
      (pss_cons (ps_set (i := 5) nd rfl (.inl rfl) (pe_op op_cat (pv 5) (pe_lst (pa_cons (pe_op Gd.op_mulX pe_str (pv 4)) (pa_cons (pe_op Gd.op_mulX pe_str (pv 4)) (pa_cons (pe_op Gd.op_mulX pe_str (pv 4)) (pa_cons (pe_op Gd.op_mulX pe_str (pe_op op_fdivN (pv 3) pe_int)) (pa_cons (pe_op Gd.op_mulX pe_str (pv 4)) (pa_cons (pe_op Gd.op_mulX pe_str (pv 4)) pa_nil)))))))))
      (pss_cons (ps_set (i := 5) nd rfl (.inl rfl) (pe_op op_cat (pv 5) (pe_lst (pa_cons (pe_op op_add_str (pe_op Gd.op_mulX pe_str (pv 3)) (pe_op Gd.op_mulX pe_str (pv 3))) (pa_cons (pe_op op_add_str pe_str (pe_op Gd.op_mulX pe_str (pv 4))) pa_nil)))))
      (pss_cons (ps_for PassesOwn.never rfl (pi_list (pe_slice sl_list (C8.pe_c c_mixed hr (by decide) rfl (pa_cons (pv 2) (pa_cons (pv 5) pa_nil))) po_none (po_some pe_int))) (pg_name (i := 6) nd rfl (Or.inl rfl)) (pss_cons (ps_if (pt_cmpR op_ne (C8.pe_c c_heard hr (by decide) rfl (pa_cons pe_int (pa_cons (pv 6) pa_nil))) pe_str (nomark _)) (pss_one (ps_ret pe_bl)) pss_nil)
      (pss_cons (ps_set (i := 7) nd rfl (.inl rfl) (C8.pe_c c_pick hr (by decide) rfl (pa_cons (pv 2) (pa_cons (pe_lst (pa_cons (pv 6) (pa_cons (pe_op op_add_str pe_str (pv 6)) (pa_cons (pe_op op_add_str (pv 6) pe_str) pa_nil)))) pa_nil))))
      (pss_cons (ps_if (pt_cmpR op_gt (pe_callB call_len (by rfl) L.len PySem.boot_len (pa_cons (pv 7) pa_nil)) pe_int (nomark _)) (pss_one ps_continue) pss_nil)
      (pss_one (ps_if (PW.pt (pw_or (pt_cmpR op_ne (C8.pe_c c_heard hr (by decide) rfl (pa_cons pe_int (pa_cons (pv 7) pa_nil))) pe_str (nomark _)) (pw_or (pt_cmpR op_ne (C8.pe_c c_heard hr (by decide) rfl (pa_cons pe_int (pa_cons (pv 7) pa_nil))) pe_str (nomark _)) (pw_or1 (pt_cmpR op_ne (C8.pe_c c_heard hr (by decide) rfl (pa_cons pe_int (pa_cons (pv 7) pa_nil))) pe_int (nomark _)))))) (pss_one (ps_ret pe_bl)) pss_nil))))))
      (pss_cons (ps_if (PW.pt (pw_or (pt_cmpR op_ne (C8.pe_c c_heard hr (by decide) rfl (pa_cons pe_int (pa_cons pe_str pa_nil))) pe_str (nomark _)) (pw_or1 (pt_cmpR op_ne (C8.pe_c c_heard hr (by decide) rfl (pa_cons pe_int (pa_cons pe_str pa_nil))) pe_str (nomark _))))) (pss_one (ps_ret pe_bl)) pss_nil)
      (pss_one (ps_if (PW.pt (pw_or (pt_cmpR op_ne (C8.pe_c c_heard hr (by decide) rfl (pa_cons pe_int (pa_cons pe_str pa_nil))) pe_str (nomark _)) (pw_or1 (pt_cmpR op_ne (C8.pe_c c_heard hr (by decide) rfl (pa_cons pe_int (pa_cons pe_str pa_nil))) pe_str (nomark _))))) (pss_one (ps_ret pe_bl)) pss_nil)))))))))))
      (pss_one (ps_ret pe_bl))), ?_⟩
  have hm : ∀ l : Nat, (1 : Int) ≤ (if (if (l : Int) < 3 then (l : Int) else 3) > 1 then (if (l : Int) < 3 then (l : Int) else 3) else 1) ∧ (if (if (l : Int) < 3 then (l : Int) else 3) > 1 then (if (l : Int) < 3 then (l : Int) else 3) else 1) ≤ 3 := fun l => by
    split <;> split <;> omega
  have hm1 := hm (ns.map V.int).length
  refine ⟨_, rfl, a, _, rfl, .inl hS, _, _, rfl, _, _, rfl, _, rfl, ?_, ?_, for_range (fun i σ H' => ∃ u1 u2 u3 u4 u5 u6 u7, σ = [some (.ref a), u1, u2, u3, u4, u5, u6, u7] ∧ SqL K H' a (ns.map V.int)) ⟨_, _, _, _, _, _, _, rfl, hS⟩ ?turn ?last⟩
  · exact Int.le_trans (by decide) hm1.1
  · exact Int.lt_of_le_of_lt hm1.2 (by decide)
  case last =>
    rintro σ H1 ⟨u1, u2, u3, u4, u5, u6, u7, rfl, hS1⟩
    exact q _
  case turn =>
    rintro i σ H1 hi ⟨u1, u2, u3, u4, u5, u6, u7, rfl, hS1⟩
    have hi3 : i < 3 := Nat.lt_of_lt_of_le hi (Int.toNat_le.mpr hm1.2)
    refine ⟨_, rfl, _, rfl, a, ns, 0 + (i : Int), 13, rfl, hS1, by omega, by omega, by decide, by decide, fun H2 b s2 nb hb => ?_⟩
    have hSB : SqB K H2 b a (ns.map V.int) := .mk hS1 s2 nb
    refine ⟨_, rfl, b, 110, rfl, hb, by decide, by decide, fun r d t c r0 r1 => ⟨_, _, rfl, rfl, ?_⟩⟩
    have bx3 : Bx H2 (upd H2 b (boxV d t c)) b := .draw
    generalize upd H2 b (boxV d t c) = H3 at bx3
    obtain ⟨m, hm, m1, m2⟩ : ∃ m : Nat, (30 + r : Int) = (m : Int) ∧ 30 ≤ m ∧ m ≤ 140 := ⟨(30 + r).toNat, by omega, by omega, by omega⟩
    refine ⟨_, rfl, b, 200, rfl, bx3.box, by decide, by decide, fun r' d' t' c' r0' r1' => ⟨_, _, rfl, rfl, ?_⟩⟩
    have bx4 : Bx H2 (upd H3 b (boxV d' t' c')) b := bx3.trans .draw
    generalize upd H3 b (boxV d' t' c') = H4 at bx4
    obtain ⟨wd, hw, w1, w2⟩ : ∃ w : Nat, (20 + r' : Int) = (w : Int) ∧ 20 ≤ w ∧ w ≤ 220 := ⟨(20 + r').toNat, by omega, by omega, by omega⟩
    obtain ⟨t1, t2, t3, t4, t5, t6, t7, t8, t9, t10, t11, t12, t13, t14, t15⟩ := lit13
    have sz : (1000000 : Nat) ≤ sizeLine := by decide
    have sR : ∀ (n : Nat) (z : Cs), n * z.length ≤ 2000 → (S (rep n z)).length ≤ 2000 := fun n z h => by rw [len_S, rep_len]; exact h
    have dm : (30 + r : Int).fdiv 2 = ((m / 2 : Nat) : Int) := by rw [hm, Int.fdiv_eq_ediv_of_nonneg _ (by decide)]; omega
    refine ⟨_, rfl, cMax, m, congrArg V.str t1, congrArg V.int hm, by decide, by omega,
      _, rfl, cImax, m, congrArg V.str t2, congrArg V.int hm, by decide, by omega, _, _, rfl, rfl, Nat.le_trans (Nat.add_le_add (sR m cImax (by show m * 5 ≤ _; omega)) (by decide : _ ≤ 10)) (by decide),
      _, rfl, z3, m, congrArg V.str t4, congrArg V.int hm, by decide, by omega,
      _, rfl, cPlus, m, congrArg V.str t6, congrArg V.int hm, by decide, by omega, _, _, rfl, rfl, Nat.le_trans (Nat.add_le_add (by decide : _ ≤ 10) (sR m cPlus (by show m * 3 ≤ _; omega))) (by decide),
      _, rfl, cU, wd, congrArg V.str t3, congrArg V.int hw, by decide, by omega, (by show 5 ≤ sizeLine; decide), fun p1 np1 => ?_⟩
    obtain ⟨X1, hX1⟩ : ∃ X, X = [tv (rep m cMax), V.str (S (rep m cImax) ++ ("u" : Str)), tv (rep m z3), V.str (("u + 1" : Str) ++ S (rep m cPlus)), tv (rep wd cU)] := ⟨_, rfl⟩
    rw [← hX1]
    have s1 := same_new np1 (.lst X1)
    have h1 : upd H4 p1 (.lst X1) p1 = some (.lst X1) := upd_same
    generalize upd H4 p1 (.lst X1) = H5 at s1 h1
    refine ⟨_, rfl, _, rfl, c1, wd, congrArg V.str t7, congrArg V.int hw, by decide, by omega,
      _, rfl, [32], wd, congrArg V.str t8, congrArg V.int hw, by decide, by omega,
      _, rfl, cEnd, wd, congrArg V.str t9, congrArg V.int hw, by decide, by omega,
      _, rfl, _, _, rfl, rfl, ⟨by decide, by decide⟩, z9, m / 2, congrArg V.str t10, congrArg V.int dm, by decide, by omega,
      _, rfl, [44], wd, congrArg V.str t11, congrArg V.int hw, by decide, by omega,
      _, rfl, z11, wd, congrArg V.str t12, congrArg V.int hw, by decide, by omega, (by show 6 ≤ sizeLine; decide), fun p2 np2 => ?_⟩
    obtain ⟨X2, hX2⟩ : ∃ X, X = [tv (rep wd c1), tv (rep wd [32]), tv (rep wd cEnd), tv (rep (m / 2) z9), tv (rep wd [44]), tv (rep wd z11)] := ⟨_, rfl⟩
    rw [← hX2]
    have s2 := same_new np2 (.lst X2)
    have h2 : upd H5 p2 (.lst X2) p2 = some (.lst X2) := upd_same
    generalize upd H5 p2 (.lst X2) = H6 at s2 h2
    refine ⟨p1, p2, _, _, rfl, rfl, s2 _ _ h1, h2, (by rw [hX1, hX2]; show 5 + 6 ≤ sizeLine; decide), fun p3 np3 => ?_⟩
    have s3 := same_new np3 (.lst (X1 ++ X2))
    have h3 : upd H6 p3 (.lst (X1 ++ X2)) p3 = some (.lst (X1 ++ X2)) := upd_same
    generalize upd H6 p3 (.lst (X1 ++ X2)) = H7 at s3 h3
    refine ⟨_, rfl, _, rfl, cImax, m, congrArg V.str t2, congrArg V.int hm, by decide, by omega,
      _, rfl, cEnd, m, congrArg V.str t9, congrArg V.int hm, by decide, by omega, _, _, rfl, rfl, Nat.le_trans (Nat.add_le_add (sR m cImax (by show m * 5 ≤ _; omega)) (sR m cEnd (by show m * 1 ≤ _; omega))) (by decide),
      _, rfl, cEnd, wd, congrArg V.str t9, congrArg V.int hw, by decide, by omega, _, _, rfl, rfl, Nat.le_trans (Nat.add_le_add (by decide : _ ≤ 10) (sR wd cEnd (by show wd * 1 ≤ _; omega))) (by decide), (by show 2 ≤ sizeLine; decide), fun p4 np4 => ?_⟩
    obtain ⟨X3, hX3⟩ : ∃ X, X = [V.str (S (rep m cImax) ++ S (rep m cEnd)), V.str (("max(u, v" : Str) ++ S (rep wd cEnd))] := ⟨_, rfl⟩
    rw [← hX3]
    have s4 := same_new np4 (.lst X3)
    have h4 : upd H7 p4 (.lst X3) p4 = some (.lst X3) := upd_same
    generalize upd H7 p4 (.lst X3) = H8 at s4 h4
    refine ⟨p3, p4, _, _, rfl, rfl, s4 _ _ h3, h4, (by rw [hX1, hX2, hX3]; show 11 + 2 ≤ sizeLine; decide), fun p5 np5 => ?_⟩
    have hall : X1 ++ X2 ++ X3 = (some13 m wd).map tv := by
      rw [hX1, hX2, hX3, t3, t5, t13, S_app, S_app, S_app, S_app]
      rfl
    rw [hall]
    have s5 := same_new np5 (.lst ((some13 m wd).map tv))
    have h5 : upd H8 p5 (.lst ((some13 m wd).map tv)) p5 = some (.lst ((some13 m wd).map tv)) := upd_same
    generalize upd H8 p5 (.lst ((some13 m wd).map tv)) = H9 at s5 h5
    have s15 := s1.trans (s2.trans (s3.trans (s4.trans s5)))
    have bx9 : Bx H2 H9 b := bx4.same s15
    have hb9 : BoxAt H9 b := bx9.box
    have nb5 : p5 ≠ b := fun e => by
      obtain ⟨d0, t0, c0, h0⟩ := (bx4.same (s1.trans (s2.trans (s3.trans s4)))).box
      rw [e, h0] at np5
      cases np5
    have l13 : ((some13 m wd).map tv).length = 13 := rfl
    refine ⟨_, rfl, _, rfl, b, p5, _, rfl, hb9, nb5, SqL.of h5, (by rw [l13]; decide), fun H10 p ys bx10 np10 nb10 hp perm => ?_⟩
    refine ⟨_, rfl, p, _, rfl, SqL.of hp, fun p6 np6 => ?_⟩
    have s6 := same_new np6 (.lst (cutV ys none (some 6)))
    have h6 : upd H10 p6 (.lst (cutV ys none (some 6))) p6 = some (.lst (cutV ys none (some 6))) := upd_same
    generalize upd H10 p6 (.lst (cutV ys none (some 6))) = H11 at s6 h6
    have bx11 : Bx H2 H11 b := (bx9.trans bx10).same s6
    have nb6 : p6 ≠ b := fun e => by
      obtain ⟨d0, t0, c0, h0⟩ := bx10.box
      rw [e, h0] at np6
      cases np6
    have hmem : ∀ (j : Nat) (x : V), (cutV ys none (some 6))[j]? = some x → ∃ z ∈ some13 m wd, x = tv z := fun j x hx => by
      have hx1 : x ∈ ys := List.mem_of_mem_drop (List.mem_of_mem_take (List.mem_of_getElem? hx))
      obtain ⟨z, hz, e⟩ := List.mem_map.mp (perm.mem_iff.mp hx1)
      exact ⟨z, hz, e.symm⟩
    have lng := lng13 m1 m2 w1 w2
    refine ⟨p6, rfl, ⟨_, SqL.of h6⟩, for_list (K := K) (a := p6) (xs := cutV ys none (some 6)) (fun _ σ H' => ∃ u3 u4 u5 u6 u7, σ = [some (.ref a), some (.int (0 + (i : Int))), some (.ref b), u3, u4, u5, u6, u7] ∧ Bx H11 H' b) ⟨_, _, _, _, _, rfl, Bx.refl bx11.box⟩ (fun j σ H' _ hp' => ?_) ?one ?fin⟩
    · obtain ⟨_, _, _, _, _, _, bx⟩ := hp'
      exact SqL.of (bx.keep _ _ nb6 h6)
    case one =>
      rintro j x σ H12 hx ⟨v3, v4, v5, v6, v7, rfl, bx12⟩
      obtain ⟨z, hz, rfl⟩ := hmem j x hx
      have hl := lng z hz
      refine ⟨_, rfl, 0, z, rfl, by have := hl.le; omega, hl.nl, .inl ⟨rfl, .inl ⟨hl.no, fun H13 s13 => ?_⟩⟩⟩
      have bx13 : Bx H11 H13 b := bx12.same s13
      have lz := hl.le
      have szl : (S z).length ≤ 2000 := by rw [len_S]; exact lz
      refine ⟨rfl, _, rfl, ite2 (fun h => absurd h (ne_no _)) (fun _ => ?_)⟩
      refine ⟨_, rfl, _, rfl, _, rfl, _, _, rfl, rfl, Nat.le_trans (Nat.add_le_add (by decide : _ ≤ 10) szl) (by decide), _, rfl, _, _, rfl, rfl, Nat.le_trans (Nat.add_le_add szl (by decide : _ ≤ 10)) (by decide), (by show 3 ≤ sizeLine; decide), fun q1 nq1 => ?_⟩
      obtain ⟨Y, hY⟩ : ∃ Y, Y = [tv z, V.str (("u <= " : Str) ++ S z), V.str (S z ++ (" < u" : Str))] := ⟨_, rfl⟩
      have hY2 : Y = [tv z, tv (cU ++ (sepR cLe ++ z)), tv (z ++ (sepR cLt ++ cU))] := by
        rw [hY, t14, t15, S_app, S_app, List.append_assoc]
      have s14 := same_new nq1 (.lst Y)
      have h14 : upd H13 q1 (.lst Y) q1 = some (.lst Y) := upd_same
      have nb14 : q1 ≠ b := fun e => by
        obtain ⟨d0, t0, c0, h0⟩ := bx13.box
        rw [e, h0] at nq1
        cases nq1
      rw [← hY]
      generalize upd H13 q1 (.lst Y) = H14 at s14 h14
      have bx14 := bx13.same s14
      refine ⟨b, q1, Y, rfl, bx14.box, nb14, SqL.of h14, (by rw [hY]; show 0 < 3; decide), (by rw [hY]; show 3 < 1000000; decide), fun x d0 t0 c0 hx2 => ?_⟩
      have bx15 : Bx H11 (upd H14 b (boxV d0 t0 c0)) b := bx14.trans .draw
      generalize upd H14 b (boxV d0 t0 c0) = H15 at bx15
      obtain ⟨y, rfl, py, ly, ny⟩ : ∃ y, x = tv y ∧ partsOf y = none ∧ y.length ≤ 100000 ∧ 10 ∉ y := by
        have hu : 10 ∉ cU ∧ 10 ∉ sepR cLe ∧ 10 ∉ sepR cLt ∧ cU.length = 1 ∧ (sepR cLe).length ≤ 10 ∧ (sepR cLt).length ≤ 10 := by decide
        obtain ⟨n1, n2, n3, n4, n5, n6⟩ := hu
        rw [hY2] at hx2
        rcases List.mem_cons.mp hx2 with rfl | hx2
        · exact ⟨z, rfl, hl.parts, by omega, hl.nl⟩
        rcases List.mem_cons.mp hx2 with rfl | hx2
        · exact ⟨_, rfl, hl.right, by rw [List.length_append, List.length_append]; omega, fun m => (List.mem_append.mp m).elim n1 fun m => (List.mem_append.mp m).elim n2 hl.nl⟩
        · rw [List.mem_singleton.mp hx2]
          exact ⟨_, rfl, hl.left, by rw [List.length_append, List.length_append]; omega, fun m => (List.mem_append.mp m).elim hl.nl fun m => (List.mem_append.mp m).elim n3 n1⟩
      refine ⟨_, rfl, _, _, rfl, ⟨(by show (S y).length ≤ sizeLine; rw [len_S]; exact Nat.le_trans ly (by decide)), rfl⟩, _, _, rfl, rfl, _, rfl, ite2 (fun _ => ?_) (fun _ => ?_)⟩
      · exact ⟨_, _, _, _, _, rfl, bx15⟩
      refine ⟨_, rfl, 1, y, rfl, ly, ny, .inr ⟨.inl rfl, .inl ⟨py, fun H16 s16 => ⟨rfl, _, rfl, ite2 (fun h => absurd h (ne_no _)) (fun _ => ?_)⟩⟩⟩⟩
      refine ⟨_, rfl, 2, y, rfl, ly, ny, .inr ⟨.inr (.inl rfl), .inl ⟨py, fun H17 s17 => ⟨rfl, _, rfl, ite2 (fun h => absurd h (ne_no _)) (fun _ => ?_)⟩⟩⟩⟩
      refine ⟨_, rfl, 3, y, rfl, ly, ny, .inr ⟨.inr (.inr rfl), .inl ⟨py, fun H18 s18 => ⟨rfl, _, rfl, ite2 (fun h => absurd h (ne_no _)) (fun _ => ?_)⟩⟩⟩⟩
      exact ⟨_, _, _, _, _, rfl, ((bx15.same s16).same s17).same s18⟩
    case fin =>
      rintro σ H12 ⟨v3, v4, v5, v6, v7, rfl, bx12⟩
      obtain ⟨k1, k2, k3, k4⟩ := good_lits
      obtain ⟨o1, o2, o3, o4⟩ := goods
      obtain ⟨e1, e2, e3, e4, f1, f2, f3, f4⟩ := good_nl
      obtain ⟨ss, a1, a2⟩ := steps_some o1
      obtain ⟨d2, a3⟩ := dem_of o2 f2
      obtain ⟨d3, a4⟩ := dem_of o3 f3
      obtain ⟨d4, a5⟩ := dem_of o4 f4
      refine ⟨0, g0, (by rw [k1]; rfl), f1, e1, .inl ⟨rfl, .inr ⟨ss, a1, a2, fun H13 s13 => ⟨rfl, _, rfl, ite2 (fun h => absurd h (ne_no _)) (fun _ => ?_)⟩⟩⟩⟩
      refine ⟨1, g1, (by rw [k2]; rfl), f2, e2, .inr ⟨.inl rfl, .inr ⟨d2, a3, fun H14 s14 => ⟨rfl, _, rfl, ite2 (fun h => absurd h (ne_no _)) (fun _ => ?_)⟩⟩⟩⟩
      refine ⟨2, g2, (by rw [k3]; rfl), f3, e3, .inr ⟨.inr (.inl rfl), .inr ⟨d3, a4, fun H15 s15 => ⟨rfl, _, rfl, ite2 (fun h => absurd h (ne_no _)) (fun _ => ?_)⟩⟩⟩⟩
      refine ⟨3, g3, (by rw [k4]; rfl), f4, e4, .inr ⟨.inr (.inr rfl), .inr ⟨d4, a5, fun H16 s16 => ⟨rfl, _, rfl, ite2 (fun h => absurd h (ne_no _)) (fun _ => ?_)⟩⟩⟩⟩
      have bxf : Bx H2 H16 b := bx11.trans ((((bx12.same s13).same s14).same s15).same s16)
      exact ⟨_, _, _, _, _, _, _, rfl, (hSB.bx bxf).get⟩

end
end Pg
/-! Z -/
set_option Elab.async false
set_option linter.all false
set_option maxRecDepth 100000
set_option maxHeartbeats 8000000
namespace Pg
open PySem L2 Mr
theorem signs_vals {t1 t2 t3 t4 t5 : Nat} : Vals (signs.map fun g => V.str (S g)) (#[Value.str "max(" t1, Value.str "imax(" t2, Value.str " + " t3, Value.str ", " t4, Value.str ")" t5] : Array Value).toList := by
  have e : (signs.map fun g => V.str (S g)) = [.str "max(", .str "imax(", .str " + ", .str ", ", .str ")"] := by decide +kernel
  rw [e]
  exact .cons ⟨_, rfl⟩ (.cons ⟨_, rfl⟩ (.cons ⟨_, rfl⟩ (.cons ⟨_, rfl⟩ (.cons ⟨_, rfl⟩ .nil))))
theorem vac {P : Program} {w : World} {K : PySem.W.Frag} {mg : Str → Option Value} {base : Heap} {k : Nat} {f : Addr} {fd : FuncData} {ps : List Str} {sp : Sp} (no : ∀ vs H Q E, ¬ sp vs H Q E) : FnOk P w K mg base CX0 k f fd ps sp :=
  ⟨fun vs H Q E h => absurd h (no vs H Q E), fun A outer s H args us vs Q E _ _ _ _ h => absurd h (no vs H Q E)⟩
theorem rels_vals {t1 t2 t3 : Nat} : Vals (rels.map tv) (#[Value.str "<=" t1, Value.str "<" t2, Value.str "=" t3] : Array Value).toList := by
  have rels_lits : rels.map tv = [.str "<=", .str "<", .str "="] := by decide +kernel
  rw [rels_lits]
  exact .cons ⟨_, rfl⟩ (.cons ⟨_, rfl⟩ (.cons ⟨_, rfl⟩ .nil))
theorem all_mk {l : PySem.W.OpenLaw} {w : World} {K : PySem.W.Frag} {h : Heap} {mg : Str → Option Value} {fa fS fC fR f1 f2 f3 f4 f5 f6 f7 f8 f9 f10 f11 f12 f13 f14 f15 f16 f17 f18 f19 f20 : Addr} (X : K.In h) (G : h.Ns mainGlobals mg) (hfa : mg "law" = some (.ref fa))
    {od1 an1 od2 an2 od3 an3 od4 an4 od5 an5 od6 an6 od7 an7 od8 an8 od9 an9 od10 an10 od11 an11 od12 an12 od13 an13 od14 an14 od15 an15 od16 an16 od17 an17 od18 an18 od19 an19 od20 an20 : Option Addr} {sl1 sl2 sl3 sl4 sl5 sl6 sl7 sl8 sl9 sl10 sl11 sl12 sl13 sl14 sl15 sl16 sl17 sl18 sl19 sl20 : Array (Option Value)} {oc1 kV1 dc1 pm1 cd1 ct1 oc2 kV2 dc2 pm2 cd2 ct2 oc3 kV3 dc3 pm3 cd3 ct3 oc4 kV4 dc4 pm4 cd4 ct4 oc5 kV5 dc5 pm5 cd5 ct5 oc6 kV6 dc6 pm6 cd6 ct6 oc7 kV7 dc7 pm7 cd7 ct7 oc8 kV8 dc8 pm8 cd8 ct8 oc9 kV9 dc9 pm9 cd9 ct9 oc10 kV10 dc10 pm10 cd10 ct10 oc11 kV11 dc11 pm11 cd11 ct11 oc12 kV12 dc12 pm12 cd12 ct12 oc13 kV13 dc13 pm13 cd13 ct13 oc14 kV14 dc14 pm14 cd14 ct14 oc15 kV15 dc15 pm15 cd15 ct15 oc16 kV16 dc16 pm16 cd16 ct16 oc17 kV17 dc17 pm17 cd17 ct17 oc18 kV18 dc18 pm18 cd18 ct18 oc19 kV19 dc19 pm19 cd19 ct19 oc20 kV20 dc20 pm20 cd20 ct20 : Value}
    {t1 t2 t3 t4 t5 nS nD tR0 tR1 tR2 nR : Nat} {es : Array DictEntry}
    (a1 : PySem.W.nsIn K mainGlobals "is_sequence" = some (some (.ref f1))) (l1 : K.lookup f1 = some ⟨oc1, od1, .func (PySem.W.fnOf "is_sequence" "is_sequence" (defArgs st_is_sequence) (defBody st_is_sequence) (defScope st_is_sequence) .none kV1 dc1 pm1 an1 cd1 ct1), sl1⟩) (c1 : PySem.W.codeIn K cd1 "is_sequence" = true) (k1 : PySem.W.keepIn K (.ref f1) = true)
    (a2 : PySem.W.nsIn K mainGlobals "is_name" = some (some (.ref f2))) (l2 : K.lookup f2 = some ⟨oc2, od2, .func (PySem.W.fnOf "is_name" "is_name" (defArgs st_is_name) (defBody st_is_name) (defScope st_is_name) .none kV2 dc2 pm2 an2 cd2 ct2), sl2⟩) (c2 : PySem.W.codeIn K cd2 "is_name" = true) (k2 : PySem.W.keepIn K (.ref f2) = true)
    (a3 : PySem.W.nsIn K mainGlobals "are_names" = some (some (.ref f3))) (l3 : K.lookup f3 = some ⟨oc3, od3, .func (PySem.W.fnOf "are_names" "are_names" (defArgs st_are_names) (defBody st_are_names) (defScope st_are_names) .none kV3 dc3 pm3 an3 cd3 ct3), sl3⟩) (c3 : PySem.W.codeIn K cd3 "are_names" = true) (k3 : PySem.W.keepIn K (.ref f3) = true)
    (a4 : PySem.W.nsIn K mainGlobals "tokens_of" = some (some (.ref f4))) (l4 : K.lookup f4 = some ⟨oc4, od4, .func (PySem.W.fnOf "tokens_of" "tokens_of" (defArgs st_tokens_of) (defBody st_tokens_of) (defScope st_tokens_of) .none kV4 dc4 pm4 an4 cd4 ct4), sl4⟩) (c4 : PySem.W.codeIn K cd4 "tokens_of" = true) (k4 : PySem.W.keepIn K (.ref f4) = true)
    (a5 : PySem.W.nsIn K mainGlobals "_token_at" = some (some (.ref f5))) (l5 : K.lookup f5 = some ⟨oc5, od5, .func (PySem.W.fnOf "_token_at" "_token_at" (defArgs st__token_at) (defBody st__token_at) (defScope st__token_at) .none kV5 dc5 pm5 an5 cd5 ct5), sl5⟩) (c5 : PySem.W.codeIn K cd5 "_token_at" = true) (k5 : PySem.W.keepIn K (.ref f5) = true)
    (a6 : PySem.W.nsIn K mainGlobals "steps_of" = some (some (.ref f6))) (l6 : K.lookup f6 = some ⟨oc6, od6, .func (PySem.W.fnOf "steps_of" "steps_of" (defArgs st_steps_of) (defBody st_steps_of) (defScope st_steps_of) .none kV6 dc6 pm6 an6 cd6 ct6), sl6⟩) (c6 : PySem.W.codeIn K cd6 "steps_of" = true) (k6 : PySem.W.keepIn K (.ref f6) = true)
    (a7 : PySem.W.nsIn K mainGlobals "_leaf" = some (some (.ref f7))) (l7 : K.lookup f7 = some ⟨oc7, od7, .func (PySem.W.fnOf "_leaf" "_leaf" (defArgs st__leaf) (defBody st__leaf) (defScope st__leaf) .none kV7 dc7 pm7 an7 cd7 ct7), sl7⟩) (c7 : PySem.W.codeIn K cd7 "_leaf" = true) (k7 : PySem.W.keepIn K (.ref f7) = true)
    (a8 : PySem.W.nsIn K mainGlobals "is_numeral" = some (some (.ref f8))) (l8 : K.lookup f8 = some ⟨oc8, od8, .func (PySem.W.fnOf "is_numeral" "is_numeral" (defArgs st_is_numeral) (defBody st_is_numeral) (defScope st_is_numeral) .none kV8 dc8 pm8 an8 cd8 ct8), sl8⟩) (c8 : PySem.W.codeIn K cd8 "is_numeral" = true) (k8 : PySem.W.keepIn K (.ref f8) = true)
    (a9 : PySem.W.nsIn K mainGlobals "_is_full" = some (some (.ref f9))) (l9 : K.lookup f9 = some ⟨oc9, od9, .func (PySem.W.fnOf "_is_full" "_is_full" (defArgs st__is_full) (defBody st__is_full) (defScope st__is_full) .none kV9 dc9 pm9 an9 cd9 ct9), sl9⟩) (c9 : PySem.W.codeIn K cd9 "_is_full" = true) (k9 : PySem.W.keepIn K (.ref f9) = true)
    (a10 : PySem.W.nsIn K mainGlobals "read_level" = some (some (.ref f10))) (l10 : K.lookup f10 = some ⟨oc10, od10, .func (PySem.W.fnOf "read_level" "read_level" (defArgs st_read_level) (defBody st_read_level) (defScope st_read_level) .none kV10 dc10 pm10 an10 cd10 ct10), sl10⟩) (c10 : PySem.W.codeIn K cd10 "read_level" = true) (k10 : PySem.W.keepIn K (.ref f10) = true)
    (a11 : PySem.W.nsIn K mainGlobals "parts_of" = some (some (.ref f11))) (l11 : K.lookup f11 = some ⟨oc11, od11, .func (PySem.W.fnOf "parts_of" "parts_of" (defArgs st_parts_of) (defBody st_parts_of) (defScope st_parts_of) .none kV11 dc11 pm11 an11 cd11 ct11), sl11⟩) (c11 : PySem.W.codeIn K cd11 "parts_of" = true) (k11 : PySem.W.keepIn K (.ref f11) = true)
    (a12 : PySem.W.nsIn K mainGlobals "parts_within" = some (some (.ref f12))) (l12 : K.lookup f12 = some ⟨oc12, od12, .func (PySem.W.fnOf "parts_within" "parts_within" (defArgs st_parts_within) (defBody st_parts_within) (defScope st_parts_within) .none kV12 dc12 pm12 an12 cd12 ct12), sl12⟩) (c12 : PySem.W.codeIn K cd12 "parts_within" = true) (k12 : PySem.W.keepIn K (.ref f12) = true)
    (a13 : PySem.W.nsIn K mainGlobals "names_in" = some (some (.ref f13))) (l13 : K.lookup f13 = some ⟨oc13, od13, .func (PySem.W.fnOf "names_in" "names_in" (defArgs st_names_in) (defBody st_names_in) (defScope st_names_in) .none kV13 dc13 pm13 an13 cd13 ct13), sl13⟩) (c13 : PySem.W.codeIn K cd13 "names_in" = true) (k13 : PySem.W.keepIn K (.ref f13) = true)
    (a14 : PySem.W.nsIn K mainGlobals "names_of" = some (some (.ref f14))) (l14 : K.lookup f14 = some ⟨oc14, od14, .func (PySem.W.fnOf "names_of" "names_of" (defArgs st_names_of) (defBody st_names_of) (defScope st_names_of) .none kV14 dc14 pm14 an14 cd14 ct14), sl14⟩) (c14 : PySem.W.codeIn K cd14 "names_of" = true) (k14 : PySem.W.keepIn K (.ref f14) = true)
    (a15 : PySem.W.nsIn K mainGlobals "_law_box" = some (some (.ref f15))) (l15 : K.lookup f15 = some ⟨oc15, od15, .func (PySem.W.fnOf "_law_box" "_law_box" (defArgs st__law_box) (defBody st__law_box) (defScope st__law_box) .none kV15 dc15 pm15 an15 cd15 ct15), sl15⟩) (c15 : PySem.W.codeIn K cd15 "_law_box" = true) (k15 : PySem.W.keepIn K (.ref f15) = true)
    (a16 : PySem.W.nsIn K mainGlobals "_law_take" = some (some (.ref f16))) (l16 : K.lookup f16 = some ⟨oc16, od16, .func (PySem.W.fnOf "_law_take" "_law_take" (defArgs st__law_take) (defBody st__law_take) (defScope st__law_take) .none kV16 dc16 pm16 an16 cd16 ct16), sl16⟩) (c16 : PySem.W.codeIn K cd16 "_law_take" = true) (k16 : PySem.W.keepIn K (.ref f16) = true)
    (a17 : PySem.W.nsIn K mainGlobals "_law_pick" = some (some (.ref f17))) (l17 : K.lookup f17 = some ⟨oc17, od17, .func (PySem.W.fnOf "_law_pick" "_law_pick" (defArgs st__law_pick) (defBody st__law_pick) (defScope st__law_pick) .none kV17 dc17 pm17 an17 cd17 ct17), sl17⟩) (c17 : PySem.W.codeIn K cd17 "_law_pick" = true) (k17 : PySem.W.keepIn K (.ref f17) = true)
    (a18 : PySem.W.nsIn K mainGlobals "_law_mixed" = some (some (.ref f18))) (l18 : K.lookup f18 = some ⟨oc18, od18, .func (PySem.W.fnOf "_law_mixed" "_law_mixed" (defArgs st__law_mixed) (defBody st__law_mixed) (defScope st__law_mixed) .none kV18 dc18 pm18 an18 cd18 ct18), sl18⟩) (c18 : PySem.W.codeIn K cd18 "_law_mixed" = true) (k18 : PySem.W.keepIn K (.ref f18) = true)
    (a19 : PySem.W.nsIn K mainGlobals "_law_heard" = some (some (.ref f19))) (l19 : K.lookup f19 = some ⟨oc19, od19, .func (PySem.W.fnOf "_law_heard" "_law_heard" (defArgs st__law_heard) (defBody st__law_heard) (defScope st__law_heard) .none kV19 dc19 pm19 an19 cd19 ct19), sl19⟩) (c19 : PySem.W.codeIn K cd19 "_law_heard" = true) (k19 : PySem.W.keepIn K (.ref f19) = true)
    (a20 : PySem.W.nsIn K mainGlobals "law" = some (some (.ref f20))) (l20 : K.lookup f20 = some ⟨oc20, od20, .func (PySem.W.fnOf "law" "law" (defArgs st_law) (defBody st_law) (defScope st_law) .none kV20 dc20 pm20 an20 cd20 ct20), sl20⟩) (c20 : PySem.W.codeIn K cd20 "law" = true) (k20 : PySem.W.keepIn K (.ref f20) = true)
    (z1 : PySem.W.nsIn K mainGlobals "abs" = some none)
    (z2 : PySem.W.nsIn K mainGlobals "int" = some none)
    (z3 : PySem.W.nsIn K mainGlobals "len" = some none)
    (z4 : PySem.W.nsIn K mainGlobals "list" = some none)
    (z5 : PySem.W.nsIn K mainGlobals "range" = some none)
    (z6 : PySem.W.nsIn K mainGlobals "str" = some none)
    (z7 : PySem.W.nsIn K mainGlobals "tuple" = some none)
    (z8 : PySem.W.nsIn K mainGlobals "dict" = some none)
    (z9 : PySem.W.nsIn K mainGlobals "max" = some none)
    (z10 : PySem.W.nsIn K mainGlobals "min" = some none)
    (z11 : PySem.W.nsIn K mainGlobals "isinstance" = some none)
    (z12 : PySem.W.nsIn K mainGlobals "sorted" = some none)
    (z13 : PySem.W.nsIn K mainGlobals "set" = some none)
    (z14 : PySem.W.nsIn K mainGlobals "all" = some none)
    (z15 : PySem.W.nsIn K mainGlobals "enumerate" = some none)
    (aS : PySem.W.nsIn K mainGlobals "SIGNS" = some (some (.ref fS))) (lS : K.lookup fS = some ⟨.type "tuple", none, .seq #[.str "max(" t1, .str "imax(" t2, .str " + " t3, .str ", " t4, .str ")" t5] nS, #[]⟩)
    (aR : PySem.W.nsIn K mainGlobals "RELATIONS" = some (some (.ref fR))) (lR : K.lookup fR = some ⟨.type "tuple", none, .seq #[.str "<=" tR0, .str "<" tR1, .str "=" tR2] nR, #[]⟩)
    {qC dO te g1 g5 g7 pR cD cL cB cT fJ fY : Addr} {rsR : List Value} {oci kVi dci pmi cdi cti ocr kVr dcr pmr cdr ctr oct kVt dct pmt cdt ctt ocj kVj dcj pmj cdj ctj ocy kVy dcy pmy cdy cty : Value} {odi ani odr anr odt ant odj anj ody any : Option Addr} {sli slr slt slj sly dsl tsl : Array (Option Value)} {ndd nde : Nat}
    {nmB qB nmT qT : Str} {NB NT : Addr} {bsB bmB bsT bmT : List Value} {snB snT : List Str} {subB subT : List Value} {abB abT : Bool} {colB colT : Option Bool} {ddB ddT : Option Addr} {kB0 kB1 kB2 kB3 kB5 kT0 kT1 kT2 kT3 kT5 : Option Value}
    (qa : PySem.W.nsIn K mainGlobals "Book" = some (some (.ref qC)))
    (qpg : PySem.W.plainGet K qC Str.empty = true) (qhd : PySem.W.hasDictIn K qC = true) (qpo : PySem.W.plainOver K qC = true) (qsa : PySem.W.findIn K (.ref qC) "__setattr__" = some (some (.builtin "object.__setattr__"))) (qmk : PySem.W.makesIn K qC = true) (qkc : PySem.W.keepIn K (.ref qC) = true)
    (qn1 : PySem.W.findIn K (.ref qC) "names" = some none) (qn2 : PySem.W.findIn K (.ref qC) "demands" = some none) (qn3 : PySem.W.findIn K (.ref qC) "parts" = some none)
    (qa1 : PySem.W.findIn K (.ref qC) "__init__" = some (some (.ref g1))) (qi1 : PySem.W.isFn K (.ref g1) = true) (ql1 : K.lookup g1 = some ⟨oci, odi, .func (PySem.W.fnOf "__init__" "Book.__init__" (defArgs sInit) (defBody sInit) (defScope sInit) (.ref dO) kVi dci pmi ani cdi cti), sli⟩) (qc1 : PySem.W.codeIn K cdi "Book.__init__" = true) (qk1 : PySem.W.keepIn K (.ref g1) = true)
    (qe1 : K.lookup dO = some ⟨.type "tuple", none, .seq #[.ref te] ndd, dsl⟩) (qe2 : K.lookup te = some ⟨.type "tuple", none, .seq #[] nde, tsl⟩)
    (qa7 : PySem.W.findIn K (.ref qC) "with_demand" = some (some (.ref g7))) (qi7 : PySem.W.isFn K (.ref g7) = true) (ql7 : K.lookup g7 = some ⟨oct, odt, .func (PySem.W.fnOf "with_demand" "Book.with_demand" (defArgs sWith) (defBody sWith) (defScope sWith) .none kVt dct pmt ant cdt ctt), slt⟩) (qc7 : PySem.W.codeIn K cdt "Book.with_demand" = true) (qk7 : PySem.W.keepIn K (.ref g7) = true)
    (qR1 : PySem.W.readsIn K qC (.type "type") = true) (qR2 : PySem.W.specialIn K (.ref qC) "__getattribute__" = some (some (.builtin "type.__getattribute__"))) (qR3 : PySem.W.findCls K (.ref qC) (.type "type") "read" = some (.get (.builtin "classmethod.__get__") (.ref pR) .none (.ref qC))) (qR4 : PySem.W.recIn K pR "classmethod" = some (.ref g5 :: rsR)) (qR5 : PySem.W.fnIn K g5 = true) (ql5 : K.lookup g5 = some ⟨ocr, odr, .func (PySem.W.fnOf "read" "Book.read" (defArgs sRead) (defBody sRead) (defScope sRead) .none kVr dcr pmr anr cdr ctr), slr⟩) (qc5 : PySem.W.codeIn K cdr "Book.read" = true) (qk5 : PySem.W.keepIn K (.ref g5) = true)
    (xL1 : PySem.W.nsIn K mainGlobals "InvalidLevel" = some (some (.ref cL))) (xL2 : PySem.W.excIn K cL veT "ValueError.__new__" = true) (xL3 : PySem.W.keepIn K (.ref cL) = true) (xL4 : PySem.W.subIn K (.ref cL) (.type "BaseException") = some true) (xL5 : PySem.W.typeIn K (.ref cL) = some (.type "type")) (xL6 : PySem.W.hasDictIn K cL = true)
    (xD1 : PySem.W.nsIn K mainGlobals "InvalidDemand" = some (some (.ref cD))) (xD2 : PySem.W.excIn K cD veT "ValueError.__new__" = true) (xD3 : PySem.W.keepIn K (.ref cD) = true) (xD4 : PySem.W.subIn K (.ref cD) (.type "BaseException") = some true) (xD5 : PySem.W.typeIn K (.ref cD) = some (.type "type")) (xD6 : PySem.W.hasDictIn K cD = true)
    (xB1 : PySem.W.nsIn K mainGlobals "InvalidBook" = some (some (.ref cB))) (xB2 : K.lookup cB = some (excClassObj nmB qB cB NB bsB bmB true snB subB abB colB ddB kB0 kB1 kB2 kB3 kB5 "ValueError.__new__")) (xB3 : PySem.HandSPX.refsVE bmB = true) (xB4 : PySem.W.findIn K (.ref cB) "__setattr__" = some (some (.builtin "object.__setattr__")))
    (xB5 : PySem.W.subIn K (.ref cB) (.type "BaseException") = some true) (xB6 : PySem.W.typeIn K (.ref cB) = some (.type "type")) (xB7 : PySem.W.keepIn K (.ref cB) = true) (xB8 : PySem.W.findIn K (.ref cB) "word" = some none)
    (xJ1 : PySem.W.findIn K (.ref cB) "__init__" = some (some (.ref fJ))) (xJ2 : PySem.W.typeIn K (.ref fJ) = some (.type "function"))
    (xJ3 : K.lookup fJ = some ⟨ocj, odj, .func (PySem.W.fnOf "__init__" "InvalidBook.__init__" (defArgs sExB) (defBody sExB) (defScope sExB) .none kVj dcj pmj anj cdj ctj), slj⟩) (xJ4 : PySem.W.codeIn K cdj "InvalidBook.__init__" = true) (xJ5 : PySem.W.keepIn K (.ref fJ) = true)
    (xX1 : PySem.W.findIn K (.ref cB) "__getattribute__" = some (some (.builtin "BaseException.__getattribute__"))) (xX2 : PySem.W.findIn K (.ref cB) "__getattr__" = some none) (xX3 : PySem.W.hasDictIn K cB = true)
    (xT1 : PySem.W.nsIn K mainGlobals "InvalidText" = some (some (.ref cT))) (xT2 : K.lookup cT = some (excClassObj nmT qT cT NT bsT bmT true snT subT abT colT ddT kT0 kT1 kT2 kT3 kT5 "ValueError.__new__")) (xT3 : PySem.HandSPX.refsVE bmT = true) (xT4 : PySem.W.findIn K (.ref cT) "__setattr__" = some (some (.builtin "object.__setattr__")))
    (xT5 : PySem.W.subIn K (.ref cT) (.type "BaseException") = some true) (xT6 : PySem.W.typeIn K (.ref cT) = some (.type "type")) (xT7 : PySem.W.keepIn K (.ref cT) = true) (xT8 : PySem.W.findIn K (.ref cT) "at" = some none)
    (xY1 : PySem.W.findIn K (.ref cT) "__init__" = some (some (.ref fY))) (xY2 : PySem.W.typeIn K (.ref fY) = some (.type "function"))
    (xY3 : K.lookup fY = some ⟨ocy, ody, .func (PySem.W.fnOf "__init__" "InvalidText.__init__" (defArgs sExT) (defBody sExT) (defScope sExT) .none kVy dcy pmy any cdy cty), sly⟩) (xY4 : PySem.W.codeIn K cdy "InvalidText.__init__" = true) (xY5 : PySem.W.keepIn K (.ref fY) = true)
    (xW1 : PySem.W.findIn K (.ref cT) "__getattribute__" = some (some (.builtin "BaseException.__getattribute__"))) (xW2 : PySem.W.findIn K (.ref cT) "__getattr__" = some none) (xW3 : PySem.W.hasDictIn K cT = true)
    (xM1 : PySem.W.subIn K (.ref cL) (.ref cL) = some true) (xM2 : PySem.W.subIn K (.ref cB) (.ref cL) = some false) (xM3 : PySem.W.subIn K (.ref cB) (.ref cB) = some true) (xM4 : PySem.W.subIn K (.ref cD) (.ref cL) = some false) (xM5 : PySem.W.subIn K (.ref cD) (.ref cB) = some false) (xM6 : PySem.W.subIn K (.ref cD) (.ref cD) = some true) (xM7 : PySem.W.subIn K (.ref cT) (.ref cL) = some false) (xM8 : PySem.W.subIn K (.ref cT) (.ref cB) = some false) (xM9 : PySem.W.subIn K (.ref cT) (.ref cD) = some false) (xM0 : PySem.W.subIn K (.ref cT) (.ref cT) = some true)
    (aC : PySem.W.nsIn K mainGlobals "CALLS" = some (some (.ref fC))) (lC : K.lookup fC = some ⟨.type "dict", none, .dict es nD, #[]⟩) (kC : PySem.W.KeysLit w.params es.toList) (nC : (fC == sysModules) = false)
    (pC : Paired (fun (kv : Str × V) (e : DictEntry) => (∃ t, e.key = .str kv.1 t) ∧ RelV kv.2 e.val) [("max(", .str "max"), ("imax(", .str "imax")] es.toList) :
    ∃ fd : FuncData, (∀ (s : Shared) (v : Value), BindsTo s fd ⟨[v], []⟩ [("_law_script", v)]) ∧ ∀ base : Heap, K.In base → base.Ns mainGlobals mg → FnOk l.prog w K mg base CX0 10 fa fd ["_law_script"] (spLaw K) := by
  have e := hfa.symm.trans (PySem.W.mg_of X G a20)
  cases e
  have F1 := fun_mk (st := st_is_sequence) l1 c1 k1
  have b1 := F1.binds (ps := ["thing"]) fun _ _ _ _ _ _ us hl => match us, hl with | [_], _ => rfl
  have m1 := PySem.W.mg_of X G a1
  have F2 := fun_mk (st := st_is_name) l2 c2 k2
  have b2 := F2.binds (ps := ["thing"]) fun _ _ _ _ _ _ us hl => match us, hl with | [_], _ => rfl
  have m2 := PySem.W.mg_of X G a2
  have F3 := fun_mk (st := st_are_names) l3 c3 k3
  have b3 := F3.binds (ps := ["thing"]) fun _ _ _ _ _ _ us hl => match us, hl with | [_], _ => rfl
  have m3 := PySem.W.mg_of X G a3
  have F4 := fun_mk (st := st_tokens_of) l4 c4 k4
  have b4 := F4.binds (ps := ["text"]) fun _ _ _ _ _ _ us hl => match us, hl with | [_], _ => rfl
  have m4 := PySem.W.mg_of X G a4
  have F5 := fun_mk (st := st__token_at) l5 c5 k5
  have b5 := F5.binds (ps := ["text", "at"]) fun _ _ _ _ _ _ us hl => match us, hl with | [_, _], _ => rfl
  have m5 := PySem.W.mg_of X G a5
  have F6 := fun_mk (st := st_steps_of) l6 c6 k6
  have b6 := F6.binds (ps := ["thing"]) fun _ _ _ _ _ _ us hl => match us, hl with | [_], _ => rfl
  have m6 := PySem.W.mg_of X G a6
  have F7 := fun_mk (st := st__leaf) l7 c7 k7
  have b7 := F7.binds (ps := ["token", "wanted"]) fun _ _ _ _ _ _ us hl => match us, hl with | [_, _], _ => rfl
  have m7 := PySem.W.mg_of X G a7
  have F8 := fun_mk (st := st_is_numeral) l8 c8 k8
  have b8 := F8.binds (ps := ["word"]) fun _ _ _ _ _ _ us hl => match us, hl with | [_], _ => rfl
  have m8 := PySem.W.mg_of X G a8
  have F9 := fun_mk (st := st__is_full) l9 c9 k9
  have b9 := F9.binds (ps := ["call", "count"]) fun _ _ _ _ _ _ us hl => match us, hl with | [_, _], _ => rfl
  have m9 := PySem.W.mg_of X G a9
  have F10 := fun_mk (st := st_read_level) l10 c10 k10
  have b10 := F10.binds (ps := ["level"]) fun _ _ _ _ _ _ us hl => match us, hl with | [_], _ => rfl
  have m10 := PySem.W.mg_of X G a10
  have F11 := fun_mk (st := st_parts_of) l11 c11 k11
  have b11 := F11.binds (ps := ["thing"]) fun _ _ _ _ _ _ us hl => match us, hl with | [_], _ => rfl
  have m11 := PySem.W.mg_of X G a11
  have F12 := fun_mk (st := st_parts_within) l12 c12 k12
  have b12 := F12.binds (ps := ["thing", "names"]) fun _ _ _ _ _ _ us hl => match us, hl with | [_, _], _ => rfl
  have m12 := PySem.W.mg_of X G a12
  have F13 := fun_mk (st := st_names_in) l13 c13 k13
  have b13 := F13.binds (ps := ["steps"]) fun _ _ _ _ _ _ us hl => match us, hl with | [_], _ => rfl
  have m13 := PySem.W.mg_of X G a13
  have F14 := fun_mk (st := st_names_of) l14 c14 k14
  have b14 := F14.binds (ps := ["level"]) fun _ _ _ _ _ _ us hl => match us, hl with | [_], _ => rfl
  have m14 := PySem.W.mg_of X G a14
  have F15 := fun_mk (st := st__law_box) l15 c15 k15
  have b15 := F15.binds (ps := ["_law_script", "_law_k", "_law_own"]) fun _ _ _ _ _ _ us hl => match us, hl with | [_, _, _], _ => rfl
  have m15 := PySem.W.mg_of X G a15
  have F16 := fun_mk (st := st__law_take) l16 c16 k16
  have b16 := F16.binds (ps := ["_law_box_here", "_law_many"]) fun _ _ _ _ _ _ us hl => match us, hl with | [_, _], _ => rfl
  have m16 := PySem.W.mg_of X G a16
  have F17 := fun_mk (st := st__law_pick) l17 c17 k17
  have b17 := F17.binds (ps := ["_law_box_here", "_law_items"]) fun _ _ _ _ _ _ us hl => match us, hl with | [_, _], _ => rfl
  have m17 := PySem.W.mg_of X G a17
  have F18 := fun_mk (st := st__law_mixed) l18 c18 k18
  have b18 := F18.binds (ps := ["_law_box_here", "_law_items"]) fun _ _ _ _ _ _ us hl => match us, hl with | [_, _], _ => rfl
  have m18 := PySem.W.mg_of X G a18
  have F19 := fun_mk (st := st__law_heard) l19 c19 k19
  have b19 := F19.binds (ps := ["_law_form", "_law_told"]) fun _ _ _ _ _ _ us hl => match us, hl with | [_, _], _ => rfl
  have m19 := PySem.W.mg_of X G a19
  have F20 := fun_mk (st := st_law) l20 c20 k20
  have y1 := PySem.W.mg_none_of X G z1
  have y2 := PySem.W.mg_none_of X G z2
  have y3 := PySem.W.mg_none_of X G z3
  have y4 := PySem.W.mg_none_of X G z4
  have y5 := PySem.W.mg_none_of X G z5
  have y6 := PySem.W.mg_none_of X G z6
  have y7 := PySem.W.mg_none_of X G z7
  have y8 := PySem.W.mg_none_of X G z8
  have y9 := PySem.W.mg_none_of X G z9
  have y10 := PySem.W.mg_none_of X G z10
  have y11 := PySem.W.mg_none_of X G z11
  have y12 := PySem.W.mg_none_of X G z12
  have y13 := PySem.W.mg_none_of X G z13
  have y14 := PySem.W.mg_none_of X G z14
  have y15 := PySem.W.mg_none_of X G z15
  have L : Lx mg := ⟨y1, y2, y3, y4, y5, y6, y7, y8, y9, y10⟩
  have T : Tx K w mg fS fC := ⟨y11, y6, y3, y2, y7, y12, y9, PySem.W.mg_of X G aS, fun H => .inr ⟨_, _, _, lS, rfl, rfl, by show 5 ≤ sizeLine; decide, signs_vals⟩, PySem.W.mg_of X G aC, ⟨_, _, lC, kC, nC, pC⟩⟩
  refine ⟨PySem.W.fnOf "law" "law" (defArgs st_law) (defBody st_law) (defScope st_law) .none kV20 dc20 pm20 an20 cd20 ct20, fun s v => .of_eq rfl, fun base _ _ => ?_⟩
  have G2 := ok_is_name (P := l.prog) (w := w) (base := base) F2 T
  have G2x := ok_nameX (P := l.prog) (w := w) (base := base) F2 T
  have G8 := ok_is_num (P := l.prog) (w := w) (base := base) F8 T
  have G9 := ok_full (mg := mg) (P := l.prog) (w := w) (base := base) F9 
  have G7 := ok_leaf (P := l.prog) (w := w) (base := base) F7 T G2 b2 k2 m2 G8 b8 k8 m8
  have G5 := ok_tokAt (P := l.prog) (w := w) (base := base) F5 T
  have G4 := ok_toks (P := l.prog) (w := w) (base := base) F4 T G5 b5 k5 m5
  have G6 := ok_steps (P := l.prog) (w := w) (base := base) F6 T G4 b4 k4 m4 G7 b7 k7 m7 G9 b9 k9 m9
  have R : Rx K mg fR := ⟨PySem.W.mg_of X G aR, fun H => .inr ⟨_, _, _, lR, rfl, rfl, by show 3 ≤ sizeLine; decide, rels_vals⟩⟩
  have R2 : Bx2 mg := ⟨y11, y13, y14⟩
  have G11 := ok_parts_of (P := l.prog) (w := w) (base := base) F11 T R (cal_mk G6 m6 k6 b6)
  have G13 := ok_names (P := l.prog) (w := w) (base := base) F13 T
  have G1 := ok_is_seq (P := l.prog) (w := w) (base := base) F1 L R2
  have G1x := ok_seqX (P := l.prog) (w := w) (base := base) F1 L R2
  have G3 := ok_are_names (P := l.prog) (w := w) (base := base) F3 L R2 (cal_mk G1 m1 k1 b1) (cal_mk G2 m2 k2 b2)
  have G3x := ok_areX (P := l.prog) (w := w) (base := base) F3 L R2 (cal_mk G1x m1 k1 b1) (cal_mk G2x m2 k2 b2)
  have G12 := ok_within (P := l.prog) (w := w) (base := base) F12 R2 (cal_mk G11 m11 k11 b11) (cal_mk G13 m13 k13 b13)
  have G12x := fn_or G12 (ok_noPart (P := l.prog) (w := w) (base := base) F12 R2 (cal_mk G11 m11 k11 b11) (cal_mk G13 m13 k13 b13))
  have B : BkC K mg qC := ⟨⟨qpg, qhd, qpo, qsa⟩, qn1, qn2, qn3, PySem.W.mg_of X G qa⟩
  have M : Mk K qC g1 := ⟨qmk, qa1, qi1, qkc⟩
  have FI : FunD K "__init__" "Book.__init__" (defArgs sInit) (defBody sInit) (defScope sInit) [V.ref te] [] g1 _ := ⟨⟨_, _, _, _, _, _, _, _, _, _, rfl, ql1, qc1, .inr ⟨List.cons_ne_nil _ _, dO, _, [.ref te], _, rfl, qe1, rfl, .cons rfl .nil⟩, .inl rfl⟩, qk1⟩
  have GI := ok_init (P := l.prog) (w := w) (base := base) FI L B (cal_mk G3 m3 k3 b3) (cal_mk G1 m1 k1 b1) (cal_mk G12 m12 k12 b12)
  obtain ⟨ds3, r3, bI3⟩ := FI.binds1 (ps := ["self", "names", "demands"]) 3 1 (List.cons_ne_nil _ _) rfl fun T kV doc pm an cdv ct us its h1 h2 => match us, its, h1, h2 with | [_, _, _], [_], _, _ => ⟨_, rfl, rfl⟩
  have bI : Binds K (PySem.W.fnOf "__init__" "Book.__init__" (defArgs sInit) (defBody sInit) (defScope sInit) (.ref dO) kVi dci pmi ani cdi cti) ["self", "names", "demands"] [] := by
    cases r3
    exact bI3
  obtain ⟨dsI, rI1, bI1⟩ := FI.binds1 (ps := ["self", "names", "demands"]) 2 0 (List.cons_ne_nil _ _) rfl fun T kV doc pm an cdv ct us its h1 h2 => match us, its, h1, h2 with | [_, _], [_], _, _ => ⟨_, rfl, rfl⟩
  have rI1x : Vals [V.ref te] [Value.ref te] := .cons rfl .nil
  have bI1x : Binds K (PySem.W.fnOf "__init__" "Book.__init__" (defArgs sInit) (defBody sInit) (defScope sInit) (.ref dO) kVi dci pmi ani cdi cti) ["self", "names", "demands"] [.ref te] := by
    cases rI1 with
    | cons r0 r1 =>
      cases r1
      cases r0
      exact bI1
  have YL : El K mg cL := ⟨PySem.W.mg_of X G xL1, xL2, xL3, xL4, xL5⟩
  have YD : ExD K mg cD := ⟨PySem.W.mg_of X G xD1, xD2, xD3, xD4, xD5⟩
  have YB : ExB K mg cB fJ := ⟨⟨⟨_, _, _, _, _, _, _, _, _, _, _, _, _, _, _, xB2, xB3⟩, xB4, xB5, xB6, xB7⟩, xJ1, xJ2, xB8, PySem.W.mg_of X G xB1⟩
  have FJ := fun_mk (st := sExB) (x := "__init__") (qual := "InvalidBook.__init__") xJ3 xJ4 xJ5
  have GJ := ok_exI (P := l.prog) (w := w) (mg := mg) (base := base) FJ
  have bJ := FJ.binds (ps := ["self", "word"]) fun _ _ _ _ _ _ us hl => match us, hl with | [_, _], _ => rfl
  have YT : ExT K mg cT fY := ⟨⟨⟨_, _, _, _, _, _, _, _, _, _, _, _, _, _, _, xT2, xT3⟩, xT4, xT5, xT6, xT7⟩, xY1, xY2, xT8, PySem.W.mg_of X G xT1⟩
  have FY := fun_mk (st := sExT) (x := "__init__") (qual := "InvalidText.__init__") xY3 xY4 xY5
  have GY := ok_exT (P := l.prog) (w := w) (mg := mg) (base := base) FY
  have bY := FY.binds (ps := ["self", "at"]) fun _ _ _ _ _ _ us hl => match us, hl with | [_, _], _ => rfl
  have GX := fn_or (fn_up (CX := L2.CX l.prog w) GI) (ok_bad (P := l.prog) (w := w) (base := base) (C := qC) FI L YB GJ bJ (cal_mk G3x m3 k3 b3) (cal_mk G1x m1 k1 b1) (cal_mk G12x m12 k12 b12))
  have G10 := ok_levX (P := l.prog) (w := w) (base := base) F10 YL (cal_mk G6 m6 k6 b6)
  have G14 := ok_namX (P := l.prog) (w := w) (base := base) F14 G10 b10 k10 m10 (cal_mk G13 m13 k13 b13)
  have YZ : Ez K mg cL cB cD cT := ⟨PySem.W.mg_of X G xL1, PySem.W.mg_of X G xB1, PySem.W.mg_of X G xD1, PySem.W.mg_of X G xT1, ⟨xX1, xX2, xB5, xX3⟩, xB8, ⟨xW1, xW2, xT5, xW3⟩, xT8,
    PySem.W.exm_ref xL4 xL6 xL5 xM1, PySem.W.exm_ref xL4 xL6 xL5 xM2, PySem.W.exm_ref xB5 xX3 xB6 xM3, PySem.W.exm_ref xL4 xL6 xL5 xM4, PySem.W.exm_ref xB5 xX3 xB6 xM5, PySem.W.exm_ref xD4 xD6 xD5 xM6,
    PySem.W.exm_ref xL4 xL6 xL5 xM7, PySem.W.exm_ref xB5 xX3 xB6 xM8, PySem.W.exm_ref xD4 xD6 xD5 xM9, PySem.W.exm_ref xT5 xW3 xT6 xM0⟩
  have FW7 := fun_mk (st := sWith) (x := "with_demand") (qual := "Book.with_demand") ql7 qc7 qk7
  have bW7 := FW7.binds (ps := ["self", "demand"]) fun _ _ _ _ _ _ us hl => match us, hl with | [_, _], _ => rfl
  have GW7 := ok_with (P := l.prog) (w := w) (base := base)  FW7 B YD M GI bI (cal_mk G12x m12 k12 b12)
  have FRd := fun_mk (st := sRead) (x := "read") (qual := "Book.read") ql5 qc5 qk5
  have bRd := FRd.binds (ps := ["cls", "text"]) fun _ _ _ _ _ _ us hl => match us, hl with | [_, _], _ => rfl
  have GRd := ok_read (P := l.prog) (w := w) (base := base) FRd L R2 y15 M GI bI (cal_mk G2 m2 k2 b2) (cal_mk G11 m11 k11 b11)
  have GRb := ok_readB (P := l.prog) (w := w) (base := base) (C := qC) FRd L R2 y15 YT GY bY (cal_mk G2 m2 k2 b2) (cal_mk G11 m11 k11 b11)
  have FRr : FnR l.prog w K mg base (L2.CX l.prog w) 8 g5 (spOr (spRead K qC) (spReadB K qC cT)) := FnR.imp (FnOk.raw (fn_or (fn_up (CX := L2.CX l.prog w) GRd) GRb) bRd .nil) fun vs H Q E h => by rw [List.append_nil]; exact h
  have mW : Meth K qC "with_demand" g7 := ⟨qa7, qi7, qk7⟩
  have G15 := ok_box (P := l.prog) (w := w) (base := base) F15 L
  have G16 := ok_take (P := l.prog) (w := w) (base := base) F16 L
  have G17 := ok_pick (P := l.prog) (w := w) (base := base) F17 L G16 b16 k16 m16
  have G18 := ok_mixed (P := l.prog) (w := w) (base := base) F18 L G16 b16 k16 m16
  have G19 := ok_heard (P := l.prog) (w := w) (base := base) F19 YZ B M G14 b14 k14 m14 GX bI GI bI1x rI1x (fun H => .inr ⟨_, _, _, qe2, rfl, rfl, Nat.zero_le _, .nil⟩) mW GW7 bW7 ⟨qR1, qR2⟩ ⟨qR3, ⟨_, qR4⟩, qR5⟩ FRr
  exact ok_law F20 L (cal_mk G15 m15 k15 b15) (cal_mk G16 m16 k16 b16) (cal_mk G17 m17 k17 b17) (cal_mk G18 m18 k18 b18) (cal_mk G19 m19 k19 b19)
end Pg
set_option Elab.async false
open PySem PySem.W PyProof.Rows
set_option maxHeartbeats 0
open_top hd13 for PySem.Challenge.rw_everylevel_k13_long_texts_that_are_no_le
set_option Elab.async false
set_option maxRecDepth 100000
open PySem PySem.W PyProof.Rows
set_option maxHeartbeats 0
theorem PySem.Challenge.cw_everylevel_k13_long_texts_that_are_no_le_holds : PySem.Challenge.rw_everylevel_k13_long_texts_that_are_no_le.Holds :=
  hd13 (by
    k_fill
    refine L2.walk_ofK (n := 63) (k := 10) (x := "_law_script") (l := PySem.Challenge.rw_everylevel_k13_long_texts_that_are_no_le) (CX := L2.CX0) (sp := Pg.spLaw) rfl (by decide) rfl ⟨rfl, by decide, by decide⟩ (fun w h Y => PySem.W.kIn_of Y) ?F (fun K H a ns hl _ hS => ⟨a, ns, rfl, hS, hl, fun _ => rfl⟩) (fun _ _ _ _ z => z)
    case F =>
      intro w mg fa h KX G hmg
      refine' Pg.all_mk KX G hmg ?a1 ?l1 ?c1 ?k1 ?a2 ?l2 ?c2 ?k2 ?a3 ?l3 ?c3 ?k3 ?a4 ?l4 ?c4 ?k4 ?a5 ?l5 ?c5 ?k5 ?a6 ?l6 ?c6 ?k6 ?a7 ?l7 ?c7 ?k7 ?a8 ?l8 ?c8 ?k8 ?a9 ?l9 ?c9 ?k9 ?a10 ?l10 ?c10 ?k10 ?a11 ?l11 ?c11 ?k11 ?a12 ?l12 ?c12 ?k12 ?a13 ?l13 ?c13 ?k13 ?a14 ?l14 ?c14 ?k14 ?a15 ?l15 ?c15 ?k15 ?a16 ?l16 ?c16 ?k16 ?a17 ?l17 ?c17 ?k17 ?a18 ?l18 ?c18 ?k18 ?a19 ?l19 ?c19 ?k19 ?a20 ?l20 ?c20 ?k20 ?z1 ?z2 ?z3 ?z4 ?z5 ?z6 ?z7 ?z8 ?z9 ?z10 ?z11 ?z12 ?z13 ?z14 ?z15 ?aS ?lS ?aR ?lR ?qa ?qpg ?qhd ?qpo ?qsa ?qmk ?qkc ?qn1 ?qn2 ?qn3 ?qa1 ?qi1 ?ql1 ?qc1 ?qk1 ?qe1 ?qe2 ?qa7 ?qi7 ?ql7 ?qc7 ?qk7 ?qR1 ?qR2 ?qR3 ?qR4 ?qR5 ?ql5 ?qc5 ?qk5 ?xL1 ?xL2 ?xL3 ?xL4 ?xL5 ?xL6 ?xD1 ?xD2 ?xD3 ?xD4 ?xD5 ?xD6 ?xB1 ?xB2 ?xB3 ?xB4 ?xB5 ?xB6 ?xB7 ?xB8 ?xJ1 ?xJ2 ?xJ3 ?xJ4 ?xJ5 ?xX1 ?xX2 ?xX3 ?xT1 ?xT2 ?xT3 ?xT4 ?xT5 ?xT6 ?xT7 ?xT8 ?xY1 ?xY2 ?xY3 ?xY4 ?xY5 ?xW1 ?xW2 ?xW3 ?xM1 ?xM2 ?xM3 ?xM4 ?xM5 ?xM6 ?xM7 ?xM8 ?xM9 ?xM0 ?aC ?lC ?kC ?nC ?pC
      (case a1 => k_is)
      (case l1 => k_is)
      (case c1 => k_is)
      (case k1 => k_is)
      (case a2 => k_is)
      (case l2 => k_is)
      (case c2 => k_is)
      (case k2 => k_is)
      (case a3 => k_is)
      (case l3 => k_is)
      (case c3 => k_is)
      (case k3 => k_is)
      (case a4 => k_is)
      (case l4 => k_is)
      (case c4 => k_is)
      (case k4 => k_is)
      (case a5 => k_is)
      (case l5 => k_is)
      (case c5 => k_is)
      (case k5 => k_is)
      (case a6 => k_is)
      (case l6 => k_is)
      (case c6 => k_is)
      (case k6 => k_is)
      (case a7 => k_is)
      (case l7 => k_is)
      (case c7 => k_is)
      (case k7 => k_is)
      (case a8 => k_is)
      (case l8 => k_is)
      (case c8 => k_is)
      (case k8 => k_is)
      (case a9 => k_is)
      (case l9 => k_is)
      (case c9 => k_is)
      (case k9 => k_is)
      (case a10 => k_is)
      (case l10 => k_is)
      (case c10 => k_is)
      (case k10 => k_is)
      (case a11 => k_is)
      (case l11 => k_is)
      (case c11 => k_is)
      (case k11 => k_is)
      (case a12 => k_is)
      (case l12 => k_is)
      (case c12 => k_is)
      (case k12 => k_is)
      (case a13 => k_is)
      (case l13 => k_is)
      (case c13 => k_is)
      (case k13 => k_is)
      (case a14 => k_is)
      (case l14 => k_is)
      (case c14 => k_is)
      (case k14 => k_is)
      (case a15 => k_is)
      (case l15 => k_is)
      (case c15 => k_is)
      (case k15 => k_is)
      (case a16 => k_is)
      (case l16 => k_is)
      (case c16 => k_is)
      (case k16 => k_is)
      (case a17 => k_is)
      (case l17 => k_is)
      (case c17 => k_is)
      (case k17 => k_is)
      (case a18 => k_is)
      (case l18 => k_is)
      (case c18 => k_is)
      (case k18 => k_is)
      (case a19 => k_is)
      (case l19 => k_is)
      (case c19 => k_is)
      (case k19 => k_is)
      (case a20 => k_is)
      (case l20 => k_is)
      (case c20 => k_is)
      (case k20 => k_is)
      (case z1 => k_is)
      (case z2 => k_is)
      (case z3 => k_is)
      (case z4 => k_is)
      (case z5 => k_is)
      (case z6 => k_is)
      (case z7 => k_is)
      (case z8 => k_is)
      (case z9 => k_is)
      (case z10 => k_is)
      (case z11 => k_is)
      (case z12 => k_is)
      (case z13 => k_is)
      (case z14 => k_is)
      (case z15 => k_is)
      (case aS => k_is)
      (case lS => k_is)
      (case aR => k_is)
      (case lR => k_is)
      (case qa => k_is)
      (case qpg => k_is)
      (case qhd => k_is)
      (case qpo => k_is)
      (case qsa => k_is)
      (case qmk => k_is)
      (case qkc => k_is)
      (case qn1 => k_is)
      (case qn2 => k_is)
      (case qn3 => k_is)
      (case qa1 => k_is)
      (case qi1 => k_is)
      (case ql1 => k_is)
      (case qc1 => k_is)
      (case qk1 => k_is)
      (case qe1 => k_is)
      (case qe2 => k_is)
      (case qa7 => k_is)
      (case qi7 => k_is)
      (case ql7 => k_is)
      (case qc7 => k_is)
      (case qk7 => k_is)
      (case qR1 => k_is)
      (case qR2 => k_is)
      (case qR3 => k_is)
      (case qR4 => k_is)
      (case qR5 => k_is)
      (case ql5 => k_is)
      (case qc5 => k_is)
      (case qk5 => k_is)
      (case xL1 => k_is)
      (case xL2 => k_exc)
      (case xL3 => k_is)
      (case xL4 => k_is)
      (case xL5 => k_is)
      (case xL6 => k_is)
      (case xD1 => k_is)
      (case xD2 => k_exc)
      (case xD3 => k_is)
      (case xD4 => k_is)
      (case xD5 => k_is)
      (case xD6 => k_is)
      (case xB1 => k_is)
      (case xB2 => k_is)
      (case xB3 => rfl)
      (case xB4 => k_is)
      (case xB5 => k_is)
      (case xB6 => k_is)
      (case xB7 => k_is)
      (case xB8 => k_is)
      (case xJ1 => k_is)
      (case xJ2 => k_is)
      (case xJ3 => k_is)
      (case xJ4 => k_is)
      (case xJ5 => k_is)
      (case xX1 => k_is)
      (case xX2 => k_is)
      (case xX3 => k_is)
      (case xT1 => k_is)
      (case xT2 => k_is)
      (case xT3 => rfl)
      (case xT4 => k_is)
      (case xT5 => k_is)
      (case xT6 => k_is)
      (case xT7 => k_is)
      (case xT8 => k_is)
      (case xY1 => k_is)
      (case xY2 => k_is)
      (case xY3 => k_is)
      (case xY4 => k_is)
      (case xY5 => k_is)
      (case xW1 => k_is)
      (case xW2 => k_is)
      (case xW3 => k_is)
      (case xM1 => k_is)
      (case xM2 => k_is)
      (case xM3 => k_is)
      (case xM4 => k_is)
      (case xM5 => k_is)
      (case xM6 => k_is)
      (case xM7 => k_is)
      (case xM8 => k_is)
      (case xM9 => k_is)
      (case xM0 => k_is)
      (case aC => k_is)
      (case lC => k_is)
      (case kC => exact ⟨⟨_, _, rfl, rfl⟩, ⟨_, _, rfl, rfl⟩, trivial⟩)
      (case nC => rfl)
      (case pC => exact .cons ⟨⟨_, rfl⟩, ⟨_, rfl⟩⟩ (.cons ⟨⟨_, rfl⟩, ⟨_, rfl⟩⟩ .nil)))
