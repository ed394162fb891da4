import PyProof.Rows.All
import Wide.All
import OpenK.AllK
import Wide.FinOn
import HandS.Codes
import HandS.DictComp
import HandS.ForMost
import HandS.IsInst
import HandS.RaiseMore
import HandS.Set
import HandS.SetBool
import HandS.SetFor
import HandS.SortKw
import HandS.StrMore
import HandS.Strs
import HandS.TupAny
import HandS.TupSets
import HandS.Walk
import KE.SortData
import PySem.Challenge.RW_everylevel_k06_atoms_of_levels
/-! P0 -/
set_option Elab.async false
set_option linter.all false
set_option maxRecDepth 100000
namespace Pg
open PySem L2
def top (i : Nat) : Stmt := PySem.Challenge.pw_everylevel_k06_atoms_of_levels.main.body.getD i (.Pass ⟨0, 0, 0, 0⟩)
abbrev cl_LevelError : Stmt := top 1
abbrev cl_InvalidLevel : Stmt := top 2
abbrev st_is_name : Stmt := top 6
abbrev st_tokens_of : Stmt := top 7
abbrev st__token_at : Stmt := top 8
abbrev st_steps_of : Stmt := top 9
abbrev st__leaf : Stmt := top 10
abbrev st_is_numeral : Stmt := top 11
abbrev st__is_full : Stmt := top 12
abbrev st_read_level : Stmt := top 13
abbrev st_atoms_in : Stmt := top 15
abbrev st__greatest : Stmt := top 16
abbrev st_least_atoms : Stmt := top 17
abbrev st_atoms : Stmt := top 19
abbrev st__law_box : Stmt := top 21
abbrev st__law_take : Stmt := top 22
abbrev st__law_pick : Stmt := top 23
abbrev st__law_mixed : Stmt := top 24
abbrev st__law_level : Stmt := top 25
abbrev st__law_parts : Stmt := top 26
abbrev st__law_text : Stmt := top 27
abbrev st__law_worth : Stmt := top 28
abbrev st__law_lots : Stmt := top 29
abbrev st__law_named_some : Stmt := top 30
abbrev st__law_greatest : Stmt := top 31
abbrev st__law_trials : Stmt := top 32
abbrev st_law : Stmt := top 33
end Pg
/-! Mr -/
set_option Elab.async false
set_option linter.all false
set_option maxRecDepth 100000
set_option maxHeartbeats 2000000
/-! What the program's reader of levels computes, over lists of code points. -/
namespace Mr
open PySem
abbrev Cs := List Nat
def S (l : Cs) : Str := ⟨l.toArray⟩
theorem S_inj {a b : Cs} : S a = S b ↔ a = b := by
  unfold S
  constructor
  · intro h; injection h with h; simpa using h
  · rintro rfl; rfl
theorem S_of (z : Str) : S z.cps.toList = z := by unfold S; rw [Array.toArray_toList]
theorem len_S (a : Cs) : (S a).length = a.length := by unfold S Str.length; simp
def cMax : Cs := [109, 97, 120, 40]
def cImax : Cs := [105, 109, 97, 120, 40]
def cPlus : Cs := [32, 43, 32]
def cSep : Cs := [44, 32]
def cEnd : Cs := [41]
def signs : List Cs := [cMax, cImax, cPlus, cSep, cEnd]
def isAl (c : Nat) : Bool := Unicode.isAlnum c
def tokAt (r : Cs) : Cs := match signs.find? (fun g => g.isPrefixOf r) with
  | some g => g
  | none => r.takeWhile isAl
def toksF : Nat → Cs → Option (List Cs)
  | 0, r => if r.isEmpty then some [] else none
  | n + 1, r => if r.isEmpty then some [] else if (tokAt r).isEmpty then none else (toksF n (r.drop (tokAt r).length)).map (tokAt r :: ·)
def toks (z : Cs) : Option (List Cs) := toksF z.length z
theorem toksF_fuel : ∀ (n m : Nat) (r : Cs), r.length ≤ n → r.length ≤ m → toksF n r = toksF m r
  | 0, 0, _, _, _ => rfl
  | 0, m + 1, r, h, _ => by
    have e : r = [] := List.length_eq_zero_iff.mp (by omega)
    subst e; rfl
  | n + 1, 0, r, _, h => by
    have e : r = [] := List.length_eq_zero_iff.mp (by omega)
    subst e; rfl
  | n + 1, m + 1, r, h, h' => by
    unfold toksF
    by_cases c : r.isEmpty = true
    · rw [if_pos c, if_pos c]
    · rw [if_neg c, if_neg c]
      by_cases d : (tokAt r).isEmpty = true
      · rw [if_pos d, if_pos d]
      · rw [if_neg d, if_neg d]
        have l0 : 0 < r.length := by cases r with | nil => exact absurd rfl c | cons => simp
        have l1 : 0 < (tokAt r).length := by cases q : tokAt r with | nil => rw [q] at d; exact absurd rfl d | cons => simp
        have l2 : (r.drop (tokAt r).length).length < r.length := by rw [List.length_drop]; omega
        rw [toksF_fuel n m _ (by omega) (by omega)]

inductive W where | level | sign | number
  deriving DecidableEq
inductive Stp where
  | num (k : Int) | nam (s : Cs) | plus (k : Int) | call (b : Bool) (n : Int)
  deriving DecidableEq
def isName (t : Cs) : Bool := (!(decide (t = [109, 97, 120]) || decide (t = [105, 109, 97, 120]))) && (decide (t.length ≤ 4) && (Txt.isascii (S t) && (Txt.isalpha (S t) && Txt.islower (S t))))
def isNum (t : Cs) : Bool := (Txt.isascii (S t) && Txt.isdigit (S t)) && (decide (t.length ≤ 4) && (decide (t = [48]) || decide (t[0]? ≠ some 48)))
def valOf (t : Cs) : Int := (PySem.intText? (S t)).getD 0
def leaf (t : Cs) (w : W) : Option Stp :=
  if w = .level && isName t then some (.nam t) else if w = .level && isNum t then some (.num (valOf t)) else if w = .number && isNum t then some (.plus (valOf t)) else none
structure PSt where
  ss : List Stp
  st : List (Bool × Int)
  w : W
def full (b : Bool) (n : Int) : Bool := if b then decide (2 ≤ n) else decide (n = 2)
def turn (p : PSt) (t : Cs) : Option PSt := match leaf t p.w with
  | some l => some ⟨p.ss ++ [l], p.st, .sign⟩
  | none =>
    if p.w = .level && (t = cMax) then some ⟨p.ss, (true, 1) :: p.st, .level⟩
    else if p.w = .level && (t = cImax) then some ⟨p.ss, (false, 1) :: p.st, .level⟩
    else if p.w = .sign && (t = cPlus) then some ⟨p.ss, p.st, .number⟩
    else if p.w = .sign && (t = cSep) then match p.st with
      | (b, n) :: r => some ⟨p.ss, (b, n + 1) :: r, .level⟩
      | [] => none
    else if p.w = .sign && (t = cEnd) then match p.st with
      | (b, n) :: r => if full b n then some ⟨p.ss ++ [.call b n], r, .sign⟩ else none
      | [] => none
    else none
def parse (p : PSt) : List Cs → Option PSt
  | [] => some p
  | t :: r => match turn p t with
    | some q => parse q r
    | none => none
def ended (p : PSt) : Option (List Stp) := if p.w = .sign && p.st.isEmpty then some p.ss else none
def stepsT (ts : List Cs) : Option (List Stp) := (parse ⟨[], [], .level⟩ ts).bind ended
def stepsOf (z : Cs) : Option (List Stp) := (toks z).bind stepsT
theorem parse_append : ∀ (a b : List Cs) (p : PSt), parse p (a ++ b) = (parse p a).bind fun q => parse q b
  | [], b, p => rfl
  | t :: a, b, p => by
    show (match turn p t with | some q => parse q (a ++ b) | none => none) = (match turn p t with | some q => parse q a | none => none).bind _
    cases turn p t with
    | none => rfl
    | some q => exact parse_append a b q

/-! ### trees -/
inductive T where
  | num (k : Nat) | nam (s : Cs) | plus (t : T) (k : Nat) | node (b : Bool) (ts : List T)
def D (k : Nat) : Cs := (((toString (k : Int) : String) : Str)).cps.toList
def glue : List (List Cs) → List Cs
  | [] => []
  | [a] => a
  | a :: b :: r => a ++ cSep :: glue (b :: r)
def opn (b : Bool) : Cs := if b then cMax else cImax
def T.tok : T → List Cs
  | .num k => [D k]
  | .nam s => [s]
  | .plus t k => t.tok ++ [cPlus, D k]
  | .node b ts => opn b :: (glue (ts.map fun t => t.tok) ++ [cEnd])
def T.stp : T → List Stp
  | .num k => [.num k]
  | .nam s => [.nam s]
  | .plus t k => t.stp ++ [.plus k]
  | .node b ts => (ts.map fun t => t.stp).flatten ++ [.call b ts.length]
def T.text (t : T) : Cs := t.tok.flatten
def T.ok : T → Prop
  | .num k => k < 100
  | .nam s => isName s = true
  | .plus t k => t.ok ∧ k < 100
  | .node b ts => full b ts.length = true ∧ ∀ t ∈ ts, t.ok

/-! ### numerals -/
def numFacts (k : Nat) : Bool := (D k).all isAl && !(D k).isEmpty && isNum (D k) && !isName (D k) && decide (PySem.intText? (S (D k)) = some (k : Int)) && decide ((D k).length ≤ 2)
theorem num_all : ∀ k : Fin 100, numFacts k.val = true := by decide +kernel
theorem num_ok {k : Nat} (h : k < 100) : numFacts k = true := num_all ⟨k, h⟩
end Mr
/-! Mt -/
set_option Elab.async false
set_option linter.all false
set_option maxRecDepth 100000
set_option maxHeartbeats 2000000
/-! The reader reads what is written of a tree. -/
namespace Mr
open PySem
def sepHd (c : Nat) : Bool := decide (c = 32) || decide (c = 44) || decide (c = 41)
def sep0 (r : Cs) : Prop := ∀ c, r[0]? = some c → sepHd c = true
theorem sep_al : isAl 32 = false ∧ isAl 44 = false ∧ isAl 41 = false ∧ isAl 40 = false := by decide +kernel
theorem sep_not_al {c : Nat} (h : sepHd c = true) : isAl c = false := by
  unfold sepHd at h
  simp only [Bool.or_eq_true, decide_eq_true_eq] at h
  rcases h with (rfl | rfl) | rfl
  · exact sep_al.1
  · exact sep_al.2.1
  · exact sep_al.2.2.1
def word (t : Cs) : Prop := t ≠ [] ∧ ∀ c ∈ t, isAl c = true
theorem no_sign {g t r : Cs} (hw : word t) (hr : sep0 r) (h40 : ∃ i : Nat, g[i]? = some 40) (hg : ∀ c ∈ g, sepHd c = false) : g.isPrefixOf (t ++ r) = false := by
  cases q : g.isPrefixOf (t ++ r) with
  | false => rfl
  | true =>
    obtain ⟨k, e⟩ := List.isPrefixOf_iff_prefix.mp q
    have at_ : ∀ (i : Nat) (c : Nat), g[i]? = some c → (t ++ r)[i]? = some c := fun i c h => by
      rw [← e, List.getElem?_append_left (List.getElem?_eq_some_iff.mp h).1]; exact h
    obtain ⟨i, hi⟩ := h40
    have h1 := at_ i 40 hi
    by_cases c : i < t.length
    · rw [List.getElem?_append_left c] at h1
      have := hw.2 40 (List.mem_of_getElem? h1)
      rw [sep_al.2.2.2] at this; cases this
    · have lt : t.length < g.length := Nat.lt_of_le_of_lt (Nat.le_of_not_lt c) (List.getElem?_eq_some_iff.mp hi).1
      have h2 := at_ t.length g[t.length] (List.getElem?_eq_getElem lt)
      rw [List.getElem?_append_right (Nat.le_refl _), Nat.sub_self] at h2
      have h3 := hr _ h2
      rw [hg _ (List.getElem_mem lt)] at h3; cases h3
theorem tok_word {t r : Cs} (hw : word t) (hr : sep0 r) : tokAt (t ++ r) = t := by
  obtain ⟨c, t', rfl⟩ : ∃ c t', t = c :: t' := by
    cases t with
    | nil => exact absurd rfl hw.1
    | cons c t' => exact ⟨c, t', rfl⟩
  have hc := hw.2 c (List.mem_cons_self)
  have n1 : (c :: t' ++ r) = c :: (t' ++ r) := rfl
  have ne : ∀ d, isAl d = false → (d == c) = false := fun d hd => by
    cases q : d == c with
    | false => rfl
    | true => rw [beq_iff_eq.mp q, hc] at hd; cases hd
  have f1 : cMax.isPrefixOf (c :: t' ++ r) = false := no_sign hw hr ⟨3, rfl⟩ (by decide)
  have f2 : cImax.isPrefixOf (c :: t' ++ r) = false := no_sign hw hr ⟨4, rfl⟩ (by decide)
  have f3 : cPlus.isPrefixOf (c :: t' ++ r) = false := by rw [n1]; unfold cPlus List.isPrefixOf; rw [ne 32 sep_al.1]; rfl
  have f4 : cSep.isPrefixOf (c :: t' ++ r) = false := by rw [n1]; unfold cSep List.isPrefixOf; rw [ne 44 sep_al.2.1]; rfl
  have f5 : cEnd.isPrefixOf (c :: t' ++ r) = false := by rw [n1]; unfold cEnd List.isPrefixOf; rw [ne 41 sep_al.2.2.1]; rfl
  have fd : signs.find? (fun g => g.isPrefixOf (c :: t' ++ r)) = none := by
    unfold signs
    rw [List.find?_cons, f1, List.find?_cons, f2, List.find?_cons, f3, List.find?_cons, f4, List.find?_cons, f5, List.find?_nil]
  unfold tokAt
  rw [fd]
  show (c :: t' ++ r).takeWhile isAl = c :: t'
  rw [List.takeWhile_append_of_pos (fun x hx => hw.2 x hx)]
  have : r.takeWhile isAl = [] := by
    cases r with
    | nil => rfl
    | cons d r' => rw [List.takeWhile_cons, sep_not_al (hr d rfl)]; rfl
  rw [this, List.append_nil]
theorem tok_sign {g : Cs} (hg : g ∈ signs) (r : Cs) : tokAt (g ++ r) = g := by
  unfold signs at hg
  simp only [List.mem_cons, List.not_mem_nil, or_false] at hg
  rcases hg with rfl | rfl | rfl | rfl | rfl <;> rfl
theorem toks_nil : toks [] = some [] := rfl
theorem toks_cons {t r : Cs} (h : tokAt (t ++ r) = t) (h0 : t ≠ []) {rs : List Cs} (hr : toks r = some rs) : toks (t ++ r) = some (t :: rs) := by
  have l0 : 0 < t.length := List.length_pos_iff.mpr h0
  have ht : t.isEmpty = false := by cases t with | nil => exact absurd rfl h0 | cons => rfl
  have he : (t ++ r).isEmpty = false := by cases t with | nil => exact absurd rfl h0 | cons => rfl
  have e : (t ++ r).length = ((t ++ r).length - 1) + 1 := by rw [List.length_append]; omega
  unfold toks
  rw [e]
  unfold toksF
  rw [he, h, ht]
  simp only [Bool.false_eq_true, if_false]
  rw [List.drop_left, toksF_fuel _ r.length r (by rw [List.length_append]; omega) (Nat.le_refl _)]
  show (toks r).map _ = _
  rw [hr]; rfl
theorem all_word {t : Cs} (h0 : t ≠ []) (h : t.all isAl = true) : word t := ⟨h0, fun c hc => List.all_eq_true.mp h c hc⟩
theorem num_word {k : Nat} (h : k < 100) : word (D k) := by
  have q := num_ok h
  unfold numFacts at q
  simp only [Bool.and_eq_true] at q
  refine all_word (fun z => ?_) q.1.1.1.1.1
  have := q.1.1.1.1.2
  rw [z] at this; cases this
theorem name_word {s : Cs} (h : isName s = true) : word s := by
  unfold isName at h
  simp only [Bool.and_eq_true] at h
  have q := h.2.2.2.1
  unfold Txt.isalpha at q
  rw [Bool.and_eq_true, decide_eq_true_eq, len_S] at q
  refine ⟨fun z => ?_, fun c hc => ?_⟩
  · rw [z] at q; exact absurd q.1 (Nat.lt_irrefl _)
  · have := q.2
    unfold S at this
    rw [List.all_toArray, List.all_eq_true] at this
    unfold isAl Unicode.isAlnum
    rw [this c hc]; rfl
theorem sign_ne {g : Cs} (hg : g ∈ signs) : g ≠ [] := by
  unfold signs at hg
  simp only [List.mem_cons, List.not_mem_nil, or_false] at hg
  rcases hg with rfl | rfl | rfl | rfl | rfl <;> decide
theorem toks_sign {g r : Cs} (hg : g ∈ signs) {rs : List Cs} (hr : toks r = some rs) : toks (g ++ r) = some (g :: rs) := toks_cons (tok_sign hg r) (sign_ne hg) hr
theorem toks_word {t r : Cs} (hw : word t) (h : sep0 r) {rs : List Cs} (hr : toks r = some rs) : toks (t ++ r) = some (t :: rs) := toks_cons (tok_word hw h) hw.1 hr
theorem sep_plus (r : Cs) : sep0 (cPlus ++ r) := fun c h => by cases h; rfl
theorem sep_sep (r : Cs) : sep0 (cSep ++ r) := fun c h => by cases h; rfl
theorem sep_end (r : Cs) : sep0 (cEnd ++ r) := fun c h => by cases h; rfl
theorem sep_nil : sep0 [] := fun c h => by cases h
theorem mem_sign (b : Bool) : opn b ∈ signs := by cases b <;> decide
/-- a list of tokens is read back, whatever is read behind a sign -/
def Reads (ts : List Cs) : Prop := ∀ r rs, toks r = some rs → sep0 r → toks (ts.flatten ++ r) = some (ts ++ rs)
theorem reads_glue : ∀ l : List (List Cs), (∀ ts ∈ l, Reads ts) → Reads (glue l)
  | [], _ => fun r rs h _ => h
  | [a], h => h a List.mem_cons_self
  | a :: b :: l, h => fun r rs hr h0 => by
    have ih := reads_glue (b :: l) fun ts hts => h ts (List.mem_cons_of_mem _ hts)
    have h1 := ih r rs hr h0
    have h2 := toks_sign (g := cSep) (by decide) h1
    have h3 := h a List.mem_cons_self _ _ h2 (sep_sep _)
    show toks ((a ++ cSep :: glue (b :: l)).flatten ++ r) = some (a ++ cSep :: glue (b :: l) ++ rs)
    rw [List.flatten_append, List.flatten_cons, List.append_assoc, List.append_assoc, h3]
    simp
theorem T.reads : ∀ t : T, t.ok → Reads t.tok
  | .num k, h => fun r rs hr h0 => by
    rw [T.tok]
    rw [List.flatten_cons, List.flatten_nil, List.append_nil]
    exact toks_word (num_word (by unfold T.ok at h; exact h)) h0 hr
  | .nam s, h => fun r rs hr h0 => by
    rw [T.tok]
    rw [List.flatten_cons, List.flatten_nil, List.append_nil]
    exact toks_word (name_word (by unfold T.ok at h; exact h)) h0 hr
  | .plus t k, h => fun r rs hr h0 => by
    unfold T.ok at h
    have h1 := toks_sign (g := cPlus) (by decide) (toks_word (num_word h.2) h0 hr)
    have h2 := T.reads t h.1 _ _ h1 (sep_plus _)
    unfold T.tok
    rw [List.flatten_append, List.append_assoc]
    simp only [List.flatten_cons, List.flatten_nil, List.append_nil, List.append_assoc] at h2 ⊢
    rw [h2]; simp
  | .node b ts, h => fun r rs hr h0 => by
    unfold T.ok at h
    have g : Reads (glue (ts.map fun t => t.tok)) := reads_glue _ fun x hx => by
      obtain ⟨t, ht, rfl⟩ := List.mem_map.mp hx
      exact T.reads t (h.2 t ht)
    have h1 := g _ _ (toks_sign (g := cEnd) (by decide) hr) (sep_end r)
    have h2 := toks_sign (mem_sign b) h1
    unfold T.tok
    rw [List.flatten_cons, List.flatten_append, List.append_assoc, List.append_assoc]
    simp only [List.flatten_cons, List.flatten_nil, List.append_nil, List.append_assoc] at h2 ⊢
    rw [h2]; simp
theorem T.toks_text (t : T) (h : t.ok) : toks t.text = some t.tok := by
  have q := T.reads t h [] [] toks_nil sep_nil
  rw [List.append_nil, List.append_nil] at q
  exact q

/-! ### parsing -/
theorem leaf_name {s : Cs} (h : isName s = true) : leaf s .level = some (.nam s) := by unfold leaf; rw [h]; rfl
theorem leaf_num {k : Nat} (h : k < 100) : leaf (D k) .level = some (.num k) ∧ leaf (D k) .number = some (.plus k) := by
  have q := num_ok h
  unfold numFacts at q
  simp only [Bool.and_eq_true, decide_eq_true_eq, Bool.not_eq_true'] at q
  have v : valOf (D k) = (k : Int) := by unfold valOf; rw [q.1.2]; rfl
  unfold leaf
  rw [q.1.1.2, q.1.1.1.2, v]
  exact ⟨rfl, rfl⟩
theorem leaf_sign {w : W} {g : Cs} (hg : g ∈ signs) : leaf g w = none := by
  have f : ∀ g ∈ signs, isName g = false ∧ isNum g = false := by decide +kernel
  unfold leaf
  rw [(f g hg).1, (f g hg).2]
  cases w <;> rfl
theorem turn_plus (ss : List Stp) (st : List (Bool × Int)) : turn ⟨ss, st, .sign⟩ cPlus = some ⟨ss, st, .number⟩ := by
  unfold turn; rw [leaf_sign (by decide)]; rfl
theorem turn_sep (ss : List Stp) (b : Bool) (n : Int) (st : List (Bool × Int)) : turn ⟨ss, (b, n) :: st, .sign⟩ cSep = some ⟨ss, (b, n + 1) :: st, .level⟩ := by
  unfold turn; rw [leaf_sign (by decide)]; rfl
theorem turn_end (ss : List Stp) (b : Bool) (n : Int) (st : List (Bool × Int)) (h : full b n = true) : turn ⟨ss, (b, n) :: st, .sign⟩ cEnd = some ⟨ss ++ [.call b n], st, .sign⟩ := by
  unfold turn; rw [leaf_sign (by decide)]
  show (if full b n = true then _ else _) = _
  rw [if_pos h]
theorem turn_opn (ss : List Stp) (b : Bool) (st : List (Bool × Int)) : turn ⟨ss, st, .level⟩ (opn b) = some ⟨ss, (b, 1) :: st, .level⟩ := by
  unfold turn; rw [leaf_sign (mem_sign b)]; cases b <;> rfl
theorem parse_step {p q : PSt} {t : Cs} (h : turn p t = some q) (r : List Cs) : parse p (t :: r) = parse q r := by
  unfold parse; rw [h]; cases r <;> rfl
theorem turn_leaf {ss : List Stp} {st : List (Bool × Int)} {w : W} {t : Cs} {l : Stp} (h : leaf t w = some l) : turn ⟨ss, st, w⟩ t = some ⟨ss ++ [l], st, .sign⟩ := by
  unfold turn; rw [h]
def Parses (ts : List Cs) (o : List Stp) : Prop := ∀ ss st, parse ⟨ss, st, .level⟩ ts = some ⟨ss ++ o, st, .sign⟩
theorem parse_glue : ∀ l : List (List Cs × List Stp), l ≠ [] → (∀ p ∈ l, Parses p.1 p.2) → ∀ ss b n st,
    parse ⟨ss, (b, n) :: st, .level⟩ (glue (l.map (·.1))) = some ⟨ss ++ (l.map (·.2)).flatten, (b, n + (l.length : Int) - 1) :: st, .sign⟩
  | [], h, _ => absurd rfl h
  | [p], _, h => fun ss b n st => by
    have := h p List.mem_cons_self ss ((b, n) :: st)
    have e : n + (([p] : List (List Cs × List Stp)).length : Int) - 1 = n := by simp
    rw [e]
    simpa [glue] using this
  | p :: q :: l, _, h => fun ss b n st => by
    have h1 := h p List.mem_cons_self ss ((b, n) :: st)
    have ih := parse_glue (q :: l) (by simp) (fun x hx => h x (List.mem_cons_of_mem _ hx)) (ss ++ p.2) b (n + 1) st
    have e : n + 1 + (((q :: l).length : Nat) : Int) - 1 = n + (((p :: q :: l).length : Nat) : Int) - 1 := by simp only [List.length_cons]; omega
    rw [e] at ih
    show parse _ (p.1 ++ cSep :: glue ((q :: l).map (·.1))) = _
    rw [parse_append, h1, Option.bind_some, parse_step (turn_sep _ _ _ _)]
    refine ih.trans ?_
    simp [List.append_assoc]
theorem T.parses : ∀ t : T, t.ok → Parses t.tok t.stp
  | .num k, h => fun ss st => by
    unfold T.ok at h
    rw [T.tok, T.stp, parse_step (turn_leaf (leaf_num h).1)]
    rfl
  | .nam s, h => fun ss st => by
    unfold T.ok at h
    rw [T.tok, T.stp, parse_step (turn_leaf (leaf_name h))]
    rfl
  | .plus t k, h => fun ss st => by
    unfold T.ok at h
    rw [T.tok, T.stp, parse_append, T.parses t h.1, Option.bind_some, parse_step (turn_plus _ _), parse_step (turn_leaf (leaf_num h.2).2)]
    show some (PSt.mk (ss ++ t.stp ++ [Stp.plus k]) st W.sign) = _
    rw [List.append_assoc]
  | .node b ts, h => fun ss st => by
    unfold T.ok at h
    rw [T.tok, T.stp]
    have g := parse_glue (ts.map fun t => (t.tok, t.stp)) (fun z => ?_) (fun p hp => ?_) ss b 1 st
    · rw [parse_step (turn_opn _ _ _), parse_append]
      simp only [List.map_map, List.length_map] at g
      have e : (1 : Int) + (ts.length : Int) - 1 = ts.length := by omega
      rw [e] at g
      have g1 : parse ⟨ss, (b, 1) :: st, .level⟩ (glue (ts.map fun t => t.tok)) = some ⟨ss ++ (ts.map fun t => t.stp).flatten, (b, (ts.length : Int)) :: st, .sign⟩ := g
      rw [g1, Option.bind_some, parse_step (turn_end _ _ _ _ h.1)]
      show some (PSt.mk _ _ _) = _
      rw [List.append_assoc]
    · have : ts = [] := List.map_eq_nil_iff.mp z
      subst this
      have := h.1
      cases b <;> cases this
    · obtain ⟨t, ht, rfl⟩ := List.mem_map.mp hp
      exact T.parses t (h.2 t ht)
theorem T.steps (t : T) (h : t.ok) : stepsOf t.text = some t.stp := by
  unfold stepsOf
  rw [T.toks_text t h]
  show (parse ⟨[], [], .level⟩ t.tok).bind ended = _
  rw [T.parses t h]
  rfl
end Mr
/-! Sx -/
set_option Elab.async false
set_option linter.all false
set_option maxRecDepth 100000
set_option maxHeartbeats 2000000
/-! Sets of texts over the layer: made by a comprehension, sorted. -/
namespace Sx
open PySem PySem.Spec PyProof.Rows L2

def elName (e : Int × Value) : Str := strOf e.2
def ElOk (w : World) (e : Int × Value) : Prop := ∃ x tk, e.2 = Value.str x tk ∧ e.1 = hashStr w x
theorem kdIs (P : Program) (w : World) (x : Str) (tk : Tok) : (strKind P w).is x (.str x tk) = true := by
  show Value.isStrOf x (.str x tk) = true
  simp [Value.isStrOf]
/-- the texts ks stand in the set at a (at most n places are taken) -/
def TSet (w : World) (h : Heap) (a : Addr) (ks : List Str) (n : Nat) : Prop := ∃ (o : Obj) (es : Array (Int × Value)) (ep : Nat) (t : SetTable),
  (h.get? a = some o ∧ o.ExactSet ∧ o.data = .set es ep t) ∧ (∀ e ∈ es.toList, ElOk w e) ∧ (es.toList.map elName).Nodup ∧ (∀ x, x ∈ ks ↔ x ∈ es.toList.map elName) ∧
  (es.size ≤ n ∧ n < scanBound) ∧ t.fits es.size = true ∧ Ris t.place.toList ∧ (w.params.followText "set-order" = true ∨ t.led = true)
section
variable {P : Program} {w : World} {h h' : Heap} {a : Addr} {ks : List Str} {n : Nat}
theorem TSet.stay (R : TSet w h a ks n) (k : ∀ o, h.get? a = some o → h'.get? a = some o) : TSet w h' a ks n :=
  let ⟨o, es, ep, t, ⟨h1, h2⟩, r⟩ := R
  ⟨o, es, ep, t, ⟨k o h1, h2⟩, r⟩
theorem elemsOk {l : List (Int × Value)} (g : ∀ e ∈ l, ElOk w e) : ElemsOf (strKind P w) l := fun e he =>
  let ⟨x, tk, p, q⟩ := g e he
  ⟨⟨x, (by rw [p]; exact kdIs P w x tk), q⟩, by rw [p] <;> rfl⟩
theorem elIs {e : Int × Value} (g : ElOk w e) (x : Str) : (strKind P w).is x e.2 = true ↔ elName e = x := by
  obtain ⟨y, tk, p, _⟩ := g
  unfold elName
  rw [p]
  constructor
  · intro z
    obtain ⟨t, q⟩ := Value.isStrOf_shape (show Value.isStrOf x (.str y tk) = true from z)
    injection q
  · rintro rfl
    exact kdIs P w y tk
theorem elMem {l : List (Int × Value)} (g : ∀ e ∈ l, ElOk w e) (x : Str) : x ∈ l.map elName ↔ ∃ e ∈ l, (strKind P w).is x e.2 = true := by
  rw [List.mem_map]
  exact ⟨fun ⟨e, he, q⟩ => ⟨e, he, (elIs (g e he) x).2 q⟩, fun ⟨e, he, q⟩ => ⟨e, he, (elIs (g e he) x).1 q⟩⟩
theorem TSet.setOf (R : TSet w h a ks n) : ∃ S m, h.SetOf (strKind P w) a S m := by
  obtain ⟨o, es, ep, t, ⟨h1, h2, h3⟩, g, nd, hm, hb, hf, _⟩ := R
  exact ⟨fun x => decide (x ∈ ks), es.size, o, es, ep, t, h1, h2, h3, elemsOk g, fun x => (by rw [decide_eq_true_eq]; exact (hm x).trans (elMem g x)), Nat.lt_of_le_of_lt hb.1 hb.2, hf, rfl⟩
end

section
variable {P : Program} {w : World} {A : Around} {E : Value → Shared → Prop} {s : Shared} {a : Addr} {ks : List Str} {n : Nat}
/-- behind the store of a new element -/
theorem addTail {gv : Bool → Sem Unit} (hg : ∀ (b : Bool) (s₁ : Shared) (Q' : Unit → Shared → Prop), Q' () s₁ → wpAny (model P w) A (gv b) Q' E s₁)
    {o : Obj} {es es1 : Array (Int × Value)} {ep : Nat} {t t2 : SetTable} {wd : Bool} {kk : List Str} {m : Nat} {R : Option Bool → Shared → Prop} (ob : s.heap.get? a = some o ∧ o.ExactSet ∧ o.data = .set es ep t)
    (g1 : ∀ e ∈ es1.toList, ElOk w e) (nd1 : (es1.toList.map elName).Nodup) (m1 : ∀ x, x ∈ kk ↔ x ∈ es1.toList.map elName) (hb : es1.size ≤ m ∧ m < scanBound)
    (hf : t2.fits es1.size = true) (hr : Ris t2.place.toList) (hl : w.params.followText "set-order" = true ∨ t2.led = true)
    (hR : ∀ h', Heap.SameBut a s.heap h' → TSet w h' a kk m → R (some true) { s with heap := h' }) :
    wpAny (model P w) A (do
      storeSet a es1 t2
      if (!wd && t2.tooFull) = true then do
        gv (relayAll t2 es1 (SetTable.grown es1.size)).2.2; storeSet a (relayAll t2 es1 (SetTable.grown es1.size)).1 (relayAll t2 es1 (SetTable.grown es1.size)).2.1; pure (some true)
      else pure (some true)) R E s := by
  obtain ⟨ho, hex, hd⟩ := ob
  have lt1 : es1.size < scanBound := Nat.lt_of_le_of_lt hb.1 hb.2
  have o1 := store_at (es' := es1) (t' := t2) ho hd
  have b1 := Heap.SameBut.update s.heap a (Obj.putSet es1 t2)
  refine wpAny_bind (wpAny_storeSet_of ho hd ?_ (fits_of_scanBound lt1))
  split
  · have pm := relayAll_perm t2 es1 (SetTable.grown es1.size); have f3 := relayAll_fits t2 es1 (SetTable.grown es1.size); have r3 := relayAll_ris t2 es1 (SetTable.grown es1.size); have l3 := relayAll_led t2 es1 (SetTable.grown es1.size)
    generalize relayAll t2 es1 (SetTable.grown es1.size) = Z at pm f3 r3 l3 ⊢
    obtain ⟨es2, t3, gave⟩ := Z
    dsimp only at pm f3 r3 l3 ⊢
    have sz2 : es2.size = es1.size := by rw [← Array.length_toList, pm.length_eq, Array.length_toList]
    refine wpAny_bind (hg _ _ _ (wpAny_bind (wpAny_storeSet_of o1 rfl ?_ (fits_of_scanBound (by rw [sz2]; exact lt1)))))
    refine wpAny_pure (hR _ (b1.trans (Heap.SameBut.update _ a _)) ⟨_, es2, _, t3, ⟨store_at (es' := es2) (t' := t3) o1 rfl, hex, rfl⟩, fun e he => g1 e (pm.mem_iff.mp he), ?_, ?_, ?_, f3, r3, ?_⟩)
    · exact (pm.map elName).nodup_iff.mpr nd1
    · exact fun x => (m1 x).trans (pm.map elName).mem_iff.symm
    · rw [sz2]; exact hb
    · exact hl.imp id fun z => (by rw [l3]; exact z)
  · exact wpAny_pure (hR _ b1 ⟨_, es1, _, t2, ⟨o1, hex, rfl⟩, g1, nd1, m1, hb, hf, hr, hl⟩)
theorem addHashed {x : Str} {tk : Tok} {Q : Bool → Shared → Prop} (R : TSet w s.heap a ks n) (room : n + 1 < scanBound)
    (hQ : ∀ b h', Heap.SameBut a s.heap h' → TSet w h' a (ks ++ [x]) (n + 1) → Q b { s with heap := h' }) : wpAny (model P w) A (setAddHashed a (.str x tk) ((strKind P w).hash x)) Q E s := by
  obtain ⟨o, es, ep, t, ⟨ho, hex, hd⟩, g, nd, hm, ⟨hb, hbn⟩, hf, hr, hl⟩ := R
  have lt0 : es.size < scanBound := Nat.lt_of_le_of_lt hb hbn
  have el : ElemsOf (strKind P w) es.toList := elemsOk g
  have hsc : (Value.str x tk).scannable = true := rfl
  unfold setAddHashed setAddHashedIn
  refine wpAny_holding (wpAny_bind (wpAny_setState_of ho hd hf ?_))
  dsimp only
  rw [byScan_of hsc lt0 el]
  simp only [↓reduceIte]
  unfold setAddByScan
  refine wpAny_bind (wpAny_bind (wpAny_rule (wpAny_bind (wpAny_setScan_of (kdIs P w x tk) ho hd hf el ?_))))
  cases fi : List.findIdx? (fun e => (strKind P w).is x e.2) es.toList with
  | some j =>
    dsimp only
    obtain ⟨hj, pj, _⟩ := List.findIdx?_eq_some_iff_getElem.mp fi
    have xin : x ∈ ks := (hm x).2 ((elMem (P := P) (w := w) g x).2 ⟨es.toList[j], List.getElem_mem hj, pj⟩)
    refine wpAny_pure (wpAny_pure (hQ _ s.heap (Heap.SameBut.refl a s.heap) ⟨o, es, ep, t, ⟨ho, hex, hd⟩, g, nd, fun y => ?_, ⟨Nat.le_succ_of_le hb, room⟩, hf, hr, hl⟩))
    rw [List.mem_append, List.mem_singleton, ← hm y]
    exact ⟨fun z => z.elim id fun e => e ▸ xin, .inl⟩
  | none =>
    dsimp only
    have xout : x ∉ es.toList.map elName := fun z => by
      obtain ⟨e, he, q⟩ := (elMem (P := P) (w := w) g x).1 z
      exact absurd q (by rw [List.findIdx?_eq_none_iff.mp fi e he]; exact Bool.false_ne_true)
    have way : ∀ (b : Bool) {s₁ : Shared} {Q' : Unit → Shared → Prop}, Q' () s₁ → wpAny (model P w) A (match b with | true => rule "set.scan.the-table-gave-way" | false => pure ()) Q' E s₁ := fun b s₁ Q' q => by
      cases b
      · exact wpAny_pure q
      · exact wpAny_rule q
    have pm := layNew_perm t es ((strKind P w).hash x) (.str x tk); have f1 := layNew_fits t es ((strKind P w).hash x) (.str x tk); have r1 := layNew_ris t es ((strKind P w).hash x) (.str x tk) hr; have l1 := layNew_led t es ((strKind P w).hash x) (.str x tk)
    generalize layNew t es ((strKind P w).hash x) (.str x tk) = Z at pm f1 r1 l1 ⊢
    obtain ⟨es1, t1, wd, gave⟩ := Z
    dsimp only at pm f1 r1 l1 ⊢
    rw [Array.toList_push] at pm
    have pc : es1.toList.Perm (((strKind P w).hash x, Value.str x tk) :: es.toList) := pm.trans (List.perm_append_singleton _ _)
    have pk : (es1.toList.map elName).Perm (x :: es.toList.map elName) := pc.map elName
    have g1 : ∀ e ∈ es1.toList, ElOk w e := fun e he => (List.mem_cons.mp (pc.mem_iff.mp he)).elim (fun z => z ▸ ⟨x, tk, rfl, rfl⟩) (g e)
    have nd1 : (es1.toList.map elName).Nodup := pk.nodup_iff.mpr (List.nodup_cons.mpr ⟨xout, nd⟩)
    have m1 : ∀ y, y ∈ ks ++ [x] ↔ y ∈ es1.toList.map elName := fun y => by rw [List.mem_append, List.mem_singleton, hm y, pk.mem_iff, List.mem_cons]; exact Or.comm
    have sz1 : es1.size ≤ n + 1 := by rw [← Array.length_toList, pc.length_eq, List.length_cons, Array.length_toList]; exact Nat.succ_le_succ hb
    have led1 : w.params.followText "set-order" = true ∨ t1.led = true := hl.imp id fun z => (by rw [l1]; exact z)
    have gw : ∀ (b : Bool) (s₁ : Shared) (Q' : Unit → Shared → Prop), Q' () s₁ → wpAny (model P w) A ((fun b : Bool => (match b with | true => rule "set.scan.the-table-gave-way" | false => pure () : Sem Unit)) b) Q' E s₁ := fun b s₁ Q' q => way b q
    refine wpAny_bind (way _ ?_)
    split
    · refine wpAny_bind ?_
      rw [hashByValue_scannable 8 hsc]
      refine wpAny_pure (addTail gw ⟨ho, hex, hd⟩ g1 nd1 m1 ⟨sz1, room⟩ ?_ ?_ ?_ fun h' sb r => ?_)
      · first | (split <;> first | exact f1 | exact SetTable.fits_plain_off f1) | exact f1
      · first | (split <;> exact r1) | exact r1
      · first | (split <;> exact led1) | exact led1
      · dsimp only; exact wpAny_pure (hQ _ h' sb r)
    · refine wpAny_bind (wpAny_pure ?_)
      simp only [↓reduceIte]
      refine addTail gw ⟨ho, hex, hd⟩ g1 nd1 m1 ⟨sz1, room⟩ f1 r1 led1 fun h' sb r => ?_
      dsimp only; exact wpAny_pure (hQ _ h' sb r)
/-- set.add of a text -/
theorem addText {x : Str} {tk : Tok} {Q : Value → Shared → Prop} (R : TSet w s.heap a ks n) (room : n + 1 < scanBound)
    (hQ : ∀ h', Heap.SameBut a s.heap h' → TSet w h' a (ks ++ [x]) (n + 1) → Q .none { s with heap := h', toks := s.toks + 1 }) : wpAny (model P w) A (call (.builtin "set.add") [.ref a, .str x tk]) Q E s := by
  obtain ⟨S, m, hS⟩ := TSet.setOf (P := P) R
  refine wpAny_call_entry F.slot_set_add hS.typeIs F.entry_set_add ?_ (F.args_set_add_2 _ _)
  unfold Builtin.«set.add» Builtin.Frozenset.oneOther; simp only [List.isEmpty_nil, bind_assoc]; unfold Builtin.Frozenset.addrOf setAdd
  refine wpAny_bind (wpAny_pure ?_); try dsimp only
  refine wpAny_bind (wpAny_pure ?_); try dsimp only
  refine wpAny_bind (wpAny_holding (wpAny_bind ((strKind P w).pyHash (kdIs P w x tk) ?_)))
  refine addHashed (s := { s with toks := s.toks + 1 }) R room fun b h' sb r => ?_
  exact wpAny_pure ⟨_, rfl, hQ h' sb r⟩
theorem emptySet (w : World) (h : Heap) : TSet w (h.push { cls := .type "set", dict := none, data := .set #[] 0 (.fresh 0 0 (!w.params.followText "set-order")) }) h.objs.size [] 0 := by
  refine ⟨_, #[], 0, _, ⟨Heap.get?_push_size _ rfl, ⟨rfl, rfl, rfl⟩, rfl⟩, fun e he => by simp at he, by simp, fun x => by simp, ⟨Nat.le_refl _, by decide⟩, by rfl, List.Pairwise.nil, ?_⟩
  show _ ∨ (!w.params.followText "set-order") = true
  cases w.params.followText "set-order"
  · exact .inr rfl
  · exact .inl rfl
/-- sorted(set of fewer than 64 texts): a new list -/
theorem sortedSet {Q : Value → Shared → Prop} (R : TSet w s.heap a ks n) (hh : A.handled = none) (few : n < 64)
    (hQ : ∀ s' p (out : Array Value) (c : Nat) (ys : List Str), (∀ b o, s.heap.get? b = some o → s'.heap.get? b = some o) → s'.gens = s.gens → s'.os = s.os → s.heap.objs.size ≤ p →
      s'.heap.get? p = some (seqObj "list" out c) → StrsAre out.toList ys → sortedS ys = true → ys.Nodup → (∀ x, x ∈ ys ↔ x ∈ ks) → ys.length ≤ n → Q (.ref p) s') : wpAny (model P w) A (call (.builtin "sorted") [.ref a]) Q E s := by
  obtain ⟨o, es, ep, t, ⟨ho, hex, hd⟩, g, nd, hm, ⟨hb, hbn⟩, hf, hr, hl⟩ := R
  refine Calls.call_function_entry kind_sorted plain_sorted entry_sorted (args_sorted1 _) ?_
  unfold Builtin.«sorted»
  refine wpAny_bind (m := checkCount "sorted" 1 1 _) (wpAny_pure (wpAny_bind (collect_set (A := A.in1) hh ⟨o, ho, hex.1, hd⟩ hf (Nat.lt_of_le_of_lt hb hbn) hr hl fun s1 vs k1 hz g1 o1 pm => ?_)))
  have lv : vs.length ≤ n := by rw [pm.length_eq, List.length_map, Array.length_toList]; exact hb
  have hS : StrsAre vs (vs.map strOf) := strsAre_map vs fun v hv => by
    obtain ⟨e, he, q⟩ := List.mem_map.mp (pm.mem_iff.mp hv)
    obtain ⟨x, tk, z, _⟩ := g e he
    exact ⟨x, tk, by rw [← q]; exact z⟩
  have pk : (vs.map strOf).Perm (es.toList.map elName) := by
    have q := pm.map strOf
    rw [List.map_map] at q
    exact q
  refine wpAny_bind (wpAny_newList ?_ (by rw [sizeLine_eq]; omega))
  have hoL : (s1.heap.push (seqObj "list" vs.toArray 0)).get? s1.heap.objs.size = some (seqObj "list" vs.toArray 0) := Heap.get?_push_size _ rfl
  refine wpAny_bind (wpAny_holding (wpAny_call_entry slot_list_sort ⟨_, hoL, rfl⟩ entry_list_sort (list_sort_treeK strKind_oneLt hoL hS.keysOf (fun v₁ v₂ rest e => keyKind_strs (by rw [← e]; exact hS)) (by omega) fun st' a1 a2 => ⟨_, rfl, ?_⟩) (args_list_sort _)))
  obtain ⟨ys, y1, y2, y3⟩ := sorted_out_str hS a1 a2
  obtain ⟨c, hc⟩ := sortedHeap_at (vs := vs) (out := (arrOf st').map (·.2)) hoL
  have py : ys.Perm (es.toList.map elName) := y2.trans pk
  refine wpAny_pure ⟨_, rfl, hQ _ s1.heap.objs.size _ c ys (fun b u e => ?_) g1 o1 hz hc y1 y3 (py.nodup_iff.mpr nd) (fun x => by rw [py.mem_iff, ← hm x]) ?_⟩
  · have q := k1 b u e
    have lt := Heap.lt_size q
    show (sortedHeap (s1.heap.push (seqObj "list" vs.toArray 0)) s1.heap.objs.size vs _).get? b = some u
    rw [sortedHeap_old (Nat.ne_of_lt lt) (by rw [size_push']; exact Nat.lt_succ_of_lt lt)]; exact Heap.get?_push_of_some _ q
  · rw [py.length_eq, List.length_map, Array.length_toList]; exact hb
end

/-! ### over the layer -/
def TxS (w : World) (a : Addr) (ks : List Str) (n : Nat) : HO := .ext fun h => TSet w h a ks n
theorem to_ok {w : World} {P : Program} {H : Hp} {h : Heap} {a : Addr} {ks : List Str} {n : Nat} (R : TSet w h a ks n) : ObjOk P w H h a (TxS w a ks n) :=
  let ⟨o, _, _, _, ⟨ho, _⟩, _⟩ := R
  ⟨R, ⟨o, ho⟩, fun h1 h2 p k => TSet.stay p k⟩
section
variable {X : Cx}
theorem to_get {pins : List (Addr × Obj)} {σ : L2.St} {H : Hp} {s : Shared} {a : Addr} {ks : List Str} {n : Nat} (I : Inv X pins σ H s) (ha : H a = some (TxS X.w a ks n)) : TSet X.w s.heap a ks n := (I.hok a _ ha).1
theorem to_add {pins : List (Addr × Obj)} {σ : L2.St} {H : Hp} {s : Shared} {E : Value → Shared → Prop} {D : Addr} {ks : List Str} {n : Nat} {x : Str} {tk : Tok} {Q : Value → Shared → Prop} (I : Inv X pins σ H s) (hD : H D = some (TxS X.w D ks n)) (room : n + 1 < scanBound)
    (h : ∀ s', Inv X pins σ (upd H D (TxS X.w D (ks ++ [x]) (n + 1))) s' → Q .none s') : wpAny (model X.prog X.w) X.A (call (.builtin "set.add") [.ref D, .str x tk]) Q E s := by
  refine addText (to_get I hD) room fun h' sb new => h _ ?_
  have he : ∃ u, h'.get? D = some u := let ⟨o, _, _, _, ⟨ho, _⟩, _⟩ := new; ⟨o, ho⟩
  exact I.write (e := D) (t' := s.toks + 1) (by rw [hD]; trivial) (.inl rfl) (fun b u hb hu => (sb.2 b hb).trans hu) he (to_ok new)
/-- sorted(s), s a set of texts -/
def rSortTO (w : World) : List V → Hp → VK → Prop := fun vs H Q => ∃ (a : Addr) (ks : List Str) (n : Nat), vs = [V.ref a] ∧ H a = some (TxS w a ks n) ∧ n < 64 ∧
  ∀ (ys : List Str) (p : Addr), sortedS ys = true → ys.Nodup → (∀ x, x ∈ ys ↔ x ∈ ks) → ys.length ≤ n → H p = none → Q (.ref p) (upd H p (.lst (ys.map V.str)))
theorem cr_sortTO (hc : X.calm = true) : CallR X (.builtin "sorted") (rSortTO X.w) := by
  intro pins s σ H vs us Q I r h
  obtain ⟨a, ks, n, rfl, ha, few, q⟩ := h
  rw [Vals.ref1 r]
  refine sortedSet (to_get I ha) (I.ok.hd hc) few fun s' p out c ys k g o hp hg hi h1 h2 h3 h4 => ?_
  have lz : (ys.map V.str).length ≤ sizeLine := by rw [List.length_map, sizeLine_eq]; omega
  have hn : H p = none := I.hok.fresh hp
  have J : Inv X pins σ (upd H p (.lst (ys.map V.str))) { s with heap := s'.heap, gens := s'.gens, drawn := s'.drawn, toks := s'.toks } :=
    I.call (ch := []) (Un.laid k hp hn) (I.hok.laid k hp ⟨lz, out.toList, c, vals_of_strs hi, hg⟩) (by rw [g]; exact I.bare) (fun _ z => nomatch z)
  have e : s' = { s with heap := s'.heap, gens := s'.gens, drawn := s'.drawn, toks := s'.toks } := by cases s'; cases s; cases o; rfl
  rw [e]
  exact ⟨.ref p, _, J, rfl, q ys p h1 h2 h3 h4 hn⟩
end
end Sx
/-! Sc -/
set_option Elab.async false
set_option linter.all false
set_option maxRecDepth 100000
set_option maxHeartbeats 2000000
/-! {e for .. in .. if ..} of texts. -/
namespace Sx
open PySem PySem.Spec PyProof.Rows L2
section
variable {X : Cx}
/-- what a turn does with the member that it made -/
def kAdd (w : World) (D : Addr) (Nx : Hp → Prop) : VK := fun y H => ∃ (z : Str) (ks : List Str) (n : Nat), y = .str z ∧ H D = some (TxS w D ks n) ∧ n + 1 < scanBound ∧ Nx (upd H D (TxS w D (ks ++ [z]) (n + 1)))
def turnOf (w : World) (g : TG) (tt : TT) (te : TE) (vs : List Nat) (σ : L2.St) (D : Addr) (Nx : Hp → Prop) : V → Hp → Prop := fun x H => g x (wipe σ vs) H fun σ2 H2 => wipe σ2 vs = wipe σ vs ∧ tt σ2 H2 fun b H3 => if b = true then te σ2 H3 (kAdd w D Nx) else Nx H3
def tSs (w : World) (wi : TI) (g : TG) (tt : TT) (te : TE) (vs : List Nat) : TE := fun σ H Q => wi σ H fun J H1 => ∀ D, H1 D = none → ∃ W : Nat → Nat → Hp → Prop, (∃ m, W 0 m (upd H1 D (TxS w D [] 0))) ∧
  ∀ i m H, W i m H → (J.stop i H ∧ Q (.ref D) H) ∨ (J.go i H ∧ ∃ Nx : Hp → Prop, (∀ H', Nx H' → ∃ m', m' < m ∧ W (i + 1) m' H') ∧ ∀ x H', J.yld i H x H' → turnOf w g tt te vs σ D Nx x H')
theorem pe_ss {elt tg iter : Expr} {ifs : List Expr} {scope : Scope} {own : List (PySem.Str × Nat)} {pos : Pos} {wi : TI} {g : TG} {tt : TT} {te : TE} (hc : X.calm = true) (hN : X.N.Nodup) (hi : PI X tg iter wi) (ok : BlkOk X.N X.env.scope scope own)
    (hg : ∀ (s : Shared) (H : Hp) (C : Addr) (cl : List (PySem.Str × Addr)) (fp : List Addr), PG (X.blk s H scope (compEnvC scope cl C X.env) fp) tg g)
    (ht : ∀ (s : Shared) (H : Hp) (C : Addr) (cl : List (PySem.Str × Addr)) (fp : List Addr), PTs (X.blk s H scope (compEnvC scope cl C X.env) fp) ifs tt)
    (he : ∀ (s : Shared) (H : Hp) (C : Addr) (cl : List (PySem.Str × Addr)) (fp : List Addr), PE (X.blk s H scope (compEnvC scope cl C X.env) fp) elt te)
    (hs : ∀ x, foldedSetIterable iter X.env x = pure x := by intro _; rfl) : PE X (.SetComp elt [⟨tg, iter, ifs, 0⟩] scope pos) (tSs X.w wi g tt te (own.map (·.2))) := by
  refine ⟨fun pins s σ H Q I h => ?_⟩
  rw [PpSet.eval_SetComp]
  have frees : ∀ y ∈ scope.names, y.2 = .free → ∃ c, X.env.cells.lookup y.1 = some c := fun y hy e => I.ok.has _ ((ok.free y hy e).imp id id)
  refine wpAny_comprehension_free rfl hs (closure_ok frees) ok.kind (fun y hy e => by rw [ok.uniq y hy, e]) (thn (hi.run pins s σ H _ I h) fun xv s1 hx => thn hx fun itv s2 h2 => ?_)
  obtain ⟨it, fp, tn, J, H2, rfl, I2, T, st2, f2, q⟩ := h2
  refine PpSet.newSet_ok (newEnv_comp ?_)
  generalize hD : s2.heap.objs.size = D
  generalize ho : ({ cls := .type "set", dict := none, data := .set #[] 0 (.fresh 0 0 (!X.w.params.followText "set-order")) } : Obj) = oD
  obtain ⟨W, ⟨m0, w0⟩, turn⟩ := q D (I2.hok.fresh (Nat.le_of_eq hD))
  generalize hs3 : ({ s2 with heap := s2.heap.push oD } : Shared) = s3
  have e3 : s3.heap = s2.heap.push oD := by rw [← hs3]
  have I3 : Inv X pins σ (upd H2 D (TxS X.w D [] 0)) s3 := by
    rw [← hs3]
    refine I2.laid (t' := s2.toks) (fun b o e => Heap.get?_push_of_some _ e) (Nat.le_of_eq hD) (to_ok ?_)
    rw [← hD, ← ho]; exact emptySet X.w s2.heap
  have lt : ∀ b ∈ fp, b < s2.heap.objs.size := fun b hb => let ⟨o, e, _⟩ := T.obj _ _ st2 b hb; Heap.lt_size e
  have f3 : ∀ b ∈ fp, FpOk X pins (upd H2 D (TxS X.w D [] 0)) b ∧ b < s3.heap.objs.size := fun b hb => by
    refine ⟨⟨(upd_ne (by rw [← hD]; exact Nat.ne_of_lt (lt b hb))).trans (f2 b hb).1, (f2 b hb).2⟩, ?_⟩
    rw [e3, Heap.size_push]; exact Nat.lt_succ_of_lt (lt b hb)
  have st3 : tn 0 s3.heap := T.keep _ _ _ st2 fun b _ o e => by rw [e3]; exact Heap.get?_push_of_some _ e
  have I4 := block_start I3 ok hN f3
  generalize hcl : cellsFrom (s3.heap.objs.size + 1) scope.names (cloFrom X.env.cells scope.names []) = cl at I4 ⊢
  have pg := hg s3 (upd H2 D (TxS X.w D [] 0)) s3.heap.objs.size cl fp
  have pt := ht s3 (upd H2 D (TxS X.w D [] 0)) s3.heap.objs.size cl fp
  have pe := he s3 (upd H2 D (TxS X.w D [] 0)) s3.heap.objs.size cl fp
  show codeAny _ _ (.compStart (.SetComp elt [⟨tg, iter, ifs, 0⟩] scope pos) 0 (.ref it) (.ref D) (compEnvC scope cl s3.heap.objs.size X.env)) (compPost (model X.prog X.w) X.A X.xe none (EP X pins σ Q) (.ref D) s3.heap.objs.size)
    { s3 with heap := pushCells (s3.heap.push { cls := .type "dict", data := .dict #[] }) scope.names }
  generalize hce : compEnvC scope cl s3.heap.objs.size X.env = ce at I4 pg pt pe ⊢
  have loc : ce.locals = s3.heap.objs.size := by subst hce; rfl
  generalize hH3 : upd H2 D (TxS X.w D [] 0) = H3 at I3 I4 pg pt pe w0 f3
  generalize hs4 : ({ s3 with heap := pushCells (s3.heap.push { cls := .type "dict", data := .dict #[] }) scope.names } : Shared) = s4 at I4 ⊢
  have st4 : tn 0 s4.heap := T.keep _ _ _ st3 fun b _ o e => by rw [← hs4]; exact pushCells_keeps _ _ _ _ (Heap.get?_push_of_some _ e)
  generalize hY : X.blk s3 H3 scope ce fp = Y at I4 pg pt pe
  have yA : Y.A = X.A := by subst hY; rfl
  have still : ∀ {σ' : L2.St} {H' : Hp} {s' : Shared}, Inv Y [] σ' H' s' → (∀ b ∈ fp, H' b = none) → ∀ b ∈ fp, FpOk Y [] H' b := fun {σ' H' s'} I' hn b hb => by
    subst hY
    exact ⟨hn b hb, (I'.ok.exf b hb).1, I'.ok.exfs b hb, .inl hb, fun x c e => (I'.ok.exf b hb).2 x c e, fun p hp => absurd (show p ∈ ([] : List (Addr × Obj)) ++ [] from hp) (by simp)⟩
  have loop : codeAny (model X.prog X.w) X.A (.compLoop (.SetComp elt [⟨tg, iter, ifs, 0⟩] scope pos) 0 (.ref it) (.ref D) ce) (compPost (model X.prog X.w) X.A X.xe none (EP X pins σ Q) (.ref D) s3.heap.objs.size) s4 := by
    refine PpSet.compLoopS_any (fun n s' => ∃ i H', Inv Y [] (wipe σ (own.map (·.2))) H' s' ∧ tn i s'.heap ∧ (∀ b ∈ fp, H' b = none) ∧ W i n H') ?_ m0 ⟨0, H3, I4, st4, fun b hb => (f3 b hb).1.1, w0⟩
    rintro n s5 ⟨i, H5, I5, st5, n5, w5⟩
    rcases turn i n H5 w5 with ⟨stop, qq⟩ | ⟨go, Nx, hNx, step⟩
    · have td := T.done Y (by subst hY; rfl) (by subst hY; rfl) (by subst hY; rfl) (by subst hY; exact hc) i [] s5 _ H5 (fun _ _ => False) I5 (still I5 n5) st5 stop
      rw [yA] at td
      subst hY
      refine thnF td fun r s6 ⟨hr, I6⟩ => ?_
      subst hr
      have I7 : Inv X pins σ H5 s6 := I3.call' (ch := fp) I6.os I6.base I6.hok I6.bare fun b hb => let z := (f3 b hb).1.2; ⟨z.2.2.1, z.1, z.2.2.2.1, z.2.2.2.2⟩
      have nC : H5 s3.heap.objs.size = none := by rw [← loc]; exact I6.free
      obtain ⟨m, hn, _⟩ := I6.loc
      have hn : s6.heap.Ns ce.locals m := hn
      rw [loc] at hn
      refine ⟨m, hn, fun h'' sb => ?_⟩
      obtain ⟨f0, f1, f2, f3, f4, f5⟩ := I3.fpOk (Nat.le_refl _) nC
      exact ⟨.ref D, H5, I7.turned (t' := s6.toks) (fun b o hb e => (sb.2 b hb).trans e) f0 f1 f3 f4 f5, rfl, qq⟩
    · have ti := T.item Y (by subst hY; rfl) (by subst hY; rfl) (by subst hY; rfl) (by subst hY; exact hc) i [] s5 _ H5 (fun _ _ => False) I5 (still I5 n5) st5 go
      rw [yA] at ti
      subst hY
      refine thnF ti fun r s6 ⟨u, hr, h6⟩ => ?_
      subst hr
      refine thnF h6 fun _ s7 ⟨x, H7, I7, r7, y7, st7, n7⟩ => ?_
      have I8 := I7.pinned (still I7 n7) (T.obj _ _ st7)
      refine thnF (pg.run _ s7 _ H7 x u _ I8 r7 (step x H7 y7)) fun _ s8 ⟨σ8, H8, I9, hw8, q8⟩ => ?_
      refine thnF (pt.run _ s8 σ8 H8 _ I9 q8) fun b s9 ⟨H9, I10, q9⟩ => ?_
      have nxt : ∀ {s' : Shared} {H' : Hp}, Inv (X.blk s3 H3 scope ce fp) ([] ++ pinsAt fp s7.heap) σ8 H' s' → Nx H' → ∃ m, m < n ∧ ∃ i H', Inv (X.blk s3 H3 scope ce fp) [] (wipe σ (own.map (·.2))) H' s' ∧ tn i s'.heap ∧ (∀ b ∈ fp, H' b = none) ∧ W i m H' := fun {s' H'} I' nx => by
        obtain ⟨m', hm, w'⟩ := hNx H' nx
        have pinned : ∀ b ∈ fp, ∀ o, s7.heap.get? b = some o → s'.heap.get? b = some o ∧ H' b = none := fun b hb o e => by
          have z := I'.pin (b, o) (List.mem_append_right _ (List.mem_append_right _ (mem_pinsAt hb e)))
          exact ⟨z.1, z.2.1⟩
        have hl : (wipe σ (own.map (·.2))).length = σ8.length := by rw [← hw8, wipe_length]
        have wk := (I'.unpinned (pins := [])).weak hl fun j v e => by rw [← hw8] at e; exact (wipe_some e).1
        refine ⟨m', hm, i + 1, H', wk, T.keep _ _ _ st7 fun b hb o e => (pinned b hb o e).1, fun b hb => ?_, w'⟩
        obtain ⟨o, e, _⟩ := T.obj _ _ st7 b hb
        exact (pinned b hb o e).2
      cases b with
      | false => simp only [Bool.false_eq_true, if_false] at q9 ⊢; exact nxt I10 q9
      | true =>
        simp only [if_true] at q9 ⊢
        refine thnF (pe.run _ s9 σ8 H9 _ I10 q9) fun z s10 ⟨yv, H10, I11, r10, zt, ks, n0, ey, hD10, room, nx⟩ => ?_
        subst ey
        obtain ⟨tk, rfl⟩ := (show ∃ t, z = Value.str zt t from r10)
        exact to_add (X := X.blk s3 H3 scope ce fp) I11 hD10 room fun s11 I12 => nxt I12 nx
  exact PpSet.codeAny_compStart_set loop (T.self X.A 0 _ _ _ st4 loop)
end
/-- over a tuple that the block leaves as it is: the invariant Pv i says what stands when i items are gone through -/
theorem ss_tup {w : World} {K : PySem.W.Frag} {a : Addr} {xs : List V} {g : TG} {tt : TT} {te : TE} {vs : List Nat} {σ : L2.St} {H1 : Hp} {D : Addr} {Qd : Hp → Prop} (Pv : Nat → Hp → Prop)
    (h0 : Pv 0 (upd H1 D (TxS w D [] 0))) (hl : ∀ i H, i ≤ xs.length → Pv i H → SqT K H a xs) (hs : ∀ i x H, xs[i]? = some x → Pv i H → turnOf w g tt te vs σ D (Pv (i + 1)) x H) (hd : ∀ H, Pv xs.length H → Qd H) :
    ∃ W : Nat → Nat → Hp → Prop, (∃ m, W 0 m (upd H1 D (TxS w D [] 0))) ∧ ∀ i m H, W i m H → ((Itt K a).stop i H ∧ Qd H) ∨
      ((Itt K a).go i H ∧ ∃ Nx : Hp → Prop, (∀ H', Nx H' → ∃ m', m' < m ∧ W (i + 1) m' H') ∧ ∀ x H', (Itt K a).yld i H x H' → turnOf w g tt te vs σ D Nx x H') := by
  refine ⟨fun i m H => (m = xs.length - i ∧ i ≤ xs.length) ∧ Pv i H, ⟨xs.length, ⟨by simp, Nat.zero_le _⟩, h0⟩, ?_⟩
  rintro i m H ⟨⟨rfl, hi⟩, p⟩
  have q := hl i H hi p
  by_cases lt : i < xs.length
  · refine .inr ⟨⟨xs, xs[i], q, by simp [lt]⟩, Pv (i + 1), fun H' p' => ⟨xs.length - (i + 1), by omega, ⟨rfl, lt⟩, p'⟩, ?_⟩
    rintro x H' ⟨rfl, y⟩
    exact hs i x _ (y xs q) p
  · obtain rfl : i = xs.length := by omega
    exact .inl ⟨⟨xs, q, Nat.le_refl _⟩, hd H p⟩
end Sx
/-! Dl -/
set_option Elab.async false
set_option linter.all false
set_option maxRecDepth 100000
set_option maxHeartbeats 2000000
/-! del xs[a:] -/
namespace Sx
open PySem PySem.Spec PyProof.Rows L2
/-- what is left when the places from k on are taken out -/
theorem keep_front (p : Nat → Bool) (k : Nat) : ∀ (xs : List Value) (i : Nat), (∀ j, j < i + xs.length → (p j = true ↔ i + k ≤ j) ∨ j < i) →
    ((xs.zipIdx i).filterMap fun x => if p x.2 = true then none else some x.1) = xs.take k
  | [], i, _ => by simp
  | x :: xs, i, h => by
    rw [List.zipIdx_cons, List.filterMap_cons]
    have h0 := (h i (by simp)).resolve_right (Nat.lt_irrefl _)
    cases k with
    | zero =>
      have hp : p i = true := h0.2 (by omega)
      simp only [hp, if_true, List.take_zero]
      refine (keep_front p 0 xs (i + 1) fun j hj => ?_).trans (by simp)
      rcases h j (by simp only [List.length_cons]; omega) with z | z
      · by_cases c : j < i + 1
        · exact .inr c
        · refine .inl (z.trans ?_); omega
      · exact .inr (by omega)
    | succ k =>
      have hp : p i = false := by
        cases q : p i with
        | false => rfl
        | true => have := h0.1 q; omega
      simp only [hp, Bool.false_eq_true, if_false, List.take_succ_cons]
      congr 1
      refine keep_front p k xs (i + 1) fun j hj => ?_
      rcases h j (by simp only [List.length_cons]; omega) with z | z
      · by_cases c : j < i + 1
        · exact .inr c
        · refine .inl (z.trans ?_); omega
      · exact .inr (by omega)
def back (a c : Int) (j : Nat) : Bool := decide (c < (j : Int)) && decide ((j : Int) ≤ a) && (a - (j : Int)) % (-1) == 0
def gone (a c : Int) (j : Nat) : Bool := if (1 : Int) > 0 then decide (a ≤ (j : Int)) && decide ((j : Int) < c) && ((j : Int) - a) % 1 == 0 else back a c j
section
variable {prog : Program} {w : World} {A : Around} {E : Value → Shared → Prop} {s : Shared}
theorem delItem_tail {l sl : Addr} {items : Array Value} {n : Nat} {vl : Value} {lo : Option Int} {Q : Unit → Shared → Prop} (e : s.heap.get? l = some { cls := .type "list", data := .seq items n })
    (hs : s.heap.IsSliceOf sl vl .none .none) (pl : IsPart vl lo) (hsz : items.size ≤ sizeLine)
    (h : ∀ f : Array Value → Array Value, f items = (items.toList.take (HT.sIx items.size 0 lo)).toArray → Q () { s with heap := s.heap.update l (Obj.mapSeq f) }) : wpAny (model prog w) A (delItem (.ref l) (.ref sl)) Q E s := by
  have hl : s.heap.IsList l items := PySem.IsL.isList e
  obtain ⟨os, hos, hcs, hds⟩ := id hs
  have hTs : s.TypeIs (.ref sl) "slice" := ⟨os, hos, hcs⟩
  refine wpAny_delItem_slot hl.typeIs (by decide) F.slot_list_delitem (wpAny_call_entry F.slot_list_delitem hl.typeIs F.entry_list_delitem ?_ (F.args_list_delitem_2 _ _))
  obtain ⟨b1, b2, b3⟩ := slice_bounds lo none items.size
  have hle : HT.sIx items.size 0 lo ≤ items.size := HT.sIx_le _ _ (Nat.zero_le _) _
  have hend : HT.sIx items.size items.size none = items.size := rfl
  rw [hend] at b2
  generalize hk : HT.sIx items.size 0 lo = k at b1 hle h
  have hb : sliceBounds lo none none items.size = ((k : Int), (items.size : Int), 1) := by
    rw [← b1, ← b2, ← b3]
  show wpAny _ _ (Builtin.List.listSubscript? (.ref sl) >>= _) _ _ s
  refine wpAny_bind ?_
  unfold Builtin.List.listSubscript?; refine wpAny_bind (wpAny_specialOf hTs slice_no_index ?_)
  simp only [Option.isNone_none, if_true]; refine wpAny_pure ?_
  show wpAny _ _ (typeOf (.ref sl) >>= _) _ _ s
  refine wpAny_bind (wpAny_typeOf hTs ?_)
  first | rw [if_neg (by decide)] | refine PySem.W.KFB.if_not (by decide) ?_
  rw [listSliceParts_eq]
  refine wpAny_bind (wpAny_bind (wpAny_field hos hds (x := .none) rfl (wpAny_bind (wpAny_listPart .none ?_))))
  rw [if_neg (show ¬ ((rawPart none == rawInt 0) = true) from Bool.false_ne_true)]
  refine wpAny_bind (wpAny_field hos hds (x := vl) rfl (wpAny_bind (wpAny_listPart pl ?_)))
  refine wpAny_bind (wpAny_field hos hds (x := .none) rfl (wpAny_bind (wpAny_listPart .none (wpAny_pure ?_))))
  unfold Builtin.List.listItems
  refine wpAny_bind (wpAny_bind (wpAny_seqItems e rfl (wpAny_pure ?_)))
  refine wpAny_bind (wpAny_of_eq ((sliceIndices_raw lo none none items.size (by simp)).trans (congrArg (pure : Int × Int × Int → Sem (Int × Int × Int)) hb)) ?_)
  refine wpAny_bind (wpAny_rule ?_)
  have hf : ∀ p : Nat → Bool, (∀ j, j < items.size → (p j = true ↔ k ≤ j)) → (items.toList.zipIdx.filterMap fun x => if p x.2 = true then none else some x.1).toArray = (items.toList.take k).toArray := fun p hp => by
    rw [keep_front p k items.toList 0 fun j hj => .inl ((hp j (by simpa using hj)).trans (by omega))]
  have sel : ∀ (start stop step : Int) (b : Nat → Bool), step = 1 → start = (k : Int) → stop = (items.size : Int) → ∀ j, j < items.size → (((if step > 0 then decide (start ≤ (j : Int)) && decide ((j : Int) < stop) && ((j : Int) - start) % step == 0 else b j) = true) ↔ k ≤ j) := by
    rintro _ _ _ b rfl rfl rfl j hj
    have e1 : ((j : Int) - (k : Int)) % 1 = 0 := Int.emod_one _
    rw [if_pos (by decide), e1]
    simp only [Bool.and_eq_true, decide_eq_true_eq, beq_self_eq_true, and_true]
    omega
  have len : ∀ p : Nat → Bool, (∀ j, j < items.size → (p j = true ↔ k ≤ j)) → (items.toList.zipIdx.filterMap fun x => if p x.2 = true then none else some x.1).toArray.size ≤ sizeLine + 1 := fun p hp => by
    rw [hf p hp, List.size_toArray, List.length_take, Array.length_toList]
    omega
  refine wpAny_bind (wpAny_updateSeq (hz := hsz) (_hz' := ?_) e rfl (wpAny_bind (wpAny_letGo (wpAny_pure ⟨_, rfl, h _ ?_⟩))))
  · exact hf (gone (k : Int) (items.size : Int)) fun j hj => sel _ _ _ (back (k : Int) (items.size : Int)) rfl rfl rfl j hj
  · exact len (gone (k : Int) (items.size : Int)) fun j hj => sel _ _ _ (back (k : Int) (items.size : Int)) rfl rfl rfl j hj
end
section
variable {X : Cx}
/-- del o[lo:] of a list -/
def tDelT (to : TE) (tl : TO) : TS := fun D σ H => to σ H fun x H1 => tl σ H1 fun lo H2 => ∃ (l : Addr) (xs : List V), x = .ref l ∧ H2 l = some (.lst xs) ∧ D.nx σ (upd H2 l (.lst (xs.take (HT.sIx xs.length 0 lo))))
theorem ps_delT {o : Expr} {lo : Option Expr} {to : TE} {tl : TO} {tpos p2 pos : Pos} (ho : PE X o to) (hl : PO X lo tl) : PS X (.Delete [.Subscript o (.Slice lo none none p2) tpos] pos) (tDelT to tl) := by
  refine ⟨fun pins s σ H D I h => ?_⟩
  refine wpAny_Delete (wpAny_deleteEach_cons (wpAny_delete_Subscript (thn (ho.run pins s σ H _ I h) fun u s1 ⟨x, H1, I1, rx, q1⟩ => ?_)))
  refine wpAny_Slice (thn (hl.run pins s1 σ H1 _ I1 q1) fun vl s2 ⟨lo', H2, I2, pl, q2⟩ => ?_)
  refine wpAny_evalPart_none (wpAny_evalPart_none ?_)
  obtain ⟨l, xs, rfl, hH, q⟩ := q2
  cases (show u = Value.ref l from rx)
  have I4 : Inv X pins σ H2 { s2 with heap := s2.heap.push { cls := .type "slice", data := .fields #[vl, .none, .none] } } := I2.kept (t' := s2.toks) fun b ob q => Heap.get?_push_of_some _ q
  obtain ⟨z, its, n, r, hlen, e⟩ := I4.lstM hH
  refine delItem_tail e ⟨_, Heap.get?_push_size _ rfl, rfl, rfl⟩ pl (by rw [List.size_toArray]; omega) fun f hf => wpAny_deleteEach_nil ⟨σ, _, ?_, q⟩
  refine I4.lset (its' := its.take (HT.sIx xs.length 0 lo')) (t' := s2.toks) hH e ?_ (r.take _) ?_
  · rw [hf, List.size_toArray, ← hlen]
  · rw [List.length_take]; omega
end
end Sx
/-! Rl -/
set_option Elab.async false
set_option linter.all false
set_option maxRecDepth 100000
set_option maxHeartbeats 2000000
/-! A few rules more: xs[i] op= e, a written dict of texts asked. -/
namespace Sx
open PySem PySem.Spec PyProof.Rows L2
/-- the written dict at p: its texts and values, in order -/
def KD (K : PySem.W.Frag) (w : World) (p : Addr) (kvs : List (Str × V)) : Prop := ∃ es n, K.lookup p = some ⟨.type "dict", none, .dict es n, #[]⟩ ∧ PySem.W.KeysLit w.params es.toList ∧ (p == sysModules) = false ∧
  Paired (fun (kv : Str × V) (e : DictEntry) => (∃ t, e.key = .str kv.1 t) ∧ RelV kv.2 e.val) kvs es.toList
def lookD (kvs : List (Str × V)) (z : Str) : Option V := (kvs.find? fun kv => decide (kv.1 = z)).map (·.2)
theorem kd_find (z : Str) : ∀ {kvs : List (Str × V)} {es : List DictEntry}, Paired (fun (kv : Str × V) (e : DictEntry) => (∃ t, e.key = .str kv.1 t) ∧ RelV kv.2 e.val) kvs es →
    RelO (lookD kvs z) ((es.find? fun e => Value.isStrOf z e.key).map (·.val))
  | _, _, .nil => True.intro
  | kv :: kvs, e :: es, .cons ⟨⟨t, h1⟩, h2⟩ r => by
    have ih := kd_find z r
    have q : Value.isStrOf z e.key = decide (kv.1 = z) := by
      rw [h1]
      by_cases c : kv.1 = z
      · rw [decide_eq_true c, ← c]; simp [Value.isStrOf]
      · rw [decide_eq_false c]
        cases d : Value.isStrOf z (.str kv.1 t) with
        | false => rfl
        | true => obtain ⟨u, d⟩ := Value.isStrOf_shape d; injection d with d; exact absurd d c
    unfold lookD at ih ⊢
    rw [List.find?_cons, List.find?_cons, q]
    cases decide (kv.1 = z) with
    | true => exact h2
    | false => exact ih
def rInKD (K : PySem.W.Frag) (w : World) : R2 := fun x y H Q => ∃ (p : Addr) (z : Str) (kvs : List (Str × V)), y = .ref p ∧ x = .str z ∧ KD K w p kvs ∧ Q (.bl (lookD kvs z).isSome) H
def rIxKD (K : PySem.W.Frag) (w : World) : R2 := fun x y H Q => ∃ (p : Addr) (z : Str) (kvs : List (Str × V)) (v : V), x = .ref p ∧ y = .str z ∧ KD K w p kvs ∧ lookD kvs z = some v ∧ Q v H
section
variable {X : Cx}
theorem op_inKD : OpR X (compareOp .In) (rInKD X.K X.w) := by
  intro pins s σ H x y v u Q I rx ry h
  obtain ⟨p, z, kvs, rfl, rfl, ⟨es, n, hl, hk, low, hp⟩, q⟩ := h
  obtain rfl : u = Value.ref p := ry
  obtain ⟨t, rfl⟩ := rx
  have hm := PySem.W.mapOf_K (prog := X.prog) (w := X.w) I.kIn hl hk
  have f := kd_find z hp
  refine wpAny_in_of (strKind_is X.prog X.w z t) low hm ⟨.bl _, H, I.tok _, rfl, ?_⟩
  have e : (findBy Value.isStrOf es z).isSome = (lookD kvs z).isSome := by
    obtain ⟨l⟩ := es
    unfold findBy
    rw [List.find?_toArray]
    cases a : lookD kvs z with
    | none => rw [a] at f; cases b : (l.find? fun e => Value.isStrOf z e.key).map (·.val) with | none => rfl | some r => rw [b] at f; exact f.elim
    | some r => rw [a] at f; cases b : (l.find? fun e => Value.isStrOf z e.key).map (·.val) with | none => rw [b] at f; exact f.elim | some r => rfl
  rw [e]; exact q
theorem ix_KD : IxR X (rIxKD X.K X.w) := by
  intro value slice pins s σ H x y v u Q I rx ry h hs
  obtain ⟨p, z, kvs, r, rfl, rfl, ⟨es, n, hl, hk, low, hp⟩, e, q⟩ := h
  obtain rfl : v = Value.ref p := rx
  obtain ⟨t, rfl⟩ := ry
  have hm := PySem.W.mapOf_K (prog := X.prog) (w := X.w) I.kIn hl hk
  have f := kd_find z hp
  rw [e] at f
  cases b : (es.toList.find? fun e => Value.isStrOf z e.key).map (·.val) with
  | none => rw [b] at f; exact f.elim
  | some u0 =>
    rw [b] at f
    have g : findBy Value.isStrOf es z = some u0 := by obtain ⟨l⟩ := es; unfold findBy; rw [List.find?_toArray]; exact b
    exact tail_any hm.typeIs slot_dict_getitem.lookup (wpAny_getItem_of (strKind_is X.prog X.w z t) hm g ⟨r, H, I.tok _, f, q⟩) hs
/-- the read of xs[i] op= e -/
theorem pget_list : PGet X (rIxL X.K) := by
  intro pins s σ H o i ov iv Q I ro ri h
  obtain ⟨p, xs, k, z, rfl, rfl, hq, he, q⟩ := h
  cases ro
  obtain ⟨t, rfl⟩ := ri
  obtain ⟨its, r, pl, hz⟩ := I.list hq
  obtain ⟨j, h1, h2, h3, h4, h5⟩ := atI_get he
  obtain ⟨w, ew, rw'⟩ := r.get h2
  have hl := r.length
  have hn := line63
  have fin : EP X pins σ Q w s := ⟨z, H, I, rw', q⟩
  by_cases h0 : 0 ≤ k
  · rw [seqIndex_of h0 h5] at h1
    exact wpAny_getItem_list pl.isList h0 (by omega) (by rw [Option.some.inj h1]; simpa using ew) fin
  · rw [seqIndex_neg (by omega) h4] at h1
    have e : (k + (its.toArray.size : Int)).toNat = j := by rw [List.size_toArray, ← hl]; exact Option.some.inj h1
    exact wpAny_getItem_list_neg pl.isList (by omega) (by rw [List.size_toArray] <;> omega) (by omega) (by rw [e]; simpa using ew) fin
end
end Sx
/-! Pg -/
set_option Elab.async false
set_option linter.all false
set_option maxRecDepth 100000
set_option maxHeartbeats 2000000
/-! The program's defs, each by its promise. -/
namespace Pg
open PySem L2 Mr
structure Tx (K : PySem.W.Frag) (w : World) (mg : Str → Option Value) (pS pC : Addr) : Prop where
  isi : mg "isinstance" = none
  str : mg "str" = none
  len : mg "len" = none
  int : mg "int" = none
  tup : mg "tuple" = none
  sorted : mg "sorted" = none
  max : mg "max" = none
  mS : mg "SIGNS" = some (.ref pS)
  tS : ∀ H, SqT K H pS (signs.map fun g => V.str (S g))
  mC : mg "CALLS" = some (.ref pC)
  tC : Sx.KD K w pC [("max(", .str "max"), ("imax(", .str "imax")]
theorem nm_same {t : Cs} {l : Cs} {x : Str} (h : S l = x) : decide (S t = x) = decide (t = l) := by
  rw [← h]
  by_cases c : t = l
  · rw [decide_eq_true c, c]; exact decide_eq_true rfl
  · rw [decide_eq_false c]; exact decide_eq_false fun e => c (S_inj.mp e)
theorem eqV_str (a b : Str) : eqV (.str a) (.str b) = decide (a = b) := by
  show (a == b) = _
  by_cases c : a = b
  · rw [decide_eq_true c, c]; simp
  · rw [decide_eq_false c]; simpa using c
theorem sMax : S [109, 97, 120] = ("max" : Str) := by decide +kernel
theorem sImax : S [105, 109, 97, 120] = ("imax" : Str) := by decide +kernel
theorem same_new {H : Hp} {p : Addr} (h : H p = none) (o : HO) : Same H (upd H p o) := fun b u q => by rw [upd_ne (ne_of_none q h)]; exact q
theorem in_names (t : Cs) : inV (.str (S t)) [.str "max", .str "imax"] = (decide (t = [109, 97, 120]) || decide (t = [105, 109, 97, 120])) := by
  unfold inV
  rw [List.any_cons, List.any_cons, List.any_nil, eqV_str, eqV_str, Bool.or_false]
  have e1 : decide ((("max" : Str)) = S t) = decide (t = [109, 97, 120]) := by rw [← nm_same sMax]; exact decide_eq_decide.mpr eq_comm
  have e2 : decide ((("imax" : Str)) = S t) = decide (t = [105, 109, 97, 120]) := by rw [← nm_same sImax]; exact decide_eq_decide.mpr eq_comm
  rw [e1, e2]
section
variable {P : Program} {w : World} {K : PySem.W.Frag} {mg : Str → Option Value} {base : Heap} {pS pC : Addr}
def spIsName : Sp := fun vs H Q _ => ∃ t : Cs, vs = [.str (S t)] ∧ t.length ≤ 100000 ∧ ∀ H', Same H H' → Q (.bl (isName t)) H'
theorem sc_is_name : FnScope ["thing"] ["thing"] (defScope st_is_name) := ⟨rfl, rfl, rfl, by decide +kernel, rfl, by decide +kernel, by decide +kernel⟩
theorem lenS {t : Cs} (h : t.length ≤ 100000) : (S t).length ≤ sizeLine := by rw [len_S]; exact Nat.le_trans h (by decide)
theorem ok_is_name {f : Addr} {fd : FuncData} (F : Fun K "is_name" "is_name" st_is_name f fd) (T : Tx K w mg pS pC) : FnOk P w K mg base CX0 1 f fd ["thing"] spIsName := by
  refine F.ok sc_is_name (fun vs H Q E h => ?_) (fun cdv A outer s H vs Q E hr h => ?_)
  · obtain ⟨t, rfl, _⟩ := h
    rfl
  obtain ⟨t, rfl, ht, q⟩ := h
  refine ⟨_, pss_cons (ps_if (PW.pt (pw_or (pt_not (pt_val (pe_callB call_isi (by rfl) T.isi (by decide +kernel) (pa_cons (pv 0) (pa_cons (pe_bltn (v := .ty "str") (by rfl) T.str (by decide +kernel) rfl) pa_nil)))))
      (pw_or1 (pt_cmpR op_in_seq (pv 0) (pe_tup (pa_cons pe_str (pa_cons pe_str pa_nil))) rfl)))) (pss_one (ps_ret pe_bl)) pss_nil)
    (pss_one (ps_ret (pe_and (pe_cmpR op_le (pe_callB call_len (by rfl) T.len PySem.boot_len (pa_cons (pv 0) pa_nil)) pe_int (nomark _))
      (pe_and (pe_m0 PySem.F.slot_str_isascii PySem.F.type_str_isascii mt_isascii (pv 0)) (pe_and (pe_m0 PySem.F.slot_str_isalpha PySem.F.type_str_isalpha mt_isalpha (pv 0)) (pe_one (pe_m0 PySem.F.slot_str_islower PySem.F.type_str_islower mt_islower (pv 0)))))))), ?_⟩
  refine ⟨_, rfl, _, _, _, _, _, rfl, .ty "str", .base (.str _), kit_ty (by decide +kernel), true, rfl, iteF ⟨_, rfl, (by show 2 ≤ sizeLine; decide), fun p np => ⟨p, _, rfl, .inr (SqT.of upd_same), rfl, rfl, _, rfl, ?_⟩⟩⟩
  have s1 : Same H (upd H p (.tup [.str "max", .str "imax"])) := same_new np _
  have e0 := in_names t
  have fin : ∀ b H', Same H H' → b = isName t → Q (.bl b) H' := fun b H' s e => e ▸ q H' s
  refine ite2 (fun c => ?_) (fun c => ?_)
  · have c' : inV (.str (S t)) [.str "max", .str "imax"] = true := c
    rw [e0] at c'
    exact fin _ _ s1 (by unfold isName; rw [c']; rfl)
  · have c' : inV (.str (S t)) [.str "max", .str "imax"] = false := Bool.eq_false_iff.mpr c
    rw [e0] at c'
    have e1 : isName t = (decide (t.length ≤ 4) && (Txt.isascii (S t) && (Txt.isalpha (S t) && Txt.islower (S t)))) := by unfold isName; rw [c']; rfl
    have e2 : decide (((S t).length : Int) ≤ 4) = decide (t.length ≤ 4) := by rw [len_S]; exact decide_eq_decide.mpr (by omega)
    refine ⟨_, rfl, _, _, rfl, ⟨lenS ht, rfl⟩, _, _, rfl, rfl, _, rfl, ?_⟩
    refine ite2 (fun d => ?_) (fun d => ?_)
    · have d' : decide (((S t).length : Int) ≤ 4) = true := d
      rw [e2] at d'
      rw [d', Bool.true_and] at e1
      refine ⟨_, rfl, ⟨_, rfl⟩, _, rfl, rfl, trivial, _, rfl, ite2 (fun u => ?_) (fun u => fin _ _ s1 (by rw [e1, Bool.eq_false_iff.mpr u, Bool.false_and]))⟩
      refine ⟨_, rfl, ⟨_, rfl⟩, _, rfl, rfl, trivial, _, rfl, ite2 (fun v => ?_) (fun v => fin _ _ s1 (by rw [e1, u, Bool.eq_false_iff.mpr v, Bool.false_and, Bool.and_false]))⟩
      exact ⟨_, rfl, ⟨_, rfl⟩, _, rfl, rfl, trivial, fin _ _ s1 (by rw [e1, u, v, Bool.true_and, Bool.true_and])⟩
    · have d' : decide (((S t).length : Int) ≤ 4) = false := Bool.eq_false_iff.mpr d
      rw [e2] at d'
      exact fin _ _ s1 (by rw [e1, d', Bool.false_and])
/-! ### is_numeral -/
def spIsNum : Sp := fun vs H Q _ => ∃ t : Cs, vs = [.str (S t)] ∧ t.length ≤ 100000 ∧ Q (.bl (isNum t)) H
theorem sc_is_num : FnScope ["word"] ["word"] (defScope st_is_numeral) := ⟨rfl, rfl, rfl, by decide +kernel, rfl, by decide +kernel, by decide +kernel⟩
theorem digit_ne {t : Cs} (h : Txt.isdigit (S t) = true) : t ≠ [] := by
  rintro rfl
  exact absurd h (by decide +kernel)
theorem ok_is_num {f : Addr} {fd : FuncData} (F : Fun K "is_numeral" "is_numeral" st_is_numeral f fd) (T : Tx K w mg pS pC) : FnOk P w K mg base CX0 1 f fd ["word"] spIsNum := by
  refine F.ok sc_is_num (fun vs H Q E h => ?_) (fun cdv A outer s H vs Q E hr h => ?_)
  · obtain ⟨t, rfl, _⟩ := h
    rfl
  obtain ⟨t, rfl, ht, q⟩ := h
  refine ⟨_, pss_cons (ps_if (PW.pt (pw_or (pt_not (pt_val (pe_m0 PySem.F.slot_str_isascii PySem.F.type_str_isascii mt_isascii (pv 0)))) (pw_or1 (pt_not (pt_val (pe_m0 PySem.F.slot_str_isdigit PySem.F.type_str_isdigit mt_isdigit (pv 0))))))) (pss_one (ps_ret pe_bl)) pss_nil)
    (pss_one (ps_ret (pe_and (pe_cmpR op_le (pe_callB call_len (by rfl) T.len PySem.boot_len (pa_cons (pv 0) pa_nil)) pe_int (nomark _))
      (pe_one (pe_or (pe_cmpR op_eq (pv 0) pe_str (nomark _)) (pe_one (pe_cmpR op_ne (pe_item_str (pv 0) pe_int (fun _ _ => rfl)) pe_str (nomark _)))))))), ?_⟩
  have fin : ∀ b, b = isNum t → Q (.bl b) H := fun b e => e ▸ q
  have e2 : decide (((S t).length : Int) ≤ 4) = decide (t.length ≤ 4) := by rw [len_S]; exact decide_eq_decide.mpr (by omega)
  have z0 : S [48] = ("0" : Str) := by decide +kernel
  refine ⟨_, rfl, ⟨_, rfl⟩, _, rfl, rfl, trivial, _, rfl, ite2 (fun a => ?_) (fun a => ?_)⟩
  · have a' : Txt.isascii (S t) = false := by simpa using a
    exact fin _ (by unfold isNum; rw [a']; rfl)
  have a' : Txt.isascii (S t) = true := by simpa using a
  refine ⟨_, rfl, ⟨_, rfl⟩, _, rfl, rfl, trivial, _, rfl, ite2 (fun b => ?_) (fun b => ?_)⟩
  · have b' : Txt.isdigit (S t) = false := by simpa using b
    exact fin _ (by unfold isNum; rw [a', b']; rfl)
  have b' : Txt.isdigit (S t) = true := by simpa using b
  have e1 : isNum t = (decide (t.length ≤ 4) && (decide (t = [48]) || decide (t[0]? ≠ some 48))) := by unfold isNum; rw [a', b', Bool.true_and, Bool.true_and]
  refine ⟨_, rfl, _, _, rfl, ⟨lenS ht, rfl⟩, _, _, rfl, rfl, _, rfl, ?_⟩
  refine ite2 (fun d => ?_) (fun d => ?_)
  · have d' : decide (((S t).length : Int) ≤ 4) = true := d
    rw [e2] at d'
    rw [d', Bool.true_and] at e1
    refine ⟨_, rfl, rfl, _, rfl, ite2 (fun g => ?_) (fun g => ?_)⟩
    · have g' : t = [48] := by
        have := of_decide_eq_true g
        injection this with this
        rw [← z0] at this
        exact S_inj.mp this
      exact fin _ (by rw [e1, g']; rfl)
    · have g' : ¬ t = [48] := fun e => g (by rw [e, z0]; exact decide_eq_true rfl)
      obtain ⟨c, t', rfl⟩ : ∃ c t', t = c :: t' := by
        cases t with
        | nil => exact absurd rfl (digit_ne b')
        | cons c t' => exact ⟨c, t', rfl⟩
      refine ⟨_, rfl, S (c :: t'), 0, c, rfl, rfl, by decide, by decide, ?_, ?_, ?_⟩
      · rw [len_S]; simp only [List.length_cons]; omega
      · unfold S; simp
      · refine ⟨rfl, fin _ ?_⟩
        rw [e1, decide_eq_false g', Bool.false_or]
        have : (V.str ⟨#[c]⟩ = V.str ("0" : Str)) ↔ c = 48 := by
          rw [← z0]
          constructor
          · intro h; injection h with h; have h := S_inj.mp (show S [c] = S [48] from h); injection h
          · rintro rfl; rfl
        show (!decide (V.str ⟨#[c]⟩ = V.str ("0" : Str))) = _
        by_cases hc : c = 48
        · rw [decide_eq_true (this.mpr hc), hc]; rfl
        · rw [decide_eq_false (fun h => hc (this.mp h))]; simp [hc]
  · have d' : decide (((S t).length : Int) ≤ 4) = false := Bool.eq_false_iff.mpr d
    rw [e2] at d'
    exact fin _ (by rw [e1, d', Bool.false_and])
/-! ### _is_full -/
def cName (b : Bool) : Str := if b then "max" else "imax"
def spFull : Sp := fun vs H Q _ => ∃ (b : Bool) (n : Int), vs = [.str (cName b), .int n] ∧ Q (.bl (full b n)) H
theorem sc_full : FnScope ["call", "count"] ["call", "count"] (defScope st__is_full) := ⟨rfl, rfl, rfl, by decide +kernel, rfl, by decide +kernel, by decide +kernel⟩
theorem cName_max (b : Bool) : decide (V.str (cName b) = V.str ("max" : Str)) = b := by cases b <;> decide +kernel
theorem ok_full {f : Addr} {fd : FuncData} (F : Fun K "_is_full" "_is_full" st__is_full f fd) : FnOk P w K mg base CX0 1 f fd ["call", "count"] spFull := by
  refine F.ok sc_full (fun vs H Q E h => ?_) (fun cdv A outer s H vs Q E hr h => ?_)
  · obtain ⟨b, n, rfl, _⟩ := h
    rfl
  obtain ⟨b, n, rfl, q⟩ := h
  refine ⟨_, pss_one (ps_ret (pe_ifExp (pt_cmpR op_eq (pv 0) pe_str (nomark _)) (pe_cmpR op_ge (pv 1) pe_int (nomark _)) (pe_cmpR op_eq (pv 1) pe_int (nomark _)))), ?_⟩
  refine ⟨_, rfl, rfl, _, rfl, ?_⟩
  rw [cName_max b]
  cases b with
  | true => exact iteT ⟨_, rfl, _, _, rfl, rfl, q⟩
  | false =>
    refine iteF ⟨_, rfl, rfl, ?_⟩
    have e : decide (V.int n = V.int 2) = full false n := by
      unfold full
      exact decide_eq_decide.mpr ⟨fun h => by injection h, fun h => by rw [h]⟩
    show Q (.bl (decide (V.int n = V.int 2))) H
    rw [e]; exact q
/-! ### _leaf -/
def wName : W → Str
  | .level => "level"
  | .sign => "sign"
  | .number => "number"
theorem w_level (x : W) : decide (V.str (wName x) = V.str ("level" : Str)) = decide (x = .level) := by cases x <;> decide +kernel
theorem w_number (x : W) : decide (V.str (wName x) = V.str ("number" : Str)) = decide (x = .number) := by cases x <;> decide +kernel
theorem w_sign (x : W) : decide (V.str (wName x) = V.str ("sign" : Str)) = decide (x = .sign) := by cases x <;> decide +kernel
def sv : Stp → List V
  | .num k => [.str "number", .int k]
  | .nam s => [.str "name", .str (S s)]
  | .plus k => [.str "+", .int k]
  | .call b n => [.str (cName b), .int n]
def spLeaf : Sp := fun vs H Q _ => ∃ (t : Cs) (x : W), vs = [.str (S t), .str (wName x)] ∧ t.length ≤ 100000 ∧ (isNum t = true → ∃ n, PySem.intText? (S t) = some n) ∧
  (leaf t x = none → ∀ H', Same H H' → Q .non H') ∧ ∀ l, leaf t x = some l → ∀ H' p, Same H H' → H' p = some (.tup (sv l)) → Q (.ref p) H'
theorem sc_leaf : FnScope ["token", "wanted"] ["token", "wanted"] (defScope st__leaf) := ⟨rfl, rfl, rfl, by decide +kernel, rfl, by decide +kernel, by decide +kernel⟩
theorem ok_leaf {f fN fM : Addr} {fd fdN fdM : FuncData} (F : Fun K "_leaf" "_leaf" st__leaf f fd) (T : Tx K w mg pS pC) (GN : FnOk P w K mg base CX0 1 fN fdN ["thing"] spIsName) (bN : Binds K fdN ["thing"] []) (kN : PySem.W.keepIn K (.ref fN) = true) (mN : mg "is_name" = some (.ref fN))
    (GM : FnOk P w K mg base CX0 1 fM fdM ["word"] spIsNum) (bM : Binds K fdM ["word"] []) (kM : PySem.W.keepIn K (.ref fM) = true) (mM : mg "is_numeral" = some (.ref fM)) : FnOk P w K mg base CX0 2 f fd ["token", "wanted"] spLeaf := by
  refine F.ok sc_leaf (fun vs H Q E h => ?_) (fun cdv A outer s H vs Q E hr h => ?_)
  · obtain ⟨t, x, rfl, _⟩ := h
    rfl
  obtain ⟨t, x, rfl, ht, hnum, q0, q1⟩ := h
  refine ⟨_, pss_cons (ps_if (PW.pt (pw_and (pt_cmpR op_eq (pv 1) pe_str (nomark _)) (pw_and1 (pt_val (pe_call GN hr rfl mN kN bN .nil pass0 (pa_cons (pv 0) pa_nil)))))) (pss_one (ps_ret (pe_tup (pa_cons pe_str (pa_cons (pv 0) pa_nil))))) pss_nil)
    (pss_cons (ps_if (PW.pt (pw_and (pt_cmpR op_eq (pv 1) pe_str (nomark _)) (pw_and1 (pt_val (pe_call GM hr rfl mM kM bM .nil pass0 (pa_cons (pv 0) pa_nil)))))) (pss_one (ps_ret (pe_tup (pa_cons pe_str (pa_cons (pe_callTy call_int_str (by rfl) T.int (by decide +kernel) (pa_cons (pv 0) pa_nil)) pa_nil))))) pss_nil)
    (pss_cons (ps_if (PW.pt (pw_and (pt_cmpR op_eq (pv 1) pe_str (nomark _)) (pw_and1 (pt_val (pe_call GM hr rfl mM kM bM .nil pass0 (pa_cons (pv 0) pa_nil)))))) (pss_one (ps_ret (pe_tup (pa_cons pe_str (pa_cons (pe_callTy call_int_str (by rfl) T.int (by decide +kernel) (pa_cons (pv 0) pa_nil)) pa_nil))))) pss_nil)
    (pss_one (ps_ret pe_non)))), ?_⟩
  have none_ : leaf t x = none → ∀ H', Same H H' → Q .non H' := q0
  -- behind the three tests
  have num : ∀ (k : Str) (mk : Int → Stp), (∀ n, sv (mk n) = [.str k, .int n]) → isNum t = true → leaf t x = some (mk (valOf t)) → ∀ H1, Same H H1 → ∃ a n, [V.str (S t)] = [V.str a] ∧ PySem.intText? a = some n ∧ a.length ≤ 640 ∧
      (2 ≤ sizeLine ∧ ∀ p, H1 p = none → Q (.ref p) (upd H1 p (.tup [.str k, .int n]))) := fun k mk hmk hn hl H1 hs => by
    obtain ⟨n, e⟩ := hnum hn
    have l4 : t.length ≤ 4 := by
      unfold isNum at hn
      simp only [Bool.and_eq_true, decide_eq_true_eq] at hn
      exact hn.2.1
    have ev : valOf t = n := by unfold valOf; rw [e]; rfl
    refine ⟨S t, n, rfl, e, by rw [len_S]; omega, by decide, fun p np => ?_⟩
    refine q1 _ hl _ p (hs.trans (same_new np _)) ?_
    rw [upd_same, hmk, ev]
  cases x with
  | level =>
    refine ⟨_, rfl, rfl, _, rfl, ?_⟩
    rw [w_level]
    refine iteT ⟨_, rfl, t, rfl, ht, fun H1 s1 => ⟨_, rfl, ite2 (fun a => ?_) (fun a => ?_)⟩⟩
    · refine ⟨_, rfl, (by show 2 ≤ sizeLine; decide), fun p np => q1 (.nam t) ?_ _ p (s1.trans (same_new np _)) upd_same⟩
      unfold leaf; rw [a]; rfl
    · have a' : isName t = false := Bool.eq_false_iff.mpr a
      refine ⟨_, rfl, rfl, _, rfl, ?_⟩
      rw [w_level]
      refine iteT ⟨_, rfl, t, rfl, ht, _, rfl, ite2 (fun b => ?_) (fun b => ?_)⟩
      · exact ⟨_, rfl, num "number" .num (fun _ => rfl) b (by unfold leaf; rw [a', b]; rfl) H1 s1⟩
      · refine ⟨_, rfl, rfl, _, rfl, ?_⟩
        rw [w_number]
        refine iteF ?_
        exact q0 (by unfold leaf; rw [a', Bool.eq_false_iff.mpr b]; rfl) H1 s1
  | sign =>
    refine ⟨_, rfl, rfl, _, rfl, ?_⟩
    rw [w_level]
    refine iteF ⟨_, rfl, rfl, _, rfl, ?_⟩
    rw [w_level]
    refine iteF ⟨_, rfl, rfl, _, rfl, ?_⟩
    rw [w_number]
    exact iteF (q0 rfl H (Same.refl H))
  | number =>
    refine ⟨_, rfl, rfl, _, rfl, ?_⟩
    rw [w_level]
    refine iteF ⟨_, rfl, rfl, _, rfl, ?_⟩
    rw [w_level]
    refine iteF ⟨_, rfl, rfl, _, rfl, ?_⟩
    rw [w_number]
    refine iteT ⟨_, rfl, t, rfl, ht, _, rfl, ite2 (fun b => ?_) (fun b => ?_)⟩
    · exact ⟨_, rfl, num "+" .plus (fun _ => rfl) b (by unfold leaf; rw [b]; rfl) H (Same.refl H)⟩
    · exact q0 (by unfold leaf; rw [Bool.eq_false_iff.mpr b]; rfl) H (Same.refl H)
end
end Pg
/-! Pg2 -/
set_option Elab.async false
set_option linter.all false
set_option maxRecDepth 100000
set_option maxHeartbeats 2000000
namespace Pg
open PySem L2 Mr
theorem tl_S (z : Cs) : TL.tl (S z) = z := rfl
theorem sw (z g : Cs) (n : Nat) (hg : g ≠ []) : Txt.startswith3 (S z) (S g) (n : Int) = g.isPrefixOf (z.drop n) := by
  have hi : fromIndex (S z).length (n : Int) = n := by
    unfold fromIndex
    rw [if_neg (by omega)]
    omega
  have h1 : Txt.startswith3 (S z) (S g) (n : Int) = true ↔ TL.pre g (z.drop n) = true := by
    show _ ↔ TL.pre (TL.tl (S g)) ((TL.tl (S z)).drop n) = true
    rw [← TL.at_iff (x := S z) (y := S g) hg n]
    unfold Txt.startswith3
    rw [hi, Bool.and_eq_true, decide_eq_true_eq]
    exact Iff.rfl
  have h2 : TL.pre g (z.drop n) = true ↔ g.isPrefixOf (z.drop n) = true := by
    rw [List.isPrefixOf_iff_prefix, List.prefix_iff_eq_take]
    unfold TL.pre
    rw [beq_iff_eq]
    exact eq_comm
  exact Bool.eq_iff_iff.mpr (h1.trans h2)
theorem alnum1 (c : Nat) : Txt.isalnum ⟨#[c]⟩ = isAl c := by
  unfold Txt.isalnum isAl Str.length
  simp
theorem cut_S (z : Cs) (a b : Nat) (h : a ≤ b) (hb : b ≤ z.length) : cutS (S z) (some (a : Int)) (some (b : Int)) = S ((z.drop a).take (b - a)) := by
  unfold cutS
  rw [HT.sIx_nat, HT.sIx_nat, len_S, Nat.min_eq_left (show a ≤ z.length by omega), Nat.min_eq_left hb]
  rfl
section
variable {P : Program} {w : World} {K : PySem.W.Frag} {mg : Str → Option Value} {base : Heap} {pS pC : Addr}
/-! ### _token_at -/
def spTokAt : Sp := fun vs H Q _ => ∃ (z : Cs) (n : Nat), vs = [.str (S z), .int n] ∧ n ≤ z.length ∧ z.length ≤ 100000 ∧ Q (.str (S (tokAt (z.drop n)))) H
theorem sc_tokAt : FnScope ["text", "at", "sign", "end"] ["text", "at"] (defScope st__token_at) := ⟨rfl, rfl, rfl, by decide +kernel, rfl, by decide +kernel, by decide +kernel⟩
theorem sign_at {i : Nat} {x : V} (h : (signs.map fun g => V.str (S g))[i]? = some x) : ∃ g, signs[i]? = some g ∧ x = .str (S g) := by
  rw [List.getElem?_map] at h
  cases e : signs[i]? with
  | none => rw [e] at h; cases h
  | some g => rw [e] at h; exact ⟨g, rfl, (Option.some.inj h).symm⟩
theorem find_at : ∀ (l : List Cs) (p : Cs → Bool) (i : Nat) (g : Cs), l[i]? = some g → p g = true → (∀ j g', j < i → l[j]? = some g' → p g' = false) → l.find? p = some g
  | [], _, _, _, h, _, _ => by cases h
  | a :: l, p, 0, g, h, hp, _ => by
    cases h
    rw [List.find?_cons, hp]
  | a :: l, p, i + 1, g, h, hp, hn => by
    rw [List.find?_cons, hn 0 a (Nat.succ_pos _) rfl]
    exact find_at l p i g h hp fun j g' hj e => hn (j + 1) g' (Nat.succ_lt_succ hj) e
theorem take_while_stop {p : Nat → Bool} : ∀ (l : Cs) (k : Nat), k ≤ l.length → (∀ j, j < k → ∀ c, l[j]? = some c → p c = true) → (∀ c, l[k]? = some c → p c = false) → l.takeWhile p = l.take k
  | [], k, h, _, _ => by simp
  | c :: l, 0, _, _, hs => by rw [List.takeWhile_cons, hs c rfl]; rfl
  | c :: l, k + 1, h, hk, hs => by
    rw [List.takeWhile_cons, hk 0 (Nat.succ_pos _) c rfl, if_pos rfl, List.take_succ_cons, take_while_stop l k (by simpa using h) (fun j hj d e => hk (j + 1) (Nat.succ_lt_succ hj) d e) fun d e => hs d e]
def wTok (z : Cs) (n : Nat) (H0 : Hp) (m : Nat) (σ' : L2.St) (H2 : Hp) : Prop := ∃ k, m = z.length - (n + k) ∧ n + k ≤ z.length ∧ H2 = H0 ∧ (∃ u, σ' = [some (.str (S z)), some (.int n), u, some (.int ((n + k : Nat) : Int))]) ∧ ∀ (j : Nat), j < k → ∀ (c : Nat), (z.drop n)[j]? = some c → isAl c = true
theorem ok_tokAt {f : Addr} {fd : FuncData} (F : Fun K "_token_at" "_token_at" st__token_at f fd) (T : Tx K w mg pS pC) : FnOk P w K mg base CX0 1 f fd ["text", "at"] spTokAt := by
  refine F.ok sc_tokAt (fun vs H Q E h => ?_) (fun cdv A outer s H vs Q E hr h => ?_)
  · obtain ⟨z, n, rfl, _⟩ := h
    rfl
  obtain ⟨z, n, rfl, hn, hz, q⟩ := h
  refine ⟨_, pss_cons (ps_for PassesOwn.never rfl (pi_tup (pe_glob (v := .ref pS) (by rfl) T.mS rfl)) (pg_name (i := 2) sc_tokAt.nd rfl (.inl rfl))
      (pss_one (ps_if (pt_val (pe_bm PySem.F.plainAttrs_str PySem.F.slot_str_startswith PySem.F.type_str_startswith mt_startswith3 (pv 0) (pa_cons (pv 2) (pa_cons (pv 1) pa_nil)))) (pss_one (ps_ret (pv 2))) pss_nil)))
    (pss_cons (ps_set (i := 3) sc_tokAt.nd rfl (.inl rfl) (pv 1))
    (pss_cons (ps_while PassesOwn.never (PW.pt (pw_and (pt_cmpR op_lt (pv 3) (pe_callB call_len (by rfl) T.len PySem.boot_len (pa_cons (pv 0) pa_nil)) (nomark _)) (pw_and1 (pt_val (pe_m0 PySem.F.slot_str_isalnum PySem.F.type_str_isalnum mt_isalnum (pe_item_str (pv 0) (pv 3) (fun _ _ => rfl)))))))
      (pss_one (ps_aug (i := 3) sc_tokAt.nd rfl (.inl rfl) pe_int ip_add)))
    (pss_one (ps_ret (pe_slice sl_str (pv 0) (po_some (pv 1)) (po_some (pv 3))))))), ?_⟩
  have hS := T.tS H
  refine ⟨pS, rfl, ⟨_, T.tS _⟩, for_tup (K := K) (a := pS) (xs := signs.map fun g => V.str (S g)) (fun i σ H' => H' = H ∧ (∃ v, σ = [some (.str (S z)), some (.int n), v, none]) ∧ ∀ j g, j < i → signs[j]? = some g → g.isPrefixOf (z.drop n) = false)
    ⟨rfl, ⟨_, rfl⟩, fun j g hj => absurd hj (Nat.not_lt_zero _)⟩ (fun i σ H' _ _ => T.tS H') ?_ ?_⟩
  · rintro i x σ H' hi ⟨rfl, ⟨v, rfl⟩, hno⟩
    obtain ⟨g, hg, rfl⟩ := sign_at hi
    have gm : g ∈ signs := List.mem_of_getElem? hg
    refine ⟨_, rfl, rfl, _, rfl, _, rfl, S z, S g, n, rfl, rfl, _, rfl, ?_⟩
    rw [sw z g n (sign_ne gm)]
    refine ite2 (fun c => ?_) (fun c => ?_)
    · refine ⟨_, rfl, ?_⟩
      have e : tokAt (z.drop n) = g := by
        unfold tokAt
        rw [find_at signs (fun g => g.isPrefixOf (z.drop n)) i g hg c fun j g' hj e => hno j g' hj e]
      rw [← e]
      exact q
    · refine ⟨rfl, ⟨_, rfl⟩, fun j g' hj e => ?_⟩
      by_cases hji : j = i
      · subst hji
        rw [hg] at e; cases e
        exact Bool.eq_false_iff.mpr c
      · exact hno j g' (by omega) e
  · rintro σ H' ⟨rfl, ⟨v, rfl⟩, hno⟩
    have none_ : signs.find? (fun g => g.isPrefixOf (z.drop n)) = none := by
      rw [List.find?_eq_none]
      intro g hg
      obtain ⟨j, e⟩ := List.getElem?_of_mem hg
      rw [hno j g (by rw [List.length_map]; exact (List.getElem?_eq_some_iff.mp e).1) e]
      exact Bool.false_ne_true
    have tk : tokAt (z.drop n) = (z.drop n).takeWhile isAl := by unfold tokAt; rw [none_]
    refine ⟨_, rfl, ?_⟩
    refine ⟨wTok z n H',
      ⟨_, 0, rfl, by omega, rfl, ⟨_, rfl⟩, fun j hj => absurd hj (Nat.not_lt_zero _)⟩, ?_⟩
    rintro m σ' H2 ⟨k, rfl, hk, rfl, ⟨u, rfl⟩, hal⟩
    have fin : (∀ c, (z.drop n)[k]? = some c → isAl c = false) → S (tokAt (z.drop n)) = cutS (S z) (some (n : Int)) (some ((n + k : Nat) : Int)) := fun hs => by
      rw [tk, take_while_stop (z.drop n) k (by rw [List.length_drop]; omega) hal hs, cut_S z n (n + k) (by omega) hk, Nat.add_sub_cancel_left]
    refine ⟨_, rfl, _, rfl, _, _, rfl, ⟨lenS hz, rfl⟩, _, _, rfl, rfl, _, rfl, ite2 (fun c => ?_) (fun c => ?_)⟩
    · have c' : ((n + k : Nat) : Int) < ((S z).length : Int) := of_decide_eq_true c
      rw [len_S] at c'
      have lt : n + k < z.length := by omega
      have hc : (z.drop n)[k]? = some z[n + k] := by rw [List.getElem?_drop, List.getElem?_eq_getElem lt]
      refine ⟨_, rfl, _, rfl, S z, _, z[n + k], rfl, rfl, by omega, by omega, (by rw [len_S]; omega), ?_, ⟨_, rfl⟩, _, rfl, rfl, trivial, _, rfl, ?_⟩
      · rw [Int.toNat_natCast]; unfold S; simp [lt]
      rw [alnum1]
      refine ite2 (fun d => ?_) (fun d => ?_)
      · refine ⟨fun σ3 H3 => ∃ m', m' < z.length - (n + k) ∧ wTok z n H2 m' σ3 H3, fun _ _ h => h, _, rfl, _, _, rfl, rfl, ⟨z.length - (n + (k + 1)), by omega, k + 1, rfl, by omega, rfl, ⟨u, rfl⟩, fun j hj c' e => ?_⟩⟩
        by_cases hjk : j = k
        · subst hjk; rw [hc] at e; cases e; exact d
        · exact hal j (by omega) c' e
      · refine ⟨_, rfl, _, rfl, _, rfl, _, rfl, _, rfl, _, rfl, lenS hz, ?_⟩
        rw [← fin fun c' e => by rw [hc] at e; cases e; exact Bool.eq_false_iff.mpr d]
        exact q
    · have c' : ¬ ((n + k : Nat) : Int) < ((S z).length : Int) := fun h => c (decide_eq_true h)
      rw [len_S] at c'
      refine iteF ⟨_, rfl, _, rfl, _, rfl, _, rfl, _, rfl, _, rfl, lenS hz, ?_⟩
      rw [← fin fun c' e => by rw [List.getElem?_drop, List.getElem?_eq_none (by omega)] at e; cases e]
      exact q
end
end Pg
/-! Nt -/
set_option maxRecDepth 100000
set_option maxHeartbeats 2000000
namespace Mr
open PySem
theorem dig1 : ∀ a : Fin 10, (PySem.intText? (S [48 + a.val])).isSome = true := by decide +kernel
theorem dig2 : ∀ a b : Fin 10, (PySem.intText? (S [48 + a.val, 48 + b.val])).isSome = true := by decide +kernel
theorem dig3 : ∀ a b c : Fin 10, (PySem.intText? (S [48 + a.val, 48 + b.val, 48 + c.val])).isSome = true := by decide +kernel
theorem dig4 : ∀ a b c d : Fin 10, (PySem.intText? (S [48 + a.val, 48 + b.val, 48 + c.val, 48 + d.val])).isSome = true := by decide +kernel
theorem dig_asc : ∀ c : Fin 128, Unicode.isDigit c.val = true → 48 ≤ c.val ∧ c.val < 58 := by decide +kernel
theorem dig_of {c : Nat} (h1 : c < 128) (h2 : Unicode.isDigit c = true) : ∃ a : Fin 10, c = 48 + a.val := by
  have l : 48 ≤ c := (dig_asc ⟨c, h1⟩ h2).1
  have u : c < 58 := (dig_asc ⟨c, h1⟩ h2).2
  exact ⟨⟨c - 48, by omega⟩, by show c = 48 + (c - 48); omega⟩
theorem num_text {t : Cs} (h : isNum t = true) : ∃ n, PySem.intText? (S t) = some n := by
  unfold isNum at h
  simp only [Bool.and_eq_true, decide_eq_true_eq] at h
  obtain ⟨⟨ha, hd⟩, hl, _⟩ := h
  have a : ∀ c ∈ t, c < 128 := by
    unfold Txt.isascii S at ha
    rw [List.all_toArray, List.all_eq_true] at ha
    exact fun c hc => of_decide_eq_true (ha c hc)
  unfold Txt.isdigit S at hd
  rw [Bool.and_eq_true, List.all_toArray, List.all_eq_true] at hd
  have d : ∀ c ∈ t, ∃ a : Fin 10, c = 48 + a.val := fun c hc => dig_of (a c hc) (hd.2 c hc)
  have some_ : ∀ o : Option Int, o.isSome = true → ∃ n, o = some n := fun o h => Option.isSome_iff_exists.mp h
  match t, hl, d, hd.1 with
  | [], _, _, h0 => exact absurd h0 (by decide)
  | [c1], _, d, _ =>
    obtain ⟨a1, rfl⟩ := d c1 (by simp)
    exact some_ _ (dig1 a1)
  | [c1, c2], _, d, _ =>
    obtain ⟨a1, rfl⟩ := d c1 (by simp)
    obtain ⟨a2, rfl⟩ := d c2 (by simp)
    exact some_ _ (dig2 a1 a2)
  | [c1, c2, c3], _, d, _ =>
    obtain ⟨a1, rfl⟩ := d c1 (by simp)
    obtain ⟨a2, rfl⟩ := d c2 (by simp)
    obtain ⟨a3, rfl⟩ := d c3 (by simp)
    exact some_ _ (dig3 a1 a2 a3)
  | [c1, c2, c3, c4], _, d, _ =>
    obtain ⟨a1, rfl⟩ := d c1 (by simp)
    obtain ⟨a2, rfl⟩ := d c2 (by simp)
    obtain ⟨a3, rfl⟩ := d c3 (by simp)
    obtain ⟨a4, rfl⟩ := d c4 (by simp)
    exact some_ _ (dig4 a1 a2 a3 a4)
  | _ :: _ :: _ :: _ :: _ :: _, hl, _, _ => simp only [List.length_cons] at hl; omega
theorem tokAt_len (r : Cs) : (tokAt r).length ≤ r.length := by
  unfold tokAt
  split
  · rename_i g e
    have := List.find?_some e
    exact (List.isPrefixOf_iff_prefix.mp this).length_le
  · exact (List.takeWhile_prefix _).length_le
theorem toks_eq (r : Cs) : toks r = if r.isEmpty then some [] else if (tokAt r).isEmpty then none else (toks (r.drop (tokAt r).length)).map (tokAt r :: ·) := by
  by_cases c : r.isEmpty = true
  · rw [if_pos c]
    have e : r = [] := List.isEmpty_iff.mp c
    subst e; rfl
  · rw [if_neg c]
    have l0 : 0 < r.length := List.length_pos_iff.mpr fun e => c (by rw [e]; rfl)
    have e : toks r = toksF ((r.length - 1) + 1) r := by unfold toks; congr 1; omega
    rw [e]
    unfold toksF
    rw [if_neg c]
    by_cases d : (tokAt r).isEmpty = true
    · rw [if_pos d, if_pos d]
    · rw [if_neg d, if_neg d]
      have l1 : 0 < (tokAt r).length := List.length_pos_iff.mpr fun e => d (by rw [e]; rfl)
      have hf : toksF (r.length - 1) (r.drop (tokAt r).length) = toks (r.drop (tokAt r).length) := toksF_fuel _ _ _ (by rw [List.length_drop]; omega) (Nat.le_refl _)
      rw [hf]
end Mr
/-! Pg3 -/
set_option Elab.async false
set_option linter.all false
set_option maxRecDepth 100000
set_option maxHeartbeats 4000000
namespace Pg
open PySem L2 Mr
abbrev tv (t : Cs) : V := .str (S t)
theorem toks_small : ∀ (n : Nat) (r : Cs) (ts : List Cs), toksF n r = some ts → ts.length ≤ r.length ∧ ∀ t ∈ ts, t.length ≤ r.length
  | 0, r, ts, h => by
    unfold toksF at h
    split at h
    · cases h; exact ⟨Nat.zero_le _, fun _ z => absurd z List.not_mem_nil⟩
    · cases h
  | n + 1, r, ts, h => by
    unfold toksF at h
    split at h
    · cases h; exact ⟨Nat.zero_le _, fun _ z => absurd z List.not_mem_nil⟩
    · split at h
      · cases h
      · rename_i c d
        obtain ⟨us, e, rfl⟩ := Option.map_eq_some_iff.mp h
        have l1 : 0 < (tokAt r).length := List.length_pos_iff.mpr fun e => d (by rw [e]; rfl)
        have l2 := tokAt_len r
        obtain ⟨i1, i2⟩ := toks_small n _ us e
        rw [List.length_drop] at i1 i2
        refine ⟨by rw [List.length_cons]; omega, fun t ht => ?_⟩
        rcases List.mem_cons.mp ht with rfl | ht
        · exact l2
        · exact Nat.le_trans (i2 t ht) (by omega)
section
variable {P : Program} {w : World} {K : PySem.W.Frag} {mg : Str → Option Value} {base : Heap} {pS pC : Addr}
/-! ### tokens_of -/
def spToks : Sp := fun vs H Q _ => ∃ z : Cs, vs = [tv z] ∧ z.length ≤ 100000 ∧ (toks z = none → ∀ H', Same H H' → Q .non H') ∧ ∀ ts, toks z = some ts → ∀ H' p, Same H H' → H p = none → H' p = some (.lst (ts.map tv)) → Q (.ref p) H'
theorem sc_toks : FnScope ["text", "tokens", "at", "token"] ["text"] (defScope st_tokens_of) := ⟨rfl, rfl, rfl, by decide +kernel, rfl, by decide +kernel, by decide +kernel⟩
def wToks (z : Cs) (H0 : Hp) (p : Addr) (m : Nat) (σ' : L2.St) (H2 : Hp) : Prop := ∃ (n : Nat) (acc : List Cs) (u : Option V), m = z.length - n ∧ n ≤ z.length ∧ acc.length ≤ n ∧ σ' = [some (tv z), some (.ref p), some (.int n), u] ∧ Same H0 H2 ∧ H2 p = some (.lst (acc.map tv)) ∧
  toks z = (toks (z.drop n)).map (acc ++ ·)
theorem ok_toks {f fA : Addr} {fd fdA : FuncData} (F : Fun K "tokens_of" "tokens_of" st_tokens_of f fd) (T : Tx K w mg pS pC) (GA : FnOk P w K mg base CX0 1 fA fdA ["text", "at"] spTokAt) (bA : Binds K fdA ["text", "at"] []) (kA : PySem.W.keepIn K (.ref fA) = true) (mA : mg "_token_at" = some (.ref fA)) :
    FnOk P w K mg base CX0 2 f fd ["text"] spToks := by
  refine F.ok sc_toks (fun vs H Q E h => ?_) (fun cdv A outer s H vs Q E hr h => ?_)
  · obtain ⟨z, rfl, _⟩ := h
    rfl
  obtain ⟨z, rfl, hz, q0, q1⟩ := h
  refine ⟨_, pss_cons (ps_set (i := 1) sc_toks.nd rfl (.inl rfl) (pe_lst pa_nil)) (pss_cons (ps_set (i := 2) sc_toks.nd rfl (.inl rfl) pe_int)
    (pss_cons (ps_while PassesOwn.never (pt_cmpR op_lt (pv 2) (pe_callB call_len (by rfl) T.len PySem.boot_len (pa_cons (pv 0) pa_nil)) (nomark _))
      (pss_cons (ps_set (i := 3) sc_toks.nd rfl (.inl rfl) (pe_call GA hr rfl mA kA bA .nil pass0 (pa_cons (pv 0) (pa_cons (pv 2) pa_nil))))
      (pss_cons (ps_if (pt_cmpR op_eq (pv 3) pe_str (nomark _)) (pss_one (ps_ret pe_non)) pss_nil)
      (pss_cons (ps_expr (pe_bm PySem.F.plainAttrs_list PySem.F.slot_list_append PySem.F.type_list_append mt_append (pv 1) (pa_cons (pv 3) pa_nil)))
      (pss_one (ps_aug (i := 2) sc_toks.nd rfl (.inl rfl) (pe_callB call_len (by rfl) T.len PySem.boot_len (pa_cons (pv 3) pa_nil)) ip_add))))))
    (pss_one (ps_ret (pv 1))))), ?_⟩
  refine ⟨Nat.zero_le _, fun p np => ⟨wToks z H p, ⟨_, 0, [], none, rfl, Nat.zero_le _, Nat.le_refl _, rfl, same_new np _, upd_same, ?_⟩, ?_⟩⟩
  · rw [List.drop_zero]; cases toks z <;> rfl
  rintro m σ' H2 ⟨n, acc, u, rfl, hn, ha, rfl, sm, hp, ht⟩
  refine ⟨_, rfl, _, rfl, _, _, rfl, ⟨lenS hz, rfl⟩, _, _, rfl, rfl, _, rfl, ite2 (fun c => ?_) (fun c => ?_)⟩
  · have c' : (n : Int) < ((S z).length : Int) := of_decide_eq_true c
    rw [len_S] at c'
    have ne : (z.drop n).isEmpty = false := by
      cases e : z.drop n with
      | nil => have := congrArg List.length e; rw [List.length_drop] at this; simp at this; omega
      | cons => rfl
    have te := toks_eq (z.drop n)
    rw [ne] at te
    simp only [Bool.false_eq_true, if_false] at te
    have tl := tokAt_len (z.drop n)
    rw [List.length_drop] at tl
    refine ⟨fun σ3 H3 => ∃ m', m' < z.length - n ∧ wToks z H p m' σ3 H3, fun _ _ h => h, _, rfl, _, rfl, z, n, rfl, hn, hz, _, rfl, rfl, _, rfl, ?_⟩
    have ee : decide (V.str (S (tokAt (z.drop n))) = V.str ("" : Str)) = (tokAt (z.drop n)).isEmpty := by
      have e0 : S [] = ("" : Str) := by decide +kernel
      rw [← e0]
      cases e : tokAt (z.drop n) with
      | nil => exact decide_eq_true rfl
      | cons a b => exact decide_eq_false fun h => by injection h with h; have := S_inj.mp h; cases this
    rw [ee]
    refine ite2 (fun d => ?_) (fun d => ?_)
    · rw [if_pos d] at te
      rw [te] at ht
      exact q0 ht H2 sm
    · rw [if_neg d, List.drop_drop] at te
      have l1 : 0 < (tokAt (z.drop n)).length := List.length_pos_iff.mpr fun e => d (by rw [e]; rfl)
      refine ⟨_, rfl, .inl ⟨rfl, _, SqL.of hp⟩, _, rfl, p, _, _, rfl, rfl, hp, ?_, ?_⟩
      · rw [List.length_map]; exact Nat.lt_of_le_of_lt (Nat.le_trans ha (Nat.le_trans hn hz)) (by decide)
      refine ⟨_, rfl, _, rfl, _, _, rfl, ⟨lenS (Nat.le_trans tl (by omega)), rfl⟩, _, _, rfl, rfl, z.length - (n + (tokAt (z.drop n)).length), by omega, n + (tokAt (z.drop n)).length, acc ++ [tokAt (z.drop n)], some (tv (tokAt (z.drop n))), rfl, by omega, by rw [List.length_append, List.length_singleton]; omega, ?_, ?_, ?_, ?_⟩
      · show [_, _, some (V.int ((n : Int) + ((S (tokAt (z.drop n))).length : Int))), _] = _
        rw [len_S, ← Int.natCast_add]
      · exact fun b o e => by rw [upd_ne (ne_of_none e np)]; exact sm b o e
      · rw [List.map_append]; exact upd_same
      · rw [ht, te, Option.map_map]
        congr 1
        funext x
        simp [Function.comp]
  · have c' : ¬ (n : Int) < ((S z).length : Int) := fun h => c (decide_eq_true h)
    rw [len_S] at c'
    have e : z.drop n = [] := List.drop_eq_nil_of_le (by omega)
    rw [e] at ht
    refine ⟨_, rfl, q1 acc (by rw [ht]; show some (acc ++ []) = _; rw [List.append_nil]) H2 p sm np hp⟩
end
end Pg
/-! Pg4 -/
set_option Elab.async false
set_option linter.all false
set_option maxRecDepth 100000
set_option maxHeartbeats 4000000
namespace Pg
open PySem L2 Mr
theorem mtext (b : Bool) : S (opn b) = (if b then ("max(" : Str) else "imax(") := by cases b <;> decide +kernel
theorem tok_eq {t g : Cs} {x : Str} (h : S g = x) : decide (V.str (S t) = V.str x) = decide (t = g) := by
  rw [← h]
  exact decide_eq_decide.mpr ⟨fun e => by injection e with e; exact S_inj.mp e, fun e => by rw [e]⟩
theorem xPlus : S cPlus = (" + " : Str) := by decide +kernel
theorem xSep : S cSep = (", " : Str) := by decide +kernel
theorem xEnd : S cEnd = (")" : Str) := by decide +kernel
def calls0 : List (Str × V) := [("max(", .str "max"), ("imax(", .str "imax")]
theorem look_max : Sx.lookD calls0 (S cMax) = some (.str (cName true)) := by decide +kernel
theorem look_imax : Sx.lookD calls0 (S cImax) = some (.str (cName false)) := by decide +kernel
theorem look_other {t : Cs} (h1 : t ≠ cMax) (h2 : t ≠ cImax) : Sx.lookD calls0 (S t) = none := by
  have e1 : S cMax = ("max(" : Str) := mtext true
  have e2 : S cImax = ("imax(" : Str) := mtext false
  unfold Sx.lookD calls0
  rw [List.find?_cons, ← e1, ← e2, decide_eq_false (fun e => h1 (S_inj.mp e).symm), List.find?_cons, decide_eq_false (fun e => h2 (S_inj.mp e).symm)]
  rfl
/-- the steps ss stand in tuples at as -/
def StepsAt (H : Hp) (as : List Addr) (ss : List Stp) : Prop := Paired (fun a s => H a = some (.tup (sv s))) as ss
theorem StepsAt.mono {H H' : Hp} : ∀ {as : List Addr} {ss : List Stp}, StepsAt H as ss → (∀ a xs, H a = some (.tup xs) → H' a = some (.tup xs)) → StepsAt H' as ss
  | _, _, .nil, _ => .nil
  | _, _, .cons h r, k => .cons (k _ _ h) (StepsAt.mono r k)
theorem StepsAt.snoc {H : Hp} {a : Addr} {s : Stp} (h : H a = some (.tup (sv s))) : ∀ {as : List Addr} {ss : List Stp}, StepsAt H as ss → StepsAt H (as ++ [a]) (ss ++ [s])
  | _, _, .nil => .cons h .nil
  | _, _, .cons g r => .cons g (StepsAt.snoc h r)
theorem StepsAt.len {H : Hp} {as : List Addr} {ss : List Stp} (h : StepsAt H as ss) : as.length = ss.length := Paired.length h
/-- what stands before a turn of the loop -/
structure Sr (K : PySem.W.Frag) (H0 : Hp) (ts : List Cs) (pT p1 p2 p3 : Addr) (v0 : V) (i : Nat) (σ : L2.St) (H : Hp) (p : PSt) (as : List Addr) : Prop where
  sm : Same H0 H
  run : parse ⟨[], [], .level⟩ (ts.take i) = some p
  hT : H pT = some (.lst (ts.map tv))
  h1 : H p1 = some (.lst (as.map V.ref))
  h2 : H p2 = some (.lst (p.st.reverse.map fun x => .str (cName x.1)))
  h3 : H p3 = some (.lst (p.st.reverse.map fun x => .int x.2))
  st : StepsAt H as p.ss
  l1 : p.ss.length ≤ i
  l2 : p.st.length ≤ i
  sl : ∃ u l, σ = [some v0, some (.ref pT), some (.ref p1), some (.ref p2), some (.ref p3), some (.str (wName p.w)), u, l]
theorem parse_none {q : PSt} {ts : List Cs} {i : Nat} {t : Cs} {p : PSt} (h : parse q (ts.take i) = some p) (ht : ts[i]? = some t) (hn : turn p t = none) : parse q ts = none := by
  have lt := (List.getElem?_eq_some_iff.mp ht).1
  have e : ts = ts.take i ++ t :: ts.drop (i + 1) := by
    have := (List.getElem?_eq_some_iff.mp ht).2
    rw [← this, ← List.drop_eq_getElem_cons lt, List.take_append_drop]
  rw [e, parse_append, h]
  show parse p (t :: _) = none
  unfold parse
  rw [hn]
theorem parse_more {q : PSt} {ts : List Cs} {i : Nat} {t : Cs} {p r : PSt} (h : parse q (ts.take i) = some p) (ht : ts[i]? = some t) (hn : turn p t = some r) : parse q (ts.take (i + 1)) = some r := by
  have lt := (List.getElem?_eq_some_iff.mp ht).1
  have e : ts.take (i + 1) = ts.take i ++ [t] := by rw [List.take_succ, ht]; rfl
  rw [e, parse_append, h]
  show parse p [t] = _
  rw [parse_step hn]
  rfl
theorem upd_none {H : Hp} {p q : Addr} {o : HO} (h : upd H p o q = none) : q ≠ p ∧ H q = none := by
  by_cases e : q = p
  · rw [e, upd_same] at h; cases h
  · rw [upd_ne e] at h; exact ⟨e, h⟩
theorem tup_keep {H : Hp} {p : Addr} {xs ys : List V} (h : H p = some (.lst xs)) : ∀ a zs, H a = some (.tup zs) → upd H p (.lst ys) a = some (.tup zs) := fun a zs e => by
  rw [upd_ne (ne_of e h (by intro z; cases z))]; exact e
theorem same_mut {H0 H : Hp} {p : Addr} {o : HO} (s : Same H0 H) (n : H0 p = none) : Same H0 (upd H p o) := fun b u e => by
  rw [upd_ne (ne_of_none e n)]; exact s b u e
theorem big {n : Nat} (h : n ≤ 100000) : n < sizeLine := Nat.lt_of_le_of_lt h (by decide)
/-- three lists that stand apart -/
structure Apart (H0 : Hp) (pT p1 p2 p3 : Addr) : Prop where
  n1 : H0 p1 = none
  n2 : H0 p2 = none
  n3 : H0 p3 = none
  t1 : pT ≠ p1
  t2 : pT ≠ p2
  t3 : pT ≠ p3
  d12 : p1 ≠ p2
  d13 : p1 ≠ p3
  d23 : p2 ≠ p3
theorem Sr.same {K : PySem.W.Frag} {H0 H H' : Hp} {ts : List Cs} {pT p1 p2 p3 : Addr} {v0 : V} {i : Nat} {σ : L2.St} {p : PSt} {as : List Addr} (R : Sr K H0 ts pT p1 p2 p3 v0 i σ H p as) (s : Same H H') {σ' : L2.St}
    (sl : ∃ u l, σ' = [some v0, some (.ref pT), some (.ref p1), some (.ref p2), some (.ref p3), some (.str (wName p.w)), u, l]) : Sr K H0 ts pT p1 p2 p3 v0 i σ' H' p as :=
  ⟨R.sm.trans s, R.run, s _ _ R.hT, s _ _ R.h1, s _ _ R.h2, s _ _ R.h3, R.st.mono fun a xs e => s a _ e, R.l1, R.l2, sl⟩
section
variable {P : Program} {w : World} {K : PySem.W.Frag} {mg : Str → Option Value} {base : Heap} {pS pC : Addr}
/-! ### steps_of -/
def spSteps (K : PySem.W.Frag) : Sp := fun vs H Q _ => ∃ v : V, vs = [v] ∧
  ((∃ z : Cs, v = tv z ∧ z.length ≤ 100000 ∧ (stepsOf z = none → ∀ H', Same H H' → Q .non H') ∧ ∀ ss, stepsOf z = some ss → ss.length ≤ z.length → ∀ H' p as, Same H H' → H' p = some (.tup (as.map V.ref)) → StepsAt H' as ss → Q (.ref p) H') ∨
   (∃ ty : String, TyX K H v (.type ty) ∧ kitB ty "str" = some false ∧ ∀ H', Same H H' → Q .non H'))
theorem sc_steps : FnScope ["thing", "tokens", "steps", "calls", "counts", "wanted", "token", "leaf"] ["thing"] (defScope st_steps_of) := ⟨rfl, rfl, rfl, by decide +kernel, rfl, by decide +kernel, by decide +kernel⟩
theorem ok_steps {f fT fL fF : Addr} {fd fdT fdL fdF : FuncData} (F : Fun K "steps_of" "steps_of" st_steps_of f fd) (T : Tx K w mg pS pC)
    (GT : FnOk P w K mg base CX0 2 fT fdT ["text"] spToks) (bT : Binds K fdT ["text"] []) (kT : PySem.W.keepIn K (.ref fT) = true) (mT : mg "tokens_of" = some (.ref fT))
    (GL : FnOk P w K mg base CX0 2 fL fdL ["token", "wanted"] spLeaf) (bL : Binds K fdL ["token", "wanted"] []) (kL : PySem.W.keepIn K (.ref fL) = true) (mL : mg "_leaf" = some (.ref fL))
    (GF : FnOk P w K mg base CX0 1 fF fdF ["call", "count"] spFull) (bF : Binds K fdF ["call", "count"] []) (kF : PySem.W.keepIn K (.ref fF) = true) (mF : mg "_is_full" = some (.ref fF)) :
    FnOk P w K mg base CX0 3 f fd ["thing"] (spSteps K) := by
  refine F.ok sc_steps (fun vs H Q E h => ?_) (fun cdv A outer s H vs Q E hr h => ?_)
  · obtain ⟨v, rfl, _⟩ := h
    rfl
  obtain ⟨v, rfl, hv⟩ := h
  have hr1 : Room 1 _ := hr.mono (by decide)
  have nd := sc_steps.nd
  refine ⟨_, pss_cons (ps_set (i := 1) nd rfl (.inl rfl) (pe_ifExp (pt_val (pe_callB call_isi (by rfl) T.isi (by decide +kernel) (pa_cons (pv 0) (pa_cons (pe_bltn (v := .ty "str") (by rfl) T.str (by decide +kernel) rfl) pa_nil))))
        (pe_call GT hr rfl mT kT bT .nil pass0 (pa_cons (pv 0) pa_nil)) pe_non))
    (pss_cons (ps_if (pt_cmpR op_isN (pv 1) pe_non (nomark _)) (pss_one (ps_ret pe_non)) pss_nil)
    (pss_cons (ps_asg (pe_tup (pa_cons (pe_lst pa_nil) (pa_cons (pe_lst pa_nil) (pa_cons (pe_lst pa_nil) (pa_cons pe_str pa_nil)))))
        (pg_tup rfl (pgs_cons (pg_name (i := 2) nd rfl (.inl rfl)) (pgs_cons (pg_name (i := 3) nd rfl (.inl rfl)) (pgs_cons (pg_name (i := 4) nd rfl (.inl rfl)) (pgs_cons (pg_name (i := 5) nd rfl (.inl rfl)) pgs_nil))))))
    (pss_cons (ps_for PassesOwn.never rfl (pi_list (pv 1)) (pg_name (i := 6) nd rfl (.inl rfl))
      (pss_cons (ps_set (i := 7) nd rfl (.inl rfl) (pe_call GL hr rfl mL kL bL .nil pass0 (pa_cons (pv 6) (pa_cons (pv 5) pa_nil))))
      (pss_one (ps_if (pt_cmpR op_notN (pv 7) pe_non (nomark _))
        (pss_cons (ps_expr (pe_bm PySem.F.plainAttrs_list PySem.F.slot_list_append PySem.F.type_list_append mt_append (pv 2) (pa_cons (pv 7) pa_nil))) (pss_one (ps_set (i := 5) nd rfl (.inl rfl) pe_str)))
      (pss_one (ps_if (PW.pt (pw_and (pt_cmpR op_eq (pv 5) pe_str (nomark _)) (pw_and1 (pt_cmpR Sx.op_inKD (pv 6) (pe_glob (v := .ref pC) (by rfl) T.mC rfl) rfl))))
        (pss_cons (ps_expr (pe_bm PySem.F.plainAttrs_list PySem.F.slot_list_append PySem.F.type_list_append mt_append (pv 3) (pa_cons (pe_ix Sx.ix_KD (pe_glob (v := .ref pC) (by rfl) T.mC rfl) (pv 6) (fun _ _ => rfl)) pa_nil)))
          (pss_one (ps_expr (pe_bm PySem.F.plainAttrs_list PySem.F.slot_list_append PySem.F.type_list_append mt_append (pv 4) (pa_cons pe_int pa_nil)))))
      (pss_one (ps_if (PW.pt (pw_and (pt_cmpR op_eq (pv 5) pe_str (nomark _)) (pw_and1 (pt_cmpR op_eq (pv 6) pe_str (nomark _))))) (pss_one (ps_set (i := 5) nd rfl (.inl rfl) pe_str))
      (pss_one (ps_if (PW.pt (pw_and (pt_cmpR op_eq (pv 5) pe_str (nomark _)) (pw_and (pt_cmpR op_eq (pv 6) pe_str (nomark _)) (pw_and1 (pt_truth (pv 3) (by intro _; rfl))))))
        (pss_cons (ps_augS (pv 4) (pe_un un_neg pe_int) Sx.pget_list pe_int ip_add set_list) (pss_one (ps_set (i := 5) nd rfl (.inl rfl) pe_str)))
      (pss_one (ps_if (PW.pt (pw_and (pt_cmpR op_eq (pv 5) pe_str (nomark _)) (pw_and (pt_cmpR op_eq (pv 6) pe_str (nomark _)) (pw_and (pt_truth (pv 3) (by intro _; rfl))
          (pw_and1 (pt_val (pe_call GF hr1 rfl mF kF bF .nil pass0 (pa_cons (pe_ix ix_list (pv 3) (pe_un un_neg pe_int) (fun _ _ => rfl)) (pa_cons (pe_ix ix_list (pv 4) (pe_un un_neg pe_int) (fun _ _ => rfl)) pa_nil)))))))))
        (pss_one (ps_expr (pe_bm PySem.F.plainAttrs_list PySem.F.slot_list_append PySem.F.type_list_append mt_append (pv 2)
          (pa_cons (pe_tup (pa_cons (pe_bm0 PySem.F.plainAttrs_list PySem.F.slot_list_pop PySem.F.type_list_pop mt_pop (pv 3)) (pa_cons (pe_bm0 PySem.F.plainAttrs_list PySem.F.slot_list_pop PySem.F.type_list_pop mt_pop (pv 4)) pa_nil))) pa_nil))))
        (pss_one (ps_ret pe_non))))))))))))))
    (pss_one (ps_ret (pe_ifExp (PW.pt (pw_and (pt_cmpR op_eq (pv 5) pe_str (nomark _)) (pw_and1 (pt_not (pt_truth (pv 3) (by intro _; rfl)))))) (pe_callTy call_tuple_of (by rfl) T.tup (by decide +kernel) (pa_cons (pv 2) pa_nil)) pe_non)))))), ?_⟩
  rcases hv with ⟨z, rfl, hz, q0, q1⟩ | ⟨ty, hty, hk, q0⟩
  case inr =>
    refine ⟨_, rfl, _, _, _, _, false, rfl, .ty "str", hty, kit_ty hk, _, rfl, iteF ⟨_, rfl, rfl, _, rfl, iteT (q0 H (Same.refl H))⟩⟩
  refine ⟨_, rfl, _, _, _, _, true, rfl, .ty "str", .base (.str _), kit_ty (by decide +kernel), _, rfl, iteT ⟨_, rfl, z, rfl, hz, fun hn H1 s1 => ?_, fun ts hts H1 pT s1 nT hT => ?_⟩⟩
  · exact ⟨_, rfl, rfl, _, rfl, iteT (q0 (by unfold stepsOf; rw [hn]; rfl) H1 s1)⟩
  have e0 : stepsOf z = stepsT ts := by unfold stepsOf; rw [hts]; rfl
  obtain ⟨tl1, tl2⟩ := toks_small _ _ _ hts
  refine ⟨_, rfl, rfl, _, rfl, iteF ⟨Nat.zero_le _, fun p1 n1 => ⟨Nat.zero_le _, fun p2 n2 => ⟨Nat.zero_le _, fun p3 n3 => ⟨(by show 4 ≤ sizeLine; decide), fun pt nt => ⟨pt, _, rfl, SqT.of upd_same, rfl, _, _, rfl, _, _, rfl, _, _, rfl, _, _, rfl, rfl, ?_⟩⟩⟩⟩⟩⟩
  obtain ⟨a12, m2⟩ := upd_none n2
  obtain ⟨a23, m3⟩ := upd_none n3
  obtain ⟨a13, m3⟩ := upd_none m3
  have ap : Apart H pT p1 p2 p3 := ⟨s1.free n1, s1.free m2, s1.free m3, ne_of_none hT n1, ne_of_none hT m2, ne_of_none hT m3, Ne.symm a12, Ne.symm a13, Ne.symm a23⟩
  have hend : ∀ H', Same H H' → stepsT ts = none → Q .non H' := fun H' s' e => q0 (by rw [e0, e]) H' s'
  have sm5 := (((s1.trans (same_new n1 (.lst []))).trans (same_new n2 (.lst []))).trans (same_new n3 (.lst []))).trans (same_new nt (.tup [V.ref p1, V.ref p2, V.ref p3, V.str ("level" : Str)]))
  have keep5 := same_new nt (.tup [V.ref p1, V.ref p2, V.ref p3, V.str ("level" : Str)])
  have hT5 := keep5 pT _ (show upd (upd (upd H1 p1 (.lst [])) p2 (.lst [])) p3 (.lst []) pT = some (.lst (ts.map tv)) by rw [upd_ne ap.t3, upd_ne ap.t2, upd_ne ap.t1]; exact hT)
  have h15 := keep5 p1 _ (show upd (upd (upd H1 p1 (.lst [])) p2 (.lst [])) p3 (.lst []) p1 = some (.lst []) by rw [upd_ne ap.d13, upd_ne ap.d12]; exact upd_same)
  have h25 := keep5 p2 _ (show upd (upd (upd H1 p1 (.lst [])) p2 (.lst [])) p3 (.lst []) p2 = some (.lst []) by rw [upd_ne ap.d23]; exact upd_same)
  have h35 := keep5 p3 _ (show upd (upd (upd H1 p1 (.lst [])) p2 (.lst [])) p3 (.lst []) p3 = some (.lst []) from upd_same)
  refine ⟨_, rfl, pT, rfl, ⟨ts.map tv, SqL.of hT5⟩, for_list (K := K) (a := pT) (xs := ts.map tv) (fun i σ H' => ∃ p as, Sr K H ts pT p1 p2 p3 (tv z) i σ H' p as)
    ⟨⟨[], [], .level⟩, [], ⟨sm5, rfl, hT5, h15, h25, h35, .nil, Nat.le_refl _, Nat.le_refl _, ⟨_, _, rfl⟩⟩⟩ (fun i σ H' _ ⟨p, as, R⟩ => SqL.of R.hT) ?turn ?after⟩
  case turn =>
    rintro i x σ H' hi ⟨p, as, R⟩
    obtain ⟨t, ht, rfl⟩ : ∃ t, ts[i]? = some t ∧ x = tv t := by
      rw [List.getElem?_map] at hi
      cases e : ts[i]? with
      | none => rw [e] at hi; cases hi
      | some t => rw [e] at hi; exact ⟨t, rfl, (Option.some.inj hi).symm⟩
    have hi' : i < ts.length := (List.getElem?_eq_some_iff.mp ht).1
    have tlen : t.length ≤ 100000 := Nat.le_trans (tl2 t (List.mem_of_getElem? ht)) hz
    have ilen : i ≤ 100000 := by omega
    obtain ⟨u, l0, rfl⟩ := R.sl
    obtain ⟨ss, st, x⟩ := p
    refine ⟨_, rfl, _, rfl, t, x, rfl, tlen, num_text, fun hn H2 s2 => ?_, fun l hl H2 pl s2 hpl => ?_⟩
    case refine_2 =>
      have R2 := R.same s2 (σ' := [some (tv z), some (.ref pT), some (.ref p1), some (.ref p2), some (.ref p3), some (.str (wName x)), some (tv t), some (.ref pl)]) ⟨_, _, rfl⟩
      refine ⟨_, rfl, rfl, _, rfl, iteT ⟨_, rfl, .inl ⟨rfl, _, SqL.of R2.h1⟩, _, rfl, p1, _, _, rfl, rfl, R2.h1, big (by rw [List.length_map, R2.st.len]; exact Nat.le_trans R2.l1 ilen), ?_⟩⟩
      refine ⟨⟨ss ++ [l], st, .sign⟩, as ++ [pl], same_mut R2.sm ap.n1, parse_more R.run ht (turn_leaf hl), by rw [upd_ne ap.t1]; exact R2.hT, by rw [List.map_append]; exact upd_same, by rw [upd_ne ap.d12.symm]; exact R2.h2, by rw [upd_ne ap.d13.symm]; exact R2.h3,
        (StepsAt.snoc hpl R2.st).mono (tup_keep R2.h1), by rw [List.length_append, List.length_singleton]; exact Nat.succ_le_succ R2.l1, Nat.le_succ_of_le R2.l2, ⟨_, _, rfl⟩⟩
    have R2 := R.same s2 (σ' := [some (tv z), some (.ref pT), some (.ref p1), some (.ref p2), some (.ref p3), some (.str (wName x)), some (tv t), some .non]) ⟨_, _, rfl⟩
    have stop : turn ⟨ss, st, x⟩ t = none → Q .non H2 := fun e => hend H2 R2.sm (by unfold stepsT; rw [parse_none R.run ht e]; rfl)
    refine ⟨_, rfl, rfl, _, rfl, iteF ⟨_, rfl, rfl, _, rfl, ?_⟩⟩
    rw [w_level]
    cases x with
    | number =>
      have hstop : turn ⟨ss, st, .number⟩ t = none := by unfold turn; rw [hn]; rfl
      refine iteF ⟨_, rfl, rfl, _, rfl, ?_⟩
      rw [w_sign]
      refine iteF ⟨_, rfl, rfl, _, rfl, ?_⟩
      rw [w_sign]
      refine iteF ⟨_, rfl, rfl, _, rfl, ?_⟩
      rw [w_sign]
      exact iteF (stop hstop)
    | level =>
      refine iteT ⟨_, rfl, pC, S t, calls0, rfl, rfl, T.tC, _, rfl, ?_⟩
      -- a bracket opens
      have opens : ∀ b : Bool, t = opn b → Sx.lookD calls0 (S t) = some (.str (cName b)) → ∃ p as, Sr K H ts pT p1 p2 p3 (tv z) (i + 1) [some (tv z), some (.ref pT), some (.ref p1), some (.ref p2), some (.ref p3), some (.str (wName .level)), some (tv t), some .non]
          (upd (upd H2 p2 (.lst ((st.reverse.map fun x => V.str (cName x.1)) ++ [.str (cName b)]))) p3 (.lst ((st.reverse.map fun x => V.int x.2) ++ [.int 1]))) p as := fun b eb _ => by
        have e2 : upd H2 p2 (.lst ((st.reverse.map fun x => V.str (cName x.1)) ++ [.str (cName b)])) p3 = some (.lst (st.reverse.map fun x => V.int x.2)) := by rw [upd_ne ap.d23.symm]; exact R2.h3
        refine ⟨⟨ss, (b, 1) :: st, .level⟩, as, same_mut (same_mut R2.sm ap.n2) ap.n3, parse_more R.run ht (by rw [eb]; exact turn_opn ss b st), by rw [upd_ne ap.t3, upd_ne ap.t2]; exact R2.hT, by rw [upd_ne ap.d13, upd_ne ap.d12]; exact R2.h1, ?_, ?_,
          (R2.st.mono (tup_keep R2.h2)).mono (tup_keep e2), Nat.le_succ_of_le R2.l1, Nat.succ_le_succ R2.l2, ⟨_, _, rfl⟩⟩
        · rw [upd_ne ap.d23, upd_same, List.reverse_cons, List.map_append]; rfl
        · rw [upd_same, List.reverse_cons, List.map_append]; rfl
      by_cases c1 : t = cMax
      · have lk : Sx.lookD calls0 (S t) = some (.str (cName true)) := by rw [c1]; exact look_max
        rw [lk]
        refine iteT ⟨_, rfl, .inl ⟨rfl, _, SqL.of R2.h2⟩, _, rfl, pC, S t, calls0, _, rfl, rfl, T.tC, lk, p2, _, _, rfl, rfl, R2.h2, big (by rw [List.length_map, List.length_reverse]; exact Nat.le_trans R2.l2 ilen), ?_⟩
        have e2 : upd H2 p2 (.lst ((st.reverse.map fun x => V.str (cName x.1)) ++ [.str (cName true)])) p3 = some (.lst (st.reverse.map fun x => V.int x.2)) := by rw [upd_ne ap.d23.symm]; exact R2.h3
        exact ⟨_, rfl, .inl ⟨rfl, _, SqL.of e2⟩, p3, _, _, rfl, rfl, e2, big (by rw [List.length_map, List.length_reverse]; exact Nat.le_trans R2.l2 ilen), opens true c1 lk⟩
      by_cases c2 : t = cImax
      · have lk : Sx.lookD calls0 (S t) = some (.str (cName false)) := by rw [c2]; exact look_imax
        rw [lk]
        refine iteT ⟨_, rfl, .inl ⟨rfl, _, SqL.of R2.h2⟩, _, rfl, pC, S t, calls0, _, rfl, rfl, T.tC, lk, p2, _, _, rfl, rfl, R2.h2, big (by rw [List.length_map, List.length_reverse]; exact Nat.le_trans R2.l2 ilen), ?_⟩
        have e2 : upd H2 p2 (.lst ((st.reverse.map fun x => V.str (cName x.1)) ++ [.str (cName false)])) p3 = some (.lst (st.reverse.map fun x => V.int x.2)) := by rw [upd_ne ap.d23.symm]; exact R2.h3
        exact ⟨_, rfl, .inl ⟨rfl, _, SqL.of e2⟩, p3, _, _, rfl, rfl, e2, big (by rw [List.length_map, List.length_reverse]; exact Nat.le_trans R2.l2 ilen), opens false c2 lk⟩
      have hstop : turn ⟨ss, st, .level⟩ t = none := by
        unfold turn; rw [hn]
        simp only [c1, c2, decide_false, Bool.and_false, Bool.false_eq_true, if_false, show (W.level = W.sign) = False from eq_false (fun h => by cases h), Bool.false_and]
      rw [look_other c1 c2]
      refine iteF ⟨_, rfl, rfl, _, rfl, ?_⟩
      rw [w_sign]
      refine iteF ⟨_, rfl, rfl, _, rfl, ?_⟩
      rw [w_sign]
      refine iteF ⟨_, rfl, rfl, _, rfl, ?_⟩
      rw [w_sign]
      exact iteF (stop hstop)
    | sign =>
      refine iteF ⟨_, rfl, rfl, _, rfl, ?_⟩
      rw [w_sign]
      refine iteT ⟨_, rfl, rfl, _, rfl, ?_⟩
      rw [tok_eq xPlus]
      by_cases c1 : t = cPlus
      · rw [decide_eq_true c1]
        refine iteT ⟨⟨ss, st, .number⟩, as, R2.sm, parse_more R.run ht (by rw [c1]; exact turn_plus ss st), R2.hT, R2.h1, R2.h2, R2.h3, R2.st, Nat.le_succ_of_le R2.l1, Nat.le_succ_of_le R2.l2, ⟨_, _, rfl⟩⟩
      rw [decide_eq_false c1]
      refine iteF ⟨_, rfl, rfl, _, rfl, ?_⟩
      rw [w_sign]
      refine iteT ⟨_, rfl, rfl, _, rfl, ?_⟩
      rw [tok_eq xSep]
      by_cases c2 : t = cSep
      · rw [decide_eq_true c2]
        refine iteT ⟨_, rfl, _, .inl ⟨_, SqL.of R2.h2, rfl⟩, ?_⟩
        match st, R, R2, stop with
        | [], R, R2, stop =>
          refine iteF ⟨_, rfl, rfl, _, rfl, ?_⟩
          rw [w_sign]
          refine iteT ⟨_, rfl, rfl, _, rfl, ?_⟩
          rw [tok_eq xEnd, decide_eq_false (by rw [c2]; decide)]
          refine iteF (stop ?_)
          unfold turn; rw [hn, c2]; rfl
        | (b, n) :: r, R, R2, stop =>
          have g3 : H2 p3 = some (.lst ((r.reverse.map fun x => V.int x.2) ++ [V.int n])) := by have := R2.h3; rw [List.reverse_cons, List.map_append] at this; exact this
          have ne2 : (!(List.map (fun x : Bool × Int => V.str (cName x.1)) (PSt.mk ss ((b, n) :: r) W.sign).st.reverse).isEmpty) = true := by
            rw [List.reverse_cons, List.map_append]
            cases List.map (fun x : Bool × Int => V.str (cName x.1)) r.reverse <;> rfl
          rw [ne2]
          have e4 : ((r.reverse.map fun x => V.int x.2) ++ [V.int n]).set (r.reverse.map fun x => V.int x.2).length (.int (n + 1)) = (r.reverse.map fun x => V.int x.2) ++ [V.int (n + 1)] := by
            rw [List.set_append_right _ _ (Nat.le_refl _), Nat.sub_self]; rfl
          have e5 : ixN ((r.reverse.map fun x => V.int x.2) ++ [V.int n]).length (-1) = some (r.reverse.map fun x => V.int x.2).length := by
            unfold ixN
            rw [if_neg (by decide), if_pos (by rw [List.length_append, List.length_singleton]; omega), List.length_append, List.length_singleton]
            congr 1
            omega
          refine iteT ⟨_, rfl, _, rfl, p3, _, _, _, rfl, rfl, SqL.of g3, atI_last _ _, _, _, rfl, rfl, p3, _, _, _, rfl, rfl, g3, e5, ?_⟩
          rw [e4]
          refine ⟨⟨ss, (b, n + 1) :: r, .level⟩, as, same_mut R2.sm ap.n3, parse_more R.run ht (by rw [c2]; exact turn_sep ss b n r), by rw [upd_ne ap.t3]; exact R2.hT, by rw [upd_ne ap.d13]; exact R2.h1, by rw [upd_ne ap.d23, R2.h2]; simp only [List.reverse_cons, List.map_append, List.map_cons, List.map_nil], ?_, R2.st.mono (tup_keep g3), Nat.le_succ_of_le R2.l1, Nat.le_succ_of_le R2.l2, ⟨_, _, rfl⟩⟩
          rw [upd_same, List.reverse_cons, List.map_append]; rfl
      rw [decide_eq_false c2]
      refine iteF ⟨_, rfl, rfl, _, rfl, ?_⟩
      rw [w_sign]
      refine iteT ⟨_, rfl, rfl, _, rfl, ?_⟩
      rw [tok_eq xEnd]
      by_cases c3 : t = cEnd
      · rw [decide_eq_true c3]
        refine iteT ⟨_, rfl, _, .inl ⟨_, SqL.of R2.h2, rfl⟩, ?_⟩
        match st, R, R2, stop with
        | [], R, R2, stop =>
          refine iteF (stop ?_)
          unfold turn; rw [hn, c3]; rfl
        | (b, n) :: r, R, R2, stop =>
          have g2 : H2 p2 = some (.lst ((r.reverse.map fun x => V.str (cName x.1)) ++ [V.str (cName b)])) := by have := R2.h2; rw [List.reverse_cons, List.map_append] at this; exact this
          have g3 : H2 p3 = some (.lst ((r.reverse.map fun x => V.int x.2) ++ [V.int n])) := by have := R2.h3; rw [List.reverse_cons, List.map_append] at this; exact this
          have ne2 : (!(List.map (fun x : Bool × Int => V.str (cName x.1)) (PSt.mk ss ((b, n) :: r) W.sign).st.reverse).isEmpty) = true := by
            rw [List.reverse_cons, List.map_append]
            cases List.map (fun x : Bool × Int => V.str (cName x.1)) r.reverse <;> rfl
          rw [ne2]
          refine iteT ⟨_, rfl, _, rfl, p2, _, _, _, rfl, rfl, SqL.of g2, atI_last _ _, _, rfl, _, rfl, p3, _, _, _, rfl, rfl, SqL.of g3, atI_last _ _, b, n, rfl, _, rfl, ite2 (fun d => ?_) (fun d => ?_)⟩
          · have last : ∀ (xs : List V) (y : V), (xs ++ [y])[(xs ++ [y]).length - 1]? = some y := fun xs y => by simp
            have g3' : upd H2 p2 (.lst ((r.reverse.map fun x => V.str (cName x.1)) ++ [V.str (cName b)]).dropLast) p3 = some (.lst ((r.reverse.map fun x => V.int x.2) ++ [V.int n])) := by rw [upd_ne ap.d23.symm]; exact g3
            have h1'' : upd (upd H2 p2 (.lst ((r.reverse.map fun x => V.str (cName x.1)) ++ [V.str (cName b)]).dropLast)) p3 (.lst ((r.reverse.map fun x => V.int x.2) ++ [V.int n]).dropLast) p1 = some (.lst (as.map V.ref)) := by
              rw [upd_ne ap.d13, upd_ne ap.d12]; exact R2.h1
            refine ⟨_, rfl, .inl ⟨rfl, _, SqL.of R2.h1⟩, _, rfl, .inl ⟨rfl, _, SqL.of g2⟩, p2, _, _, rfl, rfl, g2, last _ _, _, rfl, .inl ⟨rfl, _, SqL.of g3'⟩, p3, _, _, rfl, rfl, g3', last _ _, (by show 2 ≤ sizeLine; decide), fun pl nl => ?_⟩
            have h1p := same_new nl (.tup [V.str (cName b), V.int n]) p1 _ h1''
            refine ⟨p1, _, _, rfl, rfl, h1p, big (by rw [List.length_map, R2.st.len]; exact Nat.le_trans R2.l1 ilen), ?_⟩
            have k3 := same_new nl (.tup [V.str (cName b), V.int n])
            have st1 : StepsAt (upd (upd (upd H2 p2 (.lst ((r.reverse.map fun x => V.str (cName x.1)) ++ [V.str (cName b)]).dropLast)) p3 (.lst ((r.reverse.map fun x => V.int x.2) ++ [V.int n]).dropLast)) pl (.tup [V.str (cName b), V.int n])) as ss :=
              (((R2.st.mono (tup_keep g2)).mono (tup_keep g3')).mono fun a xs e => k3 a _ e)
            refine ⟨⟨ss ++ [.call b n], r, .sign⟩, as ++ [pl], same_mut ((same_mut (same_mut R2.sm ap.n2) ap.n3).trans k3) ap.n1, parse_more R.run ht (by rw [c3]; exact turn_end ss b n r d), ?_, by rw [List.map_append]; exact upd_same, ?_, ?_,
              (StepsAt.snoc (s := .call b n) (a := pl) (by exact upd_same) st1).mono (tup_keep h1p), by rw [List.length_append, List.length_singleton]; exact Nat.succ_le_succ R2.l1, Nat.le_trans (Nat.le_of_succ_le R2.l2) (Nat.le_succ _), ⟨_, _, rfl⟩⟩
            · rw [upd_ne ap.t1]
              exact k3 pT _ (by rw [upd_ne ap.t3, upd_ne ap.t2]; exact R2.hT)
            · rw [upd_ne ap.d12.symm]
              exact k3 p2 _ (by rw [upd_ne ap.d23, upd_same, List.dropLast_concat])
            · rw [upd_ne ap.d13.symm]
              exact k3 p3 _ (by rw [upd_same, List.dropLast_concat])
          · refine stop ?_
            unfold turn; rw [hn, c3]
            show (if full b n = true then _ else none) = none
            rw [if_neg d]
      rw [decide_eq_false c3]
      refine iteF (stop ?_)
      unfold turn; rw [hn]
      simp only [c1, c2, c3, decide_false, Bool.and_false, Bool.false_eq_true, if_false, show (W.sign = W.level) = False from eq_false (fun h => by cases h), Bool.false_and]
  case after =>
    rintro σ H' ⟨p, as, R⟩
    obtain ⟨u, l0, rfl⟩ := R.sl
    have run : parse ⟨[], [], .level⟩ ts = some p := by
      have := R.run
      rw [List.length_map, List.take_length] at this
      exact this
    have es : stepsT ts = ended p := by unfold stepsT; rw [run]; rfl
    obtain ⟨ss, st, x⟩ := p
    refine ⟨_, rfl, rfl, _, rfl, ?_⟩
    rw [w_sign]
    cases x with
    | level => exact iteF (iteF (hend H' R.sm (by rw [es]; rfl)))
    | number => exact iteF (iteF (hend H' R.sm (by rw [es]; rfl)))
    | sign =>
      match st, R, es with
      | [], R, es =>
        refine iteT ⟨_, rfl, false, .inl ⟨_, SqL.of R.h2, rfl⟩, iteT ⟨_, rfl, p1, _, rfl, .inl ⟨SqL.of R.h1, fun l hl => ?_⟩⟩⟩
        have k := same_new hl (.tup (as.map V.ref))
        exact q1 ss (by rw [e0, es]; rfl) (by have := R.l1; rw [List.length_map] at this; exact Nat.le_trans this tl1) _ l as (R.sm.trans k) upd_same (R.st.mono fun a xs e => k a _ e)
      | (b, n) :: r, R, es =>
        refine iteT ⟨_, rfl, true, .inl ⟨_, SqL.of R.h2, ?_⟩, iteF (hend H' R.sm (by rw [es]; rfl))⟩
        rw [List.reverse_cons, List.map_append]
        cases List.map (fun x : Bool × Int => V.str (cName x.1)) r.reverse <;> rfl
end
end Pg
/-! Mw -/
set_option Elab.async false
set_option linter.all false
set_option maxRecDepth 100000
set_option maxHeartbeats 2000000
namespace Mr
open PySem
/-! what a level is worth -/
def maxL : List Int → Int
  | [] => 0
  | x :: r => r.foldl max x
theorem foldl_max : ∀ (r : List Int) (x : Int), (r.foldl max x = x ∨ r.foldl max x ∈ r) ∧ x ≤ r.foldl max x ∧ ∀ y ∈ r, y ≤ r.foldl max x
  | [], x => ⟨.inl rfl, Int.le_refl _, fun _ h => absurd h List.not_mem_nil⟩
  | a :: r, x => by
    obtain ⟨h1, h2, h3⟩ := foldl_max r (max x a)
    rw [List.foldl_cons]
    refine ⟨?_, by omega, fun y hy => ?_⟩
    · rcases h1 with h | h
      · by_cases c : x ≤ a
        · refine .inr (List.mem_cons.mpr (.inl ?_)); rw [h]; omega
        · refine .inl ?_; rw [h]; omega
      · exact .inr (List.mem_cons_of_mem _ h)
    · rcases List.mem_cons.mp hy with rfl | hy
      · omega
      · exact h3 y hy
theorem maxL_of {l : List Int} {m : Int} (h : m ∈ l) (hm : ∀ y ∈ l, y ≤ m) : maxL l = m := by
  cases l with
  | nil => exact absurd h List.not_mem_nil
  | cons x r =>
    obtain ⟨h1, h2, h3⟩ := foldl_max r x
    show r.foldl max x = m
    have g1 : r.foldl max x ≤ m := by
      rcases h1 with e | e
      · rw [e]; exact hm x List.mem_cons_self
      · exact hm _ (List.mem_cons_of_mem _ e)
    have g2 : m ≤ r.foldl max x := by
      rcases List.mem_cons.mp h with rfl | h
      · exact h2
      · exact h3 m h
    omega
def callV (b : Bool) (vs : List Int) : Int := if (!b && decide (vs.getLast? = some 0)) = true then 0 else maxL vs
def T.val (f : Cs → Int) : T → Int
  | .num k => k
  | .nam s => f s
  | .plus t k => t.val f + k
  | .node b ts => callV b (ts.map fun t => t.val f)
def wstep (f : Cs → Int) (p : List Int) : Stp → Option (List Int)
  | .num k => some (p ++ [k])
  | .nam s => some (p ++ [f s])
  | .plus k => match p.getLast? with
    | some x => some (p.dropLast ++ [x + k])
    | none => none
  | .call b n => if 1 ≤ n ∧ n ≤ p.length then some (p.take (p.length - n.toNat) ++ [callV b (p.drop (p.length - n.toNat))]) else none
def wrun (f : Cs → Int) (p : List Int) : List Stp → Option (List Int)
  | [] => some p
  | s :: r => (wstep f p s).bind fun q => wrun f q r
theorem wrun_append (f : Cs → Int) : ∀ (a b : List Stp) (p : List Int), wrun f p (a ++ b) = (wrun f p a).bind fun q => wrun f q b
  | [], b, p => rfl
  | s :: a, b, p => by
    show (wstep f p s).bind (fun q => wrun f q (a ++ b)) = ((wstep f p s).bind fun q => wrun f q a).bind _
    cases wstep f p s with
    | none => rfl
    | some q => exact wrun_append f a b q
theorem wrun_one (f : Cs → Int) (p : List Int) (s : Stp) : wrun f p [s] = wstep f p s := by
  show (wstep f p s).bind (fun q => some q) = _
  cases wstep f p s <;> rfl
theorem wrun_flat (f : Cs → Int) : ∀ (l : List (List Stp × Int)) (p : List Int), (∀ x ∈ l, ∀ p, wrun f p x.1 = some (p ++ [x.2])) → wrun f p (l.map (·.1)).flatten = some (p ++ l.map (·.2))
  | [], p, _ => by show some p = _; simp
  | x :: l, p, h => by
    rw [List.map_cons, List.flatten_cons, wrun_append, h x List.mem_cons_self, Option.bind_some, wrun_flat f l _ fun y hy => h y (List.mem_cons_of_mem _ hy)]
    simp
theorem T.wrun (f : Cs → Int) : ∀ t : T, t.ok → ∀ p, Mr.wrun f p t.stp = some (p ++ [t.val f])
  | .num k, _, p => by rw [T.stp, wrun_one, T.val]; rfl
  | .nam s, _, p => by rw [T.stp, wrun_one, T.val]; rfl
  | .plus t k, h, p => by
    rw [T.ok] at h
    rw [T.stp, wrun_append, T.wrun f t h.1, Option.bind_some, wrun_one, T.val]
    show (match (p ++ [t.val f]).getLast? with | some x => some ((p ++ [t.val f]).dropLast ++ [x + (k : Int)]) | none => none) = _
    rw [List.getLast?_concat, List.dropLast_concat]
  | .node b ts, h, p => by
    rw [T.ok] at h
    have g := wrun_flat f (ts.map fun t => (t.stp, t.val f)) p fun x hx q => by
      obtain ⟨t, ht, rfl⟩ := List.mem_map.mp hx
      exact T.wrun f t (h.2 t ht) q
    rw [List.map_map, List.map_map] at g
    have g1 : Mr.wrun f p (ts.map fun t => t.stp).flatten = some (p ++ ts.map fun t => t.val f) := g
    rw [T.stp, wrun_append, g1, Option.bind_some, wrun_one, T.val]
    have l1 : 1 ≤ ts.length := by
      have := h.1
      cases ts with
      | nil => cases b <;> cases this
      | cons => simp
    have hl : (p ++ ts.map fun t => t.val f).length - ((ts.length : Int)).toNat = p.length := by rw [List.length_append, List.length_map]; omega
    show (if _ then _ else _) = _
    rw [if_pos (by rw [List.length_append, List.length_map]; omega), hl, List.take_left, List.drop_left]
theorem wrun_take (f : Cs → Int) {ss : List Stp} {r : List Int} (h : wrun f [] ss = some r) (i : Nat) : ∃ p, wrun f [] (ss.take i) = some p := by
  have e : ss = ss.take i ++ ss.drop i := (List.take_append_drop i ss).symm
  rw [e, wrun_append] at h
  cases q : wrun f [] (ss.take i) with
  | none => rw [q] at h; cases h
  | some p => exact ⟨p, rfl⟩
theorem wrun_next (f : Cs → Int) {ss : List Stp} {r p : List Int} {i : Nat} {s : Stp} (h : wrun f [] ss = some r) (hp : wrun f [] (ss.take i) = some p) (hs : ss[i]? = some s) : ∃ q, wstep f p s = some q ∧ wrun f [] (ss.take (i + 1)) = some q := by
  have e : ss.take (i + 1) = ss.take i ++ [s] := by rw [List.take_succ, hs]; rfl
  obtain ⟨q, hq⟩ := wrun_take f h (i + 1)
  rw [e, wrun_append, hp, Option.bind_some, wrun_one] at hq
  refine ⟨q, hq, ?_⟩
  rw [e, wrun_append, hp, Option.bind_some, wrun_one]
  exact hq
theorem wstep_plus {f : Cs → Int} {p q : List Int} {k : Int} (h : wstep f p (.plus k) = some q) : ∃ ys x, p = ys ++ [x] ∧ q = ys ++ [x + k] := by
  have h : (match p.getLast? with | some x => some (p.dropLast ++ [x + k]) | none => none) = some q := h
  cases e : p.getLast? with
  | none => rw [e] at h; cases h
  | some x =>
    rw [e] at h
    obtain ⟨ys, rfl⟩ := List.getLast?_eq_some_iff.mp e
    refine ⟨ys, x, rfl, ?_⟩
    have h : some ((ys ++ [x]).dropLast ++ [x + k]) = some q := h
    rw [List.dropLast_concat] at h
    exact (Option.some.inj h).symm
theorem wstep_call {f : Cs → Int} {p q : List Int} {b : Bool} {n : Int} (h : wstep f p (.call b n) = some q) : 1 ≤ n ∧ n ≤ p.length ∧ q = p.take (p.length - n.toNat) ++ [callV b (p.drop (p.length - n.toNat))] := by
  have h : (if 1 ≤ n ∧ n ≤ p.length then some (p.take (p.length - n.toNat) ++ [callV b (p.drop (p.length - n.toNat))]) else none) = some q := h
  by_cases c : 1 ≤ n ∧ n ≤ p.length
  · rw [if_pos c] at h; exact ⟨c.1, c.2, (Option.some.inj h).symm⟩
  · rw [if_neg c] at h; cases h
theorem wstep_len {f : Cs → Int} {p q : List Int} {s : Stp} (h : wstep f p s = some q) : q.length ≤ p.length + 1 := by
  cases s with
  | num k => cases h; simp
  | nam s => cases h; simp
  | plus k => obtain ⟨ys, x, rfl, rfl⟩ := wstep_plus h; rw [List.length_append, List.length_append]; simp only [List.length_singleton]; omega
  | call b n => obtain ⟨h1, h2, rfl⟩ := wstep_call h; rw [List.length_append, List.length_take]; simp only [List.length_singleton]; omega
theorem callV_true (ns : List Int) : callV true ns = maxL ns := rfl
theorem callV_false (ys : List Int) (y : Int) : callV false (ys ++ [y]) = if y = 0 then 0 else maxL (ys ++ [y]) := by
  unfold callV
  rw [List.getLast?_concat]
  by_cases c : y = 0
  · rw [if_pos c, c]; rfl
  · rw [if_neg c, if_neg (by simp [c])]
end Mr
/-! Pg5 -/
set_option Elab.async false
set_option linter.all false
set_option maxRecDepth 100000
set_option maxHeartbeats 4000000
namespace Pg
open PySem L2 Mr
theorem StepsAt.at {H : Hp} : ∀ {as : List Addr} {ss : List Stp} {i : Nat} {x : V}, StepsAt H as ss → (as.map V.ref)[i]? = some x → ∃ a s, x = .ref a ∧ ss[i]? = some s ∧ H a = some (.tup (sv s))
  | _, _, _, _, .nil, h => by cases h
  | a :: as, s :: ss, 0, x, .cons h r, e => by cases e; exact ⟨a, s, rfl, rfl, h⟩
  | a :: as, s :: ss, i + 1, x, .cons h r, e => StepsAt.at (as := as) (ss := ss) (i := i) r e
theorem StepsAt.same {H H' : Hp} {as : List Addr} {ss : List Stp} (h : StepsAt H as ss) (s : Same H H') : StepsAt H' as ss := h.mono fun a _ e => s a _ e
theorem Same.tup {K : PySem.W.Frag} {H H' : Hp} {a : Addr} {xs : List V} (e : Same H H') (h : SqT K H a xs) : SqT K H' a xs := by
  rcases h with (h | ⟨o, h⟩) | h
  · exact .inl (.inl (e _ _ h))
  · exact .inl (.inr ⟨o, e _ _ h⟩)
  · exact .inr h
/-- a level's steps, as a tuple at a -/
def LevAt (K : PySem.W.Frag) (H : Hp) (a : Addr) (ss : List Stp) : Prop := ∃ as, SqT K H a (as.map V.ref) ∧ StepsAt H as ss
theorem LevAt.same {K : PySem.W.Frag} {H H' : Hp} {a : Addr} {ss : List Stp} (h : LevAt K H a ss) (s : Same H H') : LevAt K H' a ss := let ⟨as, h1, h2⟩ := h; ⟨as, Same.tup s h1, h2.same s⟩
section
variable {P : Program} {w : World} {K : PySem.W.Frag} {mg : Str → Option Value} {base : Heap} {pS pC : Addr}
/-! ### read_level, of a level -/
def spRead (K : PySem.W.Frag) : Sp := fun vs H Q _ => ∃ (z : Cs) (ss : List Stp), vs = [tv z] ∧ z.length ≤ 100000 ∧ stepsOf z = some ss ∧ ∀ H' p, Same H H' → LevAt K H' p ss → Q (.ref p) H'
theorem sc_read : FnScope ["level", "steps"] ["level"] (defScope st_read_level) := ⟨rfl, rfl, rfl, by decide +kernel, rfl, by decide +kernel, by decide +kernel⟩
theorem ok_read {f fS : Addr} {fd fdS : FuncData} (F : Fun K "read_level" "read_level" st_read_level f fd) (GS : FnOk P w K mg base CX0 3 fS fdS ["thing"] (spSteps K)) (bS : Binds K fdS ["thing"] []) (kS : PySem.W.keepIn K (.ref fS) = true) (mS : mg "steps_of" = some (.ref fS)) :
    FnOk P w K mg base CX0 4 f fd ["level"] (spRead K) := by
  refine F.ok sc_read (fun vs H Q E h => ?_) (fun cdv A outer s H vs Q E hr h => ?_)
  · obtain ⟨z, ss, rfl, _⟩ := h
    rfl
  obtain ⟨z, ss, rfl, hz, e, q⟩ := h
  refine ⟨_, pss_cons (ps_set (i := 1) sc_read.nd rfl (.inl rfl) (pe_call GS hr rfl mS kS bS .nil pass0 (pa_cons (pv 0) pa_nil))) (pss_cons (ps_if (pt_cmpR op_isN (pv 1) pe_non (nomark _)) (pss_one ps_never) pss_nil) (pss_one (ps_ret (pv 1)))), ?_⟩
  refine ⟨_, rfl, _, rfl, .inl ⟨z, rfl, hz, fun n => (by rw [e] at n; cases n), fun ss' e' _ H' p as s hp ha => ?_⟩⟩
  rw [e] at e'
  cases e'
  exact ⟨_, rfl, rfl, _, rfl, iteF ⟨_, rfl, q H' p s ⟨as, SqT.of hp, ha⟩⟩⟩
end
theorem valV_mem {kv : List (Key × V)} {k : Key} {v : V} (h : (k, v) ∈ kv) : ∃ v', valV kv k = some v' ∧ (k, v') ∈ kv := by
  unfold valV
  cases e : kv.find? fun x => decide (x.1 = k) with
  | none =>
    have := List.find?_eq_none.mp e (k, v) h
    exact absurd (decide_eq_true rfl) this
  | some p =>
    have h1 := List.find?_some e
    have h2 := List.mem_of_find?_eq_some e
    have h3 : p.1 = k := of_decide_eq_true h1
    exact ⟨p.2, rfl, by rw [← h3]; exact h2⟩
theorem lock_same {H H' : Hp} {d : Addr} {u : HO} (h : H d = some u) (s : ∀ b o, b ≠ d → H b = some o → H' b = some o) : Same H (upd H' d u) := fun b o e => by
  by_cases c : b = d
  · rw [c] at e ⊢; rw [upd_same, ← e, h]
  · rw [upd_ne c]; exact s b o c e
end Pg
/-! Lw1 -/
set_option Elab.async false
set_option linter.all false
set_option maxRecDepth 100000
set_option maxHeartbeats 4000000
namespace Pg
open PySem L2 Mr
/-- the law's box of draws -/
def boxV (d s c : Int) : HO := .lst [.int d, .int s, .int c]
def BoxAt (H : Hp) (b : Addr) : Prop := ∃ d s c, H b = some (boxV d s c)
/-- all but the box is as it was -/
structure Bx (H H' : Hp) (b : Addr) : Prop where
  keep : ∀ a o, a ≠ b → H a = some o → H' a = some o
  box : BoxAt H' b
theorem Bx.refl {H : Hp} {b : Addr} (h : BoxAt H b) : Bx H H b := ⟨fun _ _ _ e => e, h⟩
theorem Bx.trans {H H1 H2 : Hp} {b : Addr} (x : Bx H H1 b) (y : Bx H1 H2 b) : Bx H H2 b := ⟨fun a o n e => y.keep a o n (x.keep a o n e), y.box⟩
theorem Bx.same {H H1 H2 : Hp} {b : Addr} (x : Bx H H1 b) (s : Same H1 H2) : Bx H H2 b := ⟨fun a o n e => s a o (x.keep a o n e), let ⟨d, t, c, h⟩ := x.box; ⟨d, t, c, s _ _ h⟩⟩
theorem Bx.of_same {H H1 : Hp} {b : Addr} (h : BoxAt H b) (s : Same H H1) : Bx H H1 b := (Bx.refl h).same s
theorem Bx.draw {H : Hp} {b : Addr} {d s c : Int} : Bx H (upd H b (boxV d s c)) b := ⟨fun a o n e => by rw [upd_ne n]; exact e, ⟨_, _, _, upd_same⟩⟩
theorem Bx.tup {H H' : Hp} {b a : Addr} {xs : List V} (x : Bx H H' b) (h : BoxAt H b) (e : H a = some (.tup xs)) : H' a = some (.tup xs) := x.keep a _ (fun z => by obtain ⟨d, s, c, g⟩ := h; rw [z, g] at e; cases e) e
/-- something new (or not the box's) is stored -/
theorem Bx.mut {H H1 : Hp} {b p : Addr} {o : HO} (x : Bx H H1 b) (n : H p = none) (ne : p ≠ b) : Bx H (upd H1 p o) b := ⟨fun a u na e => by rw [upd_ne (ne_of_none e n)]; exact x.keep a u na e, let ⟨d, t, c, h⟩ := x.box; ⟨d, t, c, by rw [upd_ne ne.symm]; exact h⟩⟩
theorem BoxAt.same {H H' : Hp} {b : Addr} (h : BoxAt H b) (s : Same H H') : BoxAt H' b := let ⟨d, t, c, e⟩ := h; ⟨d, t, c, s _ _ e⟩
theorem BoxAt.ne {H : Hp} {b p : Addr} (h : BoxAt H b) (n : H p = none) : p ≠ b := fun z => by obtain ⟨d, s, c, e⟩ := h; rw [z, e] at n; cases n
theorem seqL_upd {K : PySem.W.Frag} {H H' : Hp} {a b : Addr} {xs : List V} (x : Bx H H' b) (ne : a ≠ b) (h : SqL K H a xs) : SqL K H' a xs := by
  rcases h with (h | ⟨o, h⟩) | h
  · exact .inl (.inl (x.keep _ _ ne h))
  · exact .inl (.inr ⟨o, x.keep _ _ ne h⟩)
  · exact .inr h
theorem at_any {xs : List V} {k : Int} (h0 : 0 ≤ k) (h1 : k < xs.length) : ∃ v, atI xs k = some v ∧ xs[k.toNat]? = some v := by
  obtain ⟨n, rfl⟩ := Int.eq_ofNat_of_zero_le h0
  have lt : n < xs.length := by omega
  exact ⟨xs[n], atI_nat (List.getElem?_eq_getElem lt), List.getElem?_eq_getElem lt⟩
theorem at_int {ns : List Int} {k : Int} (h0 : 0 ≤ k) (h1 : k < ns.length) : ∃ n, atI (ns.map V.int) k = some (V.int n) := by
  obtain ⟨v, e, e'⟩ := at_any (xs := ns.map V.int) h0 (by rw [List.length_map]; exact h1)
  rw [List.getElem?_map] at e'
  cases q : ns[k.toNat]? with
  | none => rw [q] at e'; cases e'
  | some n => rw [q] at e'; exact ⟨n, by rw [e, ← e']; rfl⟩
structure Lx (mg : Str → Option Value) : Prop where
  abs : mg "abs" = none
  int : mg "int" = none
  len : mg "len" = none
  list : mg "list" = none
  range : mg "range" = none
  str : mg "str" = none
  tup : mg "tuple" = none
  dict : mg "dict" = none
  max : mg "max" = none
  min : mg "min" = none
section
variable {P : Program} {w : World} {K : PySem.W.Frag} {mg : Str → Option Value} {base : Heap} {pS pC : Addr}
/-! ### _law_box -/
def spBox (K : PySem.W.Frag) : Sp := fun vs H Q _ => ∃ (a : Addr) (ns : List Int) (k o : Int), vs = [.ref a, .int k, .int o] ∧ SqL K H a (ns.map V.int) ∧ 0 ≤ k ∧ k < 1000 ∧ 0 ≤ o ∧ o < 1000 ∧
  ∀ H' b, Same H H' → H b = none → BoxAt H' b → Q (.ref b) H'
theorem sc_box : FnScope ["_law_script", "_law_k", "_law_own", "_law_cell", "_law_seed"] ["_law_script", "_law_k", "_law_own"] (defScope st__law_box) := ⟨rfl, rfl, rfl, by decide +kernel, rfl, by decide +kernel, by decide +kernel⟩
theorem ok_box {f : Addr} {fd : FuncData} (F : Fun K "_law_box" "_law_box" st__law_box f fd) (L : Lx mg) : FnOk P w K mg base CX0 1 f fd ["_law_script", "_law_k", "_law_own"] (spBox K) := by
  refine F.ok sc_box (fun vs H Q E h => ?_) (fun cdv A outer s H vs Q E hr h => ?_)
  · obtain ⟨a, ns, k, o, rfl, _⟩ := h
    rfl
  obtain ⟨a, ns, k, o, rfl, hS, hk0, hk1, ho0, ho1, q⟩ := h
  have nd := sc_box.nd
  refine ⟨_, pss_cons (ps_set (i := 3) nd rfl (.inl rfl) (pe_op op_add (pe_op op_add (pe_op op_mul pe_int (pv 1)) (pe_op op_mul pe_int (pv 2))) pe_int))
    (C8.pss_cut (ps_if (pt_cmpR op_lt (pv 1) (pe_callB call_len_seq (by rfl) L.len PySem.boot_len (pa_cons (pv 0) pa_nil)) (nomark _))
        (pss_one (ps_set (i := 3) nd rfl (.inl rfl) (pe_callB call_abs (by rfl) L.abs (by decide +kernel) (pa_cons (pe_ix ix_list (pv 0) (pv 1) (fun _ _ => rfl)) pa_nil))))
      (pss_one (ps_if (pt_cmpR op_gt (pe_callB call_len_seq (by rfl) L.len PySem.boot_len (pa_cons (pv 0) pa_nil)) pe_int (nomark _))
        (pss_one (ps_set (i := 3) nd rfl (.inl rfl) (pe_op op_add (pv 3) (pe_op op_mul (pe_op op_mod (pe_callTy call_int1 (by rfl) L.int (by decide +kernel) (pa_cons (pe_callB call_abs (by rfl) L.abs (by decide +kernel)
          (pa_cons (pe_ix ix_list (pv 0) (pe_op op_modN (pe_callTy call_int1 (by rfl) L.int (by decide +kernel) (pa_cons (pv 1) pa_nil)) (pe_callB call_len_seq (by rfl) L.len PySem.boot_len (pa_cons (pv 0) pa_nil))) (fun _ _ => rfl)) pa_nil)) pa_nil)) pe_int) pe_int)))) pss_nil)))
    (pss_cons (ps_set (i := 4) nd rfl (.inl rfl) (pe_op op_add (pe_op op_mod (pe_callTy call_int1 (by rfl) L.int (by decide +kernel) (pa_cons
        (pe_op op_add (pe_op op_mul (pe_op op_mod (pe_callTy call_int1 (by rfl) L.int (by decide +kernel) (pa_cons (pv 3) pa_nil)) pe_int) pe_int) (pe_op op_mul pe_int (pe_op op_add (pv 1) (pe_op op_mul pe_int (pv 2))))) pa_nil)) pe_int) pe_int))
    (pss_one (ps_ret (pe_lst (pa_cons (pe_ix ix_list (pe_lst (pa_cons pe_int (pa_cons (pv 3) pa_nil))) (pe_callTy call_int1 (by rfl) L.int (by decide +kernel) (pa_cons (pe_cmpR op_ge (pv 3) (pe_op op_pow pe_int pe_int) (nomark _)) pa_nil)) (fun _ _ => rfl))
      (pa_cons (pv 4) (pa_cons pe_int pa_nil)))))))), ?_⟩
  refine ⟨_, rfl, _, _, rfl, rfl, .inl ⟨by decide, by decide⟩, _, rfl, _, _, rfl, rfl, .inl ⟨by decide, by decide⟩, _, _, rfl, rfl, _, _, rfl, rfl, ?_⟩
  have hl : (ns.map V.int).length = ns.length := List.length_map _
  refine ⟨fun σ H' => H' = H ∧ ∃ cell, σ = [some (.ref a), some (.int k), some (.int o), some (.int cell), none], ?_, ?_⟩
  · refine ⟨_, rfl, _, rfl, a, _, rfl, .inl hS, _, _, rfl, rfl, _, rfl, ite2 (fun c => ?_) (fun c => ?_)⟩
    · have c' : k < ((ns.map V.int).length : Int) := of_decide_eq_true c
      rw [hl] at c'
      obtain ⟨n0, hat⟩ := at_int hk0 c'
      exact ⟨_, rfl, _, rfl, a, _, _, _, rfl, rfl, hS, hat, _, rfl, rfl, _, rfl⟩
    · refine ⟨_, rfl, a, _, rfl, .inl hS, _, _, rfl, rfl, _, rfl, ite2 (fun d => ?_) (fun d => ⟨rfl, _, rfl⟩)⟩
      have d' : (0 : Int) < ((ns.map V.int).length : Int) := of_decide_eq_true d
      rw [hl] at d'
      have m0 : 0 ≤ k.fmod (ns.length : Int) := Int.fmod_nonneg_of_pos _ d'
      have m1 : k.fmod (ns.length : Int) < (ns.length : Int) := Int.fmod_lt_of_pos _ d'
      obtain ⟨n0, hat⟩ := at_int m0 m1
      refine ⟨_, rfl, _, rfl, _, rfl, .inl ⟨_, rfl, _, rfl, a, _, rfl, .inl hS, _, _, rfl, rfl, ?_, a, _, _, _, rfl, rfl, hS, (by rw [hl]; exact hat), _, rfl, .inl ⟨_, rfl, _, _, rfl, rfl, (by show (0 : Int) < 2147483629; decide), _, _, rfl, rfl, .inr ⟨by decide, by decide⟩, _, _, rfl, rfl, rfl, _, rfl⟩⟩⟩
      rw [hl]; omega
  · rintro σ H' ⟨rfl, cell, rfl⟩
    refine ⟨_, rfl, .inl ⟨_, rfl, _, _, rfl, rfl, (by show (0 : Int) < 2147483629; decide), _, _, rfl, rfl, .inr ⟨by decide, by decide⟩, _, rfl, _, rfl, _, _, rfl, rfl, .inl ⟨by decide, by decide⟩, _, _, rfl, rfl, _, _, rfl, rfl, .inl ⟨by decide, by decide⟩, _, _, rfl, rfl, .inl ⟨_, rfl, _, _, rfl, rfl, (by show (0 : Int) < 2147483629; decide), _, _, rfl, rfl, ?_⟩⟩⟩
    refine ⟨_, rfl, (by show 2 ≤ sizeLine; decide), fun p np => ⟨_, rfl, _, _, rfl, rfl, ⟨by decide, by decide, by decide⟩, _, _, rfl, rfl, .inr ⟨_, rfl, ?_⟩⟩⟩
    have fin : ∀ (d s : Int) (b : Addr), upd H' p (.lst [.int 0, .int cell]) b = none → Q (.ref b) (upd (upd H' p (.lst [.int 0, .int cell])) b (boxV d s 0)) := fun d s b nb =>
      q _ b ((same_new np _).trans (same_new nb _)) (upd_none nb).2 ⟨_, _, _, upd_same⟩
    by_cases c : (10 : Int) ^ (18 : Int).toNat ≤ cell
    · rw [decide_eq_true c]
      exact ⟨p, _, _, _, rfl, rfl, SqL.of upd_same, rfl, _, rfl, (by show 3 ≤ sizeLine; decide), fun b nb => fin _ _ b nb⟩
    · rw [decide_eq_false c]
      exact ⟨p, _, _, _, rfl, rfl, SqL.of upd_same, rfl, _, rfl, (by show 3 ≤ sizeLine; decide), fun b nb => fin _ _ b nb⟩
/-! ### _law_take -/
def spTake : Sp := fun vs H Q _ => ∃ (b : Addr) (n : Int), vs = [.ref b, .int n] ∧ BoxAt H b ∧ 1 ≤ n ∧ n < 1000000 ∧ ∀ r d s c, 0 ≤ r → r < n → Q (.int r) (upd H b (boxV d s c))
theorem sc_take : FnScope ["_law_box_here", "_law_many", "_law_digit", "_law_raw", "_law_wide"] ["_law_box_here", "_law_many"] (defScope st__law_take) := ⟨rfl, rfl, rfl, by decide +kernel, rfl, by decide +kernel, by decide +kernel⟩
theorem ok_take {f : Addr} {fd : FuncData} (F : Fun K "_law_take" "_law_take" st__law_take f fd) (L : Lx mg) : FnOk P w K mg base CX0 1 f fd ["_law_box_here", "_law_many"] spTake := by
  refine F.ok sc_take (fun vs H Q E h => ?_) (fun cdv A outer s H vs Q E hr h => ?_)
  · obtain ⟨b, n, rfl, _⟩ := h
    rfl
  obtain ⟨b, n, rfl, ⟨d, t, c, hb⟩, hn, hn2, q⟩ := h
  have nd := sc_take.nd
  refine ⟨_, pss_cons (ps_if (pt_cmpR op_gt (pe_ix ix_list (pv 0) pe_int (fun _ _ => rfl)) pe_int (nomark _))
      (pss_cons (ps_set (i := 2) nd rfl (.inl rfl) (pe_op op_modN (pe_callTy call_int1 (by rfl) L.int (by decide +kernel) (pa_cons (pe_ix ix_list (pv 0) pe_int (fun _ _ => rfl)) pa_nil)) (pv 1)))
      (pss_cons (ps_asg (pe_op op_fdivN (pe_ix ix_list (pv 0) pe_int (fun _ _ => rfl)) (pv 1)) (pg_sub (pv 0) pe_int set_list))
      (pss_one (ps_ret (pv 2))))) pss_nil)
    (pss_cons (ps_asg (pe_op op_add (pe_ix ix_list (pv 0) pe_int (fun _ _ => rfl)) pe_int) (pg_sub (pv 0) pe_int set_list))
    (pss_cons (ps_set (i := 3) nd rfl (.inl rfl) (pe_op op_mod (pe_callTy call_int1 (by rfl) L.int (by decide +kernel) (pa_cons
        (pe_op op_mul (pe_op op_add (pe_ix ix_list (pv 0) pe_int (fun _ _ => rfl)) (pe_op op_mul pe_int (pe_ix ix_list (pv 0) pe_int (fun _ _ => rfl)))) pe_int) pa_nil)) pe_int))
    (pss_cons (ps_asg (pe_op op_add (pe_op op_mod (pe_callTy call_int1 (by rfl) L.int (by decide +kernel) (pa_cons (pe_op op_add (pe_op op_mul (pv 3) pe_int) pe_int) pa_nil)) pe_int) pe_int) (pg_sub (pv 0) pe_int set_list))
    (pss_cons (ps_if (pt_cmpR op_lt (pv 1) (pe_op op_pow pe_int pe_int) (nomark _))
      (pss_one (ps_ret (pe_op op_modN (pe_callTy call_int1 (by rfl) L.int (by decide +kernel) (pa_cons (pe_op op_fdivN (pe_op op_add (pe_op op_mul (pv 3) pe_int) (pe_ix ix_list (pv 0) pe_int (fun _ _ => rfl))) pe_int) pa_nil)) (pv 1)))) pss_nil)
    pss_never)))), ?_⟩
  have n0 : n ≠ 0 := by omega
  have m0 : ∀ x : Int, 0 ≤ x.fmod n := fun x => Int.fmod_nonneg_of_pos _ (by omega)
  have m1 : ∀ x : Int, x.fmod n < n := fun x => Int.fmod_lt_of_pos _ (by omega)
  refine ⟨_, rfl, b, _, _, _, rfl, rfl, SqL.of hb, rfl, _, _, rfl, rfl, _, rfl, ite2 (fun e => ?_) (fun e => ?_)⟩
  · refine ⟨_, rfl, b, _, _, _, rfl, rfl, SqL.of hb, rfl, .inl ⟨_, rfl, _, rfl, _, _, rfl, rfl, n0, ?_⟩⟩
    exact ⟨_, rfl, b, _, _, _, rfl, rfl, SqL.of hb, rfl, _, rfl, _, _, rfl, rfl, ⟨n0, by omega⟩, _, rfl, b, _, _, _, rfl, rfl, hb, rfl, _, rfl, q _ _ _ _ (m0 _) (m1 _)⟩
  · refine ⟨_, rfl, b, _, _, _, rfl, rfl, SqL.of hb, rfl, _, _, rfl, rfl, _, rfl, b, _, _, _, rfl, rfl, hb, rfl, ?_⟩
    have h1 : upd H b (boxV d t (c + 1)) b = some (boxV d t (c + 1)) := upd_same
    refine ⟨_, rfl, b, _, _, _, rfl, rfl, SqL.of h1, rfl, _, rfl, b, _, _, _, rfl, rfl, SqL.of h1, rfl, _, _, rfl, rfl, .inl ⟨by decide, by decide⟩, _, _, rfl, rfl, _, _, rfl, rfl, .inr ⟨by decide, by decide⟩, .inl ⟨_, rfl, _, _, rfl, rfl, (by show (0 : Int) < 2147483647; decide), ?_⟩⟩
    refine ⟨_, rfl, _, _, rfl, rfl, .inr ⟨by decide, by decide⟩, _, _, rfl, rfl, .inl ⟨_, rfl, _, _, rfl, rfl, (by show (0 : Int) < 2147483629; decide), _, _, rfl, rfl, _, rfl, b, _, _, _, rfl, rfl, h1, rfl, ?_⟩⟩
    generalize ((((t + 95617 * (c + 1)) * 50021) % 2147483647 * 48271 + 17011) % 2147483629 + 1) = t2
    refine ⟨_, rfl, _, _, rfl, rfl, ⟨by decide, by decide, by decide⟩, _, _, rfl, rfl, _, rfl, ?_⟩
    have lt : n < (2 : Int) ^ (40 : Int).toNat := Int.lt_trans hn2 (by decide)
    rw [decide_eq_true lt]
    refine iteT ⟨_, rfl, _, _, rfl, rfl, .inr ⟨by decide, by decide⟩, _, rfl, b, _, _, _, rfl, rfl, SqL.of upd_same, rfl, _, _, rfl, rfl, _, _, rfl, rfl, ⟨by decide, by decide⟩, .inl ⟨_, rfl, _, rfl, _, _, rfl, rfl, n0, ?_⟩⟩
    rw [upd_upd]
    exact q _ _ _ _ (m0 _) (m1 _)
/-! ### _law_pick -/
def spPick (K : PySem.W.Frag) : Sp := fun vs H Q _ => ∃ (b a : Addr) (xs : List V), vs = [.ref b, .ref a] ∧ BoxAt H b ∧ a ≠ b ∧ SqL K H a xs ∧ 0 < xs.length ∧ xs.length < 1000000 ∧ ∀ x d s c, x ∈ xs → Q x (upd H b (boxV d s c))
theorem sc_pick : FnScope ["_law_box_here", "_law_items"] ["_law_box_here", "_law_items"] (defScope st__law_pick) := ⟨rfl, rfl, rfl, by decide +kernel, rfl, by decide +kernel, by decide +kernel⟩
theorem ok_pick {f fT : Addr} {fd fdT : FuncData} (F : Fun K "_law_pick" "_law_pick" st__law_pick f fd) (L : Lx mg) (GT : FnOk P w K mg base CX0 1 fT fdT ["_law_box_here", "_law_many"] spTake) (bT : Binds K fdT ["_law_box_here", "_law_many"] []) (kT : PySem.W.keepIn K (.ref fT) = true) (mT : mg "_law_take" = some (.ref fT)) :
    FnOk P w K mg base CX0 2 f fd ["_law_box_here", "_law_items"] (spPick K) := by
  refine F.ok sc_pick (fun vs H Q E h => ?_) (fun cdv A outer s H vs Q E hr h => ?_)
  · obtain ⟨b, a, xs, rfl, _⟩ := h
    rfl
  obtain ⟨b, a, xs, rfl, hb, hne, hS, h0, h1, q⟩ := h
  refine ⟨_, pss_one (ps_ret (pe_ix ix_list (pv 1) (pe_call GT hr rfl mT kT bT .nil pass0 (pa_cons (pv 0) (pa_cons (pe_callB call_len_seq (by rfl) L.len PySem.boot_len (pa_cons (pv 1) pa_nil)) pa_nil))) (fun _ _ => rfl))), ?_⟩
  refine ⟨_, rfl, _, rfl, _, rfl, a, _, rfl, .inl hS, b, _, rfl, hb, by omega, by omega, fun r d s c r0 r1 => ?_⟩
  obtain ⟨v, e, e'⟩ := at_any r0 r1
  exact ⟨a, _, _, _, rfl, rfl, seqL_upd Bx.draw hne hS, e, q v d s c (List.mem_of_getElem? e')⟩
/-! ### _law_mixed -/
def spMixed (K : PySem.W.Frag) : Sp := fun vs H Q _ => ∃ (b a : Addr) (xs : List V), vs = [.ref b, .ref a] ∧ BoxAt H b ∧ a ≠ b ∧ SqL K H a xs ∧ xs.length ≤ 1000 ∧ ∀ H' p ys, Bx H H' b → H p = none → p ≠ b → H' p = some (.lst ys) → ys.Perm xs → Q (.ref p) H'
theorem sc_mixed : FnScope ["_law_box_here", "_law_items", "_law_left", "_law_found", "_law_turn"] ["_law_box_here", "_law_items"] (defScope st__law_mixed) := ⟨rfl, rfl, rfl, by decide +kernel, rfl, by decide +kernel, by decide +kernel⟩
theorem ok_mixed {f fT : Addr} {fd fdT : FuncData} (F : Fun K "_law_mixed" "_law_mixed" st__law_mixed f fd) (L : Lx mg) (GT : FnOk P w K mg base CX0 1 fT fdT ["_law_box_here", "_law_many"] spTake) (bT : Binds K fdT ["_law_box_here", "_law_many"] []) (kT : PySem.W.keepIn K (.ref fT) = true) (mT : mg "_law_take" = some (.ref fT)) :
    FnOk P w K mg base CX0 2 f fd ["_law_box_here", "_law_items"] (spMixed K) := by
  refine F.ok sc_mixed (fun vs H Q E h => ?_) (fun cdv A outer s H vs Q E hr h => ?_)
  · obtain ⟨b, a, xs, rfl, _⟩ := h
    rfl
  obtain ⟨b, a, xs, rfl, hb, hne, hS, h1, q⟩ := h
  have nd := sc_mixed.nd
  refine ⟨_, pss_cons (ps_par (i := 2) (j := 3) (by rfl) nd rfl rfl (by decide) rfl rfl (pa_cons (pe_callTy call_list_of (by rfl) L.list (by decide +kernel) (pa_cons (pv 1) pa_nil)) (pa_cons (pe_lst pa_nil) pa_nil)) (by rfl))
    (pss_cons (ps_for PassesOwn.never rfl (pi_range1 rfl L.range (pa_cons (pe_callB call_len_seq (by rfl) L.len PySem.boot_len (pa_cons (pv 2) pa_nil)) pa_nil)) (pg_name (i := 4) nd rfl (.inl rfl))
      (pss_one (ps_expr (pe_bm PySem.F.plainAttrs_list PySem.F.slot_list_append PySem.F.type_list_append mt_append (pv 3) (pa_cons (pe_bm PySem.F.plainAttrs_list PySem.F.slot_list_pop PySem.F.type_list_pop mt_popAt (pv 2)
        (pa_cons (pe_call GT hr rfl mT kT bT .nil pass0 (pa_cons (pv 0) (pa_cons (pe_callB call_len_seq (by rfl) L.len PySem.boot_len (pa_cons (pv 2) pa_nil)) pa_nil))) pa_nil)) pa_nil)))))
    (pss_one (ps_ret (pv 3)))), ?_⟩
  refine ⟨_, rfl, a, _, rfl, .inl hS, fun p1 n1 => ⟨Nat.zero_le _, fun p2 n2 => ⟨_, _, rfl, ?_⟩⟩⟩
  obtain ⟨d12, n2'⟩ := upd_none n2
  have b1 : p1 ≠ b := hb.ne n1
  have b2 : p2 ≠ b := hb.ne n2'
  have h10 : upd (upd H p1 (.lst xs)) p2 (.lst []) p1 = some (.lst xs) := by rw [upd_ne d12.symm]; exact upd_same
  refine ⟨_, rfl, p1, _, rfl, .inl (SqL.of h10), _, rfl, by omega, by omega, for_range (n := xs.length) (fun i σ H' => ∃ (ys zs : List V) (u : Option V), σ = [some (.ref b), some (.ref a), some (.ref p1), some (.ref p2), u] ∧ Bx H H' b ∧ H' p1 = some (.lst ys) ∧ H' p2 = some (.lst zs) ∧ (zs ++ ys).Perm xs ∧ ys.length + i = xs.length)
    ⟨xs, [], none, rfl, Bx.of_same hb ((same_new n1 _).trans (same_new n2 _)), h10, upd_same, List.Perm.refl _, rfl⟩ ?_ ?_⟩
  · rintro i σ H' hi ⟨ys, zs, u, rfl, bx, e1, e2, pm, hl⟩
    refine ⟨_, rfl, .inl ⟨rfl, _, SqL.of e2⟩, _, rfl, .inl ⟨rfl, _, SqL.of e1⟩, _, rfl, _, rfl, p1, _, rfl, .inl (SqL.of e1), b, _, rfl, bx.box, by omega, by omega, fun r d s c r0 r1 => ?_⟩
    obtain ⟨v, ev, ev'⟩ := at_any r0 r1
    have g1 : upd H' b (boxV d s c) p1 = some (.lst ys) := by rw [upd_ne b1]; exact e1
    have hsz : xs.length ≤ 1000 := h1
    have hr : r.toNat < ys.length := by omega
    refine ⟨p1, ys, r, r.toNat, v, rfl, rfl, g1, by omega, by omega, ?_, ev', ?_⟩
    · rw [seqIndex_of r0 r1]
    have g2 : upd (upd H' b (boxV d s c)) p1 (.lst (ys.eraseIdx r.toNat)) p2 = some (.lst zs) := by rw [upd_ne d12, upd_ne b2]; exact e2
    have pl := pm.length_eq
    rw [List.length_append] at pl
    refine ⟨p2, _, _, rfl, rfl, g2, big (by omega), ?_⟩
    have er := erase_perm ys r.toNat v ev'
    refine ⟨ys.eraseIdx r.toNat, zs ++ [v], _, rfl, ((bx.trans Bx.draw).mut n1 b1).mut n2' b2, by rw [upd_ne d12.symm]; exact upd_same, upd_same, ?_, by rw [List.length_eraseIdx_of_lt hr]; omega⟩
    have : (zs ++ [v] ++ ys.eraseIdx r.toNat).Perm (zs ++ ys) := by rw [List.append_assoc]; exact List.Perm.append_left zs er
    exact this.trans pm
  · rintro σ H' ⟨ys, zs, u, rfl, bx, e1, e2, pm, hl⟩
    have e0 : ys = [] := List.length_eq_zero_iff.mp (by omega)
    subst e0
    rw [List.append_nil] at pm
    exact ⟨_, rfl, q H' p2 zs bx n2' b2 e2 pm⟩
/-! ### _law_named_some -/
def names9 : List Cs := [[117], [118], [119], [97], [98], [109, 97, 120, 105], [105, 109], [122, 122, 122, 122], [105]]
theorem names9_ok : (∀ s ∈ names9, isName s = true) ∧ names9.Nodup := by decide +kernel
theorem names9_lits : names9.map tv = [.str "u", .str "v", .str "w", .str "a", .str "b", .str "maxi", .str "im", .str "zzzz", .str "i"] := by decide +kernel
def spSome (K : PySem.W.Frag) : Sp := fun vs H Q _ => ∃ (b : Addr) (n : Nat), vs = [.ref b, .int n] ∧ BoxAt H b ∧ 1 ≤ n ∧ n ≤ 9 ∧ ∀ H' p (ns : List Cs), Bx H H' b → H p = none → p ≠ b → H' p = some (.lst (ns.map tv)) → ns.length = n → ns.Nodup → (∀ s ∈ ns, isName s = true ∧ s ∈ names9) → Q (.ref p) H'
theorem sc_some : FnScope ["_law_box_here", "_law_many"] ["_law_box_here", "_law_many"] (defScope st__law_named_some) := ⟨rfl, rfl, rfl, by decide +kernel, rfl, by decide +kernel, by decide +kernel⟩
theorem perm_map_inv {α β : Type} {f : α → β} {l : List α} {ys : List β} (h : ys.Perm (l.map f)) : ∃ l' : List α, ys = l'.map f ∧ l'.Perm l := by
  induction l generalizing ys with
  | nil => exact ⟨[], by rw [List.map_nil] at h; exact List.perm_nil.mp h, .refl _⟩
  | cons a l ih =>
    rw [List.map_cons] at h
    have hm : f a ∈ ys := h.mem_iff.mpr List.mem_cons_self
    obtain ⟨s, t, rfl⟩ := List.append_of_mem hm
    have h2 : (s ++ t).Perm (l.map f) := (List.perm_cons (f a)).mp ((List.perm_middle.symm).trans h)
    obtain ⟨l', e, p⟩ := ih h2
    refine ⟨l'.take s.length ++ a :: l'.drop s.length, ?_, ?_⟩
    · have e1 : s = (l'.take s.length).map f := by rw [List.map_take, ← e, List.take_left]
      have e2 : t = (l'.drop s.length).map f := by rw [List.map_drop, ← e, List.drop_left]
      rw [List.map_append, List.map_cons, ← e1, ← e2]
    · refine List.perm_middle.trans (List.Perm.cons a ?_)
      rw [List.take_append_drop]; exact p
theorem ok_some {f fM : Addr} {fd fdM : FuncData} (F : Fun K "_law_named_some" "_law_named_some" st__law_named_some f fd) (GM : FnOk P w K mg base CX0 2 fM fdM ["_law_box_here", "_law_items"] (spMixed K)) (bM : Binds K fdM ["_law_box_here", "_law_items"] []) (kM : PySem.W.keepIn K (.ref fM) = true) (mM : mg "_law_mixed" = some (.ref fM)) :
    FnOk P w K mg base CX0 3 f fd ["_law_box_here", "_law_many"] (spSome K) := by
  refine F.ok sc_some (fun vs H Q E h => ?_) (fun cdv A outer s H vs Q E hr h => ?_)
  · obtain ⟨b, n, rfl, _⟩ := h
    rfl
  obtain ⟨b, n, rfl, hb, hn1, hn9, q⟩ := h
  refine ⟨_, pss_one (ps_ret (pe_slice sl_list (pe_call GM hr rfl mM kM bM .nil pass0 (pa_cons (pv 0) (pa_cons (pe_lst (pa_cons pe_str (pa_cons pe_str (pa_cons pe_str (pa_cons pe_str (pa_cons pe_str (pa_cons pe_str (pa_cons pe_str (pa_cons pe_str (pa_cons pe_str pa_nil)))))))))) pa_nil))) po_none (po_some (pv 1)))), ?_⟩
  refine ⟨_, rfl, (by show 9 ≤ sizeLine; decide), fun p1 n1 => ⟨b, p1, _, rfl, hb.same (same_new n1 _), hb.ne n1, SqL.of upd_same, (by show 9 ≤ 1000; decide), fun H' p ys bx np pb hp pm => ⟨_, rfl, _, rfl, p, _, rfl, SqL.of hp, fun l nl => ?_⟩⟩⟩
  rw [← names9_lits] at pm
  obtain ⟨ns, rfl, pn⟩ := perm_map_inv pm
  obtain ⟨_, np0⟩ := upd_none np
  have len9 : ns.length = 9 := pn.length_eq
  have nb : l ≠ b := (bx.box).ne nl
  have nl0 : H l = none := by
    cases e : H l with
    | none => rfl
    | some o =>
      rw [bx.keep l o nb (same_new n1 _ l o e)] at nl; cases nl
  have b0 : Bx H H' b := (Bx.of_same hb (same_new n1 _)).trans bx
  have ec : cutV (ns.map tv) none (some (n : Int)) = (ns.take n).map tv := by
    unfold cutV
    rw [HT.sIx_none, HT.sIx_nat, List.length_map, len9, Nat.min_eq_left hn9, List.drop_zero, Nat.sub_zero, List.map_take]
  refine q _ l (ns.take n) (b0.same (same_new nl _)) nl0 nb ?_ (by rw [List.length_take]; omega) ((pn.nodup_iff.mpr names9_ok.2).sublist (List.take_sublist n ns)) fun s hs => ?_
  · rw [upd_same, ec]
  · have := pn.mem_iff.mp (List.mem_of_mem_take hs)
    exact ⟨names9_ok.1 s this, this⟩
end
end Pg
/-! Lw2 -/
set_option Elab.async false
set_option linter.all false
set_option maxRecDepth 100000
set_option maxHeartbeats 4000000
namespace Pg
open PySem L2 Mr
/-- the tree t stands in tuples at a -/
inductive TreeAt (H : Hp) : T → Addr → Prop where
  | num {a : Addr} {k : Nat} (h : H a = some (.tup [.str "number", .int k])) : TreeAt H (.num k) a
  | nam {a : Addr} {s : Cs} (h : H a = some (.tup [.str "name", tv s])) : TreeAt H (.nam s) a
  | plus {a c : Addr} {t : T} {k : Nat} (h : H a = some (.tup [.str "plus", .ref c, .int k])) (r : TreeAt H t c) : TreeAt H (.plus t k) a
  | node {a : Addr} {b : Bool} {ts : List T} {cs : List Addr} (h : H a = some (.tup (.str (cName b) :: cs.map V.ref))) (l : ts.length = cs.length) (r : ∀ (i : Nat) t c, ts[i]? = some t → cs[i]? = some c → TreeAt H t c) : TreeAt H (.node b ts) a
theorem TreeAt.mono {H H' : Hp} (k : ∀ a xs, H a = some (.tup xs) → H' a = some (.tup xs)) {t : T} {a : Addr} (h : TreeAt H t a) : TreeAt H' t a := by
  induction h with
  | num h => exact .num (k _ _ h)
  | nam h => exact .nam (k _ _ h)
  | plus h _ ih => exact .plus (k _ _ h) ih
  | node h l _ ih => exact .node (k _ _ h) l ih
theorem TreeAt.same {H H' : Hp} (s : Same H H') {t : T} {a : Addr} (h : TreeAt H t a) : TreeAt H' t a := h.mono fun _ _ e => s _ _ e
theorem TreeAt.bx {H H' : Hp} {b : Addr} (x : Bx H H' b) (hb : BoxAt H b) {t : T} {a : Addr} (h : TreeAt H t a) : TreeAt H' t a := h.mono fun _ _ e => x.tup hb e
/-- the trees that the law draws: names of ns, numbers to m, so deep -/
inductive Lv (ns : List Cs) (m : Nat) : Nat → T → Prop where
  | num {d k : Nat} (h : k ≤ m) : Lv ns m d (.num k)
  | nam {d : Nat} {s : Cs} (h : s ∈ ns) : Lv ns m d (.nam s)
  | plus {d k : Nat} {t : T} (r : Lv ns m d t) (h : k ≤ m) : Lv ns m (d + 1) (.plus t k)
  | two {d : Nat} {b : Bool} {t u : T} (r : Lv ns m d t) (s : Lv ns m d u) : Lv ns m (d + 1) (.node b [t, u])
  | three {d : Nat} {t u : T} {s : Cs} (r : Lv ns m d t) (q : Lv ns m d u) (h : s ∈ ns) : Lv ns m (d + 1) (.node true [t, u, .nam s])
theorem Lv.ok {ns : List Cs} {m : Nat} (hm : m < 100) (hn : ∀ s ∈ ns, isName s = true) {d : Nat} {t : T} (h : Lv ns m d t) : t.ok := by
  induction h with
  | num h => rw [T.ok]; omega
  | nam h => rw [T.ok]; exact hn _ h
  | plus r h ih => rw [T.ok]; exact ⟨ih, by omega⟩
  | @two d b t u r s ih1 ih2 =>
    rw [T.ok]
    refine ⟨by cases b <;> rfl, fun t ht => ?_⟩
    rcases List.mem_cons.mp ht with rfl | ht
    · exact ih1
    · rcases List.mem_singleton.mp ht with rfl
      exact ih2
  | three r q h ih1 ih2 =>
    rw [T.ok]
    refine ⟨rfl, fun t ht => ?_⟩
    rcases List.mem_cons.mp ht with rfl | ht
    · exact ih1
    · rcases List.mem_cons.mp ht with rfl | ht
      · exact ih2
      · rcases List.mem_singleton.mp ht with rfl
        rw [T.ok]; exact hn _ h
section
variable {P : Program} {w : World} {K : PySem.W.Frag} {mg : Str → Option Value} {base : Heap} {pS pC : Addr}
/-! ### _law_level -/
def spLevel (K : PySem.W.Frag) (n : Nat) : Sp := fun vs H Q _ => ∃ (b a : Addr) (ns : List Cs) (deep most : Nat), vs = [.ref b, .ref a, .int deep, .int most, .bl false] ∧ BoxAt H b ∧ a ≠ b ∧ SqL K H a (ns.map tv) ∧ 0 < ns.length ∧ ns.length ≤ 9 ∧ deep < n ∧ most ≤ 99 ∧
  ∀ H' p t, Bx H H' b → TreeAt H' t p → Lv ns most deep t → Q (.ref p) H'
theorem sc_level : FnScope ["_law_box_here", "_law_names", "_law_deep", "_law_most", "_law_is_plain", "_law_form", "_law_one", "_law_other"] ["_law_box_here", "_law_names", "_law_deep", "_law_most", "_law_is_plain"] (defScope st__law_level) := ⟨rfl, rfl, rfl, by decide +kernel, rfl, by decide +kernel, by decide +kernel⟩
theorem int_eq (a b : Int) : decide (V.int a = V.int b) = decide (a = b) := decide_eq_decide.mpr ⟨fun h => by injection h, fun h => by rw [h]⟩
abbrev CalX (P : Program) (w : World) (K : PySem.W.Frag) (mg : Str → Option Value) (base : Heap) (k : Nat) (x : Str) (sp : Sp) := C8.Cal P w K mg base k x sp []
theorem cal_mk {k : Nat} {x : Str} {f : Addr} {fd : FuncData} {ps : List Str} {sp : Sp} (G : FnOk P w K mg base CX0 k f fd ps sp) (m : mg x = some (.ref f)) (kp : PySem.W.keepIn K (.ref f) = true) (b : Binds K fd ps []) : CalX P w K mg base k x sp := ⟨f, fd, ps, [], G, m, kp, b, .nil⟩
theorem ok_level1 {n : Nat} {f : Addr} {fd : FuncData} (F : Fun K "_law_level" "_law_level" st__law_level f fd)
    (c_take : CalX P w K mg base 1 "_law_take" spTake) (c_pick : CalX P w K mg base 2 "_law_pick" (spPick K)) (c_level : CalX P w K mg base (n + 3) "_law_level" (spLevel K n)) :
    FnOk P w K mg base CX0 (n + 4) f fd ["_law_box_here", "_law_names", "_law_deep", "_law_most", "_law_is_plain"] (spLevel K (n + 1)) := by
  refine F.ok sc_level (fun vs H Q E h => ?_) (fun cdv A outer s H vs Q E hr h => ?_)
  · obtain ⟨b, a, ns, deep, most, rfl, _⟩ := h
    rfl
  obtain ⟨b, a, ns, deep, most, rfl, hb, hne, hS, h0, h9, hd, hm, q⟩ := h
  have nd := sc_level.nd
  refine ⟨_, (pss_cons (ps_set (i := 5) nd rfl (.inl rfl) (C8.pe_c c_take hr (by omega) rfl (pa_cons (pv 0) (pa_cons pe_int pa_nil))))
      (pss_cons (ps_if (PW.pt (pw_or (pt_cmpR op_eq (pv 2) pe_int (nomark _)) (pw_or1 (pt_cmpR op_lt (pv 5) pe_int (nomark _))))) (pss_cons (ps_if (pt_cmpR op_eq (pv 5) pe_int (nomark _)) (pss_one (ps_ret (pe_tup (pa_cons pe_str (pa_cons (C8.pe_c c_take hr (by omega) rfl (pa_cons (pv 0) (pa_cons (pe_op op_add (pv 3) pe_int) pa_nil))) pa_nil))))) pss_nil)
      (pss_one (ps_ret (pe_tup (pa_cons pe_str (pa_cons (C8.pe_c c_pick hr (by omega) rfl (pa_cons (pv 0) (pa_cons (pv 1) pa_nil))) pa_nil)))))) pss_nil)
      (pss_cons (ps_set (i := 6) nd rfl (.inl rfl) (C8.pe_c c_level hr (by omega) rfl (pa_cons (pv 0) (pa_cons (pv 1) (pa_cons (pe_op op_sub (pv 2) pe_int) (pa_cons (pv 3) (pa_cons (pv 4) pa_nil)))))))
      (pss_cons (ps_if (pt_cmpR op_lt (pv 5) pe_int (nomark _)) (pss_one (ps_ret (pe_tup (pa_cons pe_str (pa_cons (pv 6) (pa_cons (C8.pe_c c_take hr (by omega) rfl (pa_cons (pv 0) (pa_cons (pe_op op_add (pv 3) pe_int) pa_nil))) pa_nil)))))) pss_nil)
      (pss_cons (ps_set (i := 7) nd rfl (.inl rfl) (C8.pe_c c_level hr (by omega) rfl (pa_cons (pv 0) (pa_cons (pv 1) (pa_cons (pe_op op_sub (pv 2) pe_int) (pa_cons (pv 3) (pa_cons (pv 4) pa_nil)))))))
      (pss_cons (ps_if (PW.pt (pw_or (PW.pt (pw_and (pt_cmpR op_eq (pv 5) pe_int (nomark _)) (pw_and1 (pt_not (pt_val (pv 4)))))) (pw_or1 (PW.pt (pw_and (pt_cmpR op_eq (pv 5) pe_int (nomark _)) (pw_and1 (pt_not (pt_val (pv 4))))))))) (pss_one (ps_ret (pe_tup (pa_cons pe_str (pa_cons (pv 6) (pa_cons (pv 7) pa_nil)))))) pss_nil)
      (pss_cons (ps_if (pt_cmpR op_eq (pv 5) pe_int (nomark _)) (pss_one (ps_ret (pe_tup (pa_cons pe_str (pa_cons (pv 6) (pa_cons (pv 7) (pa_cons (pe_tup (pa_cons pe_str (pa_cons (C8.pe_c c_pick hr (by omega) rfl (pa_cons (pv 0) (pa_cons (pv 1) pa_nil))) pa_nil))) pa_nil))))))) pss_nil)
      (pss_one (ps_ret (pe_tup (pa_cons pe_str (pa_cons (pv 6) (pa_cons (pv 7) pa_nil))))))))))))), ?_⟩
  have natk : ∀ r : Int, 0 ≤ r → r < (most : Int) + 1 → ∃ k : Nat, r = (k : Int) ∧ k ≤ most := fun r h1 h2 => ⟨r.toNat, by omega, by omega⟩
  have name_in : ∀ x : V, x ∈ ns.map tv → ∃ s, s ∈ ns ∧ x = tv s := fun x h => by obtain ⟨s, h1, rfl⟩ := List.mem_map.mp h; exact ⟨s, h1, rfl⟩
  have lm : (ns.map tv).length = ns.length := List.length_map _
  have new : ∀ {H1 : Hp} {p : Addr} {o : HO}, Bx H H1 b → H1 p = none → Bx H (upd H1 p o) b := fun bx np => bx.same (same_new np _)
  refine ⟨_, rfl, b, 9, rfl, hb, by decide, by decide, fun r d t c r0 r1 => ?_⟩
  have bx1 : Bx H (upd H b (boxV d t c)) b := Bx.draw
  generalize upd H b (boxV d t c) = H1 at bx1
  refine ⟨_, rfl, rfl, _, rfl, ?_⟩
  rw [int_eq]
  by_cases hz : (deep : Int) = 0
  · rw [decide_eq_true hz]
    refine iteT ?_
    refine ⟨_, rfl, rfl, _, rfl, ?_⟩
    rw [int_eq]
    by_cases e0 : r = 0
    · rw [decide_eq_true e0]
      refine iteT ⟨_, rfl, _, rfl, _, _, rfl, rfl, b, _, rfl, bx1.box, by omega, by omega, fun r' d' t' c' r0' r1' => ⟨(by show 2 ≤ sizeLine; decide), fun p np => ?_⟩⟩
      obtain ⟨k, rfl, hk⟩ := natk r' r0' r1'
      exact q _ p (.num k) (new (bx1.trans Bx.draw) np) (.num upd_same) (.num hk)
    · rw [decide_eq_false e0]
      refine iteF ⟨_, rfl, _, rfl, b, a, _, rfl, bx1.box, hne, seqL_upd bx1 hne hS, by rw [lm]; omega, by rw [lm]; omega, fun x d' t' c' hx => ⟨(by show 2 ≤ sizeLine; decide), fun p np => ?_⟩⟩
      obtain ⟨s0, hs0, rfl⟩ := name_in x hx
      exact q _ p (.nam s0) (new (bx1.trans Bx.draw) np) (.nam upd_same) (.nam hs0)
  rw [decide_eq_false hz]
  refine iteF ⟨_, rfl, _, _, rfl, rfl, _, rfl, ?_⟩
  by_cases h3 : r < 3
  · rw [decide_eq_true h3]
    refine iteT ?_
    refine ⟨_, rfl, rfl, _, rfl, ?_⟩
    rw [int_eq]
    by_cases e0 : r = 0
    · rw [decide_eq_true e0]
      refine iteT ⟨_, rfl, _, rfl, _, _, rfl, rfl, b, _, rfl, bx1.box, by omega, by omega, fun r' d' t' c' r0' r1' => ⟨(by show 2 ≤ sizeLine; decide), fun p np => ?_⟩⟩
      obtain ⟨k, rfl, hk⟩ := natk r' r0' r1'
      exact q _ p (.num k) (new (bx1.trans Bx.draw) np) (.num upd_same) (.num hk)
    · rw [decide_eq_false e0]
      refine iteF ⟨_, rfl, _, rfl, b, a, _, rfl, bx1.box, hne, seqL_upd bx1 hne hS, by rw [lm]; omega, by rw [lm]; omega, fun x d' t' c' hx => ⟨(by show 2 ≤ sizeLine; decide), fun p np => ?_⟩⟩
      obtain ⟨s0, hs0, rfl⟩ := name_in x hx
      exact q _ p (.nam s0) (new (bx1.trans Bx.draw) np) (.nam upd_same) (.nam hs0)
  rw [decide_eq_false h3]
  obtain ⟨m, rfl⟩ : ∃ m, deep = m + 1 := ⟨deep - 1, by omega⟩
  have hm1 : [V.ref b, V.ref a, V.int (((m + 1 : Nat) : Int) - 1), V.int (most : Int), V.bl false] = [V.ref b, V.ref a, V.int (m : Int), V.int (most : Int), V.bl false] := by
    rw [show (((m + 1 : Nat) : Int) - 1) = (m : Int) by omega]
  refine iteF ⟨_, rfl, _, rfl, _, rfl, _, _, rfl, rfl, _, rfl, _, rfl, b, a, ns, m, most, hm1, bx1.box, hne, seqL_upd bx1 hne hS, h0, h9, by omega, hm, fun H2 p2 t2 bx2 ht2 lv2 => ?_⟩
  have bxa := bx1.trans bx2
  refine ⟨_, rfl, _, _, rfl, rfl, _, rfl, ?_⟩
  by_cases h5 : r < 5
  · rw [decide_eq_true h5]
    refine iteT ⟨_, rfl, _, rfl, _, rfl, _, _, rfl, rfl, b, _, rfl, bxa.box, by omega, by omega, fun r' d' t' c' r0' r1' => ⟨(by show 3 ≤ sizeLine; decide), fun p np => ?_⟩⟩
    obtain ⟨k, rfl, hk⟩ := natk r' r0' r1'
    have bxd := bxa.trans (Bx.draw (d := d') (s := t') (c := c'))
    exact q _ p (.plus t2 k) (new bxd np) (.plus upd_same ((ht2.bx Bx.draw bxa.box).same (same_new np _))) (.plus lv2 hk)
  rw [decide_eq_false h5]
  refine iteF ⟨_, rfl, _, rfl, _, rfl, _, _, rfl, rfl, _, rfl, _, rfl, b, a, ns, m, most, hm1, bxa.box, hne, seqL_upd bxa hne hS, h0, h9, by omega, hm, fun H3 p3 t3 bx3' ht3 lv3 => ?_⟩
  have bx3 := bxa.trans bx3'
  have ht2' := ht2.bx bx3' bxa.box
  have kids : ∀ (i : Nat) (t : T) (c : Addr), [t2, t3][i]? = some t → [p2, p3][i]? = some c → ∀ H', Same H3 H' → TreeAt H' t c := fun i t c e1 e2 H' s' => by
    match i with
    | 0 => cases e1; cases e2; exact ht2'.same s'
    | 1 => cases e1; cases e2; exact ht3.same s'
    | i + 2 => cases e1
  refine ⟨_, rfl, rfl, _, rfl, ?_⟩
  rw [int_eq]
  by_cases g5 : r = 5
  · rw [decide_eq_true g5]
    refine iteT ⟨_, rfl, _, rfl, iteT ?_⟩
    refine ⟨_, rfl, _, rfl, (by show 3 ≤ sizeLine; decide), fun p np => ?_⟩
    exact q _ p (.node false [t2, t3]) (new bx3 np) (.node (cs := [p2, p3]) (by rw [upd_same]; rfl) rfl fun i t c e1 e2 => kids i t c e1 e2 _ (same_new np _)) (.two lv2 lv3)
  rw [decide_eq_false g5]
  refine iteF (iteF ⟨_, rfl, rfl, _, rfl, ?_⟩)
  rw [int_eq]
  by_cases g6 : r = 6
  · rw [decide_eq_true g6]
    refine iteT ⟨_, rfl, _, rfl, ?_⟩
    refine ⟨_, rfl, _, rfl, (by show 3 ≤ sizeLine; decide), fun p np => ?_⟩
    exact q _ p (.node false [t2, t3]) (new bx3 np) (.node (cs := [p2, p3]) (by rw [upd_same]; rfl) rfl fun i t c e1 e2 => kids i t c e1 e2 _ (same_new np _)) (.two lv2 lv3)
  rw [decide_eq_false g6]
  refine iteF (iteF ⟨_, rfl, rfl, _, rfl, ?_⟩)
  rw [int_eq]
  by_cases g7 : r = 7
  · rw [decide_eq_true g7]
    refine iteT ⟨_, rfl, _, rfl, _, rfl, _, rfl, b, a, _, rfl, bx3.box, hne, seqL_upd bx3 hne hS, by rw [lm]; omega, by rw [lm]; omega, fun x d' t' c' hx => ⟨(by show 2 ≤ sizeLine; decide), fun p4 np4 => ⟨(by show 4 ≤ sizeLine; decide), fun p np => ?_⟩⟩⟩
    obtain ⟨s0, hs0, rfl⟩ := name_in x hx
    have bxd := bx3.trans (Bx.draw (d := d') (s := t') (c := c'))
    have e4 := same_new np (.tup [.str (cName true), .ref p2, .ref p3, .ref p4]) p4 _ (upd_same (o := .tup [.str "name", tv s0]))
    refine q _ p (.node true [t2, t3, .nam s0]) (new (new bxd np4) np) (.node (cs := [p2, p3, p4]) (by rw [upd_same]; rfl) rfl fun i t c e1 e2 => ?_) (.three lv2 lv3 hs0)
    have up : ∀ {t : T} {c : Addr}, TreeAt H3 t c → TreeAt _ t c := fun h => ((h.bx (Bx.draw (d := d') (s := t') (c := c')) bx3.box).same (same_new np4 (.tup [.str "name", tv s0]))).same (same_new np (.tup [.str "max", .ref p2, .ref p3, .ref p4]))
    match i with
    | 0 => cases e1; cases e2; exact up ht2'
    | 1 => cases e1; cases e2; exact up ht3
    | 2 => cases e1; cases e2; exact .nam e4
    | i + 3 => cases e1
  rw [decide_eq_false g7]
  refine iteF ?_
  refine ⟨_, rfl, _, rfl, (by show 3 ≤ sizeLine; decide), fun p np => ?_⟩
  exact q _ p (.node true [t2, t3]) (new bx3 np) (.node (cs := [p2, p3]) (by rw [upd_same]; rfl) rfl fun i t c e1 e2 => kids i t c e1 e2 _ (same_new np _)) (.two lv2 lv3)
end
end Pg
/-! Lw3 -/
set_option Elab.async false
set_option linter.all false
set_option maxRecDepth 100000
set_option maxHeartbeats 4000000
namespace Pg
open PySem L2 Mr
theorem call_str_any {X : Cx} : CallR X (.type "str") (fun xs H Q => (∃ i, xs = [.int i] ∧ i.natAbs.log2 < 1920 ∧ Q (.str (toString i : String)) H) ∨ ∃ a, xs = [.str a] ∧ Q (.str a) H) := by
  intro pins s σ H vs us Q I r h
  rcases h with h | h
  · exact call_str_int pins s σ H vs us Q I r h
  · exact SkE.call_str_str pins s σ H vs us Q I r h
theorem S_D (k : Nat) : ((toString (k : Int) : String) : Str) = S (D k) := (S_of _).symm
theorem log_small {k : Nat} (h : k < 100) : ((k : Int)).natAbs.log2 < 1920 := by
  have e : ((k : Int)).natAbs = k := Int.natAbs_natCast k
  rw [e]
  have : k.log2 ≤ k := by
    rcases Nat.eq_zero_or_pos k with h | h
    · rw [h]; decide
    · exact Nat.le_of_lt (Nat.log2_lt (by omega) |>.mpr (Nat.lt_two_pow_self))
  omega
theorem S_app (a b : Cs) : S a ++ S b = S (a ++ b) := by
  apply TL.ext_tl
  rw [TL.tl_append]
  rfl
end Pg
namespace Mr
def T.kids : T → List T
  | .num _ => []
  | .nam _ => []
  | .plus t _ => [t]
  | .node _ ts => ts
end Mr
namespace Pg
open PySem L2 Mr
theorem ifF (b : Bool) : (if false = true then !b else b) = b := rfl
theorem eq_self (v : V) : decide (v = v) = true := decide_eq_true rfl
/-- not deeper than n, not too wide -/
inductive Dp : Nat → T → Prop where
  | num {n k : Nat} : Dp n (.num k)
  | nam {n : Nat} {s : Cs} : Dp n (.nam s)
  | plus {n k : Nat} {t : T} (r : Dp n t) : Dp (n + 1) (.plus t k)
  | node {n : Nat} {b : Bool} {ts : List T} (l : ts.length ≤ 20) (r : ∀ t ∈ ts, Dp n t) : Dp (n + 1) (.node b ts)
/-- the trees ts stand at cs -/
def KidsAt (H : Hp) (ts : List T) (cs : List Addr) : Prop := ts.length = cs.length ∧ ∀ (i : Nat) t c, ts[i]? = some t → cs[i]? = some c → TreeAt H t c
theorem KidsAt.same {H H' : Hp} {ts : List T} {cs : List Addr} (h : KidsAt H ts cs) (s : Same H H') : KidsAt H' ts cs := ⟨h.1, fun i t c e1 e2 => (h.2 i t c e1 e2).same s⟩
theorem KidsAt.at {H : Hp} {ts : List T} {cs : List Addr} (h : KidsAt H ts cs) {i : Nat} {x : V} (e : (cs.map V.ref)[i]? = some x) : ∃ t c, ts[i]? = some t ∧ t ∈ ts ∧ x = .ref c ∧ TreeAt H t c := by
  rw [List.getElem?_map] at e
  cases q : cs[i]? with
  | none => rw [q] at e; cases e
  | some c =>
    rw [q] at e
    have lt : i < ts.length := by rw [h.1]; exact (List.getElem?_eq_some_iff.mp q).1
    exact ⟨ts[i], c, List.getElem?_eq_getElem lt, List.getElem_mem lt, (Option.some.inj e).symm, h.2 i _ c (List.getElem?_eq_getElem lt) q⟩
theorem in_leaf : (∀ k : Str, k ∈ [("number" : Str), "name"] → inV (.str k) [.str "number", .str "name"] = true) ∧ ∀ k : Str, k ∈ [("plus" : Str), "max", "imax"] → inV (.str k) [.str "number", .str "name"] = false := by decide +kernel
theorem is_plus : (∀ k : Str, k ∈ [("number" : Str), "name", "max", "imax"] → decide (V.str k = V.str ("plus" : Str)) = false) ∧ (∀ k : Str, k ∈ [("number" : Str), "plus", "max", "imax"] → decide (V.str k = V.str ("name" : Str)) = false) ∧
  (∀ k : Str, k ∈ [("name" : Str), "plus", "max", "imax"] → decide (V.str k = V.str ("number" : Str)) = false) ∧ (∀ k : Str, k ∈ [("number" : Str), "name", "plus"] → decide (V.str k = V.str ("imax" : Str)) = false) := by decide +kernel
theorem cut_tl (x : V) (xs : List V) : cutV (x :: xs) (some 1) none = xs ∧ ¬ (HT.sIx (x :: xs).length 0 (some 1) = 0 ∧ HT.sIx (x :: xs).length (x :: xs).length none = (x :: xs).length) := by
  have e : HT.sIx (x :: xs).length 0 (some 1) = 1 := by
    rw [show (1 : Int) = ((1 : Nat) : Int) from rfl, HT.sIx_nat, List.length_cons]
    omega
  refine ⟨?_, fun h => by rw [e] at h; exact absurd h.1 (by decide)⟩
  unfold cutV
  rw [e, HT.sIx_none]
  simp
theorem cut_12 (x y z : V) : ¬ (HT.sIx [x, y, z].length 0 (some 1) = 0 ∧ HT.sIx [x, y, z].length [x, y, z].length (some 2) = [x, y, z].length) := by
  show ¬ (HT.sIx 3 0 (some 1) = 0 ∧ HT.sIx 3 3 (some 2) = 3)
  decide
theorem at_hd (x : V) (xs : List V) : atI (x :: xs) 0 = some x := atI_nat (xs := x :: xs) (j := 0) rfl
section
variable {P : Program} {w : World} {K : PySem.W.Frag} {mg : Str → Option Value} {base : Heap} {pS pC : Addr}
/-! ### _law_parts -/
def spParts : Sp := fun vs H Q _ => ∃ (a : Addr) (t : T), vs = [.ref a] ∧ TreeAt H t a ∧ ∀ H' p cs, Same H H' → H p = none → H' p = some (.lst (cs.map V.ref)) → KidsAt H t.kids cs → Q (.ref p) H'
theorem sc_parts : FnScope ["_law_told"] ["_law_told"] (defScope st__law_parts) := ⟨rfl, rfl, rfl, by decide +kernel, rfl, by decide +kernel, by decide +kernel⟩
theorem ok_parts {f : Addr} {fd : FuncData} (F : Fun K "_law_parts" "_law_parts" st__law_parts f fd) (L : Lx mg) : FnOk P w K mg base CX0 1 f fd ["_law_told"] spParts := by
  refine F.ok sc_parts (fun vs H Q E h => ?_) (fun cdv A outer s H vs Q E hr h => ?_)
  · obtain ⟨a, t, rfl, _⟩ := h
    rfl
  obtain ⟨a, t, rfl, ht, q⟩ := h
  have nd := sc_parts.nd
  refine ⟨_, (pss_cons (ps_if (pt_cmpR op_in_seq (pe_ix ix_tup (pv 0) pe_int (fun _ _ => rfl)) (pe_tup (pa_cons pe_str (pa_cons pe_str pa_nil))) rfl) (pss_one (ps_ret (pe_lst pa_nil))) pss_nil)
      (pss_one (ps_ret (pe_ifExp (pt_cmpR op_eq (pe_ix ix_tup (pv 0) pe_int (fun _ _ => rfl)) pe_str (nomark _)) (pe_callTy call_list_of (by rfl) L.list (by decide +kernel) (pa_cons (pe_slice sl_tup (pv 0) (po_some pe_int) (po_some pe_int)) pa_nil)) (pe_callTy call_list_of (by rfl) L.list (by decide +kernel) (pa_cons (pe_slice sl_tup (pv 0) (po_some pe_int) po_none) pa_nil)))))), ?_⟩
  have none_ : ∀ H1, Same H H1 → KidsAt H t.kids [] → ∀ p, H1 p = none → Q (.ref p) (upd H1 p (.lst [])) := fun H1 s1 hk p np => q _ p [] (s1.trans (same_new np _)) (s1.free np) upd_same hk
  cases ht with
  | num h =>
    refine ⟨_, rfl, a, _, _, _, rfl, rfl, SqT.of h, rfl, (by show 2 ≤ sizeLine; decide), fun p1 n1 => ⟨p1, _, rfl, .inr (SqT.of upd_same), rfl, rfl, _, rfl, ?_⟩⟩
    rw [ifF, in_leaf.1 _ (by decide +kernel)]
    exact iteT ⟨Nat.zero_le _, fun p np => none_ _ (same_new n1 _) ⟨rfl, fun i t c e => by cases e⟩ p np⟩
  | nam h =>
    refine ⟨_, rfl, a, _, _, _, rfl, rfl, SqT.of h, rfl, (by show 2 ≤ sizeLine; decide), fun p1 n1 => ⟨p1, _, rfl, .inr (SqT.of upd_same), rfl, rfl, _, rfl, ?_⟩⟩
    rw [ifF, in_leaf.1 _ (by decide +kernel)]
    exact iteT ⟨Nat.zero_le _, fun p np => none_ _ (same_new n1 _) ⟨rfl, fun i t c e => by cases e⟩ p np⟩
  | @plus a c t k h r =>
    refine ⟨_, rfl, a, _, _, _, rfl, rfl, SqT.of h, rfl, (by show 2 ≤ sizeLine; decide), fun p1 n1 => ⟨p1, _, rfl, .inr (SqT.of upd_same), rfl, rfl, _, rfl, ?_⟩⟩
    rw [ifF, in_leaf.2 _ (by decide +kernel)]
    have h1 := same_new n1 (.tup [.str "number", .str "name"]) a _ h
    refine iteF ⟨_, rfl, a, _, _, _, rfl, rfl, SqT.of h1, rfl, rfl, _, rfl, ?_⟩
    rw [eq_self]
    refine iteT ⟨_, rfl, _, rfl, _, rfl, a, _, rfl, SqT.of h1, cut_12 _ _ _, fun p2 n2 => ⟨p2, _, rfl, .inr (SqT.of upd_same), fun p np => ?_⟩⟩
    have s2 := (same_new n1 (.tup [.str "number", .str "name"])).trans (same_new n2 (.tup [.ref c]))
    refine q _ p [c] (s2.trans (same_new np _)) (s2.free np) upd_same ⟨rfl, fun i t' c' e1 e2 => ?_⟩
    match i with
    | 0 => cases e1; cases e2; exact r
    | i + 1 => cases e1
  | @node a b ts cs h l r =>
    refine ⟨_, rfl, a, _, _, _, rfl, rfl, SqT.of h, at_hd _ _, (by show 2 ≤ sizeLine; decide), fun p1 n1 => ⟨p1, _, rfl, .inr (SqT.of upd_same), rfl, rfl, _, rfl, ?_⟩⟩
    rw [ifF, in_leaf.2 _ (by cases b <;> decide +kernel)]
    have h1 := same_new n1 (.tup [.str "number", .str "name"]) a _ h
    refine iteF ⟨_, rfl, a, _, _, _, rfl, rfl, SqT.of h1, at_hd _ _, rfl, _, rfl, ?_⟩
    rw [is_plus.1 _ (by cases b <;> decide +kernel)]
    refine iteF ⟨_, rfl, _, rfl, a, _, rfl, SqT.of h1, (cut_tl _ _).2, fun p2 n2 => ⟨p2, _, rfl, .inr (SqT.of upd_same), fun p np => ?_⟩⟩
    rw [(cut_tl _ _).1] at np ⊢
    have s2 := (same_new n1 (.tup [.str "number", .str "name"])).trans (same_new n2 (.tup (cs.map V.ref)))
    exact q _ p cs (s2.trans (same_new np _)) (s2.free np) upd_same ⟨l, r⟩
end
end Pg
/-! Lw4 -/
set_option Elab.async false
set_option linter.all false
set_option maxRecDepth 100000
set_option maxHeartbeats 4000000
namespace Mr
open PySem
theorem T.text_plus (t : T) (k : Nat) : (T.plus t k).text = t.text ++ cPlus ++ D k := by
  unfold T.text
  rw [T.tok, List.flatten_append]
  simp
theorem joinL_glue : ∀ l : List (List Cs), TL.joinL cSep (l.map List.flatten) = (glue l).flatten
  | [] => rfl
  | [a] => by
    show TL.joinL cSep [a.flatten] = a.flatten
    simp [TL.joinL]
  | a :: b :: r => by
    have ih := joinL_glue (b :: r)
    show a.flatten ++ (cSep ++ TL.joinL cSep ((b :: r).map List.flatten)) = (a ++ cSep :: glue (b :: r)).flatten
    rw [ih, List.flatten_append, List.flatten_cons]
theorem T.text_node (b : Bool) (ts : List T) : (T.node b ts).text = opn b ++ TL.joinL cSep (ts.map T.text) ++ cEnd := by
  have e := joinL_glue (ts.map fun t => t.tok)
  rw [List.map_map] at e
  have e' : TL.joinL cSep (ts.map T.text) = (glue (ts.map fun t => t.tok)).flatten := e
  rw [e']
  unfold T.text
  rw [T.tok, List.flatten_cons, List.flatten_append]
  simp
theorem joinL_len (sep : Cs) : ∀ (l : List Cs) (t : Cs), t ∈ l → t.length ≤ (TL.joinL sep l).length
  | [], t, h => absurd h List.not_mem_nil
  | [a], t, h => by
    rcases List.mem_singleton.mp h with rfl
    simp [TL.joinL]
  | a :: b :: r, t, h => by
    show t.length ≤ (a ++ (sep ++ TL.joinL sep (b :: r))).length
    rw [List.length_append, List.length_append]
    rcases List.mem_cons.mp h with rfl | h
    · omega
    · have := joinL_len sep (b :: r) t h
      omega
end Mr
namespace Pg
open PySem L2 Mr
theorem tv_S (a : Cs) : tv a = .str (S a) := rfl
theorem join_sep (l : List Cs) : Txt.join (", " : Str) (l.map S) = S (TL.joinL cSep l) := by
  have e0 : S cSep = (", " : Str) := by decide +kernel
  rw [TL.join_eq]
  apply TL.ext_tl
  rw [TL.tl_join, ← e0, List.map_map]
  show TL.joinL cSep (l.map fun t => t) = _
  rw [List.map_id']
  rfl
theorem open_S (b : Bool) : cName b ++ ("(" : Str) = S (opn b) := by cases b <;> decide +kernel
theorem plus_S : (" + " : Str) = S cPlus := by decide +kernel
theorem end_S : (")" : Str) = S cEnd := by decide +kernel
theorem opn_len (b : Bool) : (opn b).length ≤ 5 := by cases b <;> decide
section
variable {P : Program} {w : World} {K : PySem.W.Frag} {mg : Str → Option Value} {base : Heap} {pS pC : Addr}
/-! ### _law_text -/
def spText (n : Nat) : Sp := fun vs H Q _ => ∃ (a : Addr) (t : T) (m : Nat), vs = [.ref a] ∧ TreeAt H t a ∧ m < n ∧ Dp m t ∧ t.ok ∧ t.text.length ≤ 100000 ∧ ∀ H', Same H H' → Q (tv t.text) H'
theorem sc_text : FnScope ["_law_told", "_law_part"] ["_law_told"] (defScope st__law_text) := ⟨rfl, rfl, rfl, by decide +kernel, rfl, by decide +kernel, by decide +kernel⟩
theorem ok_text1 {n : Nat} {f : Addr} {fd : FuncData} (F : Fun K "_law_text" "_law_text" st__law_text f fd) (L : Lx mg) (c_text : CalX P w K mg base (n + 1) "_law_text" (spText n)) :
    FnOk P w K mg base CX0 (n + 2) f fd ["_law_told"] (spText (n + 1)) := by
  refine F.ok sc_text (fun vs H Q E h => ?_) (fun cdv A outer s H vs Q E hr h => ?_)
  · obtain ⟨a, t, m, rfl, _⟩ := h
    rfl
  obtain ⟨a, t, m, rfl, ht, hm, hd, hk, hlen, q⟩ := h
  have nd := sc_text.nd
  refine ⟨_, (pss_cons (ps_if (pt_cmpR op_in_seq (pe_ix ix_tup (pv 0) pe_int (fun _ _ => rfl)) (pe_tup (pa_cons pe_str (pa_cons pe_str pa_nil))) rfl) (pss_one (ps_ret (pe_callTy call_str_any (by rfl) L.str (by decide +kernel) (pa_cons (pe_ix ix_tup (pv 0) pe_int (fun _ _ => rfl)) pa_nil)))) pss_nil)
      (pss_cons (ps_if (pt_cmpR op_eq (pe_ix ix_tup (pv 0) pe_int (fun _ _ => rfl)) pe_str (nomark _)) (pss_one (ps_ret (pe_op op_add_str (pe_op op_add_str (C8.pe_c c_text hr (by omega) rfl (pa_cons (pe_ix ix_tup (pv 0) pe_int (fun _ _ => rfl)) pa_nil)) pe_str) (pe_callTy call_str_int (by rfl) L.str (by decide +kernel) (pa_cons (pe_ix ix_tup (pv 0) pe_int (fun _ _ => rfl)) pa_nil))))) pss_nil)
      (pss_one (ps_ret (pe_op op_add_str (pe_op op_add_str (pe_op op_add_str (pe_ix ix_tup (pv 0) pe_int (fun _ _ => rfl)) pe_str) (pe_join pe_str (pe_lc (own := [("_law_part", 1)]) (g := gName 1) (tt := tYes) rfl nd (pi_tup (pe_slice sl_tup (pv 0) (po_some pe_int) po_none)) (blkOk_by (N := ["_law_told", "_law_part"]) (sc := defScope st__law_text) (by decide +kernel)) (fun _ _ _ _ _ => (pg_name (i := 1) nd rfl (Or.inl rfl))) (fun _ _ _ _ _ => pts_nil) (fun _ _ _ _ _ => (C8.pe_c c_text hr (by omega) rfl (pa_cons (pv 1) pa_nil)))))) pe_str))))), ?_⟩
  cases ht with
  | @num a k h =>
    rw [T.ok] at hk
    refine ⟨_, rfl, a, _, _, _, rfl, rfl, SqT.of h, rfl, (by show 2 ≤ sizeLine; decide), fun p1 n1 => ⟨p1, _, rfl, .inr (SqT.of upd_same), rfl, rfl, _, rfl, ?_⟩⟩
    rw [ifF, in_leaf.1 _ (by decide +kernel)]
    have s1 : Same H (upd H p1 (.tup [.str "number", .str "name"])) := same_new n1 _
    have h1 := s1 a _ h
    refine iteT ⟨_, rfl, a, _, _, _, rfl, rfl, SqT.of h1, rfl, .inl ⟨_, rfl, log_small hk, ?_⟩⟩
    have e := q _ s1
    rw [tv_S, show (T.num k).text = D k by simp [T.text, T.tok], ← S_D] at e
    exact e
  | @nam a s0 h =>
    refine ⟨_, rfl, a, _, _, _, rfl, rfl, SqT.of h, rfl, (by show 2 ≤ sizeLine; decide), fun p1 n1 => ⟨p1, _, rfl, .inr (SqT.of upd_same), rfl, rfl, _, rfl, ?_⟩⟩
    rw [ifF, in_leaf.1 _ (by decide +kernel)]
    have s1 : Same H (upd H p1 (.tup [.str "number", .str "name"])) := same_new n1 _
    have h1 := s1 a _ h
    refine iteT ⟨_, rfl, a, _, _, _, rfl, rfl, SqT.of h1, rfl, .inr ⟨_, rfl, ?_⟩⟩
    have e := q _ s1
    rw [show (T.nam s0).text = s0 by simp [T.text, T.tok]] at e
    exact e
  | @plus a c t k h r =>
    rw [T.ok] at hk
    rw [T.text_plus, List.length_append, List.length_append] at hlen
    rw [T.text_plus] at q
    cases hd with
    | @plus m _ _ hd =>
    refine ⟨_, rfl, a, _, _, _, rfl, rfl, SqT.of h, rfl, (by show 2 ≤ sizeLine; decide), fun p1 n1 => ⟨p1, _, rfl, .inr (SqT.of upd_same), rfl, rfl, _, rfl, ?_⟩⟩
    rw [ifF, in_leaf.2 _ (by decide +kernel)]
    have s1 : Same H (upd H p1 (.tup [.str "number", .str "name"])) := same_new n1 _
    have h1 := s1 a _ h
    refine iteF ⟨_, rfl, a, _, _, _, rfl, rfl, SqT.of h1, rfl, rfl, _, rfl, ?_⟩
    rw [eq_self]
    refine iteT ⟨_, rfl, a, _, _, _, rfl, rfl, SqT.of h1, rfl, c, t, m, rfl, r.same s1, by omega, hd, hk.1, by omega, fun H2 s2 => ?_⟩
    have h2 := s2 a _ h1
    refine ⟨_, _, rfl, rfl, ?_, _, rfl, a, _, _, _, rfl, rfl, SqT.of h2, rfl, _, rfl, log_small hk.2, _, _, rfl, rfl, ?_, ?_⟩
    · rw [len_S]
      have : (" + " : Str).length = 3 := by decide +kernel
      rw [this]
      have : (100000 : Nat) + 3 ≤ sizeLine := by decide
      omega
    · rw [plus_S, S_D, S_app, len_S, len_S, List.length_append]
      have : (100000 : Nat) ≤ sizeLine := by decide
      omega
    · have e := q _ (s1.trans s2)
      rw [plus_S, S_D, S_app, S_app]
      exact e
  | @node a b ts cs h l r =>
    rw [T.ok] at hk
    rw [T.text_node, List.length_append, List.length_append] at hlen
    rw [T.text_node] at q
    cases hd with
    | @node m _ _ hl20 hd =>
    refine ⟨_, rfl, a, _, _, _, rfl, rfl, SqT.of h, at_hd _ _, (by show 2 ≤ sizeLine; decide), fun p1 n1 => ⟨p1, _, rfl, .inr (SqT.of upd_same), rfl, rfl, _, rfl, ?_⟩⟩
    rw [ifF, in_leaf.2 _ (by cases b <;> decide +kernel)]
    have s1 : Same H (upd H p1 (.tup [.str "number", .str "name"])) := same_new n1 _
    have h1 := s1 a _ h
    refine iteF ⟨_, rfl, a, _, _, _, rfl, rfl, SqT.of h1, at_hd _ _, rfl, _, rfl, ?_⟩
    rw [is_plus.1 _ (by cases b <;> decide +kernel)]
    refine iteF ⟨_, rfl, a, _, _, _, rfl, rfl, SqT.of h1, at_hd _ _, _, _, rfl, rfl, (by cases b <;> decide +kernel), ?_⟩
    refine ⟨⟨_, rfl⟩, _, rfl, _, rfl, a, _, rfl, SqT.of h1, (cut_tl _ _).2, fun p2 n2 => ?_⟩
    rw [(cut_tl _ _).1] at *
    have s2 := s1.trans (same_new n2 (.tup (cs.map V.ref)))
    have hp2 : upd (upd H p1 (.tup [.str "number", .str "name"])) p2 (.tup (cs.map V.ref)) p2 = some (.tup (cs.map V.ref)) := upd_same
    generalize upd (upd H p1 (.tup [.str "number", .str "name"])) p2 (.tup (cs.map V.ref)) = H2 at s2 hp2
    have ka : KidsAt H2 ts cs := KidsAt.same ⟨l, r⟩ s2
    refine ⟨p2, rfl, ⟨_, SqT.of hp2⟩, fun D nD => lc_tup (K := K) (a := p2) (xs := cs.map V.ref) (fun i H' => Same H2 H' ∧ H' D = some (.lst ((ts.take i).map fun t => tv t.text))) ⟨same_new nD _, upd_same⟩ (fun i H' _ p => SqT.of (p.1 _ _ hp2)) ?kid ?fin⟩
    case kid =>
      rintro i x H3 hi ⟨s3, hD⟩
      obtain ⟨t, c, ht, htm, rfl, hta⟩ := ka.at hi
      have tl := joinL_len cSep _ _ (List.mem_map_of_mem (f := T.text) htm)
      refine ⟨rfl, ⟨_, rfl, c, t, m, rfl, hta.same s3, by omega, hd t htm, hk.2 t htm, by omega, fun H4 s4 => ⟨_, s4 _ _ hD, big (by rw [List.length_map, List.length_take]; omega), same_mut (s3.trans s4) nD, ?_⟩⟩⟩
      rw [upd_same, List.take_succ, ht, List.map_append]
      rfl
    case fin =>
      rintro H3 ⟨s3, hD⟩
      rw [List.length_map, ← l, List.take_length] at hD
      have sum_le : ∀ l : List T, (∀ t ∈ l, t.text.length ≤ 100000) → ((l.map fun t => S t.text).map (·.length)).sum ≤ l.length * 100000 := fun l => by
        induction l with
        | nil => intro _; exact Nat.le_refl _
        | cons a l ih =>
          intro h
          have i1 := ih fun t ht => h t (List.mem_cons_of_mem _ ht)
          have i2 := h a List.mem_cons_self
          rw [List.map_cons, List.map_cons, List.sum_cons, List.length_cons, len_S]
          omega
      have sl := sum_le ts fun t ht => by
        have tl := joinL_len cSep _ _ (List.mem_map_of_mem (f := T.text) ht)
        omega
      have e2 : (", " : Str).length = 2 := by decide +kernel
      refine ⟨_, D, ts.map fun t => S t.text, rfl, rfl, .inl (SqL.of (by rw [hD, List.map_map]; rfl)), ?_, ?_⟩
      · rw [e2, List.length_map]
        omega
      · have ej : Txt.join (", " : Str) (ts.map fun t => S t.text) = S (TL.joinL cSep (ts.map T.text)) := by
          rw [← join_sep, List.map_map]
          rfl
        rw [ej, open_S]
        have m5 : (100000 : Nat) ≤ sizeLine := by decide
        refine ⟨_, _, rfl, rfl, ?_, ?_⟩
        · rw [len_S, len_S]; omega
        rw [S_app]
        refine ⟨_, _, rfl, rfl, ?_, ?_⟩
        · rw [end_S, len_S, len_S, List.length_append]; omega
        · have e := q _ (s2.trans s3)
          rw [end_S, S_app]
          exact e
end
end Pg
/-! Lw5 -/
set_option Elab.async false
set_option linter.all false
set_option maxRecDepth 100000
set_option maxHeartbeats 4000000
namespace Mr
open PySem
/-- levels in the place of names -/
def T.sub (σ : Cs → Option T) : T → T
  | .num k => .num k
  | .nam s => (σ s).getD (.nam s)
  | .plus t k => .plus (t.sub σ) k
  | .node b ts => .node b (ts.map fun t => t.sub σ)
end Mr
namespace Pg
open PySem L2 Mr
theorem is_name_no : (∀ k : Str, k ∈ [("number" : Str), "plus", "max", "imax"] → decide (V.str k = V.str ("name" : Str)) = false) ∧ (∀ k : Str, k ∈ [("name" : Str), "plus", "max", "imax"] → decide (V.str k = V.str ("number" : Str)) = false) := ⟨is_plus.2.1, is_plus.2.2.1⟩
/-- the dict at d has the trees of σ -/
def OthAt (H : Hp) (kvs : List (Key × V)) (sb : Cs → Option T) : Prop := ∀ s, (sb s = none ∧ valV kvs (Sum.inr (S s)) = none) ∨ ∃ u c, sb s = some u ∧ valV kvs (Sum.inr (S s)) = some (.ref c) ∧ TreeAt H u c
theorem OthAt.same {H H' : Hp} {kvs : List (Key × V)} {sb : Cs → Option T} (h : OthAt H kvs sb) (s : Same H H') : OthAt H' kvs sb := fun x => by
  rcases h x with g | ⟨u, c, g1, g2, g3⟩
  · exact .inl g
  · exact .inr ⟨u, c, g1, g2, g3.same s⟩
theorem KidsAt.mut {H : Hp} {ts : List T} {cs : List Addr} {D : Addr} {l : List V} {o : HO} (h : KidsAt H ts cs) (e : H D = some (.lst l)) : KidsAt (upd H D o) ts cs :=
  ⟨h.1, fun i t c e1 e2 => (h.2 i t c e1 e2).mono fun a xs g => by rw [upd_ne (fun z => by rw [z, e] at g; cases g)]; exact g⟩
theorem KidsAt.push {H : Hp} {ts : List T} {cs : List Addr} {t : T} {c : Addr} (h : KidsAt H ts cs) (g : TreeAt H t c) : KidsAt H (ts ++ [t]) (cs ++ [c]) := by
  refine ⟨by rw [List.length_append, List.length_append, h.1]; rfl, fun i t' c' e1 e2 => ?_⟩
  by_cases lt : i < ts.length
  · rw [List.getElem?_append_left lt] at e1
    rw [List.getElem?_append_left (h.1 ▸ lt)] at e2
    exact h.2 i t' c' e1 e2
  · have hl := h.1
    rw [List.getElem?_append_right (by omega)] at e1 e2
    rw [← hl] at e2
    match hh : i - ts.length with
    | 0 => rw [hh] at e1 e2; cases e1; cases e2; exact g
    | j + 1 => rw [hh] at e1; cases e1
end Pg
/-! Ga -/
set_option Elab.async false
set_option linter.all false
set_option maxRecDepth 100000
set_option maxHeartbeats 4000000
namespace Pg
open PySem L2 Mr
/-- atoms, as they stand in a dict: the names in their turn, their numbers -/
structure Atm where
  l : List Cs
  g : Cs → Int
def Atm.kv (A : Atm) : List (Key × V) := A.l.map fun s => ((Sum.inr (S s), V.int (A.g s)) : Key × V)
def Atm.get (A : Atm) (s : Cs) : Option Int := if s ∈ A.l then some (A.g s) else none
def Atm.put (A : Atm) (s : Cs) (v : Int) : Atm := ⟨if s ∈ A.l then A.l else A.l ++ [s], fun x => if x = s then v else A.g x⟩
def mx (i j : Int) : Int := if j > i then j else i
def Atm.best (B : Atm) (s : Cs) (n : Int) : Atm := B.put s (mx n ((B.get s).getD 0))
def Atm.over (B A : Atm) : Atm := A.l.foldl (fun B s => B.best s (A.g s)) B
def greatest (As : List Atm) : Atm := As.foldl Atm.over ⟨[], fun _ => 0⟩
theorem Atm.kv_len (A : Atm) : A.kv.length = A.l.length := List.length_map _
theorem Atm.val (A : Atm) (s : Cs) : valV A.kv (Sum.inr (S s)) = (A.get s).map V.int := by
  unfold Atm.kv Atm.get
  rw [show (A.l.map fun s => ((Sum.inr (S s), V.int (A.g s)) : Key × V)) = A.l.map fun s => ((Sum.inr (S s), (fun x => V.int (A.g x)) s) : Key × V) from rfl]
  induction A.l with
  | nil => rfl
  | cons a l ih =>
    rw [List.map_cons]
    by_cases e : a = s
    · rw [valV_pos (by rw [e]), if_pos (by rw [e]; exact List.mem_cons_self), e]; rfl
    · rw [valV_neg (fun z => e (S_inj.mp (Sum.inr.inj z))), ih]
      by_cases m : s ∈ l
      · rw [if_pos m, if_pos (List.mem_cons_of_mem _ m)]
      · rw [if_neg m, if_neg]
        intro z
        rcases List.mem_cons.mp z with z | z
        · exact e z.symm
        · exact m z
theorem Atm.kv_put (A : Atm) (s : Cs) (v : Int) : putK A.kv (Sum.inr (S s)) (.int v) = (A.put s v).kv := by
  by_cases m : s ∈ A.l
  · unfold putK
    have e := Atm.val A s
    unfold Atm.get at e
    rw [if_pos m] at e
    rw [if_pos (by rw [valV_any, e]; rfl)]
    unfold Atm.put Atm.kv
    rw [if_pos m, List.map_map]
    refine List.map_congr_left fun x _ => ?_
    show (if (Sum.inr (S x) : Key) = Sum.inr (S s) then _ else _) = _
    by_cases c : x = s
    · rw [if_pos (by rw [c])]; show (_, _) = (_, V.int (if x = s then v else A.g x)); rw [if_pos c]
    · rw [if_neg (fun z => c (S_inj.mp (Sum.inr.inj z)))]; show (_, _) = (_, V.int (if x = s then v else A.g x)); rw [if_neg c]
  · have e := Atm.val A s
    unfold Atm.get at e
    rw [if_neg m] at e
    rw [putK_new _ e]
    unfold Atm.put Atm.kv
    rw [if_neg m, List.map_append]
    congr 1
    · exact List.map_congr_left fun x hx => by show (_, _) = (_, V.int (if x = s then v else A.g x)); rw [if_neg (fun z => m (by rw [← z]; exact hx))]
    · simp
end Pg
/-! Ga2 -/
set_option Elab.async false
set_option linter.all false
set_option maxRecDepth 100000
set_option maxHeartbeats 4000000
namespace Pg
open PySem L2 Mr
theorem best_len (B : Atm) (s : Cs) (n : Int) : (B.best s n).l.length ≤ B.l.length + 1 := by
  unfold Atm.best Atm.put
  show (if s ∈ B.l then B.l else B.l ++ [s]).length ≤ _
  by_cases m : s ∈ B.l
  · rw [if_pos m]; omega
  · rw [if_neg m, List.length_append]; exact Nat.le_refl _
theorem fold_len (A : Atm) : ∀ (l : List Cs) (B : Atm), (l.foldl (fun B s => B.best s (A.g s)) B).l.length ≤ B.l.length + l.length
  | [], B => Nat.le_refl _
  | s :: l, B => by
    have h1 := fold_len A l (B.best s (A.g s))
    have h2 := best_len B s (A.g s)
    rw [List.foldl_cons, List.length_cons]
    omega
theorem folds_len : ∀ (As : List Atm) (B : Atm), (∀ A ∈ As, A.l.length ≤ 100) → (As.foldl Atm.over B).l.length ≤ B.l.length + 100 * As.length
  | [], B, _ => Nat.le_add_right _ _
  | A :: As, B, h => by
    have h1 := folds_len As (B.over A) fun A' m => h A' (List.mem_cons_of_mem _ m)
    have h2 : (B.over A).l.length ≤ B.l.length + A.l.length := fold_len A A.l B
    have h3 := h A List.mem_cons_self
    rw [List.foldl_cons, List.length_cons]
    omega
theorem kv_ix {A : Atm} {n : Nat} {x y : V} (h1 : (A.kv[n]?.map fun kv => kV kv.1) = some x) (h2 : A.kv[n]?.map Prod.snd = some y) : ∃ s, A.l[n]? = some s ∧ x = tv s ∧ y = .int (A.g s) := by
  unfold Atm.kv at h1 h2
  rw [List.getElem?_map] at h1 h2
  cases e : A.l[n]? with
  | none => rw [e] at h1; cases h1
  | some s =>
    rw [e] at h1 h2
    exact ⟨s, rfl, (Option.some.inj h1).symm, (Option.some.inj h2).symm⟩
section
variable {P : Program} {w : World} {K : PySem.W.Frag} {mg : Str → Option Value} {base : Heap} {pS pC : Addr}
/-! ### _greatest -/
def spGr (K : PySem.W.Frag) : Sp := fun vs H Q _ => ∃ (a : Addr) (cs : List Addr) (As : List Atm), vs = [.ref a] ∧ SqL K H a (cs.map V.ref) ∧ cs.length = As.length ∧ As.length ≤ 100 ∧ (∀ A ∈ As, A.l.length ≤ 100) ∧
  (∀ (i : Nat) A c, As[i]? = some A → cs[i]? = some c → H c = some (.dK A.kv)) ∧ ∀ H' p, Same H H' → H p = none → H' p = some (.dK (greatest As).kv) → Q (.ref p) H'
theorem sc_gr : FnScope ["dicts", "best", "found", "name", "number"] ["dicts"] (defScope st__greatest) := ⟨rfl, rfl, rfl, by decide +kernel, rfl, by decide +kernel, by decide +kernel⟩
theorem ok_gr {f : Addr} {fd : FuncData} (F : Fun K "_greatest" "_greatest" st__greatest f fd) (L : Lx mg) : FnOk P w K mg base CX0 1 f fd ["dicts"] (spGr K) := by
  refine F.ok sc_gr (fun vs H Q E h => ?_) (fun cdv A0 outer s H vs Q E hr h => ?_)
  · obtain ⟨a, cs, As, rfl, _⟩ := h
    rfl
  obtain ⟨a, cs, As, rfl, hS, hlen, h100, hA, hat, q⟩ := h
  have nd := sc_gr.nd
  have hu := hu_of hr
  refine ⟨_, (pss_cons (ps_set (i := 1) nd rfl (.inl rfl) pe_dnewK)
      (pss_cons (ps_for PassesOwn.never rfl (pi_list (pv 0)) (pg_name (i := 2) nd rfl (Or.inl rfl)) (pss_one (ps_lock (ps_for PassesOwn.never rfl (pi_items (pv 2)) (pg_tup (n := 2) rfl (pgs_cons (pg_name (i := 3) nd rfl (Or.inl rfl)) (pgs_cons (pg_name (i := 4) nd rfl (Or.inl rfl)) pgs_nil))) (pss_one (ps_dput hu (pv 1) (pv 3) (pe_callB (call_max2 rfl) (by rfl) L.max (by decide +kernel) (pa_cons (pv 4) (pa_cons (pe_dget2 hu (pv 1) (pv 3) pe_int ⟨rfl, rfl, rfl, rfl⟩) pa_nil))) rfl))))))
      (pss_one (ps_ret (pv 1))))), ?_⟩
  refine fun pB nB => ?_
  have s0 : Same H (upd H pB (.dK [])) := same_new nB _
  have stay : ∀ {H' : Hp}, (∀ b o, b ≠ pB → H b = some o → H' b = some o) → Same H H' := fun k b o e => k b o (ne_of_none e nB) e
  refine ⟨_, rfl, a, rfl, ⟨_, Same.seq s0 hS⟩, for_list (K := K) (a := a) (xs := cs.map V.ref) (fun i σ H' => ∃ (u2 u3 u4 : Option V), σ = [some (.ref a), some (.ref pB), u2, u3, u4] ∧ (∀ b o, b ≠ pB → H b = some o → H' b = some o) ∧ H' pB = some (.dK ((As.take i).foldl Atm.over ⟨[], fun _ => 0⟩).kv))
    ⟨_, _, _, rfl, fun b o _ e => s0 b o e, upd_same⟩ (fun i σ H' _ ⟨_, _, _, _, k, _⟩ => Same.seq (stay k) hS) ?one ?all⟩
  case all =>
    rintro σ H' ⟨u2, u3, u4, rfl, k, hB⟩
    rw [List.length_map, hlen, List.take_length] at hB
    exact ⟨_, rfl, q H' pB (stay k) nB hB⟩
  case one =>
    rintro i x σ H1 hi ⟨u2, u3, u4, rfl, k, hB⟩
    obtain ⟨c, hc, rfl⟩ : ∃ c, cs[i]? = some c ∧ x = .ref c := by
      rw [List.getElem?_map] at hi
      cases e : cs[i]? with
      | none => rw [e] at hi; cases hi
      | some c => rw [e] at hi; exact ⟨c, rfl, (Option.some.inj hi).symm⟩
    have ilt : i < As.length := by rw [← hlen]; exact (List.getElem?_eq_some_iff.mp hc).1
    have hAi : As[i]? = some As[i] := List.getElem?_eq_getElem ilt
    generalize As[i] = A at hAi
    have hcA := hat i A c hAi hc
    have cB : c ≠ pB := ne_of_none hcA nB
    have hc1 := k c _ cB hcA
    have lA := hA A (List.mem_of_getElem? hAi)
    generalize hB0 : (As.take i).foldl Atm.over ⟨[], fun _ => 0⟩ = B0 at hB
    have lB0 : B0.l.length ≤ 100 * 100 := by
      have := folds_len (As.take i) ⟨[], fun _ => 0⟩ fun A' m => hA A' (List.mem_of_mem_take m)
      rw [hB0, List.length_take] at this
      have e0 : (⟨[], fun _ => 0⟩ : Atm).l.length = 0 := rfl
      omega
    refine ⟨c, _, hc1, trivial, fun od => ⟨_, rfl, c, od, A.kv, rfl, upd_same, for_it walk_items (fun n σ H' => ∃ u3 u4, σ = [some (.ref a), some (.ref pB), some (.ref c), u3, u4] ∧ (∀ b o, b ≠ pB → b ≠ c → H b = some o → H' b = some o) ∧ H' c = some (.frz od (.dK A.kv)) ∧ H' pB = some (.dK ((A.l.take n).foldl (fun B s => B.best s (A.g s)) B0).kv))
      ⟨_, _, rfl, fun b o n1 n2 e => by rw [upd_ne n2]; exact k b o n1 e, upd_same, by rw [upd_ne cB.symm]; exact hB⟩ (fun n σ H' _ ⟨_, _, _, _, h, _⟩ => h) ?turn ?done⟩⟩
    case turn =>
      rintro n x σ H2 H3 hn ⟨u3, u4, rfl, k2, hf, hB2⟩ ⟨T, x', y', rfl, nT, rfl, e1, e2⟩
      obtain ⟨s0', hs, rfl, rfl⟩ := kv_ix e1 e2
      have hB3 := same_new nT (.tup [tv s0', .int (A.g s0')]) _ _ hB2
      have lB : ((A.l.take n).foldl (fun B s => B.best s (A.g s)) B0).l.length ≤ 20000 := by
        have := fold_len A (A.l.take n) B0
        rw [List.length_take] at this
        omega
      generalize hBn : (A.l.take n).foldl (fun B s => B.best s (A.g s)) B0 = Bn at hB3 lB
      have hg := DGet.k (k := Sum.inr (S s0')) hB3
      rw [Atm.val] at hg
      refine ⟨T, _, rfl, SqT.of upd_same, rfl, _, _, rfl, _, _, rfl, rfl, ?_⟩
      refine ⟨_, rfl, _, rfl, pB, rfl, .inl ⟨_, .inl hB3⟩, _, rfl, _, hg, A.g s0', (Bn.get s0').getD 0, ?_, ?_⟩
      · cases Bn.get s0' <;> rfl
      have hlB : Bn.kv.length < sizeLine := by rw [Atm.kv_len]; exact Nat.lt_of_le_of_lt lB (by decide)
      refine ⟨_, rfl, _, rfl, pB, _, rfl, DPut.k (k := Sum.inr (S s0')) hB3 hlB, _, _, rfl, fun b o n1 n2 e => ?_, ?_, ?_⟩
      · rw [upd_ne n1]
        exact same_new nT _ _ _ (k2 b o n1 n2 e)
      · rw [upd_ne cB]
        exact same_new nT _ _ _ hf
      · rw [upd_same, List.take_succ, hs, List.foldl_append, hBn]
        exact congrArg some (congrArg HO.dK (Atm.kv_put Bn s0' _))
    case done =>
      rintro σ H2 ⟨u3, u4, rfl, k2, hf, hB2⟩
      rw [Atm.kv_len, List.take_length] at hB2
      refine ⟨hf, _, _, _, rfl, fun b o n1 e => ?_, ?_⟩
      · by_cases z : b = c
        · rw [z, upd_same]
          rw [z, hcA] at e
          exact e
        · rw [upd_ne z]; exact k2 b o n1 z e
      · rw [upd_ne cB.symm, hB2, List.take_succ, hAi, List.foldl_append, hB0]
        rfl
end
end Pg
/-! Gb -/
set_option Elab.async false
set_option linter.all false
set_option maxRecDepth 100000
set_option maxHeartbeats 4000000
namespace Pg
open PySem L2 Mr
/-! atoms over the steps of a level -/
def numA (k : Int) : Atm := ⟨[[]], fun _ => k⟩
def namA (Z : List Cs) (s : Cs) : Atm := if s ∈ Z then ⟨[[]], fun _ => 0⟩ else ⟨[s], fun _ => 0⟩
def Atm.plus (A : Atm) (k : Int) : Atm := ⟨A.l, fun s => A.g s + k⟩
def Atm.isZero (A : Atm) : Bool := decide (A.l = [[]]) && decide (A.g [] = 0)
def callA (b : Bool) (As : List Atm) : Atm := if (!b && (As.getLast?.map Atm.isZero).getD false) = true then numA 0 else greatest As
def _root_.Mr.T.atm (Z : List Cs) : T → Atm
  | .num k => numA k
  | .nam s => namA Z s
  | .plus t k => (t.atm Z).plus k
  | .node b ts => callA b (ts.map fun t => t.atm Z)
def astep (Z : List Cs) (p : List Atm) : Stp → Option (List Atm)
  | .num k => some (p ++ [numA k])
  | .nam s => some (p ++ [namA Z s])
  | .plus k => match p.getLast? with
    | some x => some (p.dropLast ++ [Atm.plus x k])
    | none => none
  | .call b n => if 1 ≤ n ∧ n ≤ p.length then some (p.take (p.length - n.toNat) ++ [callA b (p.drop (p.length - n.toNat))]) else none
def arun (Z : List Cs) (p : List Atm) : List Stp → Option (List Atm)
  | [] => some p
  | s :: r => (astep Z p s).bind fun q => arun Z q r
theorem arun_append (Z : List Cs) : ∀ (a b : List Stp) (p : List Atm), arun Z p (a ++ b) = (arun Z p a).bind fun q => arun Z q b
  | [], b, p => rfl
  | s :: a, b, p => by
    show (astep Z p s).bind (fun q => arun Z q (a ++ b)) = ((astep Z p s).bind fun q => arun Z q a).bind _
    cases astep Z p s with
    | none => rfl
    | some q => exact arun_append Z a b q
theorem arun_one (Z : List Cs) (p : List Atm) (s : Stp) : arun Z p [s] = astep Z p s := by
  show (astep Z p s).bind (fun q => some q) = _
  cases astep Z p s <;> rfl
theorem arun_flat (Z : List Cs) : ∀ (l : List (List Stp × Atm)) (p : List Atm), (∀ x ∈ l, ∀ p, arun Z p x.1 = some (p ++ [x.2])) → arun Z p (l.map (·.1)).flatten = some (p ++ l.map (·.2))
  | [], p, _ => by show some p = _; simp
  | x :: l, p, h => by
    rw [List.map_cons, List.flatten_cons, arun_append, h x List.mem_cons_self, Option.bind_some, arun_flat Z l _ fun y hy => h y (List.mem_cons_of_mem _ hy)]
    simp
theorem Mr_arun (Z : List Cs) : ∀ t : T, t.ok → ∀ p, arun Z p t.stp = some (p ++ [t.atm Z])
  | .num k, _, p => by rw [T.stp, arun_one, T.atm]; rfl
  | .nam s, _, p => by rw [T.stp, arun_one, T.atm]; rfl
  | .plus t k, h, p => by
    rw [T.ok] at h
    rw [T.stp, arun_append, Mr_arun Z t h.1, Option.bind_some, arun_one, T.atm]
    show (match (p ++ [t.atm Z]).getLast? with | some x => some ((p ++ [t.atm Z]).dropLast ++ [Atm.plus x (k : Int)]) | none => none) = _
    rw [List.getLast?_concat, List.dropLast_concat]
  | .node b ts, h, p => by
    rw [T.ok] at h
    have g := arun_flat Z (ts.map fun t => (t.stp, t.atm Z)) p fun x hx q => by
      obtain ⟨t, ht, rfl⟩ := List.mem_map.mp hx
      exact Mr_arun Z t (h.2 t ht) q
    rw [List.map_map, List.map_map] at g
    have g1 : arun Z p (ts.map fun t => t.stp).flatten = some (p ++ ts.map fun t => t.atm Z) := g
    rw [T.stp, arun_append, g1, Option.bind_some, arun_one, T.atm]
    have l1 : 1 ≤ ts.length := by
      have := h.1
      cases ts with
      | nil => cases b <;> cases this
      | cons => simp
    have hl : (p ++ ts.map fun t => t.atm Z).length - ((ts.length : Int)).toNat = p.length := by rw [List.length_append, List.length_map]; omega
    show (if _ then _ else _) = _
    rw [if_pos (by rw [List.length_append, List.length_map]; omega), hl, List.take_left, List.drop_left]
theorem arun_take (Z : List Cs) {ss : List Stp} {r : List Atm} (h : arun Z [] ss = some r) (i : Nat) : ∃ p, arun Z [] (ss.take i) = some p := by
  have e : ss = ss.take i ++ ss.drop i := (List.take_append_drop i ss).symm
  rw [e, arun_append] at h
  cases q : arun Z [] (ss.take i) with
  | none => rw [q] at h; cases h
  | some p => exact ⟨p, rfl⟩
theorem arun_next (Z : List Cs) {ss : List Stp} {r p : List Atm} {i : Nat} {s : Stp} (h : arun Z [] ss = some r) (hp : arun Z [] (ss.take i) = some p) (hs : ss[i]? = some s) : ∃ q, astep Z p s = some q ∧ arun Z [] (ss.take (i + 1)) = some q := by
  have e : ss.take (i + 1) = ss.take i ++ [s] := by rw [List.take_succ, hs]; rfl
  obtain ⟨q, hq⟩ := arun_take Z h (i + 1)
  rw [e, arun_append, hp, Option.bind_some, arun_one] at hq
  refine ⟨q, hq, ?_⟩
  rw [e, arun_append, hp, Option.bind_some, arun_one]
  exact hq
theorem astep_plus {Z : List Cs} {p q : List Atm} {k : Int} (h : astep Z p (.plus k) = some q) : ∃ ys x, p = ys ++ [x] ∧ q = ys ++ [Atm.plus x k] := by
  have h : (match p.getLast? with | some x => some (p.dropLast ++ [Atm.plus x k]) | none => none) = some q := h
  cases e : p.getLast? with
  | none => rw [e] at h; cases h
  | some x =>
    rw [e] at h
    obtain ⟨ys, rfl⟩ := List.getLast?_eq_some_iff.mp e
    refine ⟨ys, x, rfl, ?_⟩
    have h : some ((ys ++ [x]).dropLast ++ [Atm.plus x k]) = some q := h
    rw [List.dropLast_concat] at h
    exact (Option.some.inj h).symm
theorem astep_call {Z : List Cs} {p q : List Atm} {b : Bool} {n : Int} (h : astep Z p (.call b n) = some q) : 1 ≤ n ∧ n ≤ p.length ∧ q = p.take (p.length - n.toNat) ++ [callA b (p.drop (p.length - n.toNat))] := by
  have h : (if 1 ≤ n ∧ n ≤ p.length then some (p.take (p.length - n.toNat) ++ [callA b (p.drop (p.length - n.toNat))]) else none) = some q := h
  by_cases c : 1 ≤ n ∧ n ≤ p.length
  · rw [if_pos c] at h; exact ⟨c.1, c.2, (Option.some.inj h).symm⟩
  · rw [if_neg c] at h; cases h
theorem astep_len {Z : List Cs} {p q : List Atm} {s : Stp} (h : astep Z p s = some q) : q.length ≤ p.length + 1 := by
  cases s with
  | num k => cases h; simp
  | nam s => cases h; simp
  | plus k => obtain ⟨ys, x, rfl, rfl⟩ := astep_plus h; rw [List.length_append, List.length_append]; simp only [List.length_singleton]; omega
  | call b n => obtain ⟨h1, h2, rfl⟩ := astep_call h; rw [List.length_append, List.length_take]; simp only [List.length_singleton]; omega
end Pg
/-! De -/
set_option Elab.async false
set_option linter.all false
set_option maxRecDepth 100000
set_option maxHeartbeats 4000000
/-! a == b of dicts of whole numbers: both answers. -/
namespace De
open PySem PySem.Spec PyProof.Rows L2
abbrev Ints (ks : List (Key × V)) : Prop := ∀ p ∈ ks, ∃ i, p.2 = V.int i
def eqD (ks ls : List (Key × V)) : Bool := ks.length == ls.length && ks.all fun p => decide (valV ls p.1 = some p.2)
theorem hits {A : Around} {s : Shared} {ls : List (Key × V)} {vb : List (Key × Value)} (rb : KV ls vb) (hl : ∀ k v, valV ls k = some v → ∃ i, v = V.int i) {ks : List (Key × V)} {va : List (Key × Value)} (ra : KV ks va) :
    Ints ks → PySem.W.KeqHits A s vb va (ks.all fun p => decide (valV ls p.1 = some p.2)) := by
  unfold KV at ra
  induction ra with
  | nil => exact fun _ => .nil
  | @cons p q ps qs h t ih =>
    intro hk
    obtain ⟨h1, h2⟩ := h
    obtain ⟨i, hi⟩ := hk p List.mem_cons_self
    have ih := ih fun p' m => hk p' (List.mem_cons_of_mem _ m)
    obtain ⟨k, v⟩ := q
    have h1 : p.1 = k := h1
    have rr := rb.val p.1
    rw [List.all_cons]
    cases e : valV ls p.1 with
    | none =>
      rw [e] at rr
      have ev : valueAt vb k = none := by
        rw [← h1]
        cases z : valueAt vb p.1 with
        | none => rfl
        | some y => rw [z] at rr; exact rr.elim
      have fl : (decide ((none : Option V) = some p.2) && ps.all fun p => decide (valV ls p.1 = some p.2)) = false := by simp
      rw [fl]
      exact .miss ev
    | some u =>
      rw [e] at rr
      obtain ⟨y, hy, ry⟩ := rr.some_of
      obtain ⟨j, rfl⟩ := hl p.1 u e
      obtain ⟨t2, rfl⟩ := (show ∃ t, y = Value.int j t from ry)
      rw [hi] at h2 ⊢
      obtain ⟨t1, rfl⟩ := (show ∃ t, v = Value.int i t from h2)
      have ed : decide (some (V.int j) = some (V.int i)) = (i == j) := by
        by_cases c : i = j
        · rw [c]; simp
        · have : (i == j) = false := by simpa using c
          rw [this]
          exact decide_eq_false fun z => c (by injection z with z; injection z with z; exact z.symm)
      rw [ed]
      rw [h1] at hy
      refine .hit hy (SeqAt.EqAt.int_int i t1 j t2) ih
section
variable {X : Cx}
def rEqDB : R2 := fun x y H Q => ∃ a b ks ls, x = .ref a ∧ y = .ref b ∧ H a = some (.dK ks) ∧ H b = some (.dK ls) ∧ Ints ks ∧ (∀ k v, valV ls k = some v → ∃ i, v = V.int i) ∧ Q (.bl (eqD ks ls)) H
theorem op_eq_dictB (hu : X.A.units < cLine) : OpR X (compareOp .Eq) rEqDB := by
  intro pins s σ H x y v u Q I rx ry h
  obtain ⟨a, b, ks, ls, rfl, rfl, ea, eb, hk, hl, q⟩ := h
  obtain rfl : v = Value.ref a := rx
  obtain rfl : u = Value.ref b := ry
  obtain ⟨_, ya, va, ra, da⟩ := (show ObjOk X.prog X.w H s.heap a (.dK ks) from I.hok a _ ea)
  obtain ⟨_, yb, vb, rb, db⟩ := (show ObjOk X.prog X.w H s.heap b (.dK ls) from I.hok b _ eb)
  have h1 : va.length = ks.length := ra.length.symm
  have h2 : vb.length = ls.length := rb.length.symm
  refine PySem.W.keq_eq (knd := mixKind X.prog X.w) ya yb da db hu (fun _ => hits rb hl ra hk) (fin_bl I q (by rw [h1, h2]; rfl))
end
end De
/-! Dw -/
set_option Elab.async false
set_option linter.all false
set_option maxRecDepth 100000
set_option maxHeartbeats 4000000
/-! {k: v for .. in it}, by a walk. -/
namespace De
open PySem PySem.Spec PyProof.Rows L2
theorem dc_walk {J : It} {n : Nat} {G : Hp → Prop} {Y : Nat → Hp → V → Hp → Prop} (w : Walk J n G Y) {g : TG} {tt : TT} {tk tv : TE} {vs : List Nat} {σ : L2.St} {H1 : Hp} {D : Addr} {Qd : Hp → Prop} (Pv : Nat → Hp → Prop)
    (start : Pv 0 (upd H1 D (.dK []))) (stay : ∀ i H, i ≤ n → Pv i H → G H)
    (turn : ∀ i x H H', i < n → Pv i H → Y i H x H' → g x (wipe σ vs) H' fun σ2 H2 => wipe σ2 vs = wipe σ vs ∧ tt σ2 H2 fun b H3 =>
      if b = true then tk σ2 H3 fun y H4 => tv σ2 H4 fun z H5 => ∃ kvs k, y = kV k ∧ H5 D = some (.dK kvs) ∧ kvs.length < sizeLine ∧ Pv (i + 1) (upd H5 D (.dK (putK kvs k z))) else Pv (i + 1) H3)
    (fin : ∀ H, Pv n H → Qd H) :
    ∃ W : Nat → Nat → Hp → Prop, (∃ m, W 0 m (upd H1 D (.dK []))) ∧ ∀ i m H, W i m H →
      (J.stop i H ∧ Qd H) ∨ (J.go i H ∧ ∃ Nx : Hp → Prop, (∀ H', Nx H' → ∃ m', m' < m ∧ W (i + 1) m' H') ∧ ∀ x H', J.yld i H x H' → g x (wipe σ vs) H' fun σ2 H2 => wipe σ2 vs = wipe σ vs ∧ tt σ2 H2 fun b H3 =>
        if b = true then tk σ2 H3 fun y H4 => tv σ2 H4 fun z H5 => ∃ kvs k, y = kV k ∧ H5 D = some (.dK kvs) ∧ kvs.length < sizeLine ∧ Nx (upd H5 D (.dK (putK kvs k z))) else Nx H3) := by
  refine ⟨fun i m H => m + i = n ∧ Pv i H, ⟨n, rfl, start⟩, ?_⟩
  intro i m H ⟨e, p⟩
  have q := stay i H (by omega) p
  match m with
  | 0 =>
    have ei : i = n := by omega
    rw [ei] at p ⊢
    exact Or.inl ⟨w.stops H q, fin H p⟩
  | m + 1 =>
    have lt : i < n := by omega
    exact Or.inr ⟨w.goes i H lt q, Pv (i + 1), fun H' p' => ⟨m, Nat.lt_succ_self m, by omega, p'⟩, fun x H' y => turn i x H H' lt p (w.yields i H x H' lt q y)⟩
end De
/-! Gc -/
set_option Elab.async false
set_option linter.all false
set_option maxRecDepth 100000
set_option maxHeartbeats 4000000
namespace Pg
open PySem L2 Mr
def DsAt (H : Hp) (ds : List Addr) (p : List Atm) : Prop := ds.length = p.length ∧ ∀ (i : Nat) A c, p[i]? = some A → ds[i]? = some c → H c = some (.dK A.kv)
theorem DsAt.same {H H' : Hp} {ds : List Addr} {p : List Atm} (h : DsAt H ds p) (s : Same H H') : DsAt H' ds p := ⟨h.1, fun i A c e1 e2 => s _ _ (h.2 i A c e1 e2)⟩
theorem DsAt.mut {H : Hp} {ds : List Addr} {p : List Atm} {D : Addr} {l : List V} {o : HO} (h : DsAt H ds p) (e : H D = some (.lst l)) : DsAt (upd H D o) ds p :=
  ⟨h.1, fun i A c e1 e2 => by have g := h.2 i A c e1 e2; rw [upd_ne (fun z => by rw [z, e] at g; cases g)]; exact g⟩
theorem DsAt.push {H : Hp} {ds : List Addr} {p : List Atm} {c : Addr} {A : Atm} (h : DsAt H ds p) (g : H c = some (.dK A.kv)) : DsAt H (ds ++ [c]) (p ++ [A]) := by
  refine ⟨by rw [List.length_append, List.length_append, h.1]; rfl, fun i A' c' e1 e2 => ?_⟩
  by_cases lt : i < p.length
  · rw [List.getElem?_append_left lt] at e1
    rw [List.getElem?_append_left (h.1.symm ▸ lt)] at e2
    exact h.2 i A' c' e1 e2
  · have hl := h.1
    rw [List.getElem?_append_right (by omega)] at e1 e2
    rw [hl] at e2
    match hh : i - p.length with
    | 0 => rw [hh] at e1 e2; cases e1; cases e2; exact g
    | j + 1 => rw [hh] at e1; cases e1
theorem DsAt.take {H : Hp} {ds : List Addr} {p : List Atm} (h : DsAt H ds p) (n : Nat) : DsAt H (ds.take n) (p.take n) := by
  refine ⟨by rw [List.length_take, List.length_take, h.1], fun i A c e1 e2 => ?_⟩
  rw [List.getElem?_take] at e1 e2
  by_cases lt : i < n
  · rw [if_pos lt] at e1 e2; exact h.2 i A c e1 e2
  · rw [if_neg lt] at e1; cases e1
theorem DsAt.drop {H : Hp} {ds : List Addr} {p : List Atm} (h : DsAt H ds p) (n : Nat) : DsAt H (ds.drop n) (p.drop n) := by
  refine ⟨by rw [List.length_drop, List.length_drop, h.1], fun i A c e1 e2 => ?_⟩
  rw [List.getElem?_drop] at e1 e2
  exact h.2 _ A c e1 e2
theorem kinds : (∀ k : Str, k ∈ [("name" : Str), "+", "max", "imax"] → decide (V.str k = V.str ("number" : Str)) = false) ∧ (∀ k : Str, k ∈ [("number" : Str), "+", "max", "imax"] → decide (V.str k = V.str ("name" : Str)) = false) ∧
   (∀ k : Str, k ∈ [("number" : Str), "name", "max", "imax"] → decide (V.str k = V.str ("+" : Str)) = false) := by decide +kernel
theorem kind_same (k : Str) : decide (V.str k = V.str k) = true := decide_eq_true rfl
theorem flat_names (Z : List Cs) : ∀ x ∈ Z.map tv, flatV x = true := fun x m => by
  obtain ⟨s, _, rfl⟩ := List.mem_map.mp m
  rfl
theorem inV_names (s : Cs) : ∀ Z : List Cs, inV (tv s) (Z.map tv) = decide (s ∈ Z)
  | [] => rfl
  | a :: Z => by
    show ((S a == S s) || inV (tv s) (Z.map tv)) = _
    rw [inV_names s Z]
    by_cases e : a = s
    · rw [e]; simp
    · have h : (S a == S s) = false := by
        rw [beq_eq_false_iff_ne]
        exact fun z => e (S_inj.mp z)
      rw [h, Bool.false_or]
      exact decide_eq_decide.mpr ⟨List.mem_cons_of_mem _, fun m => (List.mem_cons.mp m).resolve_left fun z => e z.symm⟩
theorem cName_imax (b : Bool) : decide (V.str (cName b) = V.str ("imax" : Str)) = !b := by cases b <;> decide +kernel
theorem cut_refs (xs : List Addr) (n : Int) (h : 1 ≤ n) (hn : n ≤ xs.length) : cutV (xs.map V.ref) (some (-n)) none = (xs.drop (xs.length - n.toNat)).map V.ref := by
  have e : HT.sIx (xs.map V.ref).length 0 (some (-n)) = xs.length - n.toNat := by
    rw [List.length_map]
    show (if -n < 0 then (-n + (xs.length : Int)).toNat else _) = _
    rw [if_pos (by omega)]
    omega
  unfold cutV
  rw [e, HT.sIx_none, List.length_map, ← List.map_drop, List.take_of_length_le]
  rw [List.length_map, List.length_drop]
  omega
theorem six_refs (xs : List Addr) (n : Int) (h : 1 ≤ n) (hn : n ≤ xs.length) : (xs.map V.ref).take (HT.sIx (xs.map V.ref).length 0 (some (-n))) = (xs.take (xs.length - n.toNat)).map V.ref := by
  have e : HT.sIx (xs.map V.ref).length 0 (some (-n)) = xs.length - n.toNat := by
    rw [List.length_map]
    show (if -n < 0 then (-n + (xs.length : Int)).toNat else _) = _
    rw [if_pos (by omega)]
    omega
  rw [e, List.map_take]
theorem mem_sum {p : List Atm} {A : Atm} (h : A ∈ p) : A.l.length ≤ (p.map fun A => A.l.length).sum := by
  induction p with
  | nil => cases h
  | cons B p ih =>
    rw [List.map_cons, List.sum_cons]
    rcases List.mem_cons.mp h with rfl | h
    · omega
    · have := ih h
      omega
theorem best_nd {B : Atm} (h : B.l.Nodup) (s : Cs) (n : Int) : (B.best s n).l.Nodup := by
  show (if s ∈ B.l then B.l else B.l ++ [s]).Nodup
  by_cases m : s ∈ B.l
  · rw [if_pos m]; exact h
  · rw [if_neg m]
    exact List.nodup_append.mpr ⟨h, by simp, fun a ha b hb e => m (by rw [← List.mem_singleton.mp hb, ← e]; exact ha)⟩
theorem fold_nd (A : Atm) : ∀ (l : List Cs) (B : Atm), B.l.Nodup → (l.foldl (fun B s => B.best s (A.g s)) B).l.Nodup
  | [], _, h => h
  | s :: l, B, h => by rw [List.foldl_cons]; exact fold_nd A l _ (best_nd h s _)
theorem folds_nd : ∀ (As : List Atm) (B : Atm), B.l.Nodup → (As.foldl Atm.over B).l.Nodup
  | [], _, h => h
  | A :: As, B, h => by rw [List.foldl_cons]; exact folds_nd As _ (fold_nd A A.l B h)
theorem gr_nodup (As : List Atm) : (greatest As).l.Nodup := folds_nd As _ List.nodup_nil
theorem folds_sum : ∀ (As : List Atm) (B : Atm), (As.foldl Atm.over B).l.length ≤ B.l.length + (As.map fun A => A.l.length).sum
  | [], B => Nat.le_refl _
  | A :: As, B => by
    have h1 := folds_sum As (B.over A)
    have h2 : (B.over A).l.length ≤ B.l.length + A.l.length := fold_len A A.l B
    rw [List.foldl_cons, List.map_cons, List.sum_cons]
    omega
theorem gr_len (As : List Atm) : (greatest As).l.length ≤ (As.map fun A => A.l.length).sum := by
  have := folds_sum As ⟨[], fun _ => 0⟩
  have e : (⟨[], fun _ => 0⟩ : Atm).l.length = 0 := rfl
  unfold greatest
  omega
theorem kv_ints (A : Atm) : De.Ints A.kv := fun p m => by
  obtain ⟨s, _, rfl⟩ := List.mem_map.mp m
  exact ⟨_, rfl⟩
theorem kv_vals (A : Atm) : ∀ k v, valV A.kv k = some v → ∃ i, v = V.int i := fun k v h => by
  unfold valV at h
  cases e : A.kv.find? fun kv => decide (kv.1 = k) with
  | none => rw [e] at h; cases h
  | some p =>
    rw [e] at h
    cases h
    exact kv_ints A p (List.mem_of_find?_eq_some e)
theorem eqD_zero (A : Atm) : De.eqD A.kv (numA 0).kv = A.isZero := by
  obtain ⟨l, g⟩ := A
  unfold De.eqD Atm.isZero
  rw [Atm.kv_len, Atm.kv_len]
  match l with
  | [] => rfl
  | [s] =>
    show ((1 == 1) && ([((Sum.inr (S s) : Key), V.int (g s))].all fun p => decide (valV (numA 0).kv p.1 = some p.2))) = (decide ([s] = [[]]) && decide (g [] = 0))
    have hv := Atm.val (numA 0) s
    have hg : (numA 0).get s = if s = [] then some 0 else none := by
      unfold Atm.get numA
      by_cases e : s = []
      · rw [if_pos e, if_pos (by rw [e]; exact List.mem_cons_self)]
      · rw [if_neg e, if_neg (fun m => e (List.mem_singleton.mp m))]
    rw [hg] at hv
    rw [List.all_cons, List.all_nil, Bool.and_true]
    show (true && decide (valV (numA 0).kv (Sum.inr (S s)) = some (V.int (g s)))) = _
    rw [hv, Bool.true_and]
    by_cases e : s = []
    · rw [if_pos e, e]
      show decide (some (V.int 0) = some (V.int (g []))) = (true && decide (g [] = 0))
      rw [Bool.true_and]
      exact decide_eq_decide.mpr ⟨fun h => by injection h with h; injection h with h; exact h.symm, fun h => by rw [h]⟩
    · rw [if_neg e]
      have : decide ([s] = [[]]) = false := decide_eq_false fun h => e (by injection h)
      rw [this]
      rfl
  | a :: b :: r =>
    have h1 : ((a :: b :: r).length == (numA 0).l.length) = false := by
      show (r.length + 1 + 1 == 1) = false
      simp
    have h2 : decide ((a :: b :: r) = [[]]) = false := decide_eq_false fun h => by injection h with _ h; cases h
    rw [h1, h2]
    rfl
theorem not_take2 {l : List Cs} (nd : l.Nodup) {i : Nat} {y : Cs} (hy : l[i]? = some y) : y ∉ l.take i := fun hm => by
  obtain ⟨j, hj, e⟩ := List.getElem_of_mem hm
  rw [List.getElem_take] at e
  rw [List.length_take] at hj
  have hi := (List.getElem?_eq_some_iff.mp hy)
  have := (List.getElem_inj (h₀ := by omega) (h₁ := hi.1) nd).mp (e.trans hi.2.symm)
  omega
theorem num_kv (k : Int) : mergeK [] [((Sum.inr ("" : Str) : Key), V.int k)] = (numA k).kv := by
  have e : S [] = ("" : Str) := by decide +kernel
  show [((Sum.inr ("" : Str) : Key), V.int k)] = [(Sum.inr (S []), V.int k)]
  rw [e]
section
variable {P : Program} {w : World} {K : PySem.W.Frag} {mg : Str → Option Value} {base : Heap} {pS pC : Addr}
/-! ### _atoms_in -/
def SqA (K : PySem.W.Frag) (H : Hp) (a : Addr) (xs : List V) : Prop := SqL K H a xs ∨ SqT K H a xs
def spAin (K : PySem.W.Frag) : Sp := fun vs H Q _ => ∃ (a z : Addr) (ss : List Stp) (Z : List Cs) (A : Atm), vs = [.ref a, .ref z] ∧ LevAt K H a ss ∧ ss.length ≤ 64 ∧ SqA K H z (Z.map tv) ∧ arun Z [] ss = some [A] ∧ ∀ H' p, Same H H' → H p = none → H' p = some (.dK A.kv) → Q (.ref p) H'
theorem sc_ain : FnScope ["steps", "zeros", "pile", "kind", "thing", "last", "name", "number", "taken"] ["steps", "zeros"] (defScope st_atoms_in) := ⟨rfl, rfl, rfl, by decide +kernel, rfl, by decide +kernel, by decide +kernel⟩
/-- what stands before a turn -/
structure Ar (H0 : Hp) (a z pP : Addr) (Z : List Cs) (ss : List Stp) (i : Nat) (σ : L2.St) (H : Hp) (p : List Atm) (ds : List Addr) : Prop where
  sm : Same H0 H
  run : arun Z [] (ss.take i) = some p
  hP : H pP = some (.lst (ds.map V.ref))
  at_ : DsAt H ds p
  new : ∀ c ∈ ds, H0 c = none
  nd : ∀ A ∈ p, A.l.Nodup
  len : p.length ≤ i
  sum : (p.map fun A => A.l.length).sum ≤ i
  sl : ∃ u3 u4 u5 u6 u7 u8, σ = [some (.ref a), some (.ref z), some (.ref pP), u3, u4, u5, u6, u7, u8]
theorem ok_ain {f0 : Addr} {fd : FuncData} (F : Fun K "atoms_in" "atoms_in" st_atoms_in f0 fd) (L : Lx mg) (c_greatest : CalX P w K mg base 1 "_greatest" (spGr K)) : FnOk P w K mg base CX0 2 f0 fd ["steps", "zeros"] (spAin K) := by
  refine F.ok sc_ain (fun vs H Q E h => ?_) (fun cdv A0 outer s H vs Q E hr h => ?_)
  · obtain ⟨a, z, ss, Z, A, rfl, _⟩ := h
    rfl
  obtain ⟨a, z, ss, Z, A, rfl, ⟨as, hS, hA⟩, hlen, hZ, hrun, q⟩ := h
  have nd := sc_ain.nd
  have hu := hu_of hr
  refine ⟨_, (pss_cons (ps_set (i := 2) nd rfl (.inl rfl) (pe_lst pa_nil))
      (pss_cons (ps_for PassesOwn.never rfl (pi_tup (pv 0)) (pg_tup (n := 2) rfl (pgs_cons (pg_name (i := 3) nd rfl (Or.inl rfl)) (pgs_cons (pg_name (i := 4) nd rfl (Or.inr rfl)) pgs_nil))) (pss_one (ps_if (pt_cmpR op_eq (pv 3) pe_str (nomark _)) (pss_one (ps_expr (pe_bm PySem.F.plainAttrs_list PySem.F.slot_list_append PySem.F.type_list_append mt_append (pv 2) (pa_cons (pe_disp (pps_cons pe_str (pv 4) pps_nil) (by rfl) (by rfl) (fun z => by cases z) (by decide)) pa_nil)))) (pss_one (ps_if (pt_cmpR op_eq (pv 3) pe_str (nomark _)) (pss_one (ps_expr (pe_bm PySem.F.plainAttrs_list PySem.F.slot_list_append PySem.F.type_list_append mt_append (pv 2) (pa_cons (pe_ifExp (pt_cmpR op_in_seq (pv 4) (pv 1) rfl) (pe_disp (pps_cons pe_str pe_int pps_nil) (by rfl) (by rfl) (fun z => by cases z) (by decide)) (pe_disp (pps_cons (pv 4) pe_int pps_nil) (by rfl) (by rfl) (fun z => by cases z) (by decide))) pa_nil)))) (pss_one (ps_if (pt_cmpR op_eq (pv 3) pe_str (nomark _)) (pss_cons (ps_set (i := 5) nd rfl (.inl rfl) (pe_bm0 PySem.F.plainAttrs_list PySem.F.slot_list_pop PySem.F.type_list_pop mt_pop (pv 2)))
      (pss_one (ps_expr (pe_bm PySem.F.plainAttrs_list PySem.F.slot_list_append PySem.F.type_list_append mt_append (pv 2) (pa_cons (pe_lock (pe_dc (own := [("name", 6), ("number", 7)]) (g := gTup K 2 (gCons (gName 6) (gCons (gName 7) gNil))) (tt := tYes) rfl nd (pi_items (pv 5)) (blkOk_by (N := ["steps", "zeros", "pile", "kind", "thing", "last", "name", "number", "taken"]) (sc := defScope st_atoms_in) (by decide +kernel)) (fun _ _ _ _ _ => (pg_tup (n := 2) rfl (pgs_cons (pg_name (i := 6) nd rfl (Or.inl rfl) (hf := .inr rfl)) (pgs_cons (pg_name (i := 7) nd rfl (Or.inl rfl) (hf := .inr rfl)) pgs_nil)))) (fun _ _ _ _ _ => pts_nil) (fun _ _ _ _ _ => (pv 6)) (fun _ _ _ _ _ => (pe_op op_add (pv 7) (pv 4))))) pa_nil))))) (pss_cons (ps_set (i := 8) nd rfl (.inl rfl) (pe_slice sl_list (pv 2) (po_some (pe_un un_neg (pv 4))) po_none))
      (pss_cons (Sx.ps_delT (pv 2) (po_some (pe_un un_neg (pv 4))))
      (pss_one (ps_expr (pe_bm PySem.F.plainAttrs_list PySem.F.slot_list_append PySem.F.type_list_append mt_append (pv 2) (pa_cons (pe_ifExp (PW.pt (pw_and (pt_cmpR op_eq (pv 3) pe_str (nomark _)) (pw_and1 (pt_cmpR (De.op_eq_dictB (Nat.lt_of_succ_lt hu)) (pe_ix ix_list (pv 8) (pe_un un_neg pe_int) (fun _ _ => rfl)) (pe_disp (pps_cons pe_str pe_int pps_nil) (by rfl) (by rfl) (fun z => by cases z) (by decide)) (nomark _))))) (pe_disp (pps_cons pe_str pe_int pps_nil) (by rfl) (by rfl) (fun z => by cases z) (by decide)) (C8.pe_c c_greatest hr (by decide) rfl (pa_cons (pv 8) pa_nil))) pa_nil)))))))))))))
      (pss_one (ps_ret (pe_ix ix_list (pv 2) pe_int (fun _ _ => rfl)))))), ?_⟩
  refine ⟨Nat.zero_le _, fun pP nP => ⟨_, rfl, a, rfl, ⟨_, Same.tup (same_new nP _) hS⟩, for_tup (K := K) (a := a) (xs := as.map V.ref) (fun i σ H' => ∃ p ds, Ar H a z pP Z ss i σ H' p ds)
    ⟨[], [], same_new nP _, rfl, upd_same, ⟨rfl, fun i A c e => by cases e⟩, fun c m => absurd m List.not_mem_nil, (fun A m => absurd m List.not_mem_nil), Nat.le_refl _, Nat.le_refl _, ⟨_, _, _, _, _, _, rfl⟩⟩ (fun i σ H' _ ⟨p, ds, R⟩ => Same.tup R.sm hS) ?turn ?after⟩⟩
  case turn =>
    rintro i x σ H' hi ⟨p, ds, R⟩
    obtain ⟨b, st, rfl, hs, hb⟩ := (hA.same R.sm).at hi
    have ilt : i < ss.length := (List.getElem?_eq_some_iff.mp hs).1
    obtain ⟨r, hw, hnx⟩ := arun_next Z hrun R.run hs
    obtain ⟨u3, u4, u5, u6, u7, u8, rfl⟩ := R.sl
    have plen := R.len
    have dlen := R.at_.1
    have psum := R.sum
    have fin : ∀ (H2 : Hp) (ds2 : List Addr) (p2 : List Atm) (c : Addr) (A : Atm) (σ2 : L2.St), Same H H2 → H2 pP = some (.lst (ds2.map V.ref)) → DsAt H2 ds2 p2 → (∀ c ∈ ds2, H c = none) → H c = none → H2 c = some (.dK A.kv) →
        arun Z [] (ss.take (i + 1)) = some (p2 ++ [A]) → (∀ A' ∈ p2 ++ [A], A'.l.Nodup) → (p2 ++ [A]).length ≤ i + 1 → ((p2 ++ [A]).map fun A => A.l.length).sum ≤ i + 1 → (∃ u3 u4 u5 u6 u7 u8, σ2 = [some (.ref a), some (.ref z), some (.ref pP), u3, u4, u5, u6, u7, u8]) →
        ∃ p ds, Ar H a z pP Z ss (i + 1) σ2 (upd H2 pP (.lst (ds2.map V.ref ++ [V.ref c]))) p ds := fun H2 ds2 p2 c A σ2 sm hP2 at2 new2 nc hc run2 nd2 l2 s2 sl2 =>
      ⟨p2 ++ [A], ds2 ++ [c], same_mut sm nP, run2, by rw [upd_same, List.map_append]; rfl, (at2.push hc).mut hP2, fun c' m => by
        rcases List.mem_append.mp m with m | m
        · exact new2 c' m
        · rw [List.mem_singleton.mp m]; exact nc, nd2, l2, s2, sl2⟩
    have lsum : ∀ A : Atm, A.l.length = 1 → ((p ++ [A]).map fun A => A.l.length).sum ≤ i + 1 := fun A h => by
      rw [List.map_append, List.sum_append]
      show _ + (A.l.length + 0) ≤ _
      omega
    have ndp : ∀ A : Atm, A.l.Nodup → ∀ A' ∈ p ++ [A], A'.l.Nodup := fun A h A' m => by
      rcases List.mem_append.mp m with m | m
      · exact R.nd A' m
      · rw [List.mem_singleton.mp m]; exact h
    have dl : (ds.map V.ref).length < sizeLine := by rw [List.length_map]; exact big (by omega)
    have old : ∀ {H2 : Hp} {c : Addr}, Same H H2 → H2 c = none → H c = none := fun {H2 c} s e => by
      cases e2 : H c with
      | none => rfl
      | some o => rw [s _ _ e2] at e; cases e
    cases st with
    | num k =>
      cases hw
      refine ⟨b, _, rfl, SqT.of hb, rfl, _, _, rfl, _, _, rfl, rfl, ?_⟩
      refine ⟨_, rfl, rfl, _, rfl, ?_⟩
      rw [kind_same]
      refine iteT ⟨_, rfl, .inl ⟨rfl, _, SqL.of R.hP⟩, fun pd npd => ⟨_, rfl, upd_same, [(Sum.inr ("" : Str), .int k)], rfl, (by show 1 ≤ 15; decide), ?_⟩⟩
      rw [num_kv]
      have s1 : Same H' (upd (upd H' pd (.dK [])) pd (.dK (numA k).kv)) := same_mut (same_new npd (.dK [])) npd
      have e1 : upd (upd H' pd (.dK [])) pd (.dK (numA k).kv) pd = some (.dK (numA k).kv) := upd_same
      generalize upd (upd H' pd (.dK [])) pd (.dK (numA k).kv) = H2 at s1 e1
      refine ⟨pP, _, _, rfl, rfl, s1 _ _ R.hP, dl, ?_⟩
      exact fin H2 ds p pd (numA k) _ (R.sm.trans s1) (s1 _ _ R.hP) (R.at_.same s1) R.new (old R.sm npd) e1 hnx (ndp _ (by simp [numA])) (by rw [List.length_append]; show _ + 1 ≤ _; omega) (lsum _ rfl) ⟨_, _, _, _, _, _, rfl⟩
    | nam s0 =>
      cases hw
      refine ⟨b, _, rfl, SqT.of hb, rfl, _, _, rfl, _, _, rfl, rfl, ?_⟩
      refine ⟨_, rfl, rfl, _, rfl, ?_⟩
      rw [kinds.1 _ (by decide +kernel)]
      refine iteF ⟨_, rfl, rfl, _, rfl, ?_⟩
      rw [kind_same]
      have hZ' : SqA K H' z (Z.map tv) := hZ.elim (fun h => .inl (Same.seq R.sm h)) fun h => .inr (Same.tup R.sm h)
      refine iteT ⟨_, rfl, .inl ⟨rfl, _, SqL.of R.hP⟩, _, rfl, _, rfl, z, _, rfl, hZ', rfl, ?_, _, rfl, ?_⟩
      · exact List.all_eq_true.mpr (flat_names Z)
      rw [ifF, inV_names]
      by_cases m : s0 ∈ Z
      · rw [decide_eq_true m]
        refine iteT (fun pd npd => ⟨upd_same, [(Sum.inr ("" : Str), .int 0)], rfl, (by show 1 ≤ 15; decide), ?_⟩)
        rw [num_kv]
        have en : namA Z s0 = numA 0 := by unfold namA; rw [if_pos m]; rfl
        rw [en] at hnx
        have s1 : Same H' (upd (upd H' pd (.dK [])) pd (.dK (numA 0).kv)) := same_mut (same_new npd (.dK [])) npd
        have e1 : upd (upd H' pd (.dK [])) pd (.dK (numA 0).kv) pd = some (.dK (numA 0).kv) := upd_same
        generalize upd (upd H' pd (.dK [])) pd (.dK (numA 0).kv) = H2 at s1 e1
        refine ⟨pP, _, _, rfl, rfl, s1 _ _ R.hP, dl, ?_⟩
        exact fin H2 ds p pd (numA 0) _ (R.sm.trans s1) (s1 _ _ R.hP) (R.at_.same s1) R.new (old R.sm npd) e1 hnx (ndp _ (by simp [numA])) (by rw [List.length_append]; show _ + 1 ≤ _; omega) (lsum _ rfl) ⟨_, _, _, _, _, _, rfl⟩
      · rw [decide_eq_false m]
        refine iteF (fun pd npd => ⟨_, rfl, upd_same, [(Sum.inr (S s0), .int 0)], rfl, (by show 1 ≤ 15; decide), ?_⟩)
        have en : namA Z s0 = ⟨[s0], fun _ => 0⟩ := by unfold namA; rw [if_neg m]
        have ek : mergeK [] [((Sum.inr (S s0) : Key), V.int 0)] = (namA Z s0).kv := by rw [en]; rfl
        have l1 : (namA Z s0).l.length = 1 := by rw [en]; rfl
        rw [ek]
        have s1 : Same H' (upd (upd H' pd (.dK [])) pd (.dK (namA Z s0).kv)) := same_mut (same_new npd (.dK [])) npd
        have e1 : upd (upd H' pd (.dK [])) pd (.dK (namA Z s0).kv) pd = some (.dK (namA Z s0).kv) := upd_same
        generalize upd (upd H' pd (.dK [])) pd (.dK (namA Z s0).kv) = H2 at s1 e1
        refine ⟨pP, _, _, rfl, rfl, s1 _ _ R.hP, dl, ?_⟩
        exact fin H2 ds p pd (namA Z s0) _ (R.sm.trans s1) (s1 _ _ R.hP) (R.at_.same s1) R.new (old R.sm npd) e1 hnx (ndp _ (by rw [en]; simp)) (by rw [List.length_append]; show _ + 1 ≤ _; omega) (lsum _ l1) ⟨_, _, _, _, _, _, rfl⟩
    | plus k =>
      obtain ⟨ys, A, rfl, rfl⟩ := astep_plus hw
      obtain ⟨ds0, c, rfl⟩ : ∃ ds0 c, ds = ds0 ++ [c] := by
        have ne : ds ≠ [] := fun e => by
          rw [e, List.length_append] at dlen
          exact absurd dlen (by show ¬ 0 = _ + 1; omega)
        exact ⟨ds.dropLast, ds.getLast ne, (List.dropLast_concat_getLast ne).symm⟩
      have l0 : ds0.length = ys.length := by
        rw [List.length_append, List.length_append] at dlen
        have : [c].length = [A].length := rfl
        omega
      have hc : H' c = some (.dK A.kv) := R.at_.2 ys.length A c (by simp) (by rw [← l0]; simp)
      have at0 : DsAt H' ds0 ys := by
        have := R.at_.take ys.length
        rw [List.take_left, ← l0, List.take_left] at this
        exact this
      have hP' : H' pP = some (.lst ((ds0.map V.ref) ++ [V.ref c])) := by rw [R.hP, List.map_append]; rfl
      have lA : A.l.length ≤ 64 := by
        rw [List.map_append, List.sum_append] at psum
        have e : ([A].map fun A => A.l.length).sum = A.l.length + 0 := rfl
        omega
      have ndA : A.l.Nodup := R.nd A (List.mem_append_right _ (by simp))
      refine ⟨b, _, rfl, SqT.of hb, rfl, _, _, rfl, _, _, rfl, rfl, ?_⟩
      refine ⟨_, rfl, rfl, _, rfl, ?_⟩
      rw [kinds.1 _ (by decide +kernel)]
      refine iteF ⟨_, rfl, rfl, _, rfl, ?_⟩
      rw [kinds.2.1 _ (by decide +kernel)]
      refine iteF ⟨_, rfl, rfl, _, rfl, ?_⟩
      rw [kind_same]
      have hl : ((ds0.map V.ref) ++ [V.ref c])[((ds0.map V.ref) ++ [V.ref c]).length - 1]? = some (V.ref c) := by simp
      have ed : ((ds0.map V.ref) ++ [V.ref c]).dropLast = ds0.map V.ref := List.dropLast_concat
      refine iteT ⟨_, rfl, .inl ⟨rfl, _, SqL.of hP'⟩, pP, _, _, rfl, rfl, hP', hl, ?_⟩
      rw [ed]
      have cP : c ≠ pP := fun e => by rw [e, R.hP] at hc; cases hc
      have hc2 : upd H' pP (.lst (ds0.map V.ref)) c = some (.dK A.kv) := by rw [upd_ne cP]; exact hc
      have hP2 : upd H' pP (.lst (ds0.map V.ref)) pP = some (.lst (ds0.map V.ref)) := upd_same
      have sm2 : Same H (upd H' pP (.lst (ds0.map V.ref))) := same_mut R.sm nP
      have at2 := at0.mut (o := .lst (ds0.map V.ref)) R.hP
      generalize upd H' pP (.lst (ds0.map V.ref)) = H2 at hc2 hP2 sm2 at2
      refine ⟨_, rfl, .inl ⟨rfl, _, SqL.of hP2⟩, ?_⟩
      refine ⟨c, _, hc2, trivial, fun od => ⟨_, rfl, c, od, A.kv, rfl, upd_same, fun D nD => De.dc_walk walk_items (fun n H3 => Same (upd H2 c (.frz od (.dK A.kv))) H3 ∧ H3 D = some (.dK ((Atm.plus ⟨A.l.take n, A.g⟩ k).kv)))
        ⟨same_new nD _, upd_same⟩ (fun n H3 _ p => p.1 _ _ upd_same) ?pl_turn ?pl_end⟩⟩
      case pl_turn =>
        rintro n x H3 H4 hn ⟨s3, hD⟩ ⟨T, x', y', rfl, nT, rfl, e1, e2⟩
        obtain ⟨s0', hs0, rfl, rfl⟩ := kv_ix e1 e2
        have s4 : Same H3 (upd H3 T (.tup [tv s0', .int (A.g s0')])) := same_new nT _
        refine ⟨T, _, rfl, SqT.of upd_same, rfl, _, _, rfl, _, _, rfl, rfl, rfl, _, rfl, _, rfl, _, rfl, _, _, rfl, rfl, _, Sum.inr (S s0'), rfl, s4 _ _ hD, ?_, same_mut (s3.trans s4) nD, ?_⟩
        · rw [Atm.kv_len]
          exact big (by show (A.l.take n).length ≤ _; rw [List.length_take]; omega)
        · have nm : s0' ∉ A.l.take n := not_take2 ndA hs0
          rw [upd_same, Atm.kv_put]
          refine congrArg some (congrArg HO.dK ?_)
          unfold Atm.put Atm.plus Atm.kv
          rw [if_neg nm, List.take_succ, hs0]
          show ((A.l.take n ++ [s0']).map _) = ((A.l.take n ++ [s0']).map _)
          refine List.map_congr_left fun x _ => ?_
          show (_, V.int (if x = s0' then A.g s0' + (k : Int) else A.g x + (k : Int))) = (_, V.int (A.g x + (k : Int)))
          by_cases e : x = s0'
          · rw [if_pos e, e]
          · rw [if_neg e]
      case pl_end =>
        rintro H3 ⟨s3, hD⟩
        rw [Atm.kv_len, List.take_length] at hD
        have hD : H3 D = some (.dK (A.plus k).kv) := hD
        have Dc : D ≠ c := fun e => by rw [e, upd_same] at nD; cases nD
        have D2 : H2 D = none := by rw [upd_ne Dc] at nD; exact nD
        have s4 : Same H2 (upd H3 c (.dK A.kv)) := lock_same hc2 fun b o ne e => s3 b o (by rw [upd_ne ne]; exact e)
        have hD4 : upd H3 c (.dK A.kv) D = some (.dK (A.plus k).kv) := by rw [upd_ne Dc]; exact hD
        refine ⟨s3 _ _ upd_same, ?_⟩
        generalize upd H3 c (.dK A.kv) = H4 at s4 hD4
        refine ⟨pP, _, _, rfl, rfl, s4 _ _ hP2, by rw [List.length_map]; rw [List.length_map, List.length_append] at dl; omega, ?_⟩
        refine fin H4 ds0 ys D (A.plus k) _ (sm2.trans s4) (s4 _ _ hP2) (at2.same s4) (fun c' m => R.new c' (List.mem_append_left _ m)) (old sm2 D2) hD4 hnx (fun A' m => ?_) ?_ ?_ ⟨_, _, _, _, _, _, rfl⟩
        · rcases List.mem_append.mp m with m | m
          · exact R.nd A' (List.mem_append_left _ m)
          · rw [List.mem_singleton.mp m]; exact ndA
        · rw [List.length_append] at plen ⊢
          show _ + 1 ≤ _
          have : [A].length = 1 := rfl
          omega
        · rw [List.map_append, List.sum_append] at psum ⊢
          have e : ([A].map fun A => A.l.length).sum = A.l.length + 0 := rfl
          show _ + (A.l.length + 0) ≤ _
          omega
    | call c n =>
      obtain ⟨h1, h2, rfl⟩ := astep_call hw
      have h2' : n ≤ ds.length := by rw [dlen]; exact h2
      refine ⟨b, _, rfl, SqT.of hb, rfl, _, _, rfl, _, _, rfl, rfl, ?_⟩
      refine ⟨_, rfl, rfl, _, rfl, ?_⟩
      rw [kinds.1 _ (by cases c <;> decide +kernel)]
      refine iteF ⟨_, rfl, rfl, _, rfl, ?_⟩
      rw [kinds.2.1 _ (by cases c <;> decide +kernel)]
      refine iteF ⟨_, rfl, rfl, _, rfl, ?_⟩
      rw [kinds.2.2 _ (by cases c <;> decide +kernel)]
      refine iteF ⟨_, rfl, _, rfl, _, rfl, _, rfl, pP, _, rfl, SqL.of R.hP, fun tk nt => ?_⟩
      rw [cut_refs ds n h1 h2']
      have hP2 := same_new nt (.lst ((ds.drop (ds.length - n.toNat)).map V.ref)) pP _ R.hP
      refine ⟨_, rfl, _, rfl, _, rfl, _, rfl, pP, _, rfl, hP2, ?_⟩
      rw [six_refs ds n h1 h2']
      have tne : tk ≠ pP := fun e => by rw [e, R.hP] at nt; cases nt
      have ht : upd (upd H' tk (.lst ((ds.drop (ds.length - n.toNat)).map V.ref))) pP (.lst ((ds.take (ds.length - n.toNat)).map V.ref)) tk = some (.lst ((ds.drop (ds.length - n.toNat)).map V.ref)) := by rw [upd_ne tne]; exact upd_same
      have hP3 : upd (upd H' tk (.lst ((ds.drop (ds.length - n.toNat)).map V.ref))) pP (.lst ((ds.take (ds.length - n.toNat)).map V.ref)) pP = some (.lst ((ds.take (ds.length - n.toNat)).map V.ref)) := upd_same
      have sm3 : Same H (upd (upd H' tk (.lst ((ds.drop (ds.length - n.toNat)).map V.ref))) pP (.lst ((ds.take (ds.length - n.toNat)).map V.ref))) := same_mut (R.sm.trans (same_new nt _)) nP
      have at3 := (R.at_.same (same_new nt (.lst ((ds.drop (ds.length - n.toNat)).map V.ref)))).mut (o := .lst ((ds.take (ds.length - n.toNat)).map V.ref)) hP2
      generalize upd (upd H' tk (.lst ((ds.drop (ds.length - n.toNat)).map V.ref))) pP (.lst ((ds.take (ds.length - n.toNat)).map V.ref)) = H3 at ht hP3 sm3 at3
      have atT := at3.take (ds.length - n.toNat)
      have atD := at3.drop (ds.length - n.toNat)
      rw [dlen] at hP3 ht atT atD
      have psp : p.take (p.length - n.toNat) ++ p.drop (p.length - n.toNat) = p := List.take_append_drop _ _
      have sumsp : ((p.take (p.length - n.toNat)).map fun A => A.l.length).sum + ((p.drop (p.length - n.toNat)).map fun A => A.l.length).sum ≤ i := by
        rw [← List.sum_append, ← List.map_append, psp]; exact psum
      have ndT : ∀ A ∈ p.take (p.length - n.toNat), A.l.Nodup := fun A m => R.nd A (List.mem_of_mem_take m)
      have ndD : ∀ A ∈ p.drop (p.length - n.toNat), A.l.Nodup := fun A m => R.nd A (List.mem_of_mem_drop m)
      have newT : ∀ c' ∈ ds.take (p.length - n.toNat), H c' = none := fun c' m => R.new c' (List.mem_of_mem_take m)
      have lT : (p.take (p.length - n.toNat)).length + 1 ≤ i + 1 := by rw [List.length_take]; omega
      have lD : (p.drop (p.length - n.toNat)).length ≤ 100 := by rw [List.length_drop]; omega
      have ne0 : 0 < (p.drop (p.length - n.toNat)).length := by rw [List.length_drop]; omega
      have szT : ((ds.take (p.length - n.toNat)).map V.ref).length < sizeLine := by rw [List.length_map, List.length_take]; exact big (by omega)
      generalize p.take (p.length - n.toNat) = pt at *
      generalize p.drop (p.length - n.toNat) = pd at *
      generalize ds.take (p.length - n.toNat) = dt at *
      generalize ds.drop (p.length - n.toNat) = dd at *
      have each : ∀ A ∈ pd, A.l.length ≤ 100 := fun A m => by
        have := mem_sum m
        omega
      have fin2 : ∀ (H4 : Hp) (pc : Addr) (A : Atm) (σ2 : L2.St), Same H3 H4 → H3 pc = none → H4 pc = some (.dK A.kv) → A = callA c pd → A.l.Nodup → A.l.length ≤ (pd.map fun A => A.l.length).sum → (∃ u3 u4 u5 u6 u7 u8, σ2 = [some (.ref a), some (.ref z), some (.ref pP), u3, u4, u5, u6, u7, u8]) →
          ∃ p ds, Ar H a z pP Z ss (i + 1) σ2 (upd H4 pP (.lst (dt.map V.ref ++ [V.ref pc]))) p ds := fun H4 pc A σ2 s4 nc hc e ndA lA sl2 =>
        fin H4 dt pt pc A σ2 (sm3.trans s4) (s4 _ _ hP3) (atT.same s4) newT (old sm3 nc) hc (by rw [e]; exact hnx) (fun A' m => by
          rcases List.mem_append.mp m with m | m
          · exact ndT A' m
          · rw [List.mem_singleton.mp m]; exact ndA) (by rw [List.length_append]; exact lT) (by
          rw [List.map_append, List.sum_append]
          show _ + (A.l.length + 0) ≤ _
          omega) sl2
      refine ⟨_, rfl, .inl ⟨rfl, _, SqL.of hP3⟩, _, rfl, rfl, _, rfl, ?_⟩
      rw [cName_imax]
      cases c with
      | true =>
        refine iteF (iteF ⟨_, rfl, tk, dd, pd, rfl, SqL.of ht, atD.1, lD, each, atD.2, fun H4 pg s4 ng hg => ⟨pP, _, _, rfl, rfl, s4 _ _ hP3, szT, ?_⟩⟩)
        exact fin2 H4 pg (greatest pd) _ s4 ng hg rfl (gr_nodup pd) (gr_len pd) ⟨_, _, _, _, _, _, rfl⟩
      | false =>
        obtain ⟨ys, A, rfl⟩ : ∃ ys A, pd = ys ++ [A] := by
          cases e : pd.getLast? with
          | none => rw [List.getLast?_eq_none_iff] at e; rw [e] at ne0; exact absurd ne0 (Nat.lt_irrefl _)
          | some y => obtain ⟨ys, h⟩ := List.getLast?_eq_some_iff.mp e; exact ⟨ys, y, h⟩
        obtain ⟨es, cA, rfl⟩ : ∃ es cA, dd = es ++ [cA] := by
          have l := atD.1
          have ne : dd ≠ [] := fun e => by
            rw [e, List.length_append] at l
            exact absurd l (by show ¬ 0 = _ + 1; omega)
          exact ⟨dd.dropLast, dd.getLast ne, (List.dropLast_concat_getLast ne).symm⟩
        have le : es.length = ys.length := by
          have l := atD.1
          rw [List.length_append, List.length_append] at l
          have : [cA].length = [A].length := rfl
          omega
        have hcA : H3 cA = some (.dK A.kv) := atD.2 ys.length A cA (by simp) (by rw [← le]; simp)
        have cvA : callA false (ys ++ [A]) = if A.isZero = true then numA 0 else greatest (ys ++ [A]) := by
          unfold callA
          rw [List.getLast?_concat]
          rfl
        refine iteT ⟨_, rfl, _, rfl, tk, _, _, _, rfl, rfl, SqL.of ?_, atI_last (es.map V.ref) (V.ref cA), fun pz nz => ⟨upd_same, [(Sum.inr ("" : Str), .int 0)], rfl, (by show 1 ≤ 15; decide), ?_⟩⟩
        · exact ht.trans (by rw [List.map_append]; rfl)
        rw [num_kv]
        have s4 : Same H3 (upd (upd H3 pz (.dK [])) pz (.dK (numA 0).kv)) := same_mut (same_new nz (.dK [])) nz
        have hz : upd (upd H3 pz (.dK [])) pz (.dK (numA 0).kv) pz = some (.dK (numA 0).kv) := upd_same
        generalize upd (upd H3 pz (.dK [])) pz (.dK (numA 0).kv) = H4 at s4 hz
        refine ⟨cA, pz, _, _, rfl, rfl, s4 _ _ hcA, hz, kv_ints A, kv_vals (numA 0), _, rfl, ?_⟩
        rw [eqD_zero]
        by_cases iz : A.isZero = true
        · rw [iz]
          refine iteT (fun pe npe => ⟨upd_same, [(Sum.inr ("" : Str), .int 0)], rfl, (by show 1 ≤ 15; decide), ?_⟩)
          rw [num_kv]
          have s5 : Same H4 (upd (upd H4 pe (.dK [])) pe (.dK (numA 0).kv)) := same_mut (same_new npe (.dK [])) npe
          have he : upd (upd H4 pe (.dK [])) pe (.dK (numA 0).kv) pe = some (.dK (numA 0).kv) := upd_same
          generalize upd (upd H4 pe (.dK [])) pe (.dK (numA 0).kv) = H5 at s5 he
          have n3 : H3 pe = none := by
            cases e : H3 pe with
            | none => rfl
            | some o => rw [s4 _ _ e] at npe; cases npe
          refine ⟨pP, _, _, rfl, rfl, s5 _ _ (s4 _ _ hP3), szT, ?_⟩
          refine fin2 H5 pe (numA 0) _ (s4.trans s5) n3 he (by rw [cvA, if_pos iz]) (by simp [numA]) ?_ ⟨_, _, _, _, _, _, rfl⟩
          have la : 1 ≤ A.l.length := by
            unfold Atm.isZero at iz
            rw [Bool.and_eq_true] at iz
            rw [of_decide_eq_true iz.1]
            exact Nat.le_refl 1
          have := mem_sum (p := ys ++ [A]) (A := A) (List.mem_append_right _ (by simp))
          show 1 ≤ _
          omega
        · rw [show A.isZero = false by simpa using iz]
          refine iteF ⟨_, rfl, tk, es ++ [cA], ys ++ [A], rfl, SqL.of (s4 _ _ ht), atD.1, lD, each, (atD.same s4).2, fun H5 pg s5 ng hg => ⟨pP, _, _, rfl, rfl, s5 _ _ (s4 _ _ hP3), szT, ?_⟩⟩
          have n3 : H3 pg = none := by
            cases e : H3 pg with
            | none => rfl
            | some o => rw [s4 _ _ e] at ng; cases ng
          exact fin2 H5 pg (greatest (ys ++ [A])) _ (s4.trans s5) n3 hg (by rw [cvA, if_neg iz]) (gr_nodup _) (gr_len _) ⟨_, _, _, _, _, _, rfl⟩
  case after =>
    rintro σ H' ⟨p, ds, R⟩
    have hr2 := R.run
    rw [List.length_map, hA.len, List.take_length, hrun] at hr2
    cases hr2
    obtain ⟨u3, u4, u5, u6, u7, u8, rfl⟩ := R.sl
    obtain ⟨c, rfl⟩ : ∃ c, ds = [c] := by
      match ds, R.at_.1 with
      | [c], _ => exact ⟨c, rfl⟩
    exact ⟨_, rfl, pP, _, _, _, rfl, rfl, SqL.of R.hP, rfl, q H' c R.sm (R.new c List.mem_cons_self) (R.at_.2 0 A c rfl rfl)⟩
end
end Pg
/-! Gs -/
set_option Elab.async false
set_option linter.all false
set_option maxRecDepth 100000
set_option maxHeartbeats 4000000
namespace Pg
open PySem L2 Mr
/-! what atoms are worth -/
def wf (f : Cs → Int) (s : Cs) : Int := if s = [] then 0 else f s
def IsV (f : Cs → Int) (A : Atm) (v : Int) : Prop := (∃ s, s ∈ A.l ∧ wf f s + A.g s = v) ∧ ∀ s, s ∈ A.l → wf f s + A.g s ≤ v
def Nn (A : Atm) : Prop := ∀ s, s ∈ A.l → 0 ≤ A.g s
theorem best_mem (B : Atm) (s : Cs) (n : Int) (x : Cs) : x ∈ (B.best s n).l ↔ x ∈ B.l ∨ x = s := by
  show x ∈ (if s ∈ B.l then B.l else B.l ++ [s]) ↔ _
  by_cases m : s ∈ B.l
  · rw [if_pos m]
    exact ⟨.inl, fun h => h.elim id fun e => e ▸ m⟩
  · rw [if_neg m, List.mem_append, List.mem_singleton]
theorem best_get (B : Atm) (s : Cs) (n : Int) {x : Cs} (h : x ≠ s) : (B.best s n).get x = B.get x := by
  unfold Atm.get
  have m := best_mem B s n x
  have e : (B.best s n).g x = B.g x := by show (if x = s then _ else B.g x) = _; rw [if_neg h]
  by_cases c : x ∈ B.l
  · rw [if_pos c, if_pos (m.mpr (.inl c)), e]
  · rw [if_neg c, if_neg (fun z => (m.mp z).elim c h)]
theorem fold_facts (A : Atm) : ∀ (l : List Cs) (B : Atm), l.Nodup → ∀ x, (x ∈ (l.foldl (fun B s => B.best s (A.g s)) B).l ↔ x ∈ B.l ∨ x ∈ l) ∧
    (x ∈ l → (l.foldl (fun B s => B.best s (A.g s)) B).g x = mx (A.g x) ((B.get x).getD 0)) ∧ (x ∉ l → (l.foldl (fun B s => B.best s (A.g s)) B).g x = B.g x)
  | [], B, _, x => ⟨by simp, fun h => absurd h List.not_mem_nil, fun _ => rfl⟩
  | s :: l, B, nd, x => by
    obtain ⟨n1, n2⟩ := List.nodup_cons.mp nd
    obtain ⟨h1, h2, h3⟩ := fold_facts A l (B.best s (A.g s)) n2 x
    rw [List.foldl_cons]
    refine ⟨?_, fun m => ?_, fun m => ?_⟩
    · rw [h1, best_mem, List.mem_cons, or_assoc]
    · rcases List.mem_cons.mp m with rfl | m
      · rw [h3 n1]
        show (if x = x then _ else _) = _
        rw [if_pos rfl]
      · rw [h2 m, best_get B s _ (fun e : x = s => n1 (by rw [← e]; exact m))]
    · rw [h3 (fun z => m (List.mem_cons_of_mem _ z))]
      show (if x = s then _ else B.g x) = _
      rw [if_neg (fun e : x = s => m (by rw [e]; exact List.mem_cons_self))]
theorem mx_max {a b : Int} : a ≤ mx a b ∧ b ≤ mx a b ∧ (mx a b = a ∨ mx a b = b) := by
  unfold mx
  by_cases c : b > a
  · rw [if_pos c]; omega
  · rw [if_neg c]; omega
theorem over_nn {A B : Atm} (nd : A.l.Nodup) (ha : Nn A) (hb : Nn B) : Nn (B.over A) := fun x m => by
  obtain ⟨h1, h2, h3⟩ := fold_facts A A.l B nd x
  by_cases c : x ∈ A.l
  · have := ha x c
    have e : (B.over A).g x = _ := h2 c
    rw [e]
    have := (mx_max (a := A.g x) (b := (B.get x).getD 0)).1
    omega
  · have e : (B.over A).g x = _ := h3 c
    rw [e]
    exact hb x ((h1.mp m).resolve_right c)
theorem over_v {f : Cs → Int} {A B : Atm} {v : Int} (nd : A.l.Nodup) (ha : Nn A) (hb : Nn B) (va : IsV f A v) {u : Int} (vb : B.l = [] ∧ u ≤ v ∨ IsV f B u) : IsV f (B.over A) (max u v) := by
  have facts := fold_facts A A.l B nd
  have up : ∀ x, x ∈ (B.over A).l → wf f x + (B.over A).g x ≤ max u v := fun x m => by
    obtain ⟨h1, h2, h3⟩ := facts x
    by_cases c : x ∈ A.l
    · have e : (B.over A).g x = _ := h2 c
      rw [e]
      have q := va.2 x c
      rcases (mx_max (a := A.g x) (b := (B.get x).getD 0)).2.2 with z | z
      · rw [z]; omega
      · rw [z]
        by_cases d : x ∈ B.l
        · have eg : (B.get x).getD 0 = B.g x := by unfold Atm.get; rw [if_pos d]; rfl
          rw [eg]
          rcases vb with ⟨e0, _⟩ | vb
          · rw [e0] at d; cases d
          · have := vb.2 x d; omega
        · have eg : (B.get x).getD 0 = 0 := by unfold Atm.get; rw [if_neg d]; rfl
          rw [eg]
          have := ha x c
          omega
    · have e : (B.over A).g x = _ := h3 c
      rw [e]
      have d := (h1.mp m).resolve_right c
      rcases vb with ⟨e0, _⟩ | vb
      · rw [e0] at d; cases d
      · have := vb.2 x d; omega
  refine ⟨?_, up⟩
  have low : ∀ x w0, x ∈ (B.over A).l → w0 ≤ wf f x + (B.over A).g x → w0 = max u v → ∃ s, s ∈ (B.over A).l ∧ wf f s + (B.over A).g s = max u v := fun x w0 m h e => ⟨x, m, by have := up x m; omega⟩
  by_cases c : u ≤ v
  · obtain ⟨⟨s, hs, e⟩, _⟩ := va
    obtain ⟨h1, h2, h3⟩ := facts s
    refine low s v (h1.mpr (.inr hs)) ?_ (by omega)
    have eg : (B.over A).g s = _ := h2 hs
    rw [eg]
    have := (mx_max (a := A.g s) (b := (B.get s).getD 0)).1
    omega
  · rcases vb with ⟨_, z⟩ | vb
    · omega
    obtain ⟨⟨s, hs, e⟩, _⟩ := vb
    obtain ⟨h1, h2, h3⟩ := facts s
    refine low s u (h1.mpr (.inl hs)) ?_ (by omega)
    by_cases d : s ∈ A.l
    · have eg : (B.over A).g s = _ := h2 d
      rw [eg]
      have gg : (B.get s).getD 0 = B.g s := by unfold Atm.get; rw [if_pos hs]; rfl
      have := (mx_max (a := A.g s) (b := (B.get s).getD 0)).2.1
      omega
    · have eg : (B.over A).g s = _ := h3 d
      rw [eg]; omega
end Pg
/-! Gv -/
set_option Elab.async false
set_option linter.all false
set_option maxRecDepth 100000
set_option maxHeartbeats 4000000
namespace Pg
open PySem L2 Mr
/-- atoms as they should be: each name once, no number below 0, no name that is 0 -/
structure Wl (Z : List Cs) (A : Atm) : Prop where
  nd : A.l.Nodup
  nn : Nn A
  off : ∀ s, s ∈ A.l → s ≠ [] → s ∉ Z
theorem zero_iff {f : Cs → Int} {Z : List Cs} {A : Atm} {v : Int} (hp : ∀ s, s ∉ Z → 1 ≤ f s) (w : Wl Z A) (h : IsV f A v) : A.isZero = true ↔ v = 0 := by
  unfold Atm.isZero
  rw [Bool.and_eq_true, decide_eq_true_eq, decide_eq_true_eq]
  constructor
  · rintro ⟨e, g⟩
    obtain ⟨⟨s, hs, hv⟩, _⟩ := h
    rw [e] at hs
    rcases List.mem_singleton.mp hs with rfl
    unfold wf at hv
    rw [if_pos rfl, g] at hv
    omega
  · intro v0
    have all : ∀ s, s ∈ A.l → s = [] ∧ A.g s = 0 := fun s hs => by
      have h1 := h.2 s hs
      have h2 := w.nn s hs
      by_cases c : s = []
      · unfold wf at h1
        rw [if_pos c] at h1
        exact ⟨c, by omega⟩
      · have h3 := hp s (w.off s hs c)
        unfold wf at h1
        rw [if_neg c] at h1
        omega
    obtain ⟨⟨s, hs, _⟩, _⟩ := h
    have w1 := w.nd
    match hl : A.l with
    | [] => rw [hl] at hs; cases hs
    | [x] =>
      have := all x (by rw [hl]; exact List.mem_cons_self)
      rw [this.1] at *
      exact ⟨rfl, this.2⟩
    | x :: y :: r =>
      have e1 := (all x (by rw [hl]; exact List.mem_cons_self)).1
      have e2 := (all y (by rw [hl]; exact List.mem_cons_of_mem _ List.mem_cons_self)).1
      rw [hl] at w1
      exact absurd (List.mem_cons_self (a := y) (l := r)) (fun m => (List.nodup_cons.mp w1).1 (by rw [e1, ← e2]; exact m))
theorem over_off {Z : List Cs} {A B : Atm} (a : Wl Z A) (b : Wl Z B) : Wl Z (B.over A) := by
  refine ⟨fold_nd A A.l B b.nd, over_nn a.nd a.nn b.nn, fun s m ne => ?_⟩
  rcases (fold_facts A A.l B a.nd s).1.mp m with m | m
  · exact b.off s m ne
  · exact a.off s m ne
theorem folds_v {f : Cs → Int} {Z : List Cs} : ∀ (l : List (Atm × Int)) (B : Atm) (u : Int), (∀ p ∈ l, Wl Z p.1 ∧ IsV f p.1 p.2) → Wl Z B → IsV f B u → Wl Z ((l.map (·.1)).foldl Atm.over B) ∧ IsV f ((l.map (·.1)).foldl Atm.over B) ((l.map (·.2)).foldl max u)
  | [], _, _, _, b, h => ⟨b, h⟩
  | p :: l, B, u, hl, b, h => by
    obtain ⟨a, ha⟩ := hl p List.mem_cons_self
    rw [List.map_cons, List.map_cons, List.foldl_cons, List.foldl_cons]
    exact folds_v l _ _ (fun q m => hl q (List.mem_cons_of_mem _ m)) (over_off a b) (over_v a.nd a.nn b.nn ha (.inr h))
theorem none_wl (Z : List Cs) : Wl Z ⟨[], fun _ => 0⟩ := ⟨List.nodup_nil, fun s m => absurd m List.not_mem_nil, fun s m => absurd m List.not_mem_nil⟩
theorem greatest_v {f : Cs → Int} {Z : List Cs} {l : List (Atm × Int)} (ne : l ≠ []) (hl : ∀ p ∈ l, Wl Z p.1 ∧ IsV f p.1 p.2) : Wl Z (greatest (l.map (·.1))) ∧ IsV f (greatest (l.map (·.1))) (maxL (l.map (·.2))) := by
  match l with
  | [] => exact absurd rfl ne
  | p :: l =>
    obtain ⟨a, ha⟩ := hl p List.mem_cons_self
    have first := over_v a.nd a.nn (none_wl Z).nn ha (u := p.2) (.inl ⟨rfl, Int.le_refl _⟩)
    rw [show max p.2 p.2 = p.2 by omega] at first
    exact folds_v l _ p.2 (fun q m => hl q (List.mem_cons_of_mem _ m)) (over_off a (none_wl Z)) first
theorem zero_wl (Z : List Cs) {k : Int} (h : 0 ≤ k) : Wl Z (numA k) := ⟨by simp [numA], fun s m => h, fun s m ne => absurd (List.mem_singleton.mp m) ne⟩
theorem num_v (f : Cs → Int) (k : Int) : IsV f (numA k) k := by
  refine ⟨⟨[], List.mem_singleton.mpr rfl, ?_⟩, fun s m => ?_⟩
  · show wf f [] + k = k
    unfold wf
    rw [if_pos rfl]; omega
  · rcases List.mem_singleton.mp m with rfl
    show wf f [] + k ≤ k
    unfold wf
    rw [if_pos rfl]; omega
theorem atm_v {f : Cs → Int} {Z : List Cs} (hz : ∀ s, s ∈ Z → f s = 0) (hp : ∀ s, s ∉ Z → 1 ≤ f s) : ∀ t : T, t.ok → Wl Z (t.atm Z) ∧ IsV f (t.atm Z) (t.val f)
  | .num k, h => by
    rw [T.atm, T.val]
    exact ⟨zero_wl Z (by omega), num_v f k⟩
  | .nam s, h => by
    rw [T.ok] at h
    have ne : s ≠ [] := fun e => by rw [e] at h; revert h; decide +kernel
    rw [T.atm, T.val]
    unfold namA
    by_cases m : s ∈ Z
    · rw [if_pos m, hz s m]
      exact ⟨zero_wl Z (Int.le_refl 0), num_v f 0⟩
    · rw [if_neg m]
      refine ⟨⟨by simp, fun x m => Int.le_refl 0, fun x mx ne => by rcases List.mem_singleton.mp mx with rfl; exact m⟩, ⟨s, List.mem_singleton.mpr rfl, ?_⟩, fun x mx => ?_⟩
      · show wf f s + 0 = f s
        unfold wf; rw [if_neg ne]; omega
      · rcases List.mem_singleton.mp mx with rfl
        show wf f x + 0 ≤ f x
        unfold wf; rw [if_neg ne]; omega
  | .plus t k, h => by
    rw [T.ok] at h
    obtain ⟨w, v⟩ := atm_v hz hp t h.1
    rw [T.atm, T.val]
    refine ⟨⟨w.nd, fun s m => ?_, w.off⟩, ?_, fun s m => ?_⟩
    · have := w.nn s m
      show 0 ≤ (t.atm Z).g s + (k : Int)
      omega
    · obtain ⟨⟨s, hs, e⟩, _⟩ := v
      exact ⟨s, hs, by show wf f s + ((t.atm Z).g s + (k : Int)) = _; omega⟩
    · have := v.2 s m
      show wf f s + ((t.atm Z).g s + (k : Int)) ≤ _
      omega
  | .node b ts, h => by
    rw [T.ok] at h
    have kid : ∀ t ∈ ts, Wl Z (t.atm Z) ∧ IsV f (t.atm Z) (t.val f) := fun t m => atm_v hz hp t (h.2 t m)
    rw [T.atm, T.val]
    have ne : ts ≠ [] := fun e => by
      have := h.1
      rw [e] at this
      cases b <;> cases this
    have g := greatest_v (f := f) (Z := Z) (l := ts.map fun t => (t.atm Z, t.val f)) (by simpa using ne) (fun p m => by
      obtain ⟨t, ht, rfl⟩ := List.mem_map.mp m
      exact kid t ht)
    rw [List.map_map, List.map_map] at g
    have g : Wl Z (greatest (ts.map fun t => t.atm Z)) ∧ IsV f (greatest (ts.map fun t => t.atm Z)) (maxL (ts.map fun t => t.val f)) := g
    have same : ((ts.map fun t => t.atm Z).getLast?.map Atm.isZero).getD false = decide ((ts.map fun t => t.val f).getLast? = some 0) := by
      rw [List.getLast?_map, List.getLast?_map]
      cases e : ts.getLast? with
      | none => rfl
      | some t =>
        have m : t ∈ ts := List.mem_of_getLast? e
        have zi := zero_iff hp (kid t m).1 (kid t m).2
        show (t.atm Z).isZero = decide (some (t.val f) = some 0)
        by_cases c : t.val f = 0
        · rw [zi.mpr c, c]; rfl
        · have : (t.atm Z).isZero = false := by
            cases q : (t.atm Z).isZero with
            | false => rfl
            | true => exact absurd (zi.mp q) c
          rw [this]
          exact (decide_eq_false fun z => c (Option.some.inj z)).symm
    unfold callA callV
    rw [same]
    by_cases c : (!b && decide ((ts.map fun t => t.val f).getLast? = some 0)) = true
    · rw [if_pos c, if_pos c]
      exact ⟨zero_wl Z (Int.le_refl 0), num_v f 0⟩
    · rw [if_neg c, if_neg c]
      exact g
end Pg
/-! Sd -/
set_option Elab.async false
set_option linter.all false
set_option maxRecDepth 100000
set_option maxHeartbeats 4000000
/-! sorted of a list of alike data (texts, numbers, tuples of such, nested). -/
namespace Sd
open PySem PySem.Spec PyProof.Rows L2
theorem each_vals {β : Type} {f : β → V} {R : Value → β → Prop} (hR : ∀ v b, RelV (f b) v → R v b) : ∀ {bs : List β} {us : List Value}, Vals (bs.map f) us → PySem.W.EachIs R us bs
  | [], _, h => by cases h; exact .nil
  | b :: bs, _, h => by
    cases h with
    | cons r rs => exact .cons (hR _ _ r) (each_vals hR rs)
theorem each_mem {β : Type} {f : β → V} {R : Value → β → Prop} : ∀ {bs : List β} {us : List Value}, (∀ b ∈ bs, ∀ v, RelV (f b) v → R v b) → Vals (bs.map f) us → PySem.W.EachIs R us bs
  | [], _, _, h => by cases h; exact .nil
  | b :: bs, _, hR, h => by
    cases h with
    | cons r rs => exact .cons (hR b List.mem_cons_self _ r) (each_mem (fun x m => hR x (List.mem_cons_of_mem _ m)) rs)
theorem vals_each {β : Type} {f : β → V} : ∀ {bs : List β} {us : List Value}, PySem.W.EachIs (fun v b => RelV (f b) v) us bs → Vals (bs.map f) us
  | _, _, .nil => .nil
  | _, _, .cons r rs => .cons r (vals_each rs)
section
variable {X : Cx}
theorem cr_sortD (hu : X.A.units + 64 < cLine) : CallR X (.builtin "sorted") (fun xs H Q => ∃ (β : Type) (a : Addr) (bs : List β) (f : β → V) (enc : β → PyData), xs = [.ref a] ∧ SqL X.K H a (bs.map f) ∧ (∀ b ∈ bs, Dp X.K H (f b) (enc b)) ∧
    PySem.W.AllAlike (bs.map enc) ∧ PySem.W.Sortable (bs.map enc) ∧ (∀ b ∈ bs, (enc b).depth ≤ 60) ∧ ∀ p, H p = none → Q (.ref p) (upd H p (.lst ((bs.mergeSort (PySem.W.dataLe false enc)).map f)))) := by
  intro pins s σ H xs us Q I rel h
  obtain ⟨β, a, bs, f, enc, rfl, hs, hd, al, so, dp, q⟩ := h
  obtain rfl := Vals.ref1 rel
  obtain ⟨its, rv, hl, hz⟩ := I.list hs
  rw [List.length_map] at hz
  refine PySem.W.sorted_data (bs := bs) (enc := enc) hl.isList (each_vals (R := fun v b => RelV (f b) v) (fun _ _ r => r) rv) (each_mem (fun b m v r => ?_) rv) al so hz (fun b m => by have := dp b m; omega) fun out ho eo => ?_
  · exact Dp.reads I (enc b) (f b) v (hd b m) r
  · have vo := vals_each eo
    obtain ⟨ep, he'⟩ := PyProof.Rows.sortedAll_at s.heap its (List.toArray out)
    have hlen : ((bs.mergeSort (PySem.W.dataLe false enc)).map f).length ≤ sizeLine := by
      rw [List.length_map, List.length_mergeSort]
      exact hz
    exact ⟨.ref _, upd H (s.heap.objs.size + 1) (.lst ((bs.mergeSort (PySem.W.dataLe false enc)).map f)), I.laid (t' := s.toks) (fun _ _ => PyProof.Rows.sortedAll_old) (Nat.le_succ _) ⟨hlen, _, ep, vo, he'⟩, rfl, q _ (I.hok.fresh (Nat.le_succ _))⟩
end
end Sd
/-! Su0 -/
set_option Elab.async false
set_option linter.all false
set_option maxRecDepth 100000
namespace Pg
open PySem PySem.Spec L2 Mr PyProof.Rows
def Le (a b : Str) : Prop := ¬ b.cps.toList < a.cps.toList
theorem le_of {a b : Str} (h : ltCps b.cps.toList a.cps.toList = false) : Le a b := by
  rw [ltCps_eq] at h
  exact of_decide_eq_false h
theorem Le.trans {a b c : Str} (h : Le a b) (g : Le b c) : Le a c := by
  have h : a.cps.toList ≤ b.cps.toList := List.not_lt.mp h
  have g : b.cps.toList ≤ c.cps.toList := List.not_lt.mp g
  exact List.not_lt.mpr (List.le_trans h g)
theorem Le.anti {a b : Str} (h : Le a b) (g : Le b a) : a = b := by
  have h : a.cps.toList ≤ b.cps.toList := List.not_lt.mp h
  have g : b.cps.toList ≤ a.cps.toList := List.not_lt.mp g
  have e := List.le_antisymm h g
  rw [← S_of a, ← S_of b, e]
theorem rising_pw : ∀ (l : List Str) (p : Str), risingS p l = true → (p :: l).Pairwise Le
  | [], p, _ => List.pairwise_singleton _ _
  | x :: r, p, h => by
    have h : (!ltCps x.cps.toList p.cps.toList && risingS x r) = true := h
    rw [Bool.and_eq_true, Bool.not_eq_true'] at h
    have ih := rising_pw r x h.2
    refine List.pairwise_cons.mpr ⟨fun y hy => ?_, ih⟩
    rcases List.mem_cons.mp hy with rfl | hy
    · exact le_of h.1
    · exact (le_of h.1).trans ((List.pairwise_cons.mp ih).1 y hy)
theorem sorted_pw {l : List Str} (h : sortedS l = true) : l.Pairwise Le := by
  cases l with
  | nil => exact .nil
  | cons x r => exact rising_pw r x h
theorem same_sorted : ∀ {l m : List Str}, l.Pairwise Le → m.Pairwise Le → l.Nodup → m.Nodup → (∀ x, x ∈ l ↔ x ∈ m) → l = m
  | [], [], _, _, _, _, _ => rfl
  | [], b :: m, _, _, _, _, h => absurd ((h b).mpr List.mem_cons_self) List.not_mem_nil
  | a :: l, [], _, _, _, _, h => absurd ((h a).mp List.mem_cons_self) List.not_mem_nil
  | a :: l, b :: m, p, q, n, k, h => by
    obtain ⟨p1, p2⟩ := List.pairwise_cons.mp p
    obtain ⟨q1, q2⟩ := List.pairwise_cons.mp q
    obtain ⟨n1, n2⟩ := List.nodup_cons.mp n
    obtain ⟨k1, k2⟩ := List.nodup_cons.mp k
    have e : a = b := by
      rcases List.mem_cons.mp ((h a).mp List.mem_cons_self) with e | e
      · exact e
      rcases List.mem_cons.mp ((h b).mpr List.mem_cons_self) with g | g
      · exact g.symm
      · exact (p1 b g).anti (q1 a e)
    subst e
    rw [same_sorted p2 q2 n2 k2 fun x => ?_]
    have hx := h x
    rw [List.mem_cons, List.mem_cons] at hx
    constructor
    · intro m1
      rcases hx.mp (.inr m1) with e | e
      · rw [e] at m1; exact absurd m1 n1
      · exact e
    · intro m1
      rcases hx.mpr (.inr m1) with e | e
      · rw [e] at m1; exact absurd m1 k1
      · exact e
theorem sorted_one {l m : List Str} (a : sortedS l = true) (b : sortedS m = true) (n : l.Nodup) (k : m.Nodup) (h : ∀ x, x ∈ l ↔ x ∈ m) : l = m := same_sorted (sorted_pw a) (sorted_pw b) n k h
/-! ### values are small -/
end Pg
/-! Gm -/
set_option Elab.async false
set_option linter.all false
set_option maxRecDepth 100000
set_option maxHeartbeats 4000000
namespace Pg
open PySem L2 Mr
/-! the least atoms, as rows (name, number) in their order -/
abbrev Row := Cs × Int
def noE (l : List Cs) : List Cs := l.filter fun s => !decide (s = [])
def needs (A : Atm) : Bool := decide ([] ∈ A.l) && (noE A.l).all fun s => decide (A.g s + 1 < A.g [])
def leastR (A : Atm) : List Row := (noE A.l).map (fun s => (s, A.g s)) ++ (if needs A = true then [([], A.g [])] else [])
def encR (p : Row) : PyData := .tuple [.str (S p.1), .int p.2]
def sortR (A : Atm) : List Row := (leastR A).mergeSort (PySem.W.dataLe false encR)
theorem noE_mem {l : List Cs} {s : Cs} : s ∈ noE l ↔ s ∈ l ∧ s ≠ [] := by
  unfold noE
  rw [List.mem_filter]
  simp
theorem leastR_mem {A : Atm} {p : Row} : p ∈ leastR A ↔ (p.2 = A.g p.1 ∧ p.1 ∈ A.l) ∧ (p.1 = [] → needs A = true) := by
  unfold leastR
  rw [List.mem_append, List.mem_map]
  constructor
  · rintro (⟨s, hs, rfl⟩ | h)
    · obtain ⟨h1, h2⟩ := noE_mem.mp hs
      exact ⟨⟨rfl, h1⟩, fun e => absurd e h2⟩
    · by_cases c : needs A = true
      · rw [if_pos c] at h
        rcases List.mem_singleton.mp h with rfl
        unfold needs at c
        rw [Bool.and_eq_true, decide_eq_true_eq] at c
        exact ⟨⟨rfl, c.1⟩, fun _ => by unfold needs; rw [Bool.and_eq_true, decide_eq_true_eq]; exact c⟩
      · rw [if_neg c] at h; cases h
  · rintro ⟨⟨h1, h2⟩, h3⟩
    obtain ⟨s, n⟩ := p
    have h1 : n = A.g s := h1
    subst h1
    by_cases c : s = []
    · subst c
      right
      rw [if_pos (h3 rfl)]
      exact List.mem_singleton.mpr rfl
    · left
      exact ⟨s, noE_mem.mpr ⟨h2, c⟩, rfl⟩
theorem leastR_names {A : Atm} (nd : A.l.Nodup) : ((leastR A).map (·.1)).Nodup := by
  unfold leastR
  rw [List.map_append, List.map_map]
  have e : ((noE A.l).map ((fun p : Row => p.1) ∘ fun s => (s, A.g s))) = noE A.l := by
    have : (noE A.l).map ((fun p : Row => p.1) ∘ fun s => (s, A.g s)) = (noE A.l).map id := List.map_congr_left fun s _ => rfl
    rw [this, List.map_id]
  rw [e]
  refine List.nodup_append.mpr ⟨nd.sublist List.filter_sublist, ?_, fun a ha b hb e => ?_⟩
  · by_cases c : needs A = true
    · rw [if_pos c]; simp
    · rw [if_neg c]; simp
  · by_cases c : needs A = true
    · rw [if_pos c] at hb
      have : b = [] := by simpa using hb
      exact (noE_mem.mp ha).2 (e.trans this)
    · rw [if_neg c] at hb; simp at hb
theorem leastR_len {A : Atm} : (leastR A).length ≤ A.l.length + 1 := by
  unfold leastR
  rw [List.length_append, List.length_map]
  have h1 : (noE A.l).length ≤ A.l.length := List.length_filter_le _ _
  have h2 : (if needs A = true then [(([] : Cs), A.g [])] else []).length ≤ 1 := by split <;> simp
  omega
theorem sortR_perm (A : Atm) : (sortR A).Perm (leastR A) := List.mergeSort_perm _ _
theorem sortR_names {A : Atm} (nd : A.l.Nodup) : ((sortR A).map (·.1)).Nodup := ((sortR_perm A).map (·.1)).nodup_iff.mpr (leastR_names nd)
theorem lt_row {p q : Row} (n : p.1 ≠ q.1) : PySem.W.dataLt (encR p) (encR q) = decide ((S p.1).cps.toList < (S q.1).cps.toList) := by
  unfold encR
  rw [PySem.W.dataLt_pair (by simp [PySem.W.alike]) (by simp [PySem.W.alike]), if_neg, PySem.W.dataLt_str]
  have : S p.1 ≠ S q.1 := fun e => n (S_inj.mp e)
  simpa [PyData.eqv] using this
theorem sortR_asc {A : Atm} (nd : A.l.Nodup) : ((sortR A).map fun p => S p.1).Pairwise Le := by
  have h1 := PySem.W.sort_pairwise (PySem.W.sortLe_total (PyProof.Rows.listOrd PyProof.Rows.itemOrd) false fun p : Row => PySem.W.keyToks (encR p)) (leastR A)
  have h2 := sortR_names nd
  rw [List.pairwise_map]
  have h3 : (sortR A).Pairwise fun a b => a.1 ≠ b.1 := List.pairwise_map.mp h2
  have h1 : (sortR A).Pairwise fun a b => (PySem.W.dataLe false encR a b) = true := h1
  refine (List.Pairwise.and h1 h3).imp fun {a b} h => ?_
  have e : (!PySem.W.dataLt (encR b) (encR a)) = true := h.1
  rw [lt_row (fun z => h.2 z.symm), Bool.not_eq_true', decide_eq_false_iff_not] at e
  exact e
/-! what rows are worth -/
structure IsMx (f : Cs → Int) (R : List Row) (r : Int) : Prop where
  low : -1 ≤ r
  up : ∀ p ∈ R, p.2 + wf f p.1 ≤ r
  at_ : r = -1 ∨ ∃ p ∈ R, r = p.2 + wf f p.1
theorem least_v {f : Cs → Int} {Z : List Cs} {A : Atm} {v r : Int} (hp : ∀ s, s ∉ Z → 1 ≤ f s) (w : Wl Z A) (h : IsV f A v) (m : IsMx f (leastR A) r) : r = v := by
  have rv : v ≤ r := by
    obtain ⟨⟨s, hs, e⟩, up⟩ := h
    by_cases c : s = [] → needs A = true
    · have := m.up (s, A.g s) (leastR_mem.mpr ⟨⟨rfl, hs⟩, c⟩)
      show v ≤ r
      have this : A.g s + wf f s ≤ r := this
      omega
    · have c : s = [] ∧ ¬ needs A = true := by
        by_cases d : s = []
        · exact ⟨d, fun z => c fun _ => z⟩
        · exact absurd (fun e => absurd e d) c
      obtain ⟨s0, c3⟩ := c
      subst s0
      have w0 : wf f [] = 0 := by unfold wf; rw [if_pos rfl]
      unfold needs at c3
      rw [decide_eq_true hs, Bool.true_and, List.all_eq_true] at c3
      have c2 : ∃ x, x ∈ noE A.l ∧ ¬ A.g x + 1 < A.g [] := by
        apply Classical.byContradiction
        intro z
        refine c3 fun x hx => ?_
        rw [decide_eq_true_eq]
        apply Classical.byContradiction
        intro y
        exact z ⟨x, hx, y⟩
      obtain ⟨x, hx, hg⟩ := c2
      obtain ⟨xm, xn⟩ := noE_mem.mp hx
      have h1 := m.up (x, A.g x) (leastR_mem.mpr ⟨⟨rfl, xm⟩, fun e => absurd e xn⟩)
      have h1 : A.g x + wf f x ≤ r := h1
      have h2 := hp x (w.off x xm xn)
      unfold wf at h1
      rw [if_neg xn] at h1
      omega
  have vr : r ≤ v := by
    have v0 : 0 ≤ v := by
      obtain ⟨⟨s, hs, e⟩, up⟩ := h
      have h1 := w.nn s hs
      by_cases c : s = []
      · unfold wf at e; rw [if_pos c] at e; omega
      · have := hp s (w.off s hs c)
        unfold wf at e; rw [if_neg c] at e; omega
    rcases m.at_ with e | ⟨p, hp, e⟩
    · omega
    · obtain ⟨⟨h1, h2⟩, _⟩ := leastR_mem.mp hp
      have := h.2 p.1 h2
      omega
  omega
/-- without a named row it is less where that name is far up -/
theorem least_far {f : Cs → Int} {Z : List Cs} {A : Atm} {v r : Int} {R : List Row} {s : Cs} (w : Wl Z A) (h : IsV f A v) (hs : s ∈ A.l) (sn : s ≠ []) (fs : f s = 40) (b : ∀ x ∈ A.l, x ≠ s → wf f x + A.g x ≤ 39)
    (sub : ∀ p ∈ R, p ∈ leastR A ∧ p.1 ≠ s) (m : IsMx f R r) : r ≠ v := by
  have h1 := h.2 s hs
  have h2 := w.nn s hs
  unfold wf at h1
  rw [if_neg sn, fs] at h1
  rcases m.at_ with e | ⟨p, hp, e⟩
  · omega
  · obtain ⟨p1, p2⟩ := sub p hp
    obtain ⟨⟨q1, q2⟩, _⟩ := leastR_mem.mp p1
    have := b p.1 q2 p2
    omega
/-- without the number it is less where all names are 1 -/
theorem least_one {f : Cs → Int} {Z : List Cs} {A : Atm} {v r : Int} {R : List Row} (w : Wl Z A) (h : IsV f A v) (hn : needs A = true) (f1 : ∀ s ∈ A.l, s ≠ [] → f s = 1) (sub : ∀ p ∈ R, p ∈ leastR A ∧ p.1 ≠ []) (m : IsMx f R r) : r ≠ v := by
  unfold needs at hn
  rw [Bool.and_eq_true, decide_eq_true_eq, List.all_eq_true] at hn
  obtain ⟨he, hall⟩ := hn
  have h1 := h.2 [] he
  have h2 := w.nn [] he
  unfold wf at h1
  rw [if_pos rfl] at h1
  rcases m.at_ with e | ⟨p, hp, e⟩
  · omega
  · obtain ⟨p1, p2⟩ := sub p hp
    obtain ⟨⟨q1, q2⟩, _⟩ := leastR_mem.mp p1
    have := of_decide_eq_true (hall p.1 (noE_mem.mpr ⟨q2, p2⟩))
    have f2 := f1 p.1 q2 p2
    unfold wf at e
    rw [if_neg p2, f2] at e
    omega
end Pg
/-! Gl -/
set_option Elab.async false
set_option linter.all false
set_option maxRecDepth 100000
set_option maxHeartbeats 4000000
namespace Pg
open PySem L2 Mr
/-- rows (name, number) in tuples -/
def RowsAt (H : Hp) (ts : List Addr) (R : List Row) : Prop := Paired (fun t p => H t = some (.tup [tv p.1, .int p.2])) ts R
theorem RowsAt.mono {H H' : Hp} : ∀ {ts : List Addr} {R : List Row}, RowsAt H ts R → (∀ a xs, H a = some (.tup xs) → H' a = some (.tup xs)) → RowsAt H' ts R
  | _, _, .nil, _ => .nil
  | _, _, .cons h r, k => .cons (k _ _ h) (RowsAt.mono r k)
theorem RowsAt.same {H H' : Hp} {ts : List Addr} {R : List Row} (h : RowsAt H ts R) (s : Same H H') : RowsAt H' ts R := h.mono fun a _ e => s a _ e
theorem RowsAt.mut {H : Hp} {ts : List Addr} {R : List Row} {D : Addr} {l : List V} {o : HO} (h : RowsAt H ts R) (e : H D = some (.lst l)) : RowsAt (upd H D o) ts R := h.mono fun a xs g => by rw [upd_ne (fun z => by rw [z, e] at g; cases g)]; exact g
theorem RowsAt.push {H : Hp} {t : Addr} {p : Row} (h : H t = some (.tup [tv p.1, .int p.2])) : ∀ {ts : List Addr} {R : List Row}, RowsAt H ts R → RowsAt H (ts ++ [t]) (R ++ [p])
  | _, _, .nil => .cons h .nil
  | _, _, .cons g r => .cons g (RowsAt.push h r)
theorem RowsAt.at {H : Hp} : ∀ {ts : List Addr} {R : List Row} {i : Nat} {x : V}, RowsAt H ts R → (ts.map V.ref)[i]? = some x → ∃ t p, x = .ref t ∧ R[i]? = some p ∧ ts[i]? = some t ∧ H t = some (.tup [tv p.1, .int p.2])
  | _, _, _, _, .nil, h => by cases h
  | a :: ts, s :: R, 0, x, .cons h r, e => by cases e; exact ⟨a, s, rfl, rfl, rfl, h⟩
  | a :: ts, s :: R, i + 1, x, .cons h r, e => RowsAt.at (ts := ts) (R := R) (i := i) r e
theorem RowsAt.len {H : Hp} {ts : List Addr} {R : List Row} (h : RowsAt H ts R) : ts.length = R.length := Paired.length h
theorem RowsAt.mem {H : Hp} : ∀ {ts : List Addr} {R : List Row}, RowsAt H ts R → ∀ b ∈ ts.zip R, H b.1 = some (.tup [tv b.2.1, .int b.2.2])
  | _, _, .nil, b, m => by cases m
  | _, _, .cons h r, b, m => by
    rcases List.mem_cons.mp m with rfl | m
    · exact h
    · exact RowsAt.mem r b m
theorem RowsAt.of {H : Hp} : ∀ (bs : List (Addr × Row)), (∀ b ∈ bs, H b.1 = some (.tup [tv b.2.1, .int b.2.2])) → RowsAt H (bs.map (·.1)) (bs.map (·.2))
  | [], _ => .nil
  | b :: bs, h => .cons (h b List.mem_cons_self) (RowsAt.of bs fun x m => h x (List.mem_cons_of_mem _ m))
theorem zip_fst {α β : Type} : ∀ {as : List α} {bs : List β}, as.length = bs.length → (as.zip bs).map (·.1) = as
  | [], [], _ => rfl
  | [], _ :: _, h => by cases h
  | _ :: _, [], h => by cases h
  | a :: as, b :: bs, h => by rw [List.zip_cons_cons, List.map_cons, zip_fst (Nat.succ.inj h)]
theorem zip_snd {α β : Type} : ∀ {as : List α} {bs : List β}, as.length = bs.length → (as.zip bs).map (·.2) = bs
  | [], [], _ => rfl
  | [], _ :: _, h => by cases h
  | _ :: _, [], h => by cases h
  | a :: as, b :: bs, h => by rw [List.zip_cons_cons, List.map_cons, zip_snd (Nat.succ.inj h)]
theorem noE_take {l : List Cs} {n : Nat} {y : Cs} (h : l[n]? = some y) : noE (l.take (n + 1)) = noE (l.take n) ++ (if y = [] then [] else [y]) := by
  unfold noE
  rw [List.take_succ, h, List.filter_append]
  show _ ++ List.filter _ [y] = _
  rw [List.filter_cons, List.filter_nil]
  by_cases m : y = []
  · rw [if_pos m, decide_eq_true m]; rfl
  · rw [if_neg m, decide_eq_false m]; rfl
theorem e_txt : S [] = ("" : Str) := by decide +kernel
theorem tv_empty (s : Cs) : decide (tv s = V.str ("" : Str)) = decide (s = []) := by
  rw [← e_txt]
  exact decide_eq_decide.mpr ⟨fun h => by injection h with h; exact S_inj.mp h, fun h => by rw [h]⟩
section
variable {P : Program} {w : World} {K : PySem.W.Frag} {mg : Str → Option Value} {base : Heap} {pS pC : Addr}
/-! ### least_atoms -/
def spLeast (K : PySem.W.Frag) : Sp := fun vs H Q _ => ∃ (a z : Addr) (ss : List Stp) (Z : List Cs) (A : Atm), vs = [.ref a, .ref z] ∧ LevAt K H a ss ∧ ss.length ≤ 64 ∧ SqA K H z (Z.map tv) ∧ arun Z [] ss = some [A] ∧ A.l.Nodup ∧ A.l.length ≤ 64 ∧
  ∀ H' p ts, Same H H' → H p = none → H' p = some (.tup (ts.map V.ref)) → RowsAt H' ts (sortR A) → Q (.ref p) H'
theorem sc_least : FnScope ["steps", "zeros", "found", "pairs", "name", "number"] ["steps", "zeros"] (defScope st_least_atoms) := ⟨rfl, rfl, rfl, by decide +kernel, rfl, by decide +kernel, by decide +kernel⟩
theorem ok_least {f0 : Addr} {fd : FuncData} (F : Fun K "least_atoms" "least_atoms" st_least_atoms f0 fd) (L : Lx mg) (za : mg "all" = none) (zs : mg "sorted" = none) (c_atoms_in : CalX P w K mg base 2 "atoms_in" (spAin K)) : FnOk P w K mg base CX0 3 f0 fd ["steps", "zeros"] (spLeast K) := by
  refine F.ok sc_least (fun vs H Q E h => ?_) (fun cdv A0 outer s H vs Q E hr h => ?_)
  · obtain ⟨a, z, ss, Z, A, rfl, _⟩ := h
    rfl
  obtain ⟨a, z, ss, Z, A, rfl, hA, hlen, hZ, hrun, ndA, l64, q⟩ := h
  have nd := sc_least.nd
  have hu := hu_of hr
  refine ⟨_, (pss_cons (ps_set (i := 2) nd rfl (.inr rfl) (C8.pe_c c_atoms_in hr (by decide) rfl (pa_cons (pv 0) (pa_cons (pv 1) pa_nil))))
      (pss_cons (ps_lock (ps_setLc (i := 3) (own := [("name", 4), ("number", 5)]) (g := gTup K 2 (gCons (gName 4) (gCons (gName 5) gNil))) rfl nd rfl rfl (sw_true rfl rfl rfl (by decide +kernel)) (pi_items (pv 2)) (blkOk_by (N := ["steps", "zeros", "found", "pairs", "name", "number"]) (sc := defScope st_least_atoms) (by decide +kernel)) (fun _ _ _ _ _ => (pg_tup (n := 2) rfl (pgs_cons (pg_name (i := 4) nd rfl (Or.inl rfl) (hf := .inr rfl)) (pgs_cons (pg_name (i := 5) nd rfl (Or.inl rfl) (hf := .inr rfl)) pgs_nil)))) (fun _ _ _ _ _ => pts_one (pt_cmpR op_ne (pv 4) pe_str (nomark _))) (fun _ _ _ _ _ => (pe_tup (pa_cons (pv 4) (pa_cons (pv 5) pa_nil))))))
      (C8.pss_cut (ps_if (PW.pt (pw_and (pt_cmp (pc_din hu pe_str (pv 2))) (pw_and1 (pt_val (pe_callB (cr_all rfl) (by rfl) za (by decide +kernel) (pa_cons (pe_lc (own := [("name", 4), ("number", 5)]) (g := gTup K 2 (gCons (gName 4) (gCons (gName 5) gNil))) (tt := tYes) rfl nd (pi_list (pv 3)) (blkOk_by (N := ["steps", "zeros", "found", "pairs", "name", "number"]) (sc := defScope st_least_atoms) (by decide +kernel)) (fun _ _ _ _ _ => (pg_tup (n := 2) rfl (pgs_cons (pg_name (i := 4) nd rfl (Or.inl rfl) (hf := .inr rfl)) (pgs_cons (pg_name (i := 5) nd rfl (Or.inl rfl) (hf := .inr rfl)) pgs_nil)))) (fun _ _ _ _ _ => pts_nil) (fun _ _ _ _ _ => (pe_cmpR op_gt (pe_dget hu (pv 2) pe_str (fun _ _ => rfl)) (pe_op op_add (pv 5) pe_int) (nomark _)))) pa_nil)))))) (pss_one (ps_expr (pe_bm PySem.F.plainAttrs_list PySem.F.slot_list_append PySem.F.type_list_append mt_append (pv 3) (pa_cons (pe_tup (pa_cons pe_str (pa_cons (pe_dget hu (pv 2) pe_str (fun _ _ => rfl)) pa_nil))) pa_nil)))) pss_nil)
      (pss_one (ps_ret (pe_callTy call_tuple_of (by rfl) L.tup (by decide +kernel) (pa_cons (pe_callB (Sd.cr_sortD hr.units) (by rfl) zs (by decide +kernel) (pa_cons (pv 3) pa_nil)) pa_nil))))))), ?_⟩
  refine ⟨_, rfl, _, rfl, a, z, ss, Z, A, rfl, hA, hlen, hZ, hrun, fun H1 c s1 nc hc => ?_⟩
  refine ⟨c, _, hc, trivial, fun od => ⟨_, rfl, c, od, A.kv, rfl, upd_same, fun D nD => lc_it walk_items (fun n H3 => Same (upd H1 c (.frz od (.dK A.kv))) H3 ∧ ∃ ts, H3 D = some (.lst (ts.map V.ref)) ∧ RowsAt H3 ts ((noE (A.l.take n)).map fun s => (s, A.g s)))
    ⟨same_new nD _, [], upd_same, .nil⟩ (fun n H3 _ p => p.1 _ _ upd_same) ?turn ?done⟩⟩
  case turn =>
    rintro n x H3 H4 hn ⟨s3, ts, hD, ra⟩ ⟨T, x', y', rfl, nT, rfl, e1, e2⟩
    obtain ⟨s0', hs0, rfl, rfl⟩ := kv_ix e1 e2
    have s4 : Same H3 (upd H3 T (.tup [tv s0', .int (A.g s0')])) := same_new nT _
    refine ⟨T, _, rfl, SqT.of upd_same, rfl, _, _, rfl, _, _, rfl, rfl, rfl, _, rfl, rfl, _, rfl, ?_⟩
    rw [noE_take hs0]
    rw [show (decide (V.str (S s0') = V.str ("" : Str))) = decide (s0' = []) from tv_empty s0']
    by_cases e : s0' = []
    · rw [decide_eq_true e, if_pos e, List.append_nil]
      exact iteF ⟨s3.trans s4, ts, s4 _ _ hD, ra.same s4⟩
    · rw [decide_eq_false e, if_neg e]
      refine iteT ⟨_, rfl, _, rfl, (by show 2 ≤ sizeLine; decide), fun pt npt => ?_⟩
      have s5 := s4.trans (same_new npt (.tup [tv s0', .int (A.g s0')]))
      have l1 := ra.len
      rw [List.length_map] at l1
      have l2 : (noE (A.l.take n)).length ≤ (A.l.take n).length := List.length_filter_le _ _
      rw [List.length_take] at l2
      refine ⟨_, s5 _ _ hD, big (by rw [List.length_map]; omega), same_mut (s3.trans s5) nD, ts ++ [pt], by rw [upd_same, List.map_append]; rfl, ?_⟩
      rw [List.map_append]
      exact ((ra.same s5).push (p := (s0', A.g s0')) upd_same).mut (s5 _ _ hD)
  case done =>
    rintro H3 ⟨s3, ts, hD, ra⟩
    rw [Atm.kv_len, List.take_length] at ra
    have Dc : D ≠ c := fun e => by rw [e, upd_same] at nD; cases nD
    have D2 : H1 D = none := by rw [upd_ne Dc] at nD; exact nD
    have s4 : Same H1 (upd H3 c (.dK A.kv)) := lock_same hc fun b o ne e => s3 b o (by rw [upd_ne ne]; exact e)
    have hD4 : upd H3 c (.dK A.kv) D = some (.lst (ts.map V.ref)) := by rw [upd_ne Dc]; exact hD
    have ra4 : RowsAt (upd H3 c (.dK A.kv)) ts ((noE A.l).map fun s => (s, A.g s)) := ra.mono fun b xs e => by rw [upd_ne (fun z => by rw [z, s3 _ _ upd_same] at e; cases e)]; exact e
    have hc4 : upd H3 c (.dK A.kv) c = some (.dK A.kv) := upd_same
    refine ⟨s3 _ _ upd_same, ?_⟩
    generalize upd H3 c (.dK A.kv) = H4 at s4 hD4 ra4 hc4
    have lts : ts.length ≤ 64 := by
      have l1 := ra4.len
      rw [List.length_map] at l1
      have l2 : (noE A.l).length ≤ A.l.length := List.length_filter_le _ _
      omega
    refine ⟨fun σ' H5 => ∃ (us : List Addr) (v4 v5 : Option V), σ' = [some (.ref a), some (.ref z), some (.ref c), some (.ref D), v4, v5] ∧ Same H1 H5 ∧ H5 D = some (.lst (us.map V.ref)) ∧ RowsAt H5 us (leastR A), ?_, ?_⟩
    case refine_2 =>
      rintro σ' H5 ⟨us, v4, v5, rfl, s5, h5, r5⟩
      refine ⟨_, rfl, Addr × Row, D, us.zip (leastR A), fun b => .ref b.1, fun b => encR b.2, rfl, ?_, fun b m => ?_, PySem.W.AllAlike.of fun _ _ => by simp [PySem.W.alike, PySem.W.alikeAll, encR], PySem.W.Sortable.tuples fun _ => ⟨_, _, rfl⟩, fun b m => ?_, fun p np => ?_⟩
      · have e : (us.zip (leastR A)).map (fun b => V.ref b.1) = us.map V.ref := by
          have e0 : (us.zip (leastR A)).map (fun b => V.ref b.1) = ((us.zip (leastR A)).map fun b => b.1).map V.ref := by rw [List.map_map]; rfl
          rw [e0, zip_fst r5.len]
        rw [e]
        exact SqL.of h5
      · exact .tup (SqT.of (r5.mem b m)) (.cons (.str _) (.cons (.int _) .nil))
      · simp [encR, PyData.depth, PyData.depthAll]
      refine ⟨p, _, rfl, .inl ⟨SqL.of upd_same, fun l nl => ?_⟩⟩
      have sp := same_new np (.lst ((((us.zip (leastR A)).mergeSort (PySem.W.dataLe false fun b : Addr × Row => encR b.2)).map fun b => V.ref b.1)))
      have sl := same_new nl (.tup ((((us.zip (leastR A)).mergeSort (PySem.W.dataLe false fun b : Addr × Row => encR b.2)).map fun b => V.ref b.1)))
      have nl1 : H1 l = none := by
        cases e : H1 l with
        | none => rfl
        | some o => rw [sp _ _ (s5 _ _ e)] at nl; cases nl
      have nl0 : H l = none := by
        cases e : H l with
        | none => rfl
        | some o => rw [s1 _ _ e] at nl1; cases nl1
      refine q _ l (((us.zip (leastR A)).mergeSort (PySem.W.dataLe false fun b : Addr × Row => encR b.2)).map fun b => b.1) ((s1.trans s5).trans (sp.trans sl)) nl0 (by rw [upd_same, List.map_map]; rfl) ?_
      have e2 : sortR A = ((us.zip (leastR A)).mergeSort (PySem.W.dataLe false fun b : Addr × Row => encR b.2)).map fun b => b.2 := by
        unfold sortR
        rw [PySem.W.sort_maps (r := PySem.W.dataLe false fun b : Addr × Row => encR b.2) (fun b : Addr × Row => b.2) (s := PySem.W.dataLe false encR) fun a _ b _ => rfl, zip_snd r5.len]
      rw [e2]
      exact RowsAt.of _ fun b m => sl _ _ (sp _ _ (r5.mem b ((List.mergeSort_perm _ _).mem_iff.mp m)))
    have he : ([] : Cs) ∈ A.l ∨ ([] : Cs) ∉ A.l := Classical.em _
    have hg := DGet.k (k := Sum.inr ("" : Str)) hc4
    rw [← e_txt, Atm.val] at hg
    have lr : needs A = false → leastR A = (noE A.l).map fun s => (s, A.g s) := fun e => by unfold leastR; rw [e]; simp
    refine ⟨_, rfl, c, _, rfl, hg, ?_⟩
    rcases he with he | he
    case inr =>
      have eg : A.get [] = none := by unfold Atm.get; rw [if_neg he]
      rw [eg]
      have nn : needs A = false := by unfold needs; rw [decide_eq_false he]; rfl
      exact ⟨_, rfl, iteF ⟨ts, _, _, rfl, s4, hD4, by rw [lr nn]; exact ra4⟩⟩
    have eg : A.get [] = some (A.g []) := by unfold Atm.get; rw [if_pos he]
    rw [eg] at hg ⊢
    refine ⟨_, rfl, iteT ?_⟩
    have hg : DGet H4 c (.str "") (some (.int (A.g []))) := by rw [← e_txt]; exact hg
    refine ⟨_, rfl, D, rfl, ⟨_, SqL.of hD4⟩, fun E2 nE => lc_list (K := K) (a := D) (xs := ts.map V.ref) (fun n H5 => Same H4 H5 ∧ H5 E2 = some (.lst ((((noE A.l).take n).map fun s => decide (A.g s + 1 < A.g [])).map V.bl)))
      ⟨same_new nE _, upd_same⟩ (fun n H5 _ p => SqL.of (p.1 _ _ hD4)) ?a1 ?a2⟩
    case a1 =>
      rintro n x H5 hn ⟨s5, hE⟩
      obtain ⟨t, p, rfl, hp, ht, htp⟩ := (ra4.same s5).at hn
      rw [List.getElem?_map] at hp
      obtain ⟨y, hy, rfl⟩ := Option.map_eq_some_iff.mp hp
      have l2 : (noE A.l).length ≤ A.l.length := List.length_filter_le _ _
      have ln : n < (noE A.l).length := (List.getElem?_eq_some_iff.mp hy).1
      have hg5 : DGet H5 c (.str "") (some (.int (A.g []))) := by
        have := DGet.k (k := Sum.inr ("" : Str)) (s5 _ _ hc4)
        rw [← e_txt, Atm.val, eg] at this
        rw [← e_txt]; exact this
      refine ⟨t, _, rfl, SqT.of htp, rfl, _, _, rfl, _, _, rfl, rfl, rfl, _, rfl, c, .int (A.g []), rfl, hg5, _, rfl, _, _, rfl, rfl, _, _, rfl, rfl, _, hE, big (by rw [List.length_map, List.length_map, List.length_take]; omega), same_mut s5 nE, ?_⟩
      rw [upd_same, List.take_succ, hy, List.map_append, List.map_append]
      rfl
    case a2 =>
      rintro H5 ⟨s5, hE⟩
      rw [List.length_map, ra4.len, List.length_map, List.take_length] at hE
      refine ⟨E2, _, rfl, SqL.of hE, _, rfl, ?_⟩
      have en : needs A = ((noE A.l).map fun s => decide (A.g s + 1 < A.g [])).all id := by
        unfold needs
        rw [decide_eq_true he, Bool.true_and, List.all_map]
        rfl
      rw [← en]
      by_cases nn : needs A = true
      · rw [nn]
        refine iteT ⟨_, rfl, .inl ⟨rfl, _, SqL.of (s5 _ _ hD4)⟩, _, rfl, c, .int (A.g []), rfl, ?_, (by show 2 ≤ sizeLine; decide), fun pt npt => ?_⟩
        · have := DGet.k (k := Sum.inr ("" : Str)) (s5 _ _ hc4)
          rw [← e_txt, Atm.val, eg] at this
          rw [← e_txt]; exact this
        have s6 := s5.trans (same_new npt (.tup [.str "", .int (A.g [])]))
        refine ⟨D, _, _, rfl, rfl, s6 _ _ hD4, big (by rw [List.length_map]; omega), ts ++ [pt], _, _, rfl, ?_, by rw [upd_same, List.map_append]; rfl, ?_⟩
        · exact same_mut (s4.trans s6) D2
        · have e3 : leastR A = ((noE A.l).map fun s => (s, A.g s)) ++ [([], A.g [])] := by unfold leastR; rw [if_pos nn]
          rw [e3]
          exact ((ra4.same s6).push (p := ([], A.g [])) (by rw [upd_same, ← e_txt])).mut (s6 _ _ hD4)
      · have nn : needs A = false := by simpa using nn
        rw [nn]
        exact iteF ⟨ts, _, _, rfl, s4.trans s5, s5 _ _ hD4, by rw [lr nn]; exact ra4.same s5⟩

/-! ### atoms -/
def spAtoms (K : PySem.W.Frag) : Sp := fun vs H Q _ => ∃ (z : Addr) (x : Cs) (ss : List Stp) (Z : List Cs) (A : Atm), vs = [tv x, .ref z] ∧ x.length ≤ 100000 ∧ stepsOf x = some ss ∧ ss.length ≤ 64 ∧ SqA K H z (Z.map tv) ∧ arun Z [] ss = some [A] ∧ A.l.Nodup ∧ A.l.length ≤ 64 ∧
  ∀ H' p ts, Same H H' → H p = none → H' p = some (.tup (ts.map V.ref)) → RowsAt H' ts (sortR A) → Q (.ref p) H'
theorem sc_atoms : FnScope ["level", "zeros"] ["level", "zeros"] (defScope st_atoms) := ⟨rfl, rfl, rfl, by decide +kernel, rfl, by decide +kernel, by decide +kernel⟩
theorem SqA.same {H H' : Hp} {a : Addr} {xs : List V} (s : Same H H') (h : SqA K H a xs) : SqA K H' a xs := h.elim (fun h => .inl (Same.seq s h)) fun h => .inr (Same.tup s h)
theorem ok_atoms {f0 : Addr} {fd : FuncData} (F : Fun K "atoms" "atoms" st_atoms f0 fd) (c_least_atoms : CalX P w K mg base 3 "least_atoms" (spLeast K)) (c_read_level : CalX P w K mg base 4 "read_level" (spRead K)) : FnOk P w K mg base CX0 5 f0 fd ["level", "zeros"] (spAtoms K) := by
  refine F.ok sc_atoms (fun vs H Q E h => ?_) (fun cdv A0 outer s H vs Q E hr h => ?_)
  · obtain ⟨z, x, ss, Z, A, rfl, _⟩ := h
    rfl
  obtain ⟨z, x, ss, Z, A, rfl, hx, hst, hlen, hZ, hrun, ndA, l64, q⟩ := h
  refine ⟨_, (pss_one (ps_ret (C8.pe_c c_least_atoms hr (by decide) rfl (pa_cons (C8.pe_c c_read_level hr (by decide) rfl (pa_cons (pv 0) pa_nil)) (pa_cons (pv 1) pa_nil))))), ?_⟩
  refine ⟨_, rfl, x, ss, rfl, hx, hst, fun H1 p s1 hp => ⟨_, rfl, p, z, ss, Z, A, rfl, hp, hlen, SqA.same s1 hZ, hrun, ndA, l64, fun H2 p2 ts s2 n2 h2 r2 => q H2 p2 ts (s1.trans s2) ?_ h2 r2⟩⟩
  cases e : H p2 with
  | none => rfl
  | some o => rw [s1 _ _ e] at n2; cases n2
end
end Pg
/-! Lw6 -/
set_option Elab.async false
set_option linter.all false
set_option maxRecDepth 100000
set_option maxHeartbeats 4000000
namespace Pg
open PySem L2 Mr
theorem num_name_no : ∀ k : Str, k ∈ [("number" : Str), "plus", "max", "imax"] → decide (V.str k = V.str ("name" : Str)) = false := is_plus.2.1
theorem int_nat (k : Nat) : ((k : Nat) : Int) = (k : Int) := rfl
/-- the dict at d has the numbers of f for the names of t -/
def WAt (H : Hp) (d : Addr) (f : Cs → Int) (t : T) : Prop := ∃ kvs, H d = some (.dK kvs) ∧ ∀ s, Stp.nam s ∈ t.stp → valV kvs (Sum.inr (S s)) = some (.int (f s))
theorem WAt.same {H H' : Hp} {d : Addr} {f : Cs → Int} {t : T} (h : WAt H d f t) (s : Same H H') : WAt H' d f t := let ⟨kvs, h1, h2⟩ := h; ⟨kvs, s _ _ h1, h2⟩
theorem WAt.kid {H : Hp} {d : Addr} {f : Cs → Int} {b : Bool} {ts : List T} {t : T} (h : WAt H d f (.node b ts)) (m : t ∈ ts) : WAt H d f t := let ⟨kvs, h1, h2⟩ := h
  ⟨kvs, h1, fun s hs => h2 s (by rw [T.stp]; exact List.mem_append_left _ (List.mem_flatten.mpr ⟨_, List.mem_map_of_mem m, hs⟩))⟩
section
variable {P : Program} {w : World} {K : PySem.W.Frag} {mg : Str → Option Value} {base : Heap} {pS pC : Addr}
/-! ### _law_worth -/
def spVal (n : Nat) : Sp := fun vs H Q _ => ∃ (a d : Addr) (t : T) (m : Nat) (f : Cs → Int), vs = [.ref a, .ref d] ∧ TreeAt H t a ∧ m < n ∧ Dp m t ∧ t.ok ∧ WAt H d f t ∧ ∀ H', Same H H' → Q (.int (t.val f)) H'
theorem sc_val : FnScope ["_law_told", "_law_numbers", "_law_found", "_law_part", "_law_one"] ["_law_told", "_law_numbers"] (defScope st__law_worth) := ⟨rfl, rfl, rfl, by decide +kernel, rfl, by decide +kernel, by decide +kernel⟩
theorem ok_val1 {n : Nat} {f0 : Addr} {fd : FuncData} (F : Fun K "_law_worth" "_law_worth" st__law_worth f0 fd) (L : Lx mg) (c_parts : CalX P w K mg base 1 "_law_parts" spParts) (c_worth : CalX P w K mg base (n + 1) "_law_worth" (spVal n)) :
    FnOk P w K mg base CX0 (n + 2) f0 fd ["_law_told", "_law_numbers"] (spVal (n + 1)) := by
  refine F.ok sc_val (fun vs H Q E h => ?_) (fun cdv A outer s H vs Q E hr h => ?_)
  · obtain ⟨a, d, t, m, f, rfl, _⟩ := h
    rfl
  obtain ⟨a, d, t, m, f, rfl, ht, hm, hdp, hk, hw, q⟩ := h
  have nd := sc_val.nd
  have hu := hu_of hr
  refine ⟨_, (pss_cons (ps_if (pt_cmpR op_eq (pe_ix ix_tup (pv 0) pe_int (fun _ _ => rfl)) pe_str (nomark _)) (pss_one (ps_ret (pe_ix ix_tup (pv 0) pe_int (fun _ _ => rfl)))) pss_nil)
      (pss_cons (ps_if (pt_cmpR op_eq (pe_ix ix_tup (pv 0) pe_int (fun _ _ => rfl)) pe_str (nomark _)) (pss_one (ps_ret (pe_dget hu (pv 1) (pe_ix ix_tup (pv 0) pe_int (fun _ _ => rfl)) (fun _ _ => rfl)))) pss_nil)
      (pss_cons (ps_setLc (i := 2) (own := [("_law_part", 3)]) (g := gName 3) (tt := tYes) rfl nd rfl rfl (sw_true rfl rfl rfl (by decide +kernel)) (pi_list (C8.pe_c c_parts hr (by omega) rfl (pa_cons (pv 0) pa_nil))) (blkOk_by (N := ["_law_told", "_law_numbers", "_law_found", "_law_part", "_law_one"]) (sc := defScope st__law_worth) (by decide +kernel)) (fun _ _ _ _ _ => (pg_name (i := 3) nd rfl (Or.inl rfl))) (fun _ _ _ _ _ => pts_nil) (fun _ _ _ _ _ => (C8.pe_c c_worth hr (by omega) rfl (pa_cons (pv 3) (pa_cons (pv 1) pa_nil)))))
      (pss_cons (ps_if (pt_cmpR op_eq (pe_ix ix_tup (pv 0) pe_int (fun _ _ => rfl)) pe_str (nomark _)) (pss_one (ps_ret (pe_op op_add (pe_ix ix_list (pv 2) pe_int (fun _ _ => rfl)) (pe_ix ix_tup (pv 0) pe_int (fun _ _ => rfl))))) pss_nil)
      (pss_cons (ps_if (PW.pt (pw_and (pt_cmpR op_eq (pe_ix ix_tup (pv 0) pe_int (fun _ _ => rfl)) pe_str (nomark _)) (pw_and1 (pt_cmpR op_eq (pe_ix ix_list (pv 2) pe_int (fun _ _ => rfl)) pe_int (nomark _))))) (pss_one (ps_ret pe_int)) pss_nil)
      (pss_one (ps_ret (pe_callB (cr_max rfl) (by rfl) L.max (by decide +kernel) (pa_cons (pe_lc (own := [("_law_one", 4)]) (g := gName 4) (tt := tYes) rfl nd (pi_list (pv 2)) (blkOk_by (N := ["_law_told", "_law_numbers", "_law_found", "_law_part", "_law_one"]) (sc := defScope st__law_worth) (by decide +kernel)) (fun _ _ _ _ _ => (pg_name (i := 4) nd rfl (Or.inl rfl))) (fun _ _ _ _ _ => pts_nil) (fun _ _ _ _ _ => (pe_callTy call_int1 (by rfl) L.int (by decide +kernel) (pa_cons (pv 4) pa_nil)))) pa_nil))))))))), ?_⟩
  cases ht with
  | @num a k h =>
    refine ⟨_, rfl, a, _, _, _, rfl, rfl, SqT.of h, rfl, rfl, _, rfl, ?_⟩
    rw [eq_self]
    exact iteT ⟨_, rfl, a, _, _, _, rfl, rfl, SqT.of h, rfl, by have e := q H (fun _ _ e => e); rw [T.val] at e; exact e⟩
  | @nam a s0 h =>
    refine ⟨_, rfl, a, _, _, _, rfl, rfl, SqT.of h, rfl, rfl, _, rfl, ?_⟩
    rw [is_name_no.2 _ (by decide +kernel)]
    refine iteF ⟨_, rfl, a, _, _, _, rfl, rfl, SqT.of h, rfl, rfl, _, rfl, ?_⟩
    rw [eq_self]
    obtain ⟨kvs, hd, hv⟩ := hw
    have hv := hv s0 (by rw [T.stp]; exact List.mem_singleton.mpr rfl)
    have hg := DGet.k (k := Sum.inr (S s0)) hd
    rw [hv] at hg
    exact iteT ⟨_, rfl, _, rfl, a, _, _, _, rfl, rfl, SqT.of h, rfl, d, _, rfl, hg, by have e := q H (fun _ _ e => e); rw [T.val] at e; exact e⟩
  | @plus a c t k h r =>
    rw [T.ok] at hk
    cases hdp with
    | @plus m _ _ hdp =>
    refine ⟨_, rfl, a, _, _, _, rfl, rfl, SqT.of h, rfl, rfl, _, rfl, ?_⟩
    rw [is_name_no.2 _ (by decide +kernel)]
    refine iteF ⟨_, rfl, a, _, _, _, rfl, rfl, SqT.of h, rfl, rfl, _, rfl, ?_⟩
    rw [is_name_no.1 _ (by decide +kernel)]
    have hl20 : [t].length ≤ 20 := by show 1 ≤ 20; decide
    have kid : ∀ t' ∈ [t], Dp m t' ∧ t'.ok ∧ WAt H d f t' := fun t' h' => by
      rcases List.mem_singleton.mp h' with rfl
      obtain ⟨kvs, w1, w2⟩ := hw
      exact ⟨hdp, hk.1, kvs, w1, fun s hs => w2 s (by rw [T.stp]; exact List.mem_append_left _ hs)⟩
    refine iteF ⟨_, rfl, a, _, rfl, .plus h r, fun H1 p1 cs1 s1 np1 hp1 ka0 => ⟨p1, rfl, ⟨_, SqL.of hp1⟩, fun D nD => lc_list (K := K) (a := p1) (xs := cs1.map V.ref) (fun i H' => Same H1 H' ∧ H' D = some (.lst (([t].take i).map fun t => V.int (t.val f)))) ⟨same_new nD _, upd_same⟩ (fun i H' _ p => SqL.of (p.1 _ _ hp1)) ?kid ?fin⟩⟩
    case kid =>
      have ka : KidsAt H1 [t] cs1 := ka0.same s1
      rintro i x H3 hi ⟨s3, hD⟩
      obtain ⟨t, c, ht, htm, rfl, hta⟩ := ka.at hi
      have ilt := (List.getElem?_eq_some_iff.mp ht).1
      obtain ⟨g1, g2, g3⟩ := kid t htm
      refine ⟨rfl, ⟨_, rfl, _, rfl, c, d, t, m, f, rfl, hta.same s3, by omega, g1, g2, (g3.same s1).same s3, fun H4 s4 => ⟨_, s4 _ _ hD, big (by rw [List.length_map, List.length_take]; omega), same_mut (s3.trans s4) nD, ?_⟩⟩⟩
      rw [upd_same, List.take_succ, ht, List.map_append]
      rfl
    case fin =>
      rintro H3 ⟨s3, hD⟩
      have ka : KidsAt H1 [t] cs1 := ka0.same s1
      rw [List.length_map, ← ka.1, List.take_length] at hD
      refine ⟨_, rfl, a, _, _, _, rfl, rfl, SqT.of (s3 _ _ (s1 _ _ h)), rfl, rfl, _, rfl, ?_⟩
      rw [eq_self]
      refine iteT ⟨_, rfl, D, _, _, _, rfl, rfl, SqL.of hD, rfl, _, rfl, a, _, _, _, rfl, rfl, SqT.of (s3 _ _ (s1 _ _ h)), rfl, _, _, rfl, rfl, ?_⟩
      have e := q H3 (s1.trans s3)
      rw [T.val] at e
      exact e
  | @node a b ts cs h l r =>
    rw [T.ok] at hk
    cases hdp with
    | @node m _ _ hl20 hdp =>
    refine ⟨_, rfl, a, _, _, _, rfl, rfl, SqT.of h, at_hd _ _, rfl, _, rfl, ?_⟩
    rw [is_name_no.2 _ (by cases b <;> decide +kernel)]
    refine iteF ⟨_, rfl, a, _, _, _, rfl, rfl, SqT.of h, at_hd _ _, rfl, _, rfl, ?_⟩
    rw [is_name_no.1 _ (by cases b <;> decide +kernel)]
    have kid : ∀ t' ∈ ts, Dp m t' ∧ t'.ok ∧ WAt H d f t' := fun t' h' => ⟨hdp t' h', hk.2 t' h', hw.kid h'⟩
    refine iteF ⟨_, rfl, a, _, rfl, .node h l r, fun H1 p1 cs1 s1 np1 hp1 ka0 => ⟨p1, rfl, ⟨_, SqL.of hp1⟩, fun D nD => lc_list (K := K) (a := p1) (xs := cs1.map V.ref) (fun i H' => Same H1 H' ∧ H' D = some (.lst ((ts.take i).map fun t => V.int (t.val f)))) ⟨same_new nD _, upd_same⟩ (fun i H' _ p => SqL.of (p.1 _ _ hp1)) ?kid ?fin⟩⟩
    case kid =>
      have ka : KidsAt H1 ts cs1 := ka0.same s1
      rintro i x H3 hi ⟨s3, hD⟩
      obtain ⟨t, c, ht, htm, rfl, hta⟩ := ka.at hi
      have ilt := (List.getElem?_eq_some_iff.mp ht).1
      obtain ⟨g1, g2, g3⟩ := kid t htm
      refine ⟨rfl, ⟨_, rfl, _, rfl, c, d, t, m, f, rfl, hta.same s3, by omega, g1, g2, (g3.same s1).same s3, fun H4 s4 => ⟨_, s4 _ _ hD, big (by rw [List.length_map, List.length_take]; omega), same_mut (s3.trans s4) nD, ?_⟩⟩⟩
      rw [upd_same, List.take_succ, ht, List.map_append]
      rfl
    case fin =>
      rintro H3 ⟨s3, hD⟩
      have ka : KidsAt H1 ts cs1 := ka0.same s1
      rw [List.length_map, ← ka.1, List.take_length] at hD
      have h3 := s3 _ _ (s1 _ _ h)
      refine ⟨_, rfl, a, _, _, _, rfl, rfl, SqT.of h3, at_hd _ _, rfl, _, rfl, ?_⟩
      rw [is_plus.1 _ (by cases b <;> decide +kernel)]
      refine iteF ⟨_, rfl, a, _, _, _, rfl, rfl, SqT.of h3, at_hd _ _, rfl, _, rfl, ?_⟩
      have e : ∀ H', Same H H' → Q (.int (callV b (ts.map fun t => t.val f))) H' := fun H' s' => by
        have e := q H' s'
        rw [T.val] at e
        exact e
      have hD2 : H3 D = some (.lst ((ts.map fun t => t.val f).map V.int)) := by rw [hD, List.map_map]; rfl
      have hlen : (ts.map fun t => t.val f).length = ts.length := List.length_map _
      have hk1 := hk.1
      rw [← hlen] at hk1
      generalize (ts.map fun t => t.val f) = ns at hD2 e hlen hk1
      cases b with
      | true =>
        rw [show decide (V.str (cName true) = V.str ("imax" : Str)) = false by decide +kernel]
        have h2 : (2 : Int) ≤ (ns.length : Int) := of_decide_eq_true hk1
        refine iteF (iteF ⟨_, rfl, D, rfl, ⟨_, SqL.of hD2⟩, fun D2 nD2 => lc_list (K := K) (a := D) (xs := ns.map V.int) (fun i H' => Same H3 H' ∧ H' D2 = some (.lst ((ns.take i).map V.int))) ⟨same_new nD2 _, upd_same⟩ (fun i H' _ p => SqL.of (p.1 _ _ hD2)) ?kid2 ?fin2⟩)
        case kid2 =>
          rintro i x H5 hi ⟨s5, hD5⟩
          obtain ⟨x, hx, rfl⟩ : ∃ y, ns[i]? = some y ∧ x = .int y := by
            rw [List.getElem?_map] at hi
            cases e : ns[i]? with
            | none => rw [e] at hi; cases hi
            | some y => rw [e] at hi; exact ⟨y, rfl, (Option.some.inj hi).symm⟩
          refine ⟨rfl, _, rfl, .inl ⟨_, rfl, _, hD5, big (by rw [List.length_map, List.length_take]; omega), same_mut s5 nD2, ?_⟩⟩
          rw [upd_same, List.take_succ, hx, List.map_append]
          rfl
        case fin2 =>
          rintro H5 ⟨s5, hD5⟩
          rw [List.length_map, List.take_length] at hD5
          refine ⟨D2, ns, rfl, SqL.of hD5, by omega, fun m h1 h2 => ?_⟩
          have e2 := e H5 ((s1.trans s3).trans s5)
          rw [callV_true, maxL_of h1 h2] at e2
          exact e2
      | false =>
        rw [show decide (V.str (cName false) = V.str ("imax" : Str)) = true by decide +kernel]
        have h2 : (ns.length : Int) = 2 := of_decide_eq_true hk1
        obtain ⟨x, y, rfl⟩ : ∃ x y, ns = [x, y] := by
          match ns, h2 with
          | [x, y], _ => exact ⟨x, y, rfl⟩
        refine iteT ⟨_, rfl, D, _, _, _, rfl, rfl, SqL.of hD2, rfl, rfl, _, rfl, ?_⟩
        rw [int_eq]
        by_cases c : y = 0
        · rw [decide_eq_true c]
          refine iteT ?_
          have e2 := e H3 (s1.trans s3)
          rw [show [x, y] = [x] ++ [y] from rfl, callV_false, if_pos c] at e2
          exact e2
        · rw [decide_eq_false c]
          refine iteF ⟨_, rfl, D, rfl, ⟨_, SqL.of hD2⟩, fun D2 nD2 => lc_list (K := K) (a := D) (xs := [x, y].map V.int) (fun i H' => Same H3 H' ∧ H' D2 = some (.lst (([x, y].take i).map V.int))) ⟨same_new nD2 _, upd_same⟩ (fun i H' _ p => SqL.of (p.1 _ _ hD2)) ?kid3 ?fin3⟩
          case kid3 =>
            rintro i v0 H5 hi ⟨s5, hD5⟩
            obtain ⟨z, hz, rfl⟩ : ∃ y0, [x, y][i]? = some y0 ∧ v0 = .int y0 := by
              rw [List.getElem?_map] at hi
              cases e : [x, y][i]? with
              | none => rw [e] at hi; cases hi
              | some y0 => rw [e] at hi; exact ⟨y0, rfl, (Option.some.inj hi).symm⟩
            refine ⟨rfl, _, rfl, .inl ⟨_, rfl, _, hD5, big (by rw [List.length_map, List.length_take]; omega), same_mut s5 nD2, ?_⟩⟩
            rw [upd_same, List.take_succ, hz, List.map_append]
            rfl
          case fin3 =>
            rintro H5 ⟨s5, hD5⟩
            rw [List.length_map, List.take_length] at hD5
            refine ⟨D2, [x, y], rfl, SqL.of hD5, by show 0 < 2; decide, fun m h1 h2 => ?_⟩
            have e2 := e H5 ((s1.trans s3).trans s5)
            rw [show [x, y] = [x] ++ [y] from rfl, callV_false, if_neg c] at e2
            rw [show [x] ++ [y] = [x, y] from rfl, maxL_of h1 h2] at e2
            exact e2
end
end Pg
/-! Nk -/
set_option Elab.async false
set_option linter.all false
set_option maxRecDepth 100000
set_option maxHeartbeats 4000000
namespace Pg
open PySem L2 Mr
theorem valV_names (F : Cs → V) (s0 : Cs) : ∀ l : List Cs, valV (l.map fun s => ((Sum.inr (S s), F s) : Key × V)) (Sum.inr (S s0)) = if s0 ∈ l then some (F s0) else none
  | [] => by simp [valV]
  | a :: l => by
    rw [List.map_cons]
    by_cases e : a = s0
    · rw [valV_pos (by rw [e]), if_pos (by rw [e]; exact List.mem_cons_self), e]
    · rw [valV_neg (fun z => e (S_inj.mp (Sum.inr.inj z))), valV_names F s0 l]
      by_cases m : s0 ∈ l
      · rw [if_pos m, if_pos (List.mem_cons_of_mem _ m)]
      · rw [if_neg m, if_neg]
        intro z
        rcases List.mem_cons.mp z with z | z
        · exact e z.symm
        · exact m z
theorem names_cong {F G : Cs → V} {l : List Cs} (h : ∀ s ∈ l, F s = G s) : (l.map fun s => ((Sum.inr (S s), F s) : Key × V)) = l.map fun s => ((Sum.inr (S s), G s) : Key × V) :=
  List.map_congr_left fun s hs => by rw [h s hs]
/-- a new name at the end -/
theorem put_name {F : Cs → V} {l : List Cs} {s0 : Cs} {v : V} (h : s0 ∉ l) : putK (l.map fun s => ((Sum.inr (S s), F s) : Key × V)) (Sum.inr (S s0)) v = (l ++ [s0]).map fun s => ((Sum.inr (S s), if s = s0 then v else F s) : Key × V) := by
  rw [putK_new _ (by rw [valV_names, if_neg h]), List.map_append]
  congr 1
  · exact names_cong fun s hs => by rw [if_neg (fun z => h (by rw [← z]; exact hs))]
  · simp
theorem not_take {l : List Cs} (nd : l.Nodup) {i : Nat} {y : Cs} (hy : l[i]? = some y) : y ∉ l.take i := fun hm => by
  obtain ⟨j, hj, e⟩ := List.getElem_of_mem hm
  rw [List.getElem_take] at e
  rw [List.length_take] at hj
  have hi := (List.getElem?_eq_some_iff.mp hy)
  have := (List.getElem_inj (h₀ := by omega) (h₁ := hi.1) nd).mp (e.trans hi.2.symm)
  omega
theorem at_name {ns : List Cs} {i : Nat} {x : V} (hi : (ns.map tv)[i]? = some x) : ∃ t, ns[i]? = some t ∧ x = tv t := by
  rw [List.getElem?_map] at hi
  cases e : ns[i]? with
  | none => rw [e] at hi; cases hi
  | some t => rw [e] at hi; exact ⟨t, rfl, (Option.some.inj hi).symm⟩
def numK (ns : List Cs) (g : Cs → Int) : List (Key × V) := ns.map fun s => ((Sum.inr (S s), V.int (g s)) : Key × V)
/-- a list that the box is not -/
def SqB (K : PySem.W.Frag) (H : Hp) (b a : Addr) (xs : List V) : Prop := (a ≠ b ∧ SqL K H a xs) ∨ ∀ H', SqL K H' a xs
theorem SqB.mk {K : PySem.W.Frag} {H H' : Hp} {b a : Addr} {xs : List V} (h : SqL K H a xs) (s : Same H H') (n : H b = none) : SqB K H' b a xs := by
  rcases h with (e | ⟨o, e⟩) | c
  · exact .inl ⟨(fun z => by rw [z, n] at e; cases e), .inl (.inl (s _ _ e))⟩
  · exact .inl ⟨(fun z => by rw [z, n] at e; cases e), .inl (.inr ⟨o, s _ _ e⟩)⟩
  · exact .inr fun _ => .inr c
theorem SqB.bx {K : PySem.W.Frag} {H H' : Hp} {b a : Addr} {xs : List V} (h : SqB K H b a xs) (x : Bx H H' b) : SqB K H' b a xs := by
  rcases h with ⟨n, h⟩ | h
  · exact .inl ⟨n, seqL_upd x n h⟩
  · exact .inr h
theorem SqB.get {K : PySem.W.Frag} {H : Hp} {b a : Addr} {xs : List V} (h : SqB K H b a xs) : SqL K H a xs := h.elim (·.2) (· H)
/-- pairs (key, value) in tuples -/
def PairsAt (H : Hp) (ps : List Addr) (kvs : List (Key × V)) : Prop := ps.length = kvs.length ∧ ∀ (i : Nat) p kv, ps[i]? = some p → kvs[i]? = some kv → H p = some (.tup [kV kv.1, kv.2])
theorem PairsAt.same {H H' : Hp} {ps : List Addr} {kvs : List (Key × V)} (h : PairsAt H ps kvs) (s : Same H H') : PairsAt H' ps kvs := ⟨h.1, fun i p kv e1 e2 => s _ _ (h.2 i p kv e1 e2)⟩
theorem PairsAt.mut {H : Hp} {ps : List Addr} {kvs : List (Key × V)} {D : Addr} {l : List V} {o : HO} (h : PairsAt H ps kvs) (e : H D = some (.lst l)) : PairsAt (upd H D o) ps kvs :=
  ⟨h.1, fun i p kv e1 e2 => by have g := h.2 i p kv e1 e2; rw [upd_ne (fun z => by rw [z, e] at g; cases g)]; exact g⟩
theorem PairsAt.push {H : Hp} {ps : List Addr} {kvs : List (Key × V)} {p : Addr} {kv : Key × V} (h : PairsAt H ps kvs) (g : H p = some (.tup [kV kv.1, kv.2])) : PairsAt H (ps ++ [p]) (kvs ++ [kv]) := by
  refine ⟨by rw [List.length_append, List.length_append, h.1]; rfl, fun i p' kv' e1 e2 => ?_⟩
  by_cases lt : i < ps.length
  · rw [List.getElem?_append_left lt] at e1
    rw [List.getElem?_append_left (h.1 ▸ lt)] at e2
    exact h.2 i p' kv' e1 e2
  · have hl := h.1
    rw [List.getElem?_append_right (by omega)] at e1 e2
    rw [← hl] at e2
    match hh : i - ps.length with
    | 0 => rw [hh] at e1 e2; cases e1; cases e2; exact g
    | j + 1 => rw [hh] at e1; cases e1
theorem paired_of {α β : Type} {F : α → β → Prop} : ∀ {ps : List α} {qs : List β}, ps.length = qs.length → (∀ (i : Nat) p q, ps[i]? = some p → qs[i]? = some q → F p q) → Paired F ps qs
  | [], [], _, _ => .nil
  | [], _ :: _, h, _ => by cases h
  | _ :: _, [], h, _ => by cases h
  | a :: ps, b :: qs, h, f => .cons (f 0 a b rfl rfl) (paired_of (Nat.succ.inj h) fun i p q e1 e2 => f (i + 1) p q e1 e2)
theorem PairsAt.paired {K : PySem.W.Frag} {H : Hp} {ps : List Addr} {kvs : List (Key × V)} (h : PairsAt H ps kvs) : Paired (fun p kv => SqT K H p [kV kv.1, kv.2]) ps kvs := paired_of h.1 fun i p kv e1 e2 => SqT.of (h.2 i p kv e1 e2)
theorem fold_put (F : Cs → V) : ∀ (l pre : List Cs), (pre ++ l).Nodup → (l.map fun s => ((Sum.inr (S s), F s) : Key × V)).foldl (fun acc kv => putK acc kv.1 kv.2) (pre.map fun s => ((Sum.inr (S s), F s) : Key × V)) = (pre ++ l).map fun s => ((Sum.inr (S s), F s) : Key × V)
  | [], pre, _ => by rw [List.append_nil]; rfl
  | a :: l, pre, nd => by
    have na : a ∉ pre := fun h => by
      have := List.nodup_append.mp nd
      exact this.2.2 a h a List.mem_cons_self rfl
    rw [List.map_cons, List.foldl_cons]
    show (l.map _).foldl _ (putK (pre.map _) (Sum.inr (S a)) (F a)) = _
    rw [put_name na, names_cong (G := F) (fun s hs => by by_cases e : s = a <;> simp [e]), fold_put F l (pre ++ [a]) (by rw [List.append_assoc]; exact nd), List.append_assoc]
    rfl
theorem merge_names {F : Cs → V} {l : List Cs} (nd : l.Nodup) : mergeK [] (l.map fun s => ((Sum.inr (S s), F s) : Key × V)) = l.map fun s => ((Sum.inr (S s), F s) : Key × V) := by
  have := fold_put F l [] (by rw [List.nil_append]; exact nd)
  rw [List.nil_append] at this
  exact this
theorem paired_imp {α β : Type} {F G : α → β → Prop} (f : ∀ a b, F a b → G a b) : ∀ {ps : List α} {qs : List β}, Paired F ps qs → Paired G ps qs
  | _, _, .nil => .nil
  | _, _, .cons h t => .cons (f _ _ h) (paired_imp f t)
def txK (l : List Cs) (F : Cs → V) : List (Key × V) := l.map fun s => ((Sum.inr (S s), F s) : Key × V)
theorem txK_len {l : List Cs} {F : Cs → V} : (txK l F).length = l.length := List.length_map _
theorem txK_take {l : List Cs} {F : Cs → V} {n : Nat} {s : Cs} (h : l[n]? = some s) : (txK l F).take (n + 1) = (txK l F).take n ++ [(Sum.inr (S s), F s)] := by
  rw [List.take_succ]
  unfold txK
  rw [List.getElem?_map, h]
  rfl
theorem txK_merge {l : List Cs} {F : Cs → V} (nd : l.Nodup) : mergeK [] (txK l F) = txK l F := merge_names nd
theorem txK_val (l : List Cs) (F : Cs → V) (s : Cs) : valV (txK l F) (Sum.inr (S s)) = if s ∈ l then some (F s) else none := valV_names F s l
end Pg
/-! Gt -/
set_option Elab.async false
set_option linter.all false
set_option maxRecDepth 100000
set_option maxHeartbeats 8000000
namespace Pg
open PySem L2 Mr
theorem Same.rd {H H' : Hp} {a : Addr} {u : HO} (e : Same H H') (h : Rd H a u) : Rd H' a u := by
  rcases h with h | ⟨o, h⟩
  · exact .inl (e _ _ h)
  · exact .inr ⟨o, e _ _ h⟩
def LotsAt (H : Hp) (zs : List Addr) (Zs : List (List Cs)) : Prop := Paired (fun z Z => H z = some (.tup (Z.map tv))) zs Zs
theorem LotsAt.mono {H H' : Hp} : ∀ {zs : List Addr} {Zs : List (List Cs)}, LotsAt H zs Zs → (∀ a xs, H a = some (.tup xs) → H' a = some (.tup xs)) → LotsAt H' zs Zs
  | _, _, .nil, _ => .nil
  | _, _, .cons h r, k => .cons (k _ _ h) (LotsAt.mono r k)
theorem LotsAt.same {H H' : Hp} {zs : List Addr} {Zs : List (List Cs)} (h : LotsAt H zs Zs) (s : Same H H') : LotsAt H' zs Zs := h.mono fun a _ e => s a _ e
theorem LotsAt.mut {H : Hp} {zs : List Addr} {Zs : List (List Cs)} {D : Addr} {l : List V} {o : HO} (h : LotsAt H zs Zs) (e : H D = some (.lst l)) : LotsAt (upd H D o) zs Zs := h.mono fun a xs g => by rw [upd_ne (fun z => by rw [z, e] at g; cases g)]; exact g
theorem LotsAt.push {H : Hp} {t : Addr} {Z : List Cs} (h : H t = some (.tup (Z.map tv))) : ∀ {zs : List Addr} {Zs : List (List Cs)}, LotsAt H zs Zs → LotsAt H (zs ++ [t]) (Zs ++ [Z])
  | _, _, .nil => .cons h .nil
  | _, _, .cons g r => .cons g (LotsAt.push h r)
theorem LotsAt.app {H : Hp} : ∀ {zs ys : List Addr} {Zs Ys : List (List Cs)}, LotsAt H zs Zs → LotsAt H ys Ys → LotsAt H (zs ++ ys) (Zs ++ Ys)
  | _, _, _, _, .nil, h => h
  | _, _, _, _, .cons g r, h => .cons g (LotsAt.app r h)
theorem LotsAt.at {H : Hp} : ∀ {zs : List Addr} {Zs : List (List Cs)} {i : Nat} {x : V}, LotsAt H zs Zs → (zs.map V.ref)[i]? = some x → ∃ t Z, x = .ref t ∧ Zs[i]? = some Z ∧ H t = some (.tup (Z.map tv))
  | _, _, _, _, .nil, h => by cases h
  | a :: ts, s :: R, 0, x, .cons h r, e => by cases e; exact ⟨a, s, rfl, rfl, h⟩
  | a :: ts, s :: R, i + 1, x, .cons h r, e => LotsAt.at (zs := ts) (Zs := R) (i := i) r e
theorem LotsAt.len {H : Hp} {zs : List Addr} {Zs : List (List Cs)} (h : LotsAt H zs Zs) : zs.length = Zs.length := Paired.length h
section
variable {P : Program} {w : World} {K : PySem.W.Frag} {mg : Str → Option Value} {base : Heap} {pS pC : Addr}
/-! ### _law_greatest -/
def spGreatest (K : PySem.W.Frag) : Sp := fun vs H Q _ => ∃ (a d : Addr) (ts : List Addr) (R : List Row) (kvs : List (Key × V)) (f : Cs → Int), vs = [.ref a, .ref d] ∧ SqT K H a (ts.map V.ref) ∧ RowsAt H ts R ∧ Rd H d (.dK kvs) ∧ (∀ p ∈ R, p.1 ≠ [] → valV kvs (Sum.inr (S p.1)) = some (.int (f p.1))) ∧ R.length ≤ 200 ∧
  ∀ H' r, Same H H' → IsMx f R r → Q (.int r) H'
theorem sc_greatest : FnScope ["_law_some", "_law_numbers", "_law_name", "_law_number"] ["_law_some", "_law_numbers"] (defScope st__law_greatest) := ⟨rfl, rfl, rfl, by decide +kernel, rfl, by decide +kernel, by decide +kernel⟩
theorem ok_greatest {f0 : Addr} {fd : FuncData} (F : Fun K "_law_greatest" "_law_greatest" st__law_greatest f0 fd) (L : Lx mg) : FnOk P w K mg base CX0 1 f0 fd ["_law_some", "_law_numbers"] (spGreatest K) := by
  refine F.ok sc_greatest (fun vs H Q E h => ?_) (fun cdv A0 outer s H vs Q E hr h => ?_)
  · obtain ⟨a, d, ts, R, kvs, f, rfl, _⟩ := h
    rfl
  obtain ⟨a, d, ts, R, kvs, f, rfl, hS, hR, hd, hv, hl, q⟩ := h
  have nd := sc_greatest.nd
  have hu := hu_of hr
  refine ⟨_, (pss_one (ps_ret (pe_callB (cr_max rfl) (by rfl) L.max (by decide +kernel) (pa_cons (pe_op op_cat (pe_lst (pa_cons (pe_op op_sub pe_int pe_int) pa_nil)) (pe_lc (own := [("_law_name", 2), ("_law_number", 3)]) (g := gTup K 2 (gCons (gName 2) (gCons (gName 3) gNil))) (tt := tYes) rfl nd (pi_tup (pv 0)) (blkOk_by (N := ["_law_some", "_law_numbers", "_law_name", "_law_number"]) (sc := defScope st__law_greatest) (by decide +kernel)) (fun _ _ _ _ _ => (pg_tup (n := 2) rfl (pgs_cons (pg_name (i := 2) nd rfl (Or.inl rfl) (hf := .inr rfl)) (pgs_cons (pg_name (i := 3) nd rfl (Or.inl rfl) (hf := .inr rfl)) pgs_nil)))) (fun _ _ _ _ _ => pts_nil) (fun _ _ _ _ _ => (pe_op op_add (pe_callTy call_int1 (by rfl) L.int (by decide +kernel) (pa_cons (pv 3) pa_nil)) (pe_ifExp (pt_cmpR op_ne (pv 2) pe_str (nomark _)) (pe_dget hu (pv 1) (pv 2) (fun _ _ => rfl)) pe_int))))) pa_nil)))), ?_⟩
  refine ⟨_, _, rfl, rfl, (by show 1 ≤ sizeLine; decide), fun l nl => ⟨_, rfl, a, rfl, ⟨_, Same.tup (same_new nl _) hS⟩, fun D nD => ?_⟩⟩
  have s1 := same_new nl (.lst [.int (0 - 1)])
  have hl1 : upd H l (.lst [.int (0 - 1)]) l = some (.lst [.int (0 - 1)]) := upd_same
  generalize upd H l (.lst [.int (0 - 1)]) = H1 at s1 hl1 nD
  refine lc_tup (K := K) (a := a) (xs := ts.map V.ref) (fun n H' => Same H1 H' ∧ H' D = some (.lst (((R.take n).map fun p => p.2 + wf f p.1).map V.int)))
    ⟨same_new nD _, upd_same⟩ (fun n H' _ p => Same.tup p.1 (Same.tup s1 hS)) ?turn ?done
  case turn =>
    rintro n x H' hn ⟨s2, hD⟩
    obtain ⟨t, p, rfl, hp, ht, htp⟩ := (hR.same (s1.trans s2)).at hn
    have ln : n < R.length := (List.getElem?_eq_some_iff.mp hp).1
    have fin : ∀ z : Int, z = p.2 + wf f p.1 → ∃ acc, H' D = some (.lst acc) ∧ acc.length < sizeLine ∧ Same H1 (upd H' D (.lst (acc ++ [V.int z]))) ∧ upd H' D (.lst (acc ++ [V.int z])) D = some (.lst (((R.take (n + 1)).map fun p => p.2 + wf f p.1).map V.int)) := fun z e => by
      refine ⟨_, hD, big (by rw [List.length_map, List.length_map, List.length_take]; omega), same_mut s2 nD, ?_⟩
      rw [upd_same, List.take_succ, hp, List.map_append, List.map_append, e]
      rfl
    refine ⟨t, _, rfl, SqT.of htp, rfl, _, _, rfl, _, _, rfl, rfl, rfl, _, rfl, .inl ⟨_, rfl, _, rfl, rfl, _, rfl, ?_⟩⟩
    rw [show (decide (V.str (S p.1) = V.str ("" : Str))) = decide (p.1 = []) from tv_empty p.1]
    by_cases e : p.1 = []
    · rw [decide_eq_true e]
      exact iteF ⟨_, _, rfl, rfl, fin _ (by unfold wf; rw [if_pos e])⟩
    · rw [decide_eq_false e]
      have hg : DGet H' d (.str (S p.1)) (some (.int (f p.1))) := .inl ⟨kvs, Sum.inr (S p.1), Same.rd s2 (Same.rd s1 hd), rfl, (hv p (List.mem_of_getElem? hp) e).symm⟩
      exact iteT ⟨_, rfl, _, rfl, d, _, rfl, hg, _, _, rfl, rfl, fin _ (by unfold wf; rw [if_neg e])⟩
  case done =>
    rintro H' ⟨s2, hD⟩
    rw [List.length_map, hR.len, List.take_length] at hD
    refine ⟨l, D, _, _, rfl, rfl, s2 _ _ hl1, hD, ?_, fun p np => ?_⟩
    · rw [List.length_map, List.length_map]; exact Nat.le_of_lt (big (by show 1 + _ ≤ _; omega))
    refine ⟨p, (0 - 1) :: (R.map fun p => p.2 + wf f p.1), rfl, SqL.of (by rw [upd_same]; rfl), Nat.succ_pos _, fun m hm hle => q _ m ((s1.trans s2).trans (same_new np _)) ⟨?_, fun x hx => ?_, ?_⟩⟩
    · exact hle _ List.mem_cons_self
    · exact hle _ (List.mem_cons_of_mem _ (List.mem_map_of_mem hx))
    · rcases List.mem_cons.mp hm with e | hm
      · exact .inl e
      · obtain ⟨x, hx, e⟩ := List.mem_map.mp hm
        exact .inr ⟨x, hx, e.symm⟩
/-! ### _law_lots -/
def spLots (K : PySem.W.Frag) : Sp := fun vs H Q _ => ∃ (a : Addr) (nm : List Cs), vs = [.ref a] ∧ SqL K H a (nm.map tv) ∧ nm.length ≤ 6 ∧
  ∀ H' p zs Zs, Same H H' → H p = none → H' p = some (.lst (zs.map V.ref)) → LotsAt H' zs Zs → (∀ Z ∈ Zs, (∀ s ∈ Z, s ∈ nm) ∧ Z.length ≤ 6) → Zs.length ≤ 64 → Q (.ref p) H'
theorem sc_lots : FnScope ["_law_names", "_law_found", "_law_name", "_law_one", "_law_lot"] ["_law_names"] (defScope st__law_lots) := ⟨rfl, rfl, rfl, by decide +kernel, rfl, by decide +kernel, by decide +kernel⟩
theorem ok_lots {f0 : Addr} {fd : FuncData} (F : Fun K "_law_lots" "_law_lots" st__law_lots f0 fd) (L : Lx mg) (zs : mg "sorted" = none) : FnOk P w K mg base CX0 1 f0 fd ["_law_names"] (spLots K) := by
  refine F.ok sc_lots (fun vs H Q E h => ?_) (fun cdv A0 outer s H vs Q E hr h => ?_)
  · obtain ⟨a, nm, rfl, _⟩ := h
    rfl
  obtain ⟨a, nm, rfl, hS, h6, q⟩ := h
  have nd := sc_lots.nd
  refine ⟨_, (pss_cons (ps_set (i := 1) nd rfl (.inl rfl) (pe_lst (pa_cons (pe_tup pa_nil) pa_nil)))
      (pss_cons (ps_for PassesOwn.never rfl (pi_list (pe_callB cr_sortedS (by rfl) zs (by decide +kernel) (pa_cons (pe_lc (own := [("_law_one", 3)]) (g := gName 3) (tt := tYes) rfl nd (pi_list (pv 0)) (blkOk_by (N := ["_law_names", "_law_found", "_law_name", "_law_one", "_law_lot"]) (sc := defScope st__law_lots) (by decide +kernel)) (fun _ _ _ _ _ => (pg_name (i := 3) nd rfl (Or.inl rfl))) (fun _ _ _ _ _ => pts_nil) (fun _ _ _ _ _ => (pe_callTy call_str_any (by rfl) L.str (by decide +kernel) (pa_cons (pv 3) pa_nil)))) pa_nil))) (pg_name (i := 2) nd rfl (Or.inr rfl)) (pss_one (ps_set (i := 1) nd rfl (.inl rfl) (pe_op op_cat (pv 1) (pe_lc (own := [("_law_lot", 4)]) (g := gName 4) (tt := tYes) rfl nd (pi_list (pv 1)) (blkOk_by (N := ["_law_names", "_law_found", "_law_name", "_law_one", "_law_lot"]) (sc := defScope st__law_lots) (by decide +kernel)) (fun _ _ _ _ _ => (pg_name (i := 4) nd rfl (Or.inl rfl))) (fun _ _ _ _ _ => pts_nil) (fun _ _ _ _ _ => (pe_op (show OpR _ _ (rCatA K) from op_catA) (pv 4) (pe_tup (pa_cons (pv 2) pa_nil)))))))))
      (pss_one (ps_ret (pv 1))))), ?_⟩
  refine ⟨Nat.zero_le _, fun p0 n0 => ⟨(by show 1 ≤ sizeLine; decide), fun p1 n1 => ?_⟩⟩
  have s1 := (same_new n0 (.tup [])).trans (same_new n1 (.lst [.ref p0]))
  have h1 : upd (upd H p0 (.tup [])) p1 (.lst [.ref p0]) p1 = some (.lst ([p0].map V.ref)) := upd_same
  have l1 : LotsAt (upd (upd H p0 (.tup [])) p1 (.lst [.ref p0])) [p0] [[]] := .cons (same_new n1 _ _ _ upd_same) .nil
  have f1 : H p1 = none := (upd_none n1).2
  generalize upd (upd H p0 (.tup [])) p1 (.lst [.ref p0]) = H1 at s1 h1 l1
  refine ⟨_, rfl, a, rfl, ⟨_, Same.seq s1 hS⟩, fun D nD => lc_list (K := K) (a := a) (xs := nm.map tv) (fun n H' => Same H1 H' ∧ H' D = some (.lst ((nm.take n).map tv)))
    ⟨same_new nD _, upd_same⟩ (fun n H' _ p => Same.seq p.1 (Same.seq s1 hS)) ?c1 ?c2⟩
  case c1 =>
    rintro n x H' hn ⟨s2, hD⟩
    obtain ⟨y, hy, rfl⟩ := at_name hn
    have ln : n < nm.length := (List.getElem?_eq_some_iff.mp hy).1
    refine ⟨rfl, _, rfl, .inr ⟨_, rfl, _, hD, big (by rw [List.length_map, List.length_take]; omega), same_mut s2 nD, ?_⟩⟩
    rw [upd_same, List.take_succ, hy, List.map_append]
    rfl
  case c2 =>
    rintro H2 ⟨s2, hD⟩
    rw [List.length_map, List.take_length] at hD
    have eD : H2 D = some (.lst ((nm.map S).map V.str)) := by rw [hD, List.map_map]; rfl
    refine ⟨D, nm.map S, rfl, SqL.of eD, by rw [List.length_map]; omega, fun ss' p2 pm so n2 => ?_⟩
    obtain ⟨ms, rfl, pn⟩ := perm_map_inv pm
    have s3 := s2.trans (same_new n2 (.lst ((ms.map S).map V.str)))
    have h2 : upd H2 p2 (.lst ((ms.map S).map V.str)) p2 = some (.lst (ms.map tv)) := by rw [upd_same, List.map_map]; rfl
    generalize upd H2 p2 (.lst ((ms.map S).map V.str)) = H3 at s3 h2
    have lm : ms.length = nm.length := pn.length_eq
    refine ⟨p2, rfl, ⟨_, SqL.of h2⟩, for_list (K := K) (a := p2) (xs := ms.map tv) (fun n σ H' => ∃ (p : Addr) (zs : List Addr) (Zs : List (List Cs)) (u2 u3 u4 : Option V), σ = [some (.ref a), some (.ref p), u2, u3, u4] ∧ Same H3 H' ∧ H p = none ∧ H' p = some (.lst (zs.map V.ref)) ∧ LotsAt H' zs Zs ∧ (∀ Z ∈ Zs, (∀ s ∈ Z, s ∈ nm) ∧ Z.length ≤ n) ∧ Zs.length = 2 ^ n)
      ⟨p1, [p0], [[]], _, _, _, rfl, Same.refl _, f1, s3 _ _ h1, l1.same s3, fun Z m => by rcases List.mem_singleton.mp m with rfl; exact ⟨fun s m => absurd m List.not_mem_nil, Nat.le_refl _⟩, rfl⟩ (fun n σ H' _ ⟨_, _, _, _, _, _, _, s4, _⟩ => SqL.of (s4 _ _ h2)) ?g1 ?g2⟩
    case g2 =>
      rintro σ H' ⟨p, zs, Zs, u2, u3, u4, rfl, s4, fp, hp, lo, ok, ln⟩
      rw [List.length_map, lm] at ok ln
      refine ⟨_, rfl, q H' p zs Zs ((s1.trans s3).trans s4) fp hp lo (fun Z m => ⟨(ok Z m).1, Nat.le_trans (ok Z m).2 h6⟩) ?_⟩
      rw [ln]
      exact Nat.le_trans (Nat.pow_le_pow_right (by decide) h6) (by decide)
    case g1 =>
      rintro n x σ H' hn ⟨p, zs, Zs, u2, u3, u4, rfl, s4, fp, hp, lo, ok, ln⟩
      obtain ⟨y, hy, rfl⟩ := at_name hn
      have nl : n < ms.length := (List.getElem?_eq_some_iff.mp hy).1
      have ynm : y ∈ nm := pn.mem_iff.mp (List.mem_of_getElem? hy)
      have few : Zs.length ≤ 32 := by rw [ln]; exact Nat.le_trans (Nat.pow_le_pow_right (by decide) (show n ≤ 5 by omega)) (by decide)
      refine ⟨_, rfl, _, rfl, p, rfl, ⟨_, SqL.of hp⟩, fun E nE => lc_list (K := K) (a := p) (xs := zs.map V.ref) (fun i H5 => Same H' H5 ∧ ∃ ys, H5 E = some (.lst (ys.map V.ref)) ∧ LotsAt H5 ys ((Zs.take i).map fun Z => Z ++ [y]))
        ⟨same_new nE _, [], upd_same, .nil⟩ (fun i H5 _ p => SqL.of (p.1 _ _ hp)) ?i1 ?i2⟩
      case i1 =>
        rintro i x H5 hi ⟨s5, ys, hE, ly⟩
        obtain ⟨t, Z, rfl, hZ, ht⟩ := (lo.same s5).at hi
        have li : i < Zs.length := (List.getElem?_eq_some_iff.mp hZ).1
        have okZ := ok Z (List.mem_of_getElem? hZ)
        have fin : ∀ (H6 : Hp) (r : Addr), Same H5 H6 → H6 r = some (.tup ((Z ++ [y]).map tv)) → ∃ acc, H6 E = some (.lst acc) ∧ acc.length < sizeLine ∧ Same H' (upd H6 E (.lst (acc ++ [V.ref r]))) ∧ ∃ ys, upd H6 E (.lst (acc ++ [V.ref r])) E = some (.lst (ys.map V.ref)) ∧ LotsAt (upd H6 E (.lst (acc ++ [V.ref r]))) ys ((Zs.take (i + 1)).map fun Z => Z ++ [y]) := fun H6 r s6 hr6 => by
          have ll := ly.len
          rw [List.length_map, List.length_take] at ll
          refine ⟨_, s6 _ _ hE, big (by rw [List.length_map]; omega), same_mut (s5.trans s6) nE, ys ++ [r], by rw [upd_same, List.map_append]; rfl, ?_⟩
          rw [List.take_succ, hZ, List.map_append]
          exact ((ly.same s6).push (Z := Z ++ [y]) hr6).mut (s6 _ _ hE)
        refine ⟨rfl, _, rfl, _, rfl, (by show 1 ≤ sizeLine; decide), fun pt npt => ?_⟩
        have s6 := same_new npt (.tup [tv y])
        refine ⟨t, pt, _, _, rfl, rfl, SqT.of (s6 _ _ ht), SqT.of upd_same, ?_, fun e => ?_, (fun _ e => by cases e), fun _ _ pr npr => ?_⟩
        · rw [List.length_map]; exact Nat.le_of_lt (big (by show _ + 1 ≤ _; omega))
        · have eZ : Z = [] := List.map_eq_nil_iff.mp e
          exact fin _ pt s6 (by rw [upd_same, eZ]; rfl)
        · exact fin _ pr (s6.trans (same_new npr _)) (by rw [upd_same, List.map_append]; rfl)
      case i2 =>
        rintro H5 ⟨s5, ys, hE, ly⟩
        rw [List.length_map, lo.len, List.take_length] at ly
        have ll := ly.len
        rw [List.length_map] at ll
        refine ⟨p, E, _, _, rfl, rfl, s5 _ _ hp, hE, ?_, fun r nr => ?_⟩
        · rw [List.length_map, List.length_map, lo.len, ll]; exact Nat.le_of_lt (big (by omega))
        have s6 := same_new nr (.lst (zs.map V.ref ++ ys.map V.ref))
        have fr : H r = none := by
          cases e : H r with
          | none => rfl
          | some o => rw [((s1.trans s3).trans (s4.trans s5)) _ _ e] at nr; cases nr
        refine ⟨r, zs ++ ys, Zs ++ Zs.map (fun Z => Z ++ [y]), _, _, _, rfl, (s4.trans s5).trans s6, fr, by rw [upd_same, List.map_append], ((lo.same s5).same s6).app (ly.same s6), fun Z m => ?_, by rw [List.length_append, List.length_map, ln, Nat.pow_succ]; omega⟩
        rcases List.mem_append.mp m with m | m
        · exact ⟨(ok Z m).1, Nat.le_succ_of_le (ok Z m).2⟩
        · obtain ⟨Z', mZ, rfl⟩ := List.mem_map.mp m
          refine ⟨fun s ms => ?_, by rw [List.length_append]; exact Nat.succ_le_succ (ok Z' mZ).2⟩
          rcases List.mem_append.mp ms with ms | ms
          · exact (ok Z' mZ).1 s ms
          · rw [List.mem_singleton.mp ms]; exact ynm
end
end Pg
/-! Gr -/
set_option Elab.async false
set_option linter.all false
set_option maxRecDepth 100000
set_option maxHeartbeats 8000000
namespace Pg
open PySem L2 Mr
/-- trials: dicts of numbers for the names -/
def DsF (H : Hp) (nm : List Cs) (ds : List Addr) (fs : List (Cs → Int)) : Prop := Paired (fun c f => H c = some (.dK (numK nm f))) ds fs
theorem DsF.mono {H H' : Hp} {nm : List Cs} : ∀ {ds : List Addr} {fs : List (Cs → Int)}, DsF H nm ds fs → (∀ a xs, H a = some (.dK xs) → H' a = some (.dK xs)) → DsF H' nm ds fs
  | _, _, .nil, _ => .nil
  | _, _, .cons h r, k => .cons (k _ _ h) (DsF.mono r k)
theorem DsF.same {H H' : Hp} {nm : List Cs} {ds : List Addr} {fs : List (Cs → Int)} (h : DsF H nm ds fs) (s : Same H H') : DsF H' nm ds fs := h.mono fun a _ e => s a _ e
theorem DsF.mut {H : Hp} {nm : List Cs} {ds : List Addr} {fs : List (Cs → Int)} {D : Addr} {l : List V} {o : HO} (h : DsF H nm ds fs) (e : H D = some (.lst l)) : DsF (upd H D o) nm ds fs := h.mono fun a xs g => by rw [upd_ne (fun z => by rw [z, e] at g; cases g)]; exact g
theorem DsF.push {H : Hp} {nm : List Cs} {t : Addr} {f : Cs → Int} (h : H t = some (.dK (numK nm f))) : ∀ {ds : List Addr} {fs : List (Cs → Int)}, DsF H nm ds fs → DsF H nm (ds ++ [t]) (fs ++ [f])
  | _, _, .nil => .cons h .nil
  | _, _, .cons g r => .cons g (DsF.push h r)
theorem DsF.at {H : Hp} {nm : List Cs} : ∀ {ds : List Addr} {fs : List (Cs → Int)} {i : Nat} {x : V}, DsF H nm ds fs → (ds.map V.ref)[i]? = some x → ∃ t f, x = .ref t ∧ fs[i]? = some f ∧ H t = some (.dK (numK nm f))
  | _, _, _, _, .nil, h => by cases h
  | a :: ts, s :: R, 0, x, .cons h r, e => by cases e; exact ⟨a, s, rfl, rfl, h⟩
  | a :: ts, s :: R, i + 1, x, .cons h r, e => DsF.at (ds := ts) (fs := R) (i := i) r e
theorem DsF.len {H : Hp} {nm : List Cs} {ds : List Addr} {fs : List (Cs → Int)} (h : DsF H nm ds fs) : ds.length = fs.length := Paired.length h
def freeL (nm Z : List Cs) : List Cs := nm.filter fun s => !decide (s ∈ Z)
theorem free_mem {nm Z : List Cs} {s : Cs} : s ∈ freeL nm Z ↔ s ∈ nm ∧ s ∉ Z := by
  unfold freeL
  rw [List.mem_filter]
  simp
theorem free_take {nm Z : List Cs} {n : Nat} {y : Cs} (h : nm[n]? = some y) : freeL (nm.take (n + 1)) Z = freeL (nm.take n) Z ++ (if y ∈ Z then [] else [y]) := by
  unfold freeL
  rw [List.take_succ, h, List.filter_append]
  show _ ++ List.filter _ [y] = _
  rw [List.filter_cons, List.filter_nil]
  by_cases m : y ∈ Z
  · rw [if_pos m, decide_eq_true m]; rfl
  · rw [if_neg m, decide_eq_false m]; rfl
def oneF (fr : List Cs) : Cs → Int := fun s => if s ∈ fr then 1 else 0
def farF (fr : List Cs) (g : Cs) : Cs → Int := fun s => if s = g then 40 else oneF fr s
/-- numbers of the case -/
def Good (nm Z : List Cs) (f : Cs → Int) : Prop := ∀ s ∈ nm, (s ∈ Z → f s = 0) ∧ (s ∉ Z → 1 ≤ f s ∧ f s ≤ 40)
theorem one_good (nm Z : List Cs) : Good nm Z (oneF (freeL nm Z)) := fun s m => by
  unfold oneF
  exact ⟨fun z => if_neg fun h => (free_mem.mp h).2 z, fun z => by rw [if_pos (free_mem.mpr ⟨m, z⟩)]; omega⟩
theorem far_good {nm Z : List Cs} {g : Cs} (hg : g ∈ freeL nm Z) : Good nm Z (farF (freeL nm Z) g) := fun s m => by
  unfold farF
  by_cases e : s = g
  · rw [if_pos e]
    exact ⟨fun z => absurd (e ▸ z) (free_mem.mp hg).2, fun _ => by omega⟩
  · rw [if_neg e]
    exact one_good nm Z s m
theorem tv_eq (a b : Cs) : decide (tv a = tv b) = decide (a = b) := decide_eq_decide.mpr ⟨fun h => by injection h with h; exact S_inj.mp h, fun h => by rw [h]⟩
theorem b2i_mem (s : Cs) (fr : List Cs) : (if decide (s ∈ fr) = true then (1 : Int) else 0) = oneF fr s := by
  unfold oneF
  by_cases m : s ∈ fr
  · rw [decide_eq_true m, if_pos m]; rfl
  · rw [decide_eq_false m, if_neg m]; rfl
theorem numK_cong {nm : List Cs} {f g : Cs → Int} (h : ∀ s ∈ nm, f s = g s) : numK nm f = numK nm g := List.map_congr_left fun s m => by rw [h s m]
section
variable {P : Program} {w : World} {K : PySem.W.Frag} {mg : Str → Option Value} {base : Heap} {pS pC : Addr}
/-! ### _law_trials -/
def spTrials (K : PySem.W.Frag) : Sp := fun vs H Q _ => ∃ (b a z : Addr) (nm Z : List Cs), vs = [.ref b, .ref a, .ref z, .int 40] ∧ BoxAt H b ∧ a ≠ b ∧ H a = some (.lst (nm.map tv)) ∧ H z = some (.tup (Z.map tv)) ∧ nm.Nodup ∧ nm.length ≤ 9 ∧
  ∀ H' p ds fs, Bx H H' b → H p = none → p ≠ b → H' p = some (.lst (ds.map V.ref)) → DsF H' nm ds fs → (∀ f ∈ fs, Good nm Z f) → oneF (freeL nm Z) ∈ fs → (∀ g ∈ freeL nm Z, farF (freeL nm Z) g ∈ fs) → fs.length ≤ 20 → Q (.ref p) H'
theorem sc_trials : FnScope ["_law_box_here", "_law_names", "_law_zeros", "_law_far", "_law_free", "_law_found", "_law_great", "_law_turn", "_law_name"] ["_law_box_here", "_law_names", "_law_zeros", "_law_far"] (defScope st__law_trials) := ⟨rfl, rfl, rfl, by decide +kernel, rfl, by decide +kernel, by decide +kernel⟩
theorem ok_trials {f0 : Addr} {fd : FuncData} (F : Fun K "_law_trials" "_law_trials" st__law_trials f0 fd) (L : Lx mg) (c_take : CalX P w K mg base 1 "_law_take" spTake) : FnOk P w K mg base CX0 2 f0 fd ["_law_box_here", "_law_names", "_law_zeros", "_law_far"] (spTrials K) := by
  refine F.ok sc_trials (fun vs H Q E h => ?_) (fun cdv A0 outer s H vs Q E hr h => ?_)
  · obtain ⟨b, a, z, nm, Z, rfl, _⟩ := h
    rfl
  obtain ⟨b, a, z, nm, Z, rfl, hb, hne, hN, hZ, ndN, l9, q⟩ := h
  have nd := sc_trials.nd
  have hu := hu_of hr
  refine ⟨_, (pss_cons (ps_set (i := 4) nd rfl (.inr rfl) (pe_lc (own := [("_law_name", 8)]) (g := gName 8) rfl nd (pi_list (pv 1)) (blkOk_by (N := ["_law_box_here", "_law_names", "_law_zeros", "_law_far", "_law_free", "_law_found", "_law_great", "_law_turn", "_law_name"]) (sc := defScope st__law_trials) (by decide +kernel)) (fun _ _ _ _ _ => (pg_name (i := 8) nd rfl (Or.inl rfl))) (fun _ _ _ _ _ => pts_one (pt_cmpR (show OpR _ _ (rIn K true) from op_notIn_seq) (pv 8) (pv 2) rfl)) (fun _ _ _ _ _ => (pv 8))))
      (pss_cons (ps_set (i := 5) nd rfl (.inl rfl) (pe_lst (pa_cons (pe_callTy (call_dictP rfl) (by rfl) L.dict (by decide +kernel) (pa_cons (pe_lc (own := [("_law_name", 8)]) (g := gName 8) (tt := tYes) rfl nd (pi_list (pv 1)) (blkOk_by (N := ["_law_box_here", "_law_names", "_law_zeros", "_law_far", "_law_free", "_law_found", "_law_great", "_law_turn", "_law_name"]) (sc := defScope st__law_trials) (by decide +kernel)) (fun _ _ _ _ _ => (pg_name (i := 8) nd rfl (Or.inl rfl))) (fun _ _ _ _ _ => pts_nil) (fun _ _ _ _ _ => (pe_tup (pa_cons (pv 8) (pa_cons (pe_callTy call_int1 (by rfl) L.int (by decide +kernel) (pa_cons (pe_cmpR (show OpR _ _ (rIn K false) from op_in_seq) (pv 8) (pv 4) rfl) pa_nil)) pa_nil))))) pa_nil)) pa_nil)))
      (pss_cons (ps_for PassesOwn.never rfl (pi_list (pv 4)) (pg_name (i := 6) nd rfl (Or.inr rfl)) (pss_one (ps_expr (pe_bm PySem.F.plainAttrs_list PySem.F.slot_list_append PySem.F.type_list_append mt_append (pv 5) (pa_cons (pe_callTy (call_dictP rfl) (by rfl) L.dict (by decide +kernel) (pa_cons (pe_lc (own := [("_law_name", 8)]) (g := gName 8) (tt := tYes) rfl nd (pi_list (pv 1)) (blkOk_by (N := ["_law_box_here", "_law_names", "_law_zeros", "_law_far", "_law_free", "_law_found", "_law_great", "_law_turn", "_law_name"]) (sc := defScope st__law_trials) (by decide +kernel)) (fun _ _ _ _ _ => (pg_name (i := 8) nd rfl (Or.inl rfl))) (fun _ _ _ _ _ => pts_nil) (fun _ _ _ _ _ => (pe_tup (pa_cons (pv 8) (pa_cons (pe_ifExp (pt_cmpR op_eq (pv 8) (pv 6) (nomark _)) (pv 3) (pe_callTy call_int1 (by rfl) L.int (by decide +kernel) (pa_cons (pe_cmpR (show OpR _ _ (rIn K false) from op_in_seq) (pv 8) (pv 4) rfl) pa_nil))) pa_nil))))) pa_nil)) pa_nil)))))
      (pss_cons (ps_for PassesOwn.never rfl (pi_range1 rfl L.range (pa_cons pe_int pa_nil)) (pg_name (i := 7) nd rfl (Or.inl rfl)) (pss_one (ps_expr (pe_bm PySem.F.plainAttrs_list PySem.F.slot_list_append PySem.F.type_list_append mt_append (pv 5) (pa_cons (pe_callTy (call_dictP rfl) (by rfl) L.dict (by decide +kernel) (pa_cons (pe_lc (own := [("_law_name", 8)]) (g := gName 8) (tt := tYes) rfl nd (pi_list (pv 1)) (blkOk_by (N := ["_law_box_here", "_law_names", "_law_zeros", "_law_far", "_law_free", "_law_found", "_law_great", "_law_turn", "_law_name"]) (sc := defScope st__law_trials) (by decide +kernel)) (fun _ _ _ _ _ => (pg_name (i := 8) nd rfl (Or.inl rfl))) (fun _ _ _ _ _ => pts_nil) (fun _ _ _ _ _ => (pe_tup (pa_cons (pv 8) (pa_cons (pe_ifExp (pt_cmpR (show OpR _ _ (rIn K false) from op_in_seq) (pv 8) (pv 4) rfl) (pe_op op_add pe_int (C8.pe_c c_take hr (by decide) rfl (pa_cons (pv 0) (pa_cons (pv 3) pa_nil)))) pe_int) pa_nil))))) pa_nil)) pa_nil)))))
      (pss_one (ps_ret (pv 5))))))), ?_⟩
  have flat : ∀ l : List Cs, (l.map tv).all flatV = true := fun l => List.all_eq_true.mpr fun x m => flat_names l x m
  -- the free ones
  refine ⟨_, rfl, a, rfl, ⟨_, SqL.of hN⟩, fun D nD => lc_list (K := K) (a := a) (xs := nm.map tv) (fun n H' => Same H H' ∧ H' D = some (.lst ((freeL (nm.take n) Z).map tv)))
    ⟨same_new nD _, upd_same⟩ (fun n H' _ p => SqL.of (p.1 _ _ hN)) ?f1 ?f2⟩
  case f1 =>
    rintro n x H' hn ⟨s1, hD⟩
    obtain ⟨y, hy, rfl⟩ := at_name hn
    refine ⟨rfl, _, rfl, _, rfl, z, _, rfl, .inr (SqT.of (s1 _ _ hZ)), rfl, flat Z, _, rfl, ?_⟩
    have e : inV (tv y) (Z.map tv) = decide (y ∈ Z) := inV_names y Z
    rw [free_take hy]
    have l1 : (freeL (nm.take n) Z).length ≤ (nm.take n).length := List.length_filter_le _ _
    rw [List.length_take] at l1
    show if (!inV (tv y) (Z.map tv)) = true then _ else _
    rw [e]
    by_cases m : y ∈ Z
    · rw [decide_eq_true m, if_pos m, List.append_nil]
      exact iteF ⟨s1, hD⟩
    · rw [decide_eq_false m, if_neg m]
      exact iteT ⟨_, rfl, _, hD, big (by rw [List.length_map]; omega), same_mut s1 nD, by rw [upd_same, List.map_append]; rfl⟩
  case f2 =>
    rintro H1 ⟨s1, hD⟩
    rw [List.length_map, List.take_length] at hD
    have hN1 := s1 _ _ hN
    have hb1 := hb.same s1
    have Db : D ≠ b := hb.ne nD
    generalize hfr : freeL nm Z = fr at hD q
    have frl : fr.length ≤ 9 := by
      rw [← hfr]
      exact Nat.le_trans (List.length_filter_le _ _) l9
    -- the first dict
    refine ⟨_, rfl, a, rfl, ⟨_, SqL.of hN1⟩, fun E nE => lc_list (K := K) (a := a) (xs := nm.map tv) (fun n H' => Same H1 H' ∧ ∃ ps : List Addr, H' E = some (.lst (ps.map V.ref)) ∧ PairsAt H' ps ((txK nm fun s => V.int (oneF fr s)).take n))
      ⟨same_new nE _, [], upd_same, rfl, fun i p kv e1 e2 => by cases e1⟩ (fun n H' _ p => SqL.of (p.1 _ _ hN1)) ?g1 ?g2⟩
    case g1 =>
      rintro n x H' hn ⟨s2, ps, hE, pa⟩
      obtain ⟨y, hy, rfl⟩ := at_name hn
      have hn4 : n < nm.length := (List.getElem?_eq_some_iff.mp hy).1
      refine ⟨rfl, _, rfl, _, rfl, _, rfl, D, _, rfl, .inl (SqL.of (s2 _ _ hD)), rfl, flat fr, .inr ⟨_, rfl, (by show 2 ≤ sizeLine; decide), fun pt npt => ?_⟩⟩
      have e : inV (tv y) (fr.map tv) = decide (y ∈ fr) := inV_names y fr
      have s3 := same_new npt (.tup [tv y, .int (if inV (tv y) (fr.map tv) = true then 1 else 0)])
      have hpt : upd H' pt (.tup [tv y, .int (if inV (tv y) (fr.map tv) = true then 1 else 0)]) pt = some (.tup [tv y, .int (oneF fr y)]) := by rw [upd_same, e, b2i_mem]
      refine ⟨_, s3 _ _ hE, big (by rw [List.length_map, pa.1, List.length_take, txK_len]; omega), same_mut (s2.trans s3) nE, ps ++ [pt], by rw [upd_same, List.map_append]; rfl, ?_⟩
      rw [txK_take hy]
      exact ((pa.same s3).push (kv := (Sum.inr (S y), .int (oneF fr y))) hpt).mut (s3 _ _ hE)
    case g2 =>
      rintro H2 ⟨s2, ps, hE, pa⟩
      rw [List.take_of_length_le (by rw [txK_len, List.length_map]; exact Nat.le_refl _)] at pa
      refine ⟨E, ps, txK nm fun s => V.int (oneF fr s), rfl, SqL.of hE, pa.paired, fun pF nF => ?_⟩
      rw [txK_merge ndN]
      refine ⟨(by show 1 ≤ sizeLine; decide), fun pL nL => ?_⟩
      have s3 := s2.trans ((same_new nF (.dK (txK nm fun s => V.int (oneF fr s)))).trans (same_new nL (.lst [.ref pF])))
      have hF : upd (upd H2 pF (.dK (txK nm fun s => V.int (oneF fr s)))) pL (.lst [.ref pF]) pF = some (.dK (numK nm (oneF fr))) := same_new nL _ _ _ upd_same
      have hL : upd (upd H2 pF (.dK (txK nm fun s => V.int (oneF fr s)))) pL (.lst [.ref pF]) pL = some (.lst ([pF].map V.ref)) := upd_same
      have nL1 : H1 pL = none := by
        cases e : H1 pL with
        | none => rfl
        | some o => rw [((s2.trans (same_new nF _)) _ _ e)] at nL; cases nL
      generalize upd (upd H2 pF (.dK (txK nm fun s => V.int (oneF fr s)))) pL (.lst [.ref pF]) = H3 at s3 hF hL
      have hD3 := s3 _ _ hD
      have hN3 := s3 _ _ hN1
      have pLb : pL ≠ b := hb1.ne nL1
      have pLD : pL ≠ D := fun e => by rw [e, hD] at nL1; cases nL1
      have pLa : pL ≠ a := fun e => by rw [e, hN1] at nL1; cases nL1
      have bx3 : Bx H1 H3 b := Bx.of_same hb1 s3
      have nL0 : H pL = none := by
        cases e : H pL with
        | none => rfl
        | some o => rw [s1 _ _ e] at nL1; cases nL1
      -- the far ones
      refine ⟨_, rfl, D, rfl, ⟨_, SqL.of hD3⟩, for_list (K := K) (a := D) (xs := fr.map tv) (fun n σ H' => ∃ (u6 u7 u8 : Option V) (ds : List Addr), σ = [some (.ref b), some (.ref a), some (.ref z), some (.int 40), some (.ref D), some (.ref pL), u6, u7, u8] ∧ Bx H1 H' b ∧ H' pL = some (.lst (ds.map V.ref)) ∧ DsF H' nm ds (oneF fr :: (fr.take n).map (farF fr)))
        ⟨_, _, _, [pF], rfl, bx3, hL, .cons hF .nil⟩ (fun n σ H' _ ⟨_, _, _, _, _, bx, _⟩ => SqL.of (bx.keep _ _ Db hD)) ?h1 ?h2⟩
      case h1 =>
        rintro n x σ H4 hn ⟨u6, u7, u8, ds, rfl, bx4, hL4, df⟩
        obtain ⟨y, hy, rfl⟩ := at_name hn
        have hN4 := bx4.keep _ _ hne hN1
        have hD4 := bx4.keep _ _ Db hD
        have nfr : n < fr.length := (List.getElem?_eq_some_iff.mp hy).1
        refine ⟨_, rfl, .inl ⟨rfl, _, SqL.of hL4⟩, _, rfl, a, rfl, ⟨_, SqL.of hN4⟩, fun E nE => lc_list (K := K) (a := a) (xs := nm.map tv) (fun n H' => Same H4 H' ∧ ∃ ps : List Addr, H' E = some (.lst (ps.map V.ref)) ∧ PairsAt H' ps ((txK nm fun s => V.int (farF fr y s)).take n))
          ⟨same_new nE _, [], upd_same, rfl, fun i p kv e1 e2 => by cases e1⟩ (fun n H' _ p => SqL.of (p.1 _ _ hN4)) ?k1 ?k2⟩
        case k1 =>
          rintro m x H' hm ⟨s5, ps, hE, pa⟩
          obtain ⟨v, hv, rfl⟩ := at_name hm
          have hn4 : m < nm.length := (List.getElem?_eq_some_iff.mp hv).1
          have fin : ∀ k : Int, k = farF fr y v → ∀ pt, H' pt = none → ∃ acc, upd H' pt (.tup [tv v, .int k]) E = some (.lst acc) ∧ acc.length < sizeLine ∧ Same H4 (upd (upd H' pt (.tup [tv v, .int k])) E (.lst (acc ++ [V.ref pt]))) ∧ ∃ ps : List Addr, upd (upd H' pt (.tup [tv v, .int k])) E (.lst (acc ++ [V.ref pt])) E = some (.lst (ps.map V.ref)) ∧ PairsAt (upd (upd H' pt (.tup [tv v, .int k])) E (.lst (acc ++ [V.ref pt]))) ps ((txK nm fun s => V.int (farF fr y s)).take (m + 1)) := fun k ek pt npt => by
            have s6 := same_new npt (.tup [tv v, .int k])
            refine ⟨_, s6 _ _ hE, big (by rw [List.length_map, pa.1, List.length_take, txK_len]; omega), same_mut (s5.trans s6) nE, ps ++ [pt], by rw [upd_same, List.map_append]; rfl, ?_⟩
            rw [txK_take hv]
            exact ((pa.same s6).push (kv := (Sum.inr (S v), .int (farF fr y v))) (by rw [upd_same, ek]; rfl)).mut (s6 _ _ hE)
          refine ⟨rfl, _, rfl, _, rfl, _, rfl, rfl, _, rfl, ?_⟩
          rw [show decide (V.str (S v) = V.str (S y)) = decide (v = y) from tv_eq v y]
          by_cases e : v = y
          · rw [decide_eq_true e]
            exact iteT ⟨_, rfl, (by show 2 ≤ sizeLine; decide), fin 40 (by unfold farF; rw [if_pos e])⟩
          · rw [decide_eq_false e]
            have e2 : inV (tv v) (fr.map tv) = decide (v ∈ fr) := inV_names v fr
            exact iteF ⟨_, rfl, _, rfl, D, _, rfl, .inl (SqL.of (s5 _ _ hD4)), rfl, flat fr, .inr ⟨_, rfl, (by show 2 ≤ sizeLine; decide), fin _ (by rw [e2, ifF, b2i_mem]; unfold farF; rw [if_neg e])⟩⟩
        case k2 =>
          rintro H5 ⟨s5, ps, hE, pa⟩
          rw [List.take_of_length_le (by rw [txK_len, List.length_map]; exact Nat.le_refl _)] at pa
          refine ⟨E, ps, txK nm fun s => V.int (farF fr y s), rfl, SqL.of hE, pa.paired, fun pG nG => ?_⟩
          rw [txK_merge ndN]
          have s6 := s5.trans (same_new nG (.dK (txK nm fun s => V.int (farF fr y s))))
          have dl := df.len
          rw [List.length_cons, List.length_map, List.length_take] at dl
          refine ⟨pL, _, _, rfl, rfl, s6 _ _ hL4, big (by rw [List.length_map]; omega), _, _, _, ds ++ [pG], rfl, (bx4.same s6).mut nL1 pLb, by rw [upd_same, List.map_append]; rfl, ?_⟩
          rw [List.take_succ, hy, List.map_append]
          show DsF _ nm (ds ++ [pG]) ((oneF fr :: (fr.take n).map (farF fr)) ++ [farF fr y])
          exact ((df.same s6).push (f := farF fr y) upd_same).mut (s6 _ _ hL4)
      case h2 =>
        rintro σ H4 ⟨u6, u7, u8, ds, rfl, bx4, hL4, df⟩
        rw [List.length_map, List.take_length] at df
        have g1 : ∀ f ∈ oneF fr :: fr.map (farF fr), Good nm Z f := fun f m => by
          rcases List.mem_cons.mp m with rfl | m
          · rw [← hfr]; exact one_good nm Z
          · obtain ⟨g, hg, rfl⟩ := List.mem_map.mp m
            rw [← hfr] at hg ⊢
            exact far_good hg
        -- the drawn ones
        refine ⟨_, rfl, by decide, by decide, for_range (n := 3) (fun n σ H' => ∃ (u6 u7 u8 : Option V) (ds : List Addr) (ex : List (Cs → Int)), σ = [some (.ref b), some (.ref a), some (.ref z), some (.int 40), some (.ref D), some (.ref pL), u6, u7, u8] ∧ Bx H1 H' b ∧ H' pL = some (.lst (ds.map V.ref)) ∧ DsF H' nm ds ((oneF fr :: fr.map (farF fr)) ++ ex) ∧ (∀ f ∈ ex, Good nm Z f) ∧ ex.length ≤ n)
          ⟨_, _, _, ds, [], rfl, bx4, hL4, by rw [List.append_nil]; exact df, fun f m => absurd m List.not_mem_nil, Nat.le_refl _⟩ ?r1 ?r2⟩
        case r2 =>
          rintro σ H5 ⟨u6, u7, u8, ds, ex, rfl, bx5, hL5, df, gx, lx⟩
          refine ⟨_, rfl, q H5 pL ds _ ((Bx.of_same hb s1).trans bx5) nL0 pLb hL5 df (fun f m => ?_) (List.mem_append_left _ List.mem_cons_self) (fun g hg => List.mem_append_left _ (List.mem_cons_of_mem _ (List.mem_map_of_mem hg))) ?_⟩
          · rcases List.mem_append.mp m with m | m
            · exact g1 f m
            · exact gx f m
          · rw [List.length_append, List.length_cons, List.length_map]; omega
        case r1 =>
          rintro n σ H5 hn ⟨u6, u7, u8, ds, ex, rfl, bx5, hL5, df, gx, lx⟩
          have hN5 := bx5.keep _ _ hne hN1
          have hD5 := bx5.keep _ _ Db hD
          refine ⟨_, rfl, .inl ⟨rfl, _, SqL.of hL5⟩, _, rfl, a, rfl, ⟨_, SqL.of hN5⟩, fun E nE => lc_list (K := K) (a := a) (xs := nm.map tv) (fun m H' => Bx H5 H' b ∧ ∃ (ps : List Addr) (f : Cs → Int), H' E = some (.lst (ps.map V.ref)) ∧ PairsAt H' ps (txK (nm.take m) fun s => V.int (f s)) ∧ ∀ s ∈ nm, (s ∉ fr → f s = 0) ∧ (s ∈ fr → 1 ≤ f s ∧ f s ≤ 40))
            ⟨Bx.of_same bx5.box (same_new nE _), [], oneF fr, upd_same, ⟨rfl, fun i p kv e1 e2 => by cases e1⟩, fun s _ => ⟨fun h => if_neg h, fun h => by unfold oneF; rw [if_pos h]; omega⟩⟩ (fun n H' _ p => SqL.of (p.1.keep _ _ hne hN5)) ?t1 ?t2⟩
          case t1 =>
            rintro m x H' hm ⟨bx6, ps, f, hE, pa, gf⟩
            obtain ⟨v, hv, rfl⟩ := at_name hm
            have hn4 : m < nm.length := (List.getElem?_eq_some_iff.mp hv).1
            have nEb : E ≠ b := bx5.box.ne nE
            have fin : ∀ (H7 : Hp) (k : Int), Bx H5 H7 b → H7 E = some (.lst (ps.map V.ref)) → PairsAt H7 ps (txK (nm.take m) fun s => V.int (f s)) → ((v ∉ fr → k = 0) ∧ (v ∈ fr → 1 ≤ k ∧ k ≤ 40)) → ∀ pt, H7 pt = none → ∃ acc, upd H7 pt (.tup [tv v, .int k]) E = some (.lst acc) ∧ acc.length < sizeLine ∧ Bx H5 (upd (upd H7 pt (.tup [tv v, .int k])) E (.lst (acc ++ [V.ref pt]))) b ∧ ∃ (ps : List Addr) (f : Cs → Int), upd (upd H7 pt (.tup [tv v, .int k])) E (.lst (acc ++ [V.ref pt])) E = some (.lst (ps.map V.ref)) ∧ PairsAt (upd (upd H7 pt (.tup [tv v, .int k])) E (.lst (acc ++ [V.ref pt]))) ps (txK (nm.take (m + 1)) fun s => V.int (f s)) ∧ ∀ s ∈ nm, (s ∉ fr → f s = 0) ∧ (s ∈ fr → 1 ≤ f s ∧ f s ≤ 40) := fun H7 k bx7 hE7 pa7 gk pt npt => by
              have s6 := same_new npt (.tup [tv v, .int k])
              have nv : v ∉ nm.take m := not_take ndN hv
              have cong : (txK (nm.take m) fun s => V.int (f s)) = txK (nm.take m) fun s => V.int (if s = v then k else f s) := by
                unfold txK
                exact names_cong fun s hs => by rw [if_neg (fun z => nv (by rw [← z]; exact hs))]
              refine ⟨_, s6 _ _ hE7, big (by rw [List.length_map, pa7.1, txK_len, List.length_take]; omega), (bx7.same s6).mut nE nEb, ps ++ [pt], fun s => if s = v then k else f s, by rw [upd_same, List.map_append]; rfl, ?_, fun s ms => ?_⟩
              · have e2 : (txK (nm.take (m + 1)) fun s => V.int (if s = v then k else f s)) = (txK (nm.take m) fun s => V.int (f s)) ++ [(Sum.inr (S v), V.int k)] := by
                  rw [cong, List.take_succ, hv]
                  unfold txK
                  rw [List.map_append]
                  show _ ++ [((Sum.inr (S v), V.int (if v = v then k else f v)) : Key × V)] = _
                  rw [if_pos rfl]
                rw [e2]
                exact ((pa7.same s6).push (kv := (Sum.inr (S v), .int k)) upd_same).mut (s6 _ _ hE7)
              · show (s ∉ fr → (if s = v then k else f s) = 0) ∧ (s ∈ fr → 1 ≤ (if s = v then k else f s) ∧ (if s = v then k else f s) ≤ 40)
                by_cases e : s = v
                · rw [if_pos e, e]; exact gk
                · rw [if_neg e]; exact gf s ms
            refine ⟨rfl, _, rfl, _, rfl, _, rfl, D, _, rfl, .inl (SqL.of (bx6.keep _ _ Db hD5)), rfl, flat fr, _, rfl, ?_⟩
            have e2 : inV (tv v) (fr.map tv) = decide (v ∈ fr) := inV_names v fr
            rw [show inV (V.str (S v)) (fr.map tv) = decide (v ∈ fr) from e2]
            by_cases e : v ∈ fr
            · rw [decide_eq_true e]
              refine iteT ⟨_, rfl, _, rfl, b, 40, rfl, bx6.box, by decide, by decide, fun r d1 e1 c1 r0 r1 => ⟨_, _, rfl, rfl, (by show 2 ≤ sizeLine; decide), ?_⟩⟩
              obtain ⟨bd0, bs0, bc0, hb0⟩ := bx6.box
              exact fin _ (1 + r) (bx6.trans Bx.draw) (by rw [upd_ne nEb]; exact hE) (pa.mut hb0) ⟨fun n => absurd e n, fun _ => by omega⟩
            · rw [decide_eq_false e]
              exact iteF ⟨(by show 2 ≤ sizeLine; decide), fin _ 0 bx6 hE pa ⟨fun _ => rfl, fun n => absurd n e⟩⟩
          case t2 =>
            rintro H6 ⟨bx6, ps, f, hE, pa, gf⟩
            rw [List.length_map, List.take_length] at pa
            refine ⟨E, ps, txK nm fun s => V.int (f s), rfl, SqL.of hE, pa.paired, fun pG nG => ?_⟩
            rw [txK_merge ndN]
            have s7 := same_new nG (.dK (txK nm fun s => V.int (f s)))
            have hL6 := bx6.keep _ _ pLb hL5
            have df6 : DsF H6 nm ds ((oneF fr :: fr.map (farF fr)) ++ ex) := df.mono fun c xs e => bx6.keep c _ (fun z => by obtain ⟨d, t, c2, g⟩ := bx5.box; rw [z, g] at e; cases e) e
            have dl := df.len
            rw [List.length_append, List.length_cons, List.length_map] at dl
            refine ⟨pL, _, _, rfl, rfl, s7 _ _ hL6, big (by rw [List.length_map]; omega), _, _, _, ds ++ [pG], ex ++ [f], rfl, ((bx5.trans bx6).same s7).mut nL1 pLb, by rw [upd_same, List.map_append]; rfl, ?_, fun g m => ?_, by rw [List.length_append]; exact Nat.succ_le_succ lx⟩
            · rw [← List.append_assoc]
              exact ((df6.same s7).push (f := f) upd_same).mut (s7 _ _ hL6)
            · rcases List.mem_append.mp m with m | m
              · exact gx g m
              · rcases List.mem_singleton.mp m with rfl
                intro s ms
                have := gf s ms
                rw [← hfr] at this
                exact ⟨fun z => this.1 fun h => (free_mem.mp h).2 z, fun z => this.2 (free_mem.mpr ⟨ms, z⟩)⟩
end
end Pg
/-! Ts -/
set_option Elab.async false
set_option linter.all false
set_option maxRecDepth 100000
set_option maxHeartbeats 4000000
/-! set(xs), xs a list of texts. -/
namespace Sx
open PySem PySem.Spec PyProof.Rows L2
section
variable {P : Program} {w : World} {A : Around} {E : Value → Shared → Prop} {s : Shared}
theorem TSet.more {h : Heap} {a : Addr} {ks ks' : List Str} {n n' : Nat} (R : TSet w h a ks n) (m : ∀ x, x ∈ ks' ↔ x ∈ ks) (l : n ≤ n') (b : n' < scanBound) : TSet w h a ks' n' :=
  let ⟨o, es, ep, t, h1, h2, h3, h4, h5, r⟩ := R
  ⟨o, es, ep, t, h1, h2, h3, fun x => (m x).trans (h4 x), ⟨Nat.le_trans h5.1 l, b⟩, r⟩
/-- the turns of set.update over texts -/
theorem turns {I S : Addr} {fp wr : List Addr} {G : Array GenState → Array GenState → Prop} {xs : List Str} {Pv : Nat → Value → Prop} {St : Nat → Shared → Prop} {R : Result → Shared → Prop}
    (W : WalksS P w A.in1 I fp wr G xs.length Pv St) (away : S ∉ fp) (few : xs.length + 1 < scanBound) (hv : ∀ i v, Pv i v → ∃ x t, xs[i]? = some x ∧ v = .str x t)
    : ∀ (left i : Nat) (s : Shared), xs.length - i = left → i ≤ xs.length → St i s → TSet w s.heap S (xs.take i) i →
      (∀ s', Moved (S :: wr) G s s' → TSet w s'.heap S xs xs.length → R (.ok (.ret .none)) s') → codeAny (model P w) A (.builtin "set.update.loop" ⟨[.ref S, .ref I], []⟩) R s := by
  have awayW : S ∉ wr := fun z => away (W.sub _ z)
  have inc : ∀ b ∈ wr, b ∈ S :: wr := fun b z => List.mem_cons_of_mem S z
  intro left
  induction left with
  | zero =>
    intro i s e hi st T ask
    have e2 : i = xs.length := by omega
    rw [e2] at st T
    rw [List.take_length] at T
    refine codeAny_builtin F.entry_set_update_loop (by
      rw [Around.under_plainId F.plain_set_update_loop _]
      show wpAny _ A.in1 (pyNext (.ref I) >>= _) _ _ _
      exact wpAny_bind (W.done s _ _ st fun s' mv => by
        show wpAny _ A.in1 (ret Value.none) _ _ _
        exact wpAny_pure (ask s' (mv.mono inc) (T.stay fun o g => mv.heap S o awayW g))))
  | succ left ih =>
    intro i s e hi st T ask
    have lt : i < xs.length := by omega
    refine codeAny_builtin F.entry_set_update_loop ?_
    rw [Around.under_plainId F.plain_set_update_loop _]
    show wpAny _ A.in1 (pyNext (.ref I) >>= _) _ _ _
    refine wpAny_bind (W.item i s _ _ lt st fun v s' pv st' mv => ?_)
    obtain ⟨x, t, hx, rfl⟩ := hv i v pv
    have T' := T.stay (h' := s'.heap) fun o g => mv.heap S o awayW g
    show wpAny _ A.in1 (holding [Value.str x t] (setAdd S (.str x t)) >>= _) _ _ _
    unfold setAdd
    refine wpAny_bind (wpAny_holding (wpAny_holding (wpAny_bind ((strKind P w).pyHash (kdIs P w x t) ?_))))
    refine addHashed (s := { s' with toks := s'.toks + 1 }) T' (by omega) fun b h' sb T2 => ?_
    have off : ∀ b o, b ≠ S → s'.heap.get? b = some o → h'.get? b = some o := fun b o n g => by rw [sb.2 b n]; exact g
    have T3 : TSet w h' S (xs.take (i + 1)) (i + 1) := T2.more (fun y => by rw [List.take_succ, hx]; rfl) (Nat.le_refl _) (by omega)
    have st2 := W.frame _ s' h' (s'.toks + 1) st' (Nat.le_succ _) fun b hb o g => off b o (fun z => away (z ▸ hb)) g
    refine wpAny_pure ⟨plainId_quiet F.plain_set_update_loop _, ih (i + 1) _ (by omega) lt st2 T3 fun s2 mv2 T4 => ?_⟩
    exact ask s2 (Moved.trans W.gtrans ((mv.mono inc).then_heap (Nat.le_succ _) fun b o hb g => off b o (fun z => hb (z ▸ List.mem_cons_self)) g) mv2) T4
/-- a new set, as the type makes it -/
abbrev bare (w : World) : Obj := { cls := .type "set", dict := none, data := .set #[] 0 (.fresh 0 0 (!w.params.followText "set-order")) }
theorem setOfTexts {l : Addr} {items : Array Value} {xs : List Str} {Q : Value → Shared → Prop} (hh : A.handled = none) (hl : s.heap.IsList l items) (hi : StrsAre items.toList xs) (few : xs.length + 1 < scanBound)
    (h : ∀ (h' : Heap) (tk : Nat), TSet w h' s.heap.objs.size xs xs.length → (∀ b o, s.heap.get? b = some o → h'.get? b = some o) → Q (.ref s.heap.objs.size) { s with heap := h', toks := tk }) :
    wpAny (model P w) A (call (.type "set") [.ref l]) Q E s := by
  have many : xs.length = items.size := by rw [← StrsAre.len_eq hi, Array.length_toList]
  have at_ : ∀ (i : Nat) (v : Value), items[i]? = some v → ∃ x t, xs[i]? = some x ∧ v = .str x t := by
    intro i v e
    obtain ⟨t, ev⟩ := SS.strs_at hi i v (by rw [Array.getElem?_toList]; exact e)
    have lt : i < xs.length := by
      rw [many]
      exact (Array.getElem?_eq_some_iff.mp e).1
    refine ⟨xs[i], t, List.getElem?_eq_getElem lt, ?_⟩
    rw [ev, List.getD_eq_getElem?_getD, List.getElem?_eq_getElem lt]
    rfl
  obtain ⟨c, tl, hmro⟩ := F.called_set.mro
  have hmade := F.called_set.made; have hsub := F.called_set.sub; have hn1 := F.called_set.notType; have hn2 := F.called_set.canCreate; have hn3 := F.typeCall_set_1 (.ref l)
  refine wpAny_call (codeAny_of_tree (by
    show wpAny _ _ (callAny (.type "set") _) _ _ _
    refine wpAny_pure ⟨Code.quiet_builtin _ (by decide +kernel), codeAny_builtin F.entry_type_call ?_⟩
    rw [Around.under_plain (weight_type_call_type "set" [.ref l] []) rfl]
    repeat (any_goals (first | assumption | wp_step))
    have born : (s.heap.push (bare w)).get? s.heap.objs.size = some (bare w) := Heap.get?_push_size _ rfl
    refine codeAny_mono (code_set_led1 (.ref l) (E := E) (Q₁ := fun obj s₁ => obj = .ref s.heap.objs.size ∧ s₁ = { s with heap := s.heap.push (bare w) }) ⟨rfl, rfl⟩) ?_
    intro r s₁ hr
    match r, hr with
    | .error e, hr => exact hr
    | .ok .next, hr => exact hr.elim
    | .ok .brk, hr => exact hr.elim
    | .ok .cont, hr => exact hr.elim
    | .ok (.ret obj), hr =>
      obtain ⟨eo, es⟩ := hr
      rw [eo, es]
      have isSet : Shared.TypeIs { s with heap := s.heap.push (bare w) } (.ref s.heap.objs.size) "set" := ⟨_, born, rfl⟩
      have hli := F.called_set.init.lookup; have hbi := F.called_set.init.bind (.ref s.heap.objs.size)
      repeat (any_goals (first | assumption | wp_step))
      refine codeAny_mono (codeAny_call_builtin (R := wants (fun r s₂ => r = .none ∧ ∃ h' tk, s₂ = { s with heap := h', toks := tk } ∧ TSet w h' s.heap.objs.size xs xs.length ∧
        ∀ b o, s.heap.get? b = some o → h'.get? b = some o) E) F.called_set.init.plain F.entry_set_init (check_set_init_1 isSet ?_)) ?_
      · obtain ⟨⟨ocls, odict, odata, oslots⟩, hol, hcl, nl, hdl⟩ := hl
        simp only at hcl hdl
        subst hcl hdl
        have lt : l < s.heap.objs.size := Heap.lt_size hol
        have still := Heap.get?_push_of_some (bare w) hol
        have isL : (s.heap.push (bare w)).IsList l items := ⟨_, still, rfl, nl, rfl⟩
        have hsls := F.sub_list_set; have hslf := F.sub_list_frozenset
        have noDict : (Value.type "list" == Value.type "dict") = false := by decide
        unfold Builtin.«set.__init__» noKeywords Builtin.Frozenset.updateFrom
        generalize hPI : pyIter = PI
        wp_walk
        subst hPI
        refine wpAny_pyIter_list isL (wpAny_bind (wpAny_runValue ?_))
        have sz1 : (s.heap.push (bare w)).objs.size = s.heap.objs.size + 1 := Heap.size_push ..
        have hd3 : A.in1.in1.in1.handled = none := by simp [hh]
        have ne1 : l ≠ (s.heap.push (bare w)).objs.size := Nat.ne_of_lt (by rw [sz1]; exact Nat.lt_succ_of_lt lt)
        have ne2 : s.heap.objs.size ∉ [(s.heap.push (bare w)).objs.size, l] := by
          intro z
          rcases List.mem_cons.mp z with z | z
          · rw [sz1] at z
            exact Nat.ne_of_lt (Nat.lt_succ_self _) z
          · exact Nat.ne_of_gt lt (List.mem_singleton.mp z)
        have start : TSet w ((s.heap.push (bare w)).push { cls := .type "list_iterator", data := .fields #[.ref l, .int 0 0] }) s.heap.objs.size (xs.take 0) 0 :=
          (emptySet w s.heap).stay fun o g => Heap.get?_push_of_some _ g
        have way := (Walks.list (prog := P) (w := w) hd3 (s.heap.push (bare w)).objs.size l ne1 items).toS
        rw [← many] at way
        refine turns (S := s.heap.objs.size) way ne2 few at_ (xs.length - 0) 0 _ rfl (Nat.zero_le _) ⟨⟨_, Heap.get?_push_size _ rfl, rfl, rfl⟩, (isL.push _)⟩ start ?_
        intro s' mv T
        obtain ⟨h', g2, d', tk', os'⟩ := s'
        have eg : g2 = s.gens := mv.gens; have ed : d' = s.drawn := mv.drawn; have eo2 : os' = s.os := mv.os
        subst eg ed eo2
        show wpAny _ _ _ _ _ _
        refine wpAny_pure (by
          show wpAny _ _ (ret Value.none) _ _ _
          refine wpAny_pure ⟨rfl, h', tk', rfl, T, fun b o g => ?_⟩
          have b1 := Heap.lt_size g
          refine mv.heap b o (fun z => ?_) (Heap.get?_push_of_some _ (Heap.get?_push_of_some _ g))
          rcases List.mem_cons.mp z with z | z
          · exact Nat.ne_of_lt b1 z
          · have z := List.mem_singleton.mp z
            rw [sz1] at z
            exact Nat.ne_of_lt (Nat.lt_succ_of_lt b1) z)
      · intro r₂ s₂ hr₂
        match r₂, hr₂ with
        | .error e, hr₂ => exact hr₂
        | .ok .next, hr₂ => exact hr₂.elim
        | .ok .brk, hr₂ => exact hr₂.elim
        | .ok .cont, hr₂ => exact hr₂.elim
        | .ok (.ret r3), ⟨e3, h', tk, e4, T, keep⟩ =>
          rw [e3, e4]
          repeat (any_goals (first | assumption | wp_step))
          exact h _ _ T keep))
end
end Sx
/-! Ts2 -/
set_option Elab.async false
set_option linter.all false
set_option maxRecDepth 100000
set_option maxHeartbeats 4000000
namespace Sx
open PySem PySem.Spec PyProof.Rows L2
section
variable {X : Cx}
theorem cr_setTexts (hc : X.calm = true) : CallR X (.type "set") (fun xs H Q => ∃ (a : Addr) (l : List Str), xs = [.ref a] ∧ SqL X.K H a (l.map V.str) ∧ l.length < 60 ∧ ∀ p, H p = none → Q (.ref p) (upd H p (TxS X.w p l l.length))) := by
  intro pins s σ H xs us Q I rel h
  obtain ⟨a, l, rfl, hs, few, q⟩ := h
  rw [Vals.ref1 rel]
  obtain ⟨its, rv, pl, _⟩ := I.list hs
  refine setOfTexts (xs := l) (I.ok.hd hc) pl.isList (by simpa using strsAre_of rv) (Nat.lt_of_lt_of_le (Nat.succ_lt_succ few) (by decide)) ?_
  intro h' tk T keep
  exact ⟨.ref s.heap.objs.size, upd H s.heap.objs.size (TxS X.w s.heap.objs.size l l.length), I.laid (t' := tk) keep (Nat.le_refl _) (to_ok T), rfl, q _ (I.hok.fresh (Nat.le_refl _))⟩
end
end Sx
/-! Gx -/
set_option Elab.async false
set_option linter.all false
set_option maxRecDepth 100000
set_option maxHeartbeats 4000000
namespace Pg
open PySem L2 Mr
/-! names of atoms, how many, and how great -/
theorem over_mem {A B : Atm} (nd : A.l.Nodup) {x : Cs} : x ∈ (B.over A).l ↔ x ∈ B.l ∨ x ∈ A.l := (fold_facts A A.l B nd x).1
theorem folds_mem : ∀ (As : List Atm) (B : Atm), (∀ A ∈ As, A.l.Nodup) → ∀ x, x ∈ (As.foldl Atm.over B).l → x ∈ B.l ∨ ∃ A ∈ As, x ∈ A.l
  | [], B, _, x, h => .inl h
  | A :: As, B, nd, x, h => by
    rw [List.foldl_cons] at h
    rcases folds_mem As _ (fun A m => nd A (List.mem_cons_of_mem _ m)) x h with h | ⟨A', m, h⟩
    · rcases (over_mem (nd A List.mem_cons_self)).mp h with h | h
      · exact .inl h
      · exact .inr ⟨A, List.mem_cons_self, h⟩
    · exact .inr ⟨A', List.mem_cons_of_mem _ m, h⟩
/-- the case's plainest numbers -/
def base1 (Z : List Cs) : Cs → Int := fun s => if s ∈ Z then 0 else 1
theorem base_z (Z : List Cs) : (∀ s, s ∈ Z → base1 Z s = 0) ∧ ∀ s, s ∉ Z → 1 ≤ base1 Z s := ⟨fun s m => if_pos m, fun s m => by unfold base1; rw [if_neg m]; exact Int.le_refl 1⟩
theorem atm_wl (Z : List Cs) (t : T) (h : t.ok) : Wl Z (t.atm Z) := (atm_v (base_z Z).1 (base_z Z).2 t h).1
theorem atm_names (Z : List Cs) : ∀ t : T, t.ok → ∀ s, s ∈ (t.atm Z).l → s ≠ [] → Stp.nam s ∈ t.stp
  | .num k, h, s, m, n => by
    rw [T.atm] at m
    exact absurd (List.mem_singleton.mp m) n
  | .nam x, h, s, m, n => by
    rw [T.atm] at m
    unfold namA at m
    rw [T.stp]
    by_cases c : x ∈ Z
    · rw [if_pos c] at m
      exact absurd (List.mem_singleton.mp m) n
    · rw [if_neg c] at m
      rw [List.mem_singleton.mp m]
      exact List.mem_singleton.mpr rfl
  | .plus t k, h, s, m, n => by
    rw [T.ok] at h
    rw [T.atm] at m
    rw [T.stp]
    exact List.mem_append_left _ (atm_names Z t h.1 s m n)
  | .node b ts, h, s, m, n => by
    rw [T.ok] at h
    rw [T.atm] at m
    rw [T.stp]
    unfold callA at m
    split at m
    · exact absurd (List.mem_singleton.mp m) n
    · rcases folds_mem _ _ (fun A hA => by
        obtain ⟨t, ht, rfl⟩ := List.mem_map.mp hA
        exact (atm_wl Z t (h.2 t ht)).nd) s m with m | ⟨A, hA, m⟩
      · cases m
      · obtain ⟨t, ht, rfl⟩ := List.mem_map.mp hA
        exact List.mem_append_left _ (List.mem_flatten.mpr ⟨_, List.mem_map_of_mem ht, atm_names Z t (h.2 t ht) s m n⟩)
theorem sum_le3 {α : Type} (f g : α → Nat) : ∀ l : List α, (∀ x ∈ l, f x ≤ g x) → (l.map f).sum ≤ (l.map g).sum
  | [], _ => Nat.le_refl _
  | a :: l, h => by
    have h1 := h a List.mem_cons_self
    have h2 := sum_le3 f g l fun x m => h x (List.mem_cons_of_mem _ m)
    simp only [List.map_cons, List.sum_cons]
    omega
theorem atm_len (Z : List Cs) : ∀ t : T, t.ok → (t.atm Z).l.length ≤ t.stp.length
  | .num k, h => by rw [T.atm, T.stp]; exact Nat.le_refl 1
  | .nam x, h => by
    rw [T.atm, T.stp]
    unfold namA
    split <;> exact Nat.le_refl 1
  | .plus t k, h => by
    rw [T.ok] at h
    rw [T.atm, T.stp, List.length_append]
    exact Nat.le_add_right_of_le (atm_len Z t h.1)
  | .node b ts, h => by
    rw [T.ok] at h
    rw [T.atm, T.stp, List.length_append, List.length_flatten, List.map_map]
    unfold callA
    split
    · show 1 ≤ _ + 1
      omega
    · have h1 := gr_len (ts.map fun t => t.atm Z)
      rw [List.map_map] at h1
      have h2 := sum_le3 ((fun A : Atm => A.l.length) ∘ fun t : T => t.atm Z) (List.length ∘ fun t : T => t.stp) ts fun t m => atm_len Z t (h.2 t m)
      omega
theorem maxL_le {b : Int} {l : List Int} (ne : l ≠ []) (h : ∀ y ∈ l, y ≤ b) : maxL l ≤ b := by
  obtain ⟨m, hm, e⟩ : ∃ m, m ∈ l ∧ maxL l = m := by
    have key : ∀ (l : List Int), l ≠ [] → ∃ m, m ∈ l ∧ ∀ y, y ∈ l → y ≤ m := by
      intro l
      induction l with
      | nil => exact fun z => absurd rfl z
      | cons x r ih =>
        intro _
        by_cases c : r = []
        · exact ⟨x, List.mem_cons_self, fun y hy => by rw [c] at hy; rw [List.mem_singleton.mp hy]; exact Int.le_refl _⟩
        · obtain ⟨m, hm, hb⟩ := ih c
          by_cases d : x ≤ m
          · exact ⟨m, List.mem_cons_of_mem _ hm, fun y hy => by rcases List.mem_cons.mp hy with rfl | hy; exact d; exact hb y hy⟩
          · exact ⟨x, List.mem_cons_self, fun y hy => by rcases List.mem_cons.mp hy with rfl | hy; exact Int.le_refl _; exact Int.le_trans (hb y hy) (by omega)⟩
    obtain ⟨m, hm, hb⟩ := key l ne
    exact ⟨m, hm, maxL_of hm hb⟩
  rw [e]
  exact h m hm
theorem call_le {b : Bool} {bd : Int} {l : List Int} (h0 : 0 ≤ bd) (ne : l ≠ []) (h : ∀ y ∈ l, y ≤ bd) : callV b l ≤ bd := by
  unfold callV
  split
  · exact h0
  · exact maxL_le ne h
theorem Lv.val_le {ns : List Cs} {m : Nat} {f : Cs → Int} (hf : ∀ s, f s ≤ m) {d : Nat} {t : T} (h : Lv ns m d t) : t.val f ≤ m * (d + 1) := by
  have grow : ∀ d : Nat, (m : Int) * ((d : Int) + 1) ≤ m * (((d + 1 : Nat) : Int) + 1) := fun d => Int.mul_le_mul_of_nonneg_left (by omega) (by omega)
  have m0 : ∀ d : Nat, (m : Int) ≤ m * ((d : Int) + 1) := fun d => by
    have : (m : Int) * 1 ≤ m * ((d : Int) + 1) := Int.mul_le_mul_of_nonneg_left (by omega) (by omega)
    omega
  have z0 : ∀ d : Nat, (0 : Int) ≤ m * ((d : Int) + 1) := fun d => Int.le_trans (by omega) (m0 d)
  induction h with
  | num h => rw [T.val]; exact Int.le_trans (by omega) (m0 _)
  | nam h => rw [T.val]; exact Int.le_trans (hf _) (m0 _)
  | @plus d t k r h ih =>
    rw [T.val]
    have e : (m : Int) * (((d + 1 : Nat) : Int) + 1) = m * ((d : Int) + 1) + m := by
      have : (((d + 1 : Nat) : Int) + 1) = ((d : Int) + 1) + 1 := by omega
      rw [this, Int.mul_add, Int.mul_one]
    rw [e]
    omega
  | @two d b t u r s ih1 ih2 =>
    rw [T.val]
    refine call_le (z0 _) (by simp) fun y hy => ?_
    rcases List.mem_cons.mp hy with rfl | hy
    · exact Int.le_trans ih1 (grow d)
    · rcases List.mem_singleton.mp hy with rfl
      exact Int.le_trans ih2 (grow d)
  | @three d t u s r q h ih1 ih2 =>
    rw [T.val]
    refine call_le (z0 _) (by simp) fun y hy => ?_
    rcases List.mem_cons.mp hy with rfl | hy
    · exact Int.le_trans ih1 (grow d)
    rcases List.mem_cons.mp hy with rfl | hy
    · exact Int.le_trans ih2 (grow d)
    · rw [List.mem_singleton.mp hy]
      simp only [T.val]
      exact Int.le_trans (hf _) (m0 _)
/-- a dict's numbers, and what the case says of all other names -/
def ext (nm Zg : List Cs) (f : Cs → Int) : Cs → Int := fun s => if s ∈ nm then f s else if s ∈ Zg then 0 else 1
section
variable {nm Z Zg : List Cs} {f : Cs → Int}
theorem ext_z (hg : Good nm Z f) (hq : ∀ s ∈ nm, s ∈ Zg → s ∈ Z) : ∀ s, s ∈ Zg → ext nm Zg f s = 0 := fun s m => by
  unfold ext
  by_cases c : s ∈ nm
  · rw [if_pos c]; exact (hg s c).1 (hq s c m)
  · rw [if_neg c, if_pos m]
theorem ext_p (hg : Good nm Z f) (hq : ∀ s, s ∈ Z → s ∈ Zg) : ∀ s, s ∉ Zg → 1 ≤ ext nm Zg f s := fun s m => by
  unfold ext
  by_cases c : s ∈ nm
  · rw [if_pos c]; exact ((hg s c).2 fun z => m (hq s z)).1
  · rw [if_neg c, if_neg m]; exact Int.le_refl 1
end
/-! lists of unlike lengths are not equal -/
theorem op_eq_lens {X : Cx} (hu : X.A.units + 64 < cLine) : OpR X (compareOp .Eq) (fun x y H Q => ∃ a b xs ys, x = .ref a ∧ y = .ref b ∧ SqL X.K H a xs ∧ SqL X.K H b ys ∧ ((xs.length ≠ ys.length ∧ Q (.bl false) H) ∨ (xs = [] ∧ ys = [] ∧ Q (.bl true) H))) := by
  intro pins s σ H x y v u Q I rx ry h
  obtain ⟨a, b, xs, ys, rfl, rfl, ha, hb, h⟩ := h
  cases rx
  cases ry
  obtain ⟨is1, r1, l1, _⟩ := I.list ha
  obtain ⟨is2, r2, l2, _⟩ := I.list hb
  have e1 := r1.length
  have e2 := r2.length
  rcases h with ⟨n, q⟩ | ⟨h1, h2, q⟩
  · exact SeqAt.eq_list_lengthsAt l1.isList l2.isList (by simpa [← e1, ← e2] using n) (by omega) ⟨.bl false, H, I, rfl, q⟩
  · subst h1 h2
    cases r1
    cases r2
    exact SeqAt.eq_listAt (e := fun _ => true) l1.isList l2.isList rfl (by omega) (fun j h1 _ => absurd h1 (by simp)) ⟨.bl true, H, I, rfl, q⟩
/-! data -/
def cQ : Cs := [113]
theorem ten_ok : ∀ s ∈ cQ :: [] :: names9, PyData.strOk (S s) = true := by decide +kernel
theorem layStr : ∀ l : List Cs, (∀ s ∈ l, s ∈ cQ :: [] :: names9) → PyData.canLayAll0 (l.map fun s => PyData.str (S s)) = true ∧ PyData.depthAll (l.map fun s => PyData.str (S s)) ≤ 1
  | [], _ => ⟨rfl, by rw [List.map_nil, PyData.depthAll]; decide⟩
  | s :: l, h => by
    obtain ⟨h1, h2⟩ := layStr l fun x m => h x (List.mem_cons_of_mem _ m)
    rw [List.map_cons, PyData.canLayAll0, PyData.depthAll, PyData.canLay0, PyData.depth, h1, ten_ok s (h s List.mem_cons_self)]
    exact ⟨rfl, by omega⟩
def strsD (l : List Cs) : PyData := .list (l.map fun s => PyData.str (S s))
theorem dp_strs {K : PySem.W.Frag} {H : Hp} : ∀ l : List Cs, L2.DpAll K H (l.map tv) (l.map fun s => PyData.str (S s))
  | [] => .nil
  | s :: l => .cons (.str _) (dp_strs l)
theorem strs_lay {l : List Cs} (h : ∀ s ∈ l, s ∈ cQ :: [] :: names9) : (strsD l).canLay0 = true ∧ SeqAt.shaped (strsD l) = true := by
  obtain ⟨h1, h2⟩ := layStr l h
  have e : (strsD l).canLay0 = true := by unfold strsD; rw [PyData.canLay0, h1]
  refine ⟨e, ?_⟩
  unfold SeqAt.shaped
  rw [e, Bool.true_and, decide_eq_true_eq]
  unfold strsD
  rw [PyData.depth]
  omega
def rowsD (R : List Row) : PyData := .tuple (R.map encR)
theorem layRow : ∀ R : List Row, (∀ p ∈ R, p.1 ∈ cQ :: [] :: names9) → PyData.canLayAll0 (R.map encR) = true ∧ PyData.depthAll (R.map encR) ≤ 2
  | [], _ => ⟨rfl, by rw [List.map_nil, PyData.depthAll]; decide⟩
  | p :: R, h => by
    obtain ⟨h1, h2⟩ := layRow R fun x m => h x (List.mem_cons_of_mem _ m)
    have t := ten_ok p.1 (h p List.mem_cons_self)
    have e1 : (encR p).canLay0 = true := by unfold encR; simp [PyData.canLay0, PyData.canLayAll0, t]
    have e2 : (encR p).depth = 1 := by unfold encR; simp [PyData.depth, PyData.depthAll]
    rw [List.map_cons, PyData.canLayAll0, PyData.depthAll, h1, e1, e2]
    exact ⟨rfl, by omega⟩
theorem rows_lay {R : List Row} (h : ∀ p ∈ R, p.1 ∈ cQ :: [] :: names9) : (rowsD R).canLay0 = true ∧ SeqAt.shaped (rowsD R) = true := by
  obtain ⟨h1, h2⟩ := layRow R h
  have e : (rowsD R).canLay0 = true := by unfold rowsD; rw [PyData.canLay0, h1]
  refine ⟨e, ?_⟩
  unfold SeqAt.shaped
  rw [e, Bool.true_and, decide_eq_true_eq]
  unfold rowsD
  rw [PyData.depth]
  omega
theorem dp_rows {K : PySem.W.Frag} {H : Hp} : ∀ {ts : List Addr} {R : List Row}, RowsAt H ts R → L2.DpAll K H (ts.map V.ref) (R.map encR)
  | _, _, .nil => .nil
  | _, _, .cons h r => .cons (.tup (SqT.of h) (.cons (.str _) (.cons (.int _) .nil))) (dp_rows r)
theorem erase_take {α : Type} (l : List α) (n : Nat) : l.take n ++ l.drop (n + 1) = l.eraseIdx n := (List.eraseIdx_eq_take_drop_succ l n).symm
end Pg
/-! Lv0 -/
set_option Elab.async false
set_option linter.all false
set_option maxRecDepth 100000
set_option maxHeartbeats 4000000
namespace Pg
open PySem L2 Mr
theorem num_len {k : Nat} (h : k < 100) : (D k).length ≤ 2 := by
  have e := num_ok h
  unfold numFacts at e
  simp only [Bool.and_eq_true, Bool.not_eq_true', decide_eq_true_eq] at e
  exact e.2
theorem name_len {s : Cs} (h : isName s = true) : s.length ≤ 4 := by
  unfold isName at h
  simp only [Bool.and_eq_true, decide_eq_true_eq] at h
  exact h.2.1
theorem sum_le2 {α : Type} (f g : α → Nat) : ∀ l : List α, (∀ x ∈ l, f x ≤ g x) → (l.map f).sum ≤ (l.map g).sum
  | [], _ => Nat.le_refl _
  | a :: l, h => by
    have h1 := h a List.mem_cons_self
    have h2 := sum_le2 f g l fun x hx => h x (List.mem_cons_of_mem _ hx)
    rw [List.map_cons, List.map_cons, List.sum_cons, List.sum_cons]
    omega
theorem joinL_sum : ∀ l : List Cs, (TL.joinL cSep l).length ≤ (l.map fun t => t.length + 2).sum
  | [] => Nat.le_refl _
  | [a] => by simp [TL.joinL]
  | a :: b :: r => by
    have ih := joinL_sum (b :: r)
    show (a ++ (cSep ++ TL.joinL cSep (b :: r))).length ≤ _
    rw [List.length_append, List.length_append, List.map_cons, List.sum_cons]
    have : cSep.length = 2 := rfl
    omega
theorem sum_mul (f : T → Nat) : ∀ l : List T, (l.map fun t => 9 * f t).sum = 9 * (l.map f).sum
  | [] => rfl
  | a :: l => by
    rw [List.map_cons, List.map_cons, List.sum_cons, List.sum_cons, sum_mul f l]
    omega
theorem text_len : ∀ t : T, t.ok → t.text.length + 2 ≤ 9 * t.stp.length
  | .num k, h => by
    rw [T.ok] at h
    have := num_len h
    have e : (T.num k).text = D k := by simp [T.text, T.tok]
    rw [e, T.stp]
    show _ ≤ 9 * 1
    omega
  | .nam s, h => by
    rw [T.ok] at h
    have := name_len h
    have e : (T.nam s).text = s := by simp [T.text, T.tok]
    rw [e, T.stp]
    show _ ≤ 9 * 1
    omega
  | .plus t k, h => by
    rw [T.ok] at h
    have h1 := num_len h.2
    have ih := text_len t h.1
    have h3 : cPlus.length = 3 := rfl
    rw [T.text_plus, T.stp, List.length_append, List.length_append, List.length_append]
    show _ ≤ 9 * (_ + 1)
    omega
  | .node b ts, h => by
    rw [T.ok] at h
    rw [T.text_node, T.stp, List.length_append, List.length_append, List.length_append, List.length_flatten, List.map_map]
    have h1 := joinL_sum (ts.map T.text)
    rw [List.map_map] at h1
    have h2 := sum_le2 ((fun t : Cs => t.length + 2) ∘ T.text) (fun t => 9 * t.stp.length) ts fun t ht => text_len t (h.2 t ht)
    rw [sum_mul] at h2
    have h3 := opn_len b
    have h4 : cEnd.length = 1 := rfl
    have h5 : (ts.map (List.length ∘ fun t => t.stp)).sum = (ts.map fun t => t.stp.length).sum := rfl
    rw [h5]
    show _ ≤ 9 * (_ + 1)
    omega
theorem two_pos (d : Nat) : 1 ≤ 2 ^ d := Nat.one_le_two_pow
theorem Lv.dp {ns : List Cs} {m d : Nat} {t : T} (h : Lv ns m d t) : Dp d t := by
  induction h with
  | num h => exact .num
  | nam h => exact .nam
  | plus r h ih => exact .plus ih
  | @two d b t u r s ih1 ih2 =>
    refine .node (by show 2 ≤ 20; decide) fun x hx => ?_
    rcases List.mem_cons.mp hx with rfl | hx
    · exact ih1
    · rcases List.mem_singleton.mp hx with rfl
      exact ih2
  | three r q h ih1 ih2 =>
    refine .node (by show 3 ≤ 20; decide) fun x hx => ?_
    rcases List.mem_cons.mp hx with rfl | hx
    · exact ih1
    rcases List.mem_cons.mp hx with rfl | hx
    · exact ih2
    · rcases List.mem_singleton.mp hx with rfl
      exact .nam
def Over (ns : List Cs) (t : T) : Prop := ∀ s, Stp.nam s ∈ t.stp → s ∈ ns
theorem Lv.over {ns : List Cs} {m d : Nat} {t : T} (h : Lv ns m d t) : Over ns t := by
  induction h with
  | num h => intro s m; rw [T.stp] at m; cases List.mem_singleton.mp m
  | nam h =>
    intro s m
    rw [T.stp] at m
    cases List.mem_singleton.mp m
    exact h
  | plus r h ih =>
    intro s m
    rw [T.stp] at m
    rcases List.mem_append.mp m with m | m
    · exact ih s m
    · cases List.mem_singleton.mp m
  | @two d b t u r q ih1 ih2 =>
    intro s m
    rw [T.stp] at m
    simp only [List.map_cons, List.map_nil, List.flatten_cons, List.flatten_nil, List.append_nil, List.mem_append] at m
    rcases m with (m | m) | m
    · exact ih1 s m
    · exact ih2 s m
    · cases List.mem_singleton.mp m
  | three r q h ih1 ih2 =>
    intro s m
    rw [T.stp] at m
    simp only [List.map_cons, List.map_nil, List.flatten_cons, List.flatten_nil, List.append_nil, List.mem_append] at m
    rcases m with (m | m | m) | m
    · exact ih1 s m
    · exact ih2 s m
    · rw [T.stp] at m
      cases List.mem_singleton.mp m
      exact h
    · cases List.mem_singleton.mp m
theorem Lv.len1 {ns : List Cs} {m d : Nat} {t : T} (h : Lv ns m d t) : t.stp.length + 2 ≤ 3 * 2 ^ d := by
  induction h with
  | @num d k h => rw [T.stp]; have := two_pos d; show 1 + 2 ≤ _; omega
  | @nam d s h => rw [T.stp]; have := two_pos d; show 1 + 2 ≤ _; omega
  | @plus d k t r h ih =>
    rw [T.stp, List.length_append, Nat.pow_succ]
    show _ + 1 + 2 ≤ _
    have := two_pos d
    omega
  | @two d b t u r s ih1 ih2 =>
    rw [T.stp, List.length_append, Nat.pow_succ]
    simp only [List.map_cons, List.map_nil, List.flatten_cons, List.flatten_nil, List.append_nil, List.length_append]
    show _ + 1 + 2 ≤ _
    omega
  | @three d t u s r q h ih1 ih2 =>
    rw [T.stp, List.length_append, Nat.pow_succ]
    simp only [List.map_cons, List.map_nil, List.flatten_cons, List.flatten_nil, List.append_nil, List.length_append, T.stp]
    show _ + 1 + 2 ≤ _
    have : [Stp.nam s].length = 1 := rfl
    omega
end Pg
/-! Lk6 -/
set_option Elab.async false
set_option linter.all false
set_option maxRecDepth 100000
set_option maxHeartbeats 8000000
namespace Pg
open PySem L2 Mr
theorem nam_text (s : Cs) : (T.nam s).text = s := by simp [T.text, T.tok]
theorem num_text (k : Nat) : (T.num k).text = D k := by simp [T.text, T.tok]
def trEnd : T := .node true [.plus (.nam [117]) 1, .nam [118], .num 2]
theorem end_text : trEnd.text = [109, 97, 120, 40, 117, 32, 43, 32, 49, 44, 32, 118, 44, 32, 50, 41] := by
  unfold trEnd
  rw [T.text_node, List.map_cons, List.map_cons, List.map_cons, List.map_nil, T.text_plus, nam_text, nam_text, num_text]
  decide +kernel
theorem end_str : S [109, 97, 120, 40, 117, 32, 43, 32, 49, 44, 32, 118, 44, 32, 50, 41] = ("max(u + 1, v, 2)" : Str) := by decide +kernel
theorem end_ok : trEnd.ok := by
  unfold trEnd
  simp only [T.ok, List.mem_cons, List.not_mem_nil, or_false]
  refine ⟨rfl, fun t h => ?_⟩
  rcases h with rfl | rfl | rfl
  · simp only [T.ok]; exact ⟨by decide +kernel, by decide⟩
  · simp only [T.ok]; decide +kernel
  · simp only [T.ok]; decide
theorem end_stp : trEnd.stp.length ≤ 64 := by
  unfold trEnd
  simp only [T.stp, List.map_cons, List.map_nil]
  decide
theorem eU : S [117] = ("u" : Str) ∧ S [118] = ("v" : Str) ∧ S cQ = ("q" : Str) := by decide +kernel
def rEnd : List Row := [([117], 1), ([118], 0)]
theorem end_least : leastR (trEnd.atm []) = rEnd := by
  unfold trEnd
  simp only [T.atm, List.map_cons, List.map_nil]
  decide +kernel
theorem end_sort : sortR (trEnd.atm []) = rEnd := by
  have p := sortR_perm (trEnd.atm [])
  have s := sortR_asc (atm_wl [] trEnd end_ok).nd
  rw [end_least] at p
  have n := p.length_eq
  generalize sortR (trEnd.atm []) = R at p s n
  match R, n with
  | [x, y], _ =>
    have hx : x ∈ rEnd := p.mem_iff.mp (by simp)
    have hy : y ∈ rEnd := p.mem_iff.mp (by simp)
    have nn : ([x, y] : List Row).Nodup := p.nodup_iff.mpr (by decide)
    have hxy : x ≠ y := by simpa using nn
    have le : Le (S x.1) (S y.1) := by
      rw [List.map_cons, List.map_cons, List.map_nil, List.pairwise_cons] at s
      exact s.1 _ (by simp)
    unfold rEnd at hx hy ⊢
    simp only [List.mem_cons, List.not_mem_nil, or_false] at hx hy
    rcases hx with rfl | rfl
    · rcases hy with rfl | rfl
      · exact absurd rfl hxy
      · rfl
    · rcases hy with rfl | rfl
      · exact absurd le (by unfold Le; decide +kernel)
      · exact absurd rfl hxy
theorem IsMx.perm {f : Cs → Int} {R R' : List Row} {r : Int} (m : IsMx f R r) (p : R.Perm R') : IsMx f R' r :=
  ⟨m.low, fun x hx => m.up x (p.mem_iff.mpr hx), m.at_.imp_right fun ⟨x, hx, e⟩ => ⟨x, p.mem_iff.mp hx, e⟩⟩
theorem map_erase {α β : Type} (f : α → β) : ∀ (l : List α) (k : Nat), (l.map f).eraseIdx k = (l.eraseIdx k).map f
  | [], _ => rfl
  | _ :: _, 0 => rfl
  | a :: l, k + 1 => by rw [List.map_cons, List.eraseIdx_cons_succ, List.eraseIdx_cons_succ, List.map_cons, map_erase f l k]
theorem noPart_of {σ : St} {H : Hp} {Q : Option Int → Hp → Prop} (h : Q none H) : tNoPart σ H Q := h
theorem slA_of {K : PySem.W.Frag} {H : Hp} {a : Addr} {xs : List V} {lo hi : Option Int} {Q : VK} (hx : SqT K H a xs) (q : ∀ H' p, Same H H' → SqT K H' p (cutV xs lo hi) → Q (.ref p) H') : rSlA K (.ref a) lo hi H Q := by
  refine ⟨a, xs, rfl, hx, fun h => q _ _ (Same.refl _) ?_, fun _ p np => q _ _ (same_new np _) (SqT.of upd_same)⟩
  have e : cutV xs lo hi = xs := by
    unfold cutV
    rw [h.1, h.2, List.drop_zero, Nat.sub_zero, List.take_length]
  rw [e]
  exact hx
theorem catA_of {K : PySem.W.Frag} {H : Hp} {a b : Addr} {xs ys : List V} {Q : VK} (hx : SqT K H a xs) (hy : SqT K H b ys) (l : xs.length + ys.length ≤ sizeLine) (q : ∀ H' p, Same H H' → SqT K H' p (xs ++ ys) → Q (.ref p) H') : rCatA K (.ref a) (.ref b) H Q := by
  refine ⟨a, b, xs, ys, rfl, rfl, hx, hy, l, fun h => q _ _ (Same.refl _) (by rw [h]; exact hy), fun _ h => q _ _ (Same.refl _) (by rw [h, List.append_nil]; exact hx), fun _ _ p np => q _ _ (same_new np _) (SqT.of upd_same)⟩
theorem sIx_some (n d k : Nat) : HT.sIx n d (some (k : Int)) = min k n := by
  show (if ((k : Int) < 0) then ((k : Int) + (n : Int)).toNat else min (k : Int).toNat n) = _
  rw [if_neg (by omega), Int.toNat_natCast]
theorem cut_lo (xs : List V) (k : Nat) : cutV xs none (some (k : Int)) = xs.take k := by
  unfold cutV
  rw [sIx_some, HT.sIx_none, List.drop_zero, Nat.sub_zero, List.take_eq_take_iff]
  omega
theorem cut_hi (xs : List V) (k : Nat) : cutV xs (some (k : Int)) none = xs.drop k := by
  unfold cutV
  rw [sIx_some, HT.sIx_none]
  by_cases c : k ≤ xs.length
  · rw [Nat.min_eq_left c, List.take_of_length_le (by rw [List.length_drop]; exact Nat.le_refl _)]
  · rw [Nat.min_eq_right (by omega), List.drop_of_length_le (Nat.le_refl _), List.drop_of_length_le (by omega), List.take_nil]
theorem RowsAt.erase {H : Hp} : ∀ {ts : List Addr} {R : List Row} (k : Nat), RowsAt H ts R → RowsAt H (ts.eraseIdx k) (R.eraseIdx k)
  | _, _, _, .nil => by rw [List.eraseIdx_nil, List.eraseIdx_nil]; exact .nil
  | _, _, 0, .cons h r => by rw [List.eraseIdx_cons_zero, List.eraseIdx_cons_zero]; exact r
  | _, _, k + 1, .cons h r => by rw [List.eraseIdx_cons_succ, List.eraseIdx_cons_succ]; exact .cons h (RowsAt.erase k r)
theorem q_not9 : cQ ∉ names9 := by decide +kernel
/-- what is worth less without its k-th row, in one of the tries -/
theorem bad_try {nm Z G : List Cs} {t : T} {k : Nat} {p : Row} (okT : t.ok) (lv : Lv nm 5 2 t) (memG : ∀ s, s ∈ G ↔ s ∈ Z ∨ s = cQ) (nq : cQ ∉ nm) (hp : (sortR (t.atm G))[k]? = some p) {fs : List (Cs → Int)} (one : oneF (freeL nm Z) ∈ fs) (far : ∀ g ∈ freeL nm Z, farF (freeL nm Z) g ∈ fs) :
    ∃ f, f ∈ fs ∧ ∀ r, IsMx (ext nm G f) ((sortR (t.atm G)).eraseIdx k) r → r ≠ t.val (ext nm G f) := by
  have w := atm_wl G t okT
  have hq : ∀ s ∈ nm, s ∈ G → s ∈ Z := fun s m g => ((memG s).mp g).resolve_right fun e => nq (by rw [← e]; exact m)
  have hz : ∀ s, s ∈ Z → s ∈ G := fun s m => (memG s).mpr (.inl m)
  have iv : ∀ {f : Cs → Int}, Good nm Z f → IsV (ext nm G f) (t.atm G) (t.val (ext nm G f)) := fun g => (atm_v (ext_z g hq) (ext_p g hz) t okT).2
  have mem : ∀ s, s ∈ (t.atm G).l → s ≠ [] → s ∈ nm ∧ s ∉ Z := fun s m n => ⟨lv.over s (atm_names G t okT s m n), fun z => w.off s m n (hz s z)⟩
  have hpm : p ∈ leastR (t.atm G) := (sortR_perm _).mem_iff.mp (List.mem_of_getElem? hp)
  obtain ⟨⟨p1, p2⟩, p3⟩ := leastR_mem.mp hpm
  have nn := sortR_names w.nd
  have sub : ∀ x ∈ (sortR (t.atm G)).eraseIdx k, x ∈ leastR (t.atm G) ∧ x.1 ≠ p.1 := fun x hx => by
    have hx1 := List.mem_of_mem_eraseIdx hx
    refine ⟨(sortR_perm _).mem_iff.mp hx1, fun e => ?_⟩
    obtain ⟨j, hj, jk⟩ := List.mem_eraseIdx_iff_getElem?.mp hx
    have h1 : ((sortR (t.atm G)).map (·.1))[j]? = some p.1 := by rw [List.getElem?_map, jk, Option.map_some, e]
    have h2 : ((sortR (t.atm G)).map (·.1))[k]? = some p.1 := by rw [List.getElem?_map, hp, Option.map_some]
    have lt := (List.getElem?_eq_some_iff.mp h1).1
    exact hj ((List.getElem?_inj lt nn).mp (h1.trans h2.symm))
  have g1 := iv (one_good nm Z)
  by_cases c : p.1 = []
  · refine ⟨_, one, fun r m => least_one w g1 (p3 c) (fun s hs n => ?_) (fun x hx => ⟨(sub x hx).1, by rw [← c]; exact (sub x hx).2⟩) m⟩
    obtain ⟨a, b⟩ := mem s hs n
    unfold ext oneF
    rw [if_pos a, if_pos (free_mem.mpr ⟨a, b⟩)]
  · obtain ⟨a, b⟩ := mem p.1 p2 c
    have fr := free_mem.mpr ⟨a, b⟩
    refine ⟨_, far p.1 fr, fun r m => least_far w (iv (far_good fr)) p2 c (by unfold ext farF; rw [if_pos a, if_pos rfl]) (fun x hx n => ?_) sub m⟩
    have up := g1.2 x hx
    have le : t.val (ext nm G (oneF (freeL nm Z))) ≤ (5 : Nat) * ((2 : Nat) + 1) := Lv.val_le (fun s => by unfold ext oneF; split; split <;> omega; split <;> omega) lv
    have e : wf (ext nm G (farF (freeL nm Z) p.1)) x = wf (ext nm G (oneF (freeL nm Z))) x := by
      unfold wf
      by_cases d : x = []
      · rw [if_pos d, if_pos d]
      · rw [if_neg d, if_neg d]
        unfold ext
        by_cases d2 : x ∈ nm
        · rw [if_pos d2, if_pos d2]
          unfold farF
          rw [if_neg n]
        · rw [if_neg d2, if_neg d2]
    rw [e]
    have : ((5 : Nat) : Int) * (((2 : Nat) : Int) + 1) = 15 := rfl
    omega
section
variable {P : Program} {w : World} {K : PySem.W.Frag} {mg : Str → Option Value} {base : Heap} {pS pC : Addr}
structure L2x (mg : Str → Option Value) : Prop where
  isi : mg "isinstance" = none
  set : mg "set" = none
  srt : mg "sorted" = none
def spLaw (K : PySem.W.Frag) : Sp := fun vs H Q _ => ∃ (a : Addr) (ns : List Int), vs = [.ref a] ∧ SqL K H a (ns.map V.int) ∧ ns.length ≤ 63 ∧ ∀ H', Q (.bl true) H'
theorem sc_law : FnScope ["_law_script", "_law_k", "_law_box_here", "_law_turn", "_law_names", "_law_told", "_law_zeros", "_law_given", "_law_still", "_law_some", "_law_titles", "_law_tries", "_law_at", "_law_less", "_law_name", "_law_number", "_law_one"] ["_law_script"] (defScope st_law) := ⟨rfl, rfl, rfl, by decide +kernel, rfl, by decide +kernel, by decide +kernel⟩
theorem ok_law {f : Addr} {fd : FuncData} (F : Fun K "law" "law" st_law f fd) (L : Lx mg) (L2 : L2x mg) (c_box : CalX P w K mg base 1 "_law_box" (spBox K)) (c_mixed : CalX P w K mg base 2 "_law_mixed" (spMixed K)) (c_named_some : CalX P w K mg base 3 "_law_named_some" (spSome K))
    (c_level : CalX P w K mg base 6 "_law_level" (spLevel K 3)) (c_text : CalX P w K mg base 5 "_law_text" (spText 4)) (c_worth : CalX P w K mg base 5 "_law_worth" (spVal 4)) (c_lots : CalX P w K mg base 1 "_law_lots" (spLots K))
    (c_greatest : CalX P w K mg base 1 "_law_greatest" (spGreatest K)) (c_trials : CalX P w K mg base 2 "_law_trials" (spTrials K)) (c_atoms : CalX P w K mg base 5 "atoms" (spAtoms K)) :
    FnOk P w K mg base CX0 7 f fd ["_law_script"] (spLaw K) := by
  refine F.ok sc_law (fun vs H Q E h => ?_) (fun cdv A outer s H vs Q E hr h => ?_)
  · obtain ⟨a, ns, rfl, _⟩ := h
    rfl
  obtain ⟨a, ns, rfl, hS, h63, q⟩ := h
  have nd := sc_law.nd
  have hu := hu_of hr
  have hl := Nat.lt_of_succ_lt hu
  refine ⟨_, (pss_cons (ps_for PassesOwn.never rfl (pi_range1 rfl L.range (pa_cons (pe_callB (call_max2 rfl) (by rfl) L.max (by decide +kernel) (pa_cons pe_int (pa_cons (pe_callB (call_min2 rfl) (by rfl) L.min (by decide +kernel) (pa_cons pe_int (pa_cons (pe_callB call_len_seq (by rfl) L.len PySem.boot_len (pa_cons (pv 0) pa_nil)) pa_nil))) pa_nil))) pa_nil)) (pg_name (i := 1) nd rfl (Or.inl rfl)) (pss_cons (ps_set (i := 2) nd rfl (.inl rfl) (C8.pe_c c_box hr (by decide) rfl (pa_cons (pv 0) (pa_cons (pv 1) (pa_cons pe_int pa_nil)))))
      (pss_one (ps_for PassesOwn.never rfl (pi_range1 rfl L.range (pa_cons pe_int pa_nil)) (pg_name (i := 3) nd rfl (Or.inl rfl)) (pss_cons (ps_set (i := 4) nd rfl (.inl rfl) (C8.pe_c c_named_some hr (by decide) rfl (pa_cons (pv 2) (pa_cons pe_int pa_nil))))
      (pss_cons (ps_set (i := 5) nd rfl (.inr rfl) (C8.pe_c c_level hr (by decide) rfl (pa_cons (pv 2) (pa_cons (pv 4) (pa_cons pe_int (pa_cons pe_int (pa_cons pe_bl pa_nil)))))))
      (pss_one (ps_for PassesOwn.never rfl (pi_list (C8.pe_c c_lots hr (by decide) rfl (pa_cons (pv 4) pa_nil))) (pg_name (i := 6) nd rfl (Or.inr rfl)) (pss_cons (ps_set (i := 7) nd rfl (.inl rfl) (C8.pe_c c_mixed hr (by decide) rfl (pa_cons (pv 2) (pa_cons (pe_op op_cat (pe_callTy call_list_of (by rfl) L.list (by decide +kernel) (pa_cons (pv 6) pa_nil)) (pe_lst (pa_cons pe_str pa_nil))) pa_nil))))
      (pss_cons (ps_set (i := 8) nd rfl (.inl rfl) (pe_callTy call_list_of (by rfl) L.list (by decide +kernel) (pa_cons (pv 7) pa_nil)))
      (pss_cons (ps_set (i := 9) nd rfl (.inr rfl) (C8.pe_c c_atoms hr (by decide) rfl (pa_cons (C8.pe_c c_text hr (by decide) rfl (pa_cons (pv 5) pa_nil)) (pa_cons (pv 7) pa_nil))))
      (pss_cons (ps_if (PW.pt (pw_or (pt_not (pt_val (pe_callB call_isi (by rfl) L2.isi (by decide +kernel) (pa_cons (pv 9) (pa_cons (pe_bltn (v := .ty "tuple") (by rfl) L.tup (by decide +kernel) rfl) pa_nil))))) (pw_or (pt_cmpR (op_neD hr.units) (pv 7) (pv 8) (nomark _)) (pw_or1 (pt_cmpR (op_neD hr.units) (C8.pe_c c_atoms hr (by decide) rfl (pa_cons (C8.pe_c c_text hr (by decide) rfl (pa_cons (pv 5) pa_nil)) (pa_cons (pe_callTy call_tuple_of (by rfl) L.tup (by decide +kernel) (pa_cons (pv 7) pa_nil)) pa_nil))) (pv 9) (nomark _)))))) (pss_one (ps_ret pe_bl)) pss_nil)
      (pss_cons (ps_setLc (i := 10) (own := [("_law_name", 14), ("_law_number", 15)]) (g := gTup K 2 (gCons (gName 14) (gCons (gName 15) gNil))) (tt := tYes) rfl nd rfl rfl (sw_true rfl rfl rfl (by decide +kernel)) (pi_tup (pv 9)) (blkOk_by (N := ["_law_script", "_law_k", "_law_box_here", "_law_turn", "_law_names", "_law_told", "_law_zeros", "_law_given", "_law_still", "_law_some", "_law_titles", "_law_tries", "_law_at", "_law_less", "_law_name", "_law_number", "_law_one"]) (sc := defScope st_law) (by decide +kernel)) (fun _ _ _ _ _ => (pg_tup (n := 2) rfl (pgs_cons (pg_name (i := 14) nd rfl (Or.inl rfl) (hf := .inr rfl)) (pgs_cons (pg_name (i := 15) nd rfl (Or.inl rfl) (hf := .inr rfl)) pgs_nil)))) (fun _ _ _ _ _ => pts_nil) (fun _ _ _ _ _ => (pv 14)))
      (pss_cons (ps_if (pt_cmpR (op_neD hr.units) (pv 10) (pe_callB (Sx.cr_sortTO rfl) (by rfl) L2.srt (by decide +kernel) (pa_cons (pe_callTy (Sx.cr_setTexts rfl) (by rfl) L2.set (by decide +kernel) (pa_cons (pe_lc (own := [("_law_name", 14)]) (g := gName 14) (tt := tYes) rfl nd (pi_list (pv 10)) (blkOk_by (N := ["_law_script", "_law_k", "_law_box_here", "_law_turn", "_law_names", "_law_told", "_law_zeros", "_law_given", "_law_still", "_law_some", "_law_titles", "_law_tries", "_law_at", "_law_less", "_law_name", "_law_number", "_law_one"]) (sc := defScope st_law) (by decide +kernel)) (fun _ _ _ _ _ => (pg_name (i := 14) nd rfl (Or.inl rfl))) (fun _ _ _ _ _ => pts_nil) (fun _ _ _ _ _ => (pe_callTy call_str_any (by rfl) L.str (by decide +kernel) (pa_cons (pv 14) pa_nil)))) pa_nil)) pa_nil)) (nomark _)) (pss_one (ps_ret pe_bl)) pss_nil)
      (pss_cons (ps_if (pt_cmpR (op_neD hr.units) (pe_lc (own := [("_law_one", 16)]) (g := gName 16) rfl nd (pi_list (pv 10)) (blkOk_by (N := ["_law_script", "_law_k", "_law_box_here", "_law_turn", "_law_names", "_law_told", "_law_zeros", "_law_given", "_law_still", "_law_some", "_law_titles", "_law_tries", "_law_at", "_law_less", "_law_name", "_law_number", "_law_one"]) (sc := defScope st_law) (by decide +kernel)) (fun _ _ _ _ _ => (pg_name (i := 16) nd rfl (Or.inl rfl))) (fun _ _ _ _ _ => pts_one (pt_cmpR (show OpR _ _ (rIn K false) from op_in_seq) (pv 16) (pv 6) rfl)) (fun _ _ _ _ _ => (pv 16))) (pe_lst pa_nil) (nomark _)) (pss_one (ps_ret pe_bl)) pss_nil)
      (pss_cons (ps_set (i := 11) nd rfl (.inl rfl) (C8.pe_c c_trials hr (by decide) rfl (pa_cons (pv 2) (pa_cons (pv 4) (pa_cons (pv 6) (pa_cons pe_int pa_nil))))))
      (pss_cons (ps_if (pt_cmpR (op_neD hr.units) (pe_lc (own := [("_law_one", 16)]) (g := gName 16) rfl nd (pi_list (pv 11)) (blkOk_by (N := ["_law_script", "_law_k", "_law_box_here", "_law_turn", "_law_names", "_law_told", "_law_zeros", "_law_given", "_law_still", "_law_some", "_law_titles", "_law_tries", "_law_at", "_law_less", "_law_name", "_law_number", "_law_one"]) (sc := defScope st_law) (by decide +kernel)) (fun _ _ _ _ _ => (pg_name (i := 16) nd rfl (Or.inl rfl))) (fun _ _ _ _ _ => pts_one (pt_cmpR op_ne (C8.pe_c c_greatest hr (by decide) rfl (pa_cons (pv 9) (pa_cons (pv 16) pa_nil))) (C8.pe_c c_worth hr (by decide) rfl (pa_cons (pv 5) (pa_cons (pv 16) pa_nil))) (nomark _))) (fun _ _ _ _ _ => (pv 16))) (pe_lst pa_nil) (nomark _)) (pss_one (ps_ret pe_bl)) pss_nil)
      (pss_one (ps_for PassesOwn.never rfl (pi_range1 rfl L.range (pa_cons (pe_callB call_len_seq (by rfl) L.len PySem.boot_len (pa_cons (pv 9) pa_nil)) pa_nil)) (pg_name (i := 12) nd rfl (Or.inl rfl)) (pss_cons (ps_set (i := 13) nd rfl (.inr rfl) (pe_op (show OpR _ _ (rCatA K) from op_catA) (pe_slice (show SlR _ (rSlA K) from sl_tupA) (pv 9) po_none (po_some (pv 12))) (pe_slice (show SlR _ (rSlA K) from sl_tupA) (pv 9) (po_some (pe_op op_add (pv 12) pe_int)) po_none)))
      (pss_one (ps_if (pt_cmpR (op_eq_lens hr.units) (pe_lc (own := [("_law_one", 16)]) (g := gName 16) rfl nd (pi_list (pv 11)) (blkOk_by (N := ["_law_script", "_law_k", "_law_box_here", "_law_turn", "_law_names", "_law_told", "_law_zeros", "_law_given", "_law_still", "_law_some", "_law_titles", "_law_tries", "_law_at", "_law_less", "_law_name", "_law_number", "_law_one"]) (sc := defScope st_law) (by decide +kernel)) (fun _ _ _ _ _ => (pg_name (i := 16) nd rfl (Or.inl rfl))) (fun _ _ _ _ _ => pts_one (pt_cmpR op_ne (C8.pe_c c_greatest hr (by decide) rfl (pa_cons (pv 13) (pa_cons (pv 16) pa_nil))) (C8.pe_c c_worth hr (by decide) rfl (pa_cons (pv 5) (pa_cons (pv 16) pa_nil))) (nomark _))) (fun _ _ _ _ _ => (pv 16))) (pe_lst pa_nil) (nomark _)) (pss_one (ps_ret pe_bl)) pss_nil))))))))))))))))))))))
      (pss_one (ps_ret (pe_cmpR (op_eqD hr.units) (C8.pe_c c_atoms hr (by decide) rfl (pa_cons pe_str (pa_cons (pe_lst pa_nil) pa_nil))) (pe_tup (pa_cons (pe_tup (pa_cons pe_str (pa_cons pe_int pa_nil))) (pa_cons (pe_tup (pa_cons pe_str (pa_cons pe_int pa_nil))) pa_nil))) (nomark _))))), ?_⟩
  have hm : ∀ l : Nat, (1 : Int) ≤ (if (if (l : Int) < 3 then (l : Int) else 3) > 1 then (if (l : Int) < 3 then (l : Int) else 3) else 1) ∧ (if (if (l : Int) < 3 then (l : Int) else 3) > 1 then (if (l : Int) < 3 then (l : Int) else 3) else 1) ≤ 3 := fun l => by
    split <;> split <;> omega
  have hm1 := hm (ns.map V.int).length
  refine ⟨_, rfl, a, _, rfl, .inl hS, _, _, rfl, _, _, rfl, _, rfl, ?_, ?_, for_range (fun i σ H' => ∃ u1 u2 u3 u4 u5 u6 u7 u8 u9 u10 u11 u12 u13 u14 u15 u16, σ = [some (.ref a), u1, u2, u3, u4, u5, u6, u7, u8, u9, u10, u11, u12, u13, u14, u15, u16] ∧ SqL K H' a (ns.map V.int)) ⟨_, _, _, _, _, _, _, _, _, _, _, _, _, _, _, _, rfl, hS⟩ ?turn ?last⟩
  · exact Int.le_trans (by decide) hm1.1
  · exact Int.lt_of_le_of_lt hm1.2 (by decide)
  case last =>
    rintro σ H1 ⟨u1, u2, u3, u4, u5, u6, u7, u8, u9, u10, u11, u12, u13, u14, u15, u16, rfl, hS1⟩
    refine ⟨(by show 0 ≤ sizeLine; decide), fun pE nE => ⟨pE, trEnd.text, trEnd.stp, [], trEnd.atm [], ?_, ?_, T.steps _ end_ok, end_stp, .inl (SqL.of upd_same), ?_, (atm_wl [] trEnd end_ok).nd, Nat.le_trans (atm_len [] trEnd end_ok) end_stp, fun H2 pA ts s2 nA hA ra => ?_⟩⟩
    · rw [end_text, end_str.symm]; rfl
    · rw [end_text]; decide
    · have g := Mr_arun [] trEnd end_ok []
      rw [List.nil_append] at g
      exact g
    · refine ⟨(by show 2 ≤ sizeLine; decide), fun p1 n1 => ⟨(by show 2 ≤ sizeLine; decide), fun p2 n2 => ⟨(by show 2 ≤ sizeLine; decide), fun p3 n3 => ?_⟩⟩⟩
      have t1 := same_new n1 (.tup [.str "u", .int 1])
      have t2 := same_new n2 (.tup [.str "v", .int 0])
      have t3 := same_new n3 (.tup [.ref p1, .ref p2])
      have rb : RowsAt (upd (upd (upd H2 p1 (.tup [.str "u", .int 1])) p2 (.tup [.str "v", .int 0])) p3 (.tup [.ref p1, .ref p2])) [p1, p2] rEnd := by
        refine .cons (t3 _ _ (t2 _ _ ?_)) (.cons (t3 _ _ ?_) .nil)
        · rw [upd_same, ← eU.1]
        · rw [upd_same, ← eU.2.1]
      have rs := rows_lay (R := rEnd) (by decide +kernel)
      rw [end_sort] at ra
      refine ⟨rowsD rEnd, rowsD rEnd, .tup (SqT.of (t3 _ _ (t2 _ _ (t1 _ _ hA)))) (dp_rows (ra.same (t1.trans (t2.trans t3)))), .tup (SqT.of (upd_same (o := .tup [.ref p1, .ref p2]))) (dp_rows rb), rs.2, rs.2, ?_⟩
      rw [SeqAt.eqv_refl _ rs.1]
      exact q _
  case turn =>
    rintro i σ H1 hi ⟨u1, u2, u3, u4, u5, u6, u7, u8, u9, u10, u11, u12, u13, u14, u15, u16, rfl, hS1⟩
    have hi3 : i < 3 := Nat.lt_of_lt_of_le hi (Int.toNat_le.mpr hm1.2)
    refine ⟨_, rfl, _, rfl, a, ns, 0 + (i : Int), 6, rfl, hS1, by omega, by omega, by decide, by decide, fun H2 b s2 nb hb => ?_⟩
    have hSB : SqB K H2 b a (ns.map V.int) := .mk hS1 s2 nb
    refine ⟨_, rfl, by decide, by decide, for_range (n := 6) (fun j σ H' => ∃ u1 u3 u4 u5 u6 u7 u8 u9 u10 u11 u12 u13 u14 u15 u16, σ = [some (.ref a), u1, some (.ref b), u3, u4, u5, u6, u7, u8, u9, u10, u11, u12, u13, u14, u15, u16] ∧ BoxAt H' b ∧ SqB K H' b a (ns.map V.int)) ⟨_, _, _, _, _, _, _, _, _, _, _, _, _, _, _, rfl, hb, hSB⟩ ?one ?all⟩
    case all =>
      rintro σ H' ⟨u1, u3, u4, u5, u6, u7, u8, u9, u10, u11, u12, u13, u14, u15, u16, rfl, hb, hSB⟩
      exact ⟨_, _, _, _, _, _, _, _, _, _, _, _, _, _, _, _, rfl, hSB.get⟩
    case one =>
      rintro j σ H3 hj ⟨u1, u3, u4, u5, u6, u7, u8, u9, u10, u11, u12, u13, u14, u15, u16, rfl, hb, hSB⟩
      refine ⟨_, rfl, b, 3, rfl, hb, by decide, by decide, fun H4 pN nm bx4 npN nbN hN lenN ndN allN => ?_⟩
      have hnm : ∀ s ∈ nm, isName s = true := fun s m => (allN s m).1
      refine ⟨_, rfl, _, rfl, b, pN, nm, 2, 5, rfl, bx4.box, nbN, SqL.of hN, by omega, by omega, by decide, by decide, fun H5 pT t bx5 hT lv => ?_⟩
      have okT : t.ok := lv.ok (by decide) hnm
      have lnT := lv.len1
      have lnT : t.stp.length ≤ 10 := by
        have : 3 * 2 ^ 2 = 12 := rfl
        omega
      have txT := text_len t okT
      have hN5 := bx5.keep pN _ nbN hN
      refine ⟨_, rfl, pN, nm, rfl, SqL.of hN5, by omega, fun H6 pZ zs Zs s6 nZ hZs la hall l64 => ?_⟩
      have bx6 := bx5.same s6
      have bxA : BoxAt H6 b := bx6.box
      have pZb : pZ ≠ b := bx5.box.ne nZ
      have hN6 := s6 _ _ hN5
      have hT6 := hT.same s6
      have hSB6 := (hSB.bx bx4).bx bx6
      refine ⟨pZ, rfl, ⟨_, SqL.of hZs⟩, for_list (K := K) (a := pZ) (xs := zs.map V.ref) (fun n σ H' => ∃ u1 u3 u6 u7 u8 u9 u10 u11 u12 u13 u14 u15 u16, σ = [some (.ref a), u1, some (.ref b), u3, some (.ref pN), some (.ref pT), u6, u7, u8, u9, u10, u11, u12, u13, u14, u15, u16] ∧ Bx H6 H' b)
        ⟨_, _, _, _, _, _, _, _, _, _, _, _, _, rfl, Bx.refl bxA⟩ (fun n σ H' _ ⟨_, _, _, _, _, _, _, _, _, _, _, _, _, _, bx⟩ => SqL.of (bx.keep _ _ pZb hZs)) ?lot ?lend⟩
      case lend =>
        rintro σ H7 ⟨u1, u3, u6, u7, u8, u9, u10, u11, u12, u13, u14, u15, u16, rfl, bx7⟩
        exact ⟨_, _, _, _, _, _, _, _, _, _, _, _, _, _, _, rfl, bx7.box, hSB6.bx bx7⟩
      case lot =>
        rintro n x σ H7 hn ⟨u1, u3, u6, u7, u8, u9, u10, u11, u12, u13, u14, u15, u16, rfl, bx7⟩
        obtain ⟨z, Z, rfl, hZ0, hz⟩ := (la.mono fun c xs e => bx7.tup bxA e).at hn
        have hZm := hall Z (List.mem_of_getElem? hZ0)
        have hN7 := bx7.keep pN _ nbN hN6
        have hT7 := hT6.bx bx7 bxA
        refine ⟨_, rfl, _, rfl, z, Z.map tv, rfl, .inr (SqT.of hz), fun l1 n1 => ⟨(by show 1 ≤ sizeLine; decide), fun l2 n2 => ?_⟩⟩
        refine ⟨l1, l2, _, _, rfl, rfl, (same_new n2 _) _ _ upd_same, upd_same, Nat.le_of_lt (big (by rw [List.length_map]; show _ + 1 ≤ 100000; omega)), fun l3 n3 => ?_⟩
        have s8 : Same H7 (upd (upd (upd H7 l1 (.lst (Z.map tv))) l2 (.lst [.str "q"])) l3 (.lst (Z.map tv ++ [.str "q"]))) := (same_new n1 _).trans ((same_new n2 _).trans (same_new n3 _))
        have hl3 : (upd (upd (upd H7 l1 (.lst (Z.map tv))) l2 (.lst [.str "q"])) l3 (.lst (Z.map tv ++ [.str "q"]))) l3 = some (.lst (Z.map tv ++ [.str "q"])) := upd_same
        have bx8 := bx7.same s8
        have l3b : l3 ≠ b := (bx7.same ((same_new n1 _).trans (same_new n2 _))).box.ne n3
        generalize upd (upd (upd H7 l1 (.lst (Z.map tv))) l2 (.lst [.str "q"])) l3 (.lst (Z.map tv ++ [.str "q"])) = H8 at s8 hl3 bx8
        refine ⟨b, l3, _, rfl, bx8.box, l3b, SqL.of hl3, by rw [List.length_append, List.length_map]; show _ + 1 ≤ 1000; omega, fun H9 pG ys bx9 nG nGb hG perm => ?_⟩
        have eq : Z.map tv ++ [V.str "q"] = (Z ++ [cQ]).map tv := by rw [List.map_append, ← eU.2.2]; rfl
        rw [eq] at perm
        obtain ⟨G, rfl, pG2⟩ := perm_map_inv perm
        have bxB := bx8.trans bx9
        have lG : G.length ≤ 7 := by rw [pG2.length_eq, List.length_append]; show _ + 1 ≤ 7; omega
        have memG : ∀ s, s ∈ G ↔ s ∈ Z ∨ s = cQ := fun s => by rw [pG2.mem_iff, List.mem_append, List.mem_singleton]
        have hN9 := bxB.keep pN _ nbN hN6
        have hT9 := hT6.bx bxB bxA
        have hz9 := (bx9.tup bx8.box (s8 _ _ hz))
        refine ⟨_, rfl, pG, _, rfl, .inl (SqL.of hG), fun pS nS => ?_⟩
        have s10 := same_new nS (.lst (G.map tv))
        have hS10 : upd H9 pS (.lst (G.map tv)) pS = some (.lst (G.map tv)) := upd_same
        generalize upd H9 pS (.lst (G.map tv)) = H10 at s10 hS10
        have hG10 := s10 _ _ hG
        refine ⟨_, rfl, pT, t, 2, rfl, hT9.same s10, by decide, lv.dp, okT, by omega, fun H11 s11 => ⟨_, rfl, pG, t.text, t.stp, G, t.atm G, rfl, by omega, T.steps _ okT, by omega, .inl (SqL.of (s11 _ _ hG10)), ?_, (atm_wl G t okT).nd, Nat.le_trans (atm_len G t okT) (by omega), fun H12 pA ts s12 nA hA ra => ?_⟩⟩
        · have g := Mr_arun G t okT []
          rw [List.nil_append] at g
          exact g
        have sAB := s11.trans s12
        -- the test
        have n12 : ∀ s ∈ G, s ∈ cQ :: [] :: names9 := fun s m => by
          rcases (memG s).mp m with h | h
          · exact List.mem_cons_of_mem _ (List.mem_cons_of_mem _ (allN s (hZm.1 s h)).2)
          · rw [h]; exact List.mem_cons_self
        have gs := strs_lay n12
        have hG12 := sAB _ _ hG10
        have hS12 := sAB _ _ hS10
        refine ⟨_, rfl, .ref pA, .ty "tuple", _, _, true, rfl, .ty "tuple", .base (.tup hA), (by unfold PySem.W.kitOne; rw [if_pos (by decide)]), _, rfl, ?_⟩
        refine iteF ⟨_, rfl, _, rfl, strsD G, strsD G, .lst (SqL.of hG12) (dp_strs G), .lst (SqL.of hS12) (dp_strs G), gs.2, gs.2, _, rfl, ?_⟩
        rw [SeqAt.eqv_refl _ gs.1]
        refine iteF ?_
        have hT12 := (hT9.same s10).same sAB
        generalize hA0 : t.atm G = A0 at ra
        have wlA : Wl G A0 := by rw [← hA0]; exact atm_wl G t okT
        have lenA : A0.l.length ≤ 10 := by rw [← hA0]; exact Nat.le_trans (atm_len G t okT) lnT
        have arunG : arun G [] t.stp = some [A0] := by
          have g := Mr_arun G t okT []
          rw [List.nil_append, hA0] at g
          exact g
        have lenR : (sortR A0).length ≤ 11 := by
          rw [(sortR_perm A0).length_eq]
          exact Nat.le_trans leastR_len (by omega)
        have lts := ra.len
        have rowN : ∀ p ∈ sortR A0, p.1 ≠ [] → p.1 ∈ nm ∧ p.1 ∉ Z := fun p hp n => by
          have h1 := (leastR_mem.mp ((sortR_perm A0).mem_iff.mp hp)).1.2
          refine ⟨?_, fun z => wlA.off _ h1 n ((memG _).mpr (.inl z))⟩
          rw [← hA0] at h1
          exact lv.over _ (atm_names G t okT _ h1 n)
        have row9 : ∀ p ∈ sortR A0, p.1 ∈ cQ :: [] :: names9 := fun p hp => by
          by_cases n : p.1 = []
          · rw [n]; exact List.mem_cons_of_mem _ List.mem_cons_self
          · exact List.mem_cons_of_mem _ (List.mem_cons_of_mem _ (allN _ (rowN p hp n).1).2)
        have rl := rows_lay row9
        refine ⟨_, rfl, pT, t, 2, rfl, hT12, by decide, lv.dp, okT, by omega, fun H13 s13 => ⟨_, rfl, pG, _, rfl, .inl ⟨SqL.of (s13 _ _ hG12), fun pU nU => ?_⟩⟩⟩
        have sU := same_new nU (.tup (G.map tv))
        refine ⟨pU, t.text, t.stp, G, A0, rfl, by omega, T.steps _ okT, by omega, .inr (SqT.of upd_same), arunG, wlA.nd, by omega, fun H14 pA2 ts2 s14 nA2 hA2 ra2 => ?_⟩
        have s14' := s13.trans (sU.trans s14)
        have hA14 := s14' _ _ hA
        have ra14 := ra.same s14'
        refine ⟨_, rfl, rowsD (sortR A0), rowsD (sortR A0), .tup (SqT.of hA2) (dp_rows ra2), .tup (SqT.of hA14) (dp_rows ra14), rl.2, rl.2, _, rfl, ?_⟩
        rw [SeqAt.eqv_refl _ rl.1]
        refine iteF ?_
        have bx14 : Bx H6 H14 b := ((bxB.same s10).same sAB).same s14'
        have hz14 := s14' _ _ (sAB _ _ (s10 _ _ hz9))
        have hN14 := s14' _ _ (sAB _ _ (s10 _ _ hN9))
        have hT14 := hT12.same s14'
        -- titles
        refine ⟨_, rfl, pA, rfl, ⟨_, SqT.of hA14⟩, fun D nD => lc_tup (K := K) (a := pA) (xs := ts.map V.ref) (fun n H' => Same H14 H' ∧ H' D = some (.lst ((((sortR A0).take n).map fun p => p.1).map tv)))
          ⟨same_new nD _, upd_same⟩ (fun n H' _ p => SqT.of (p.1 _ _ hA14)) ?t1 ?t2⟩
        case t1 =>
          rintro m x H' hm ⟨s15, hD⟩
          obtain ⟨t0, p, rfl, hp, ht, htp⟩ := (ra14.same s15).at hm
          refine ⟨t0, _, rfl, SqT.of htp, rfl, _, _, rfl, _, _, rfl, rfl, rfl, _, rfl, _, hD, big (by rw [List.length_map, List.length_map, List.length_take]; omega), same_mut s15 nD, ?_⟩
          rw [upd_same, List.take_succ, hp, List.map_append, List.map_append]
          rfl
        case t2 =>
          rintro H15 ⟨s15, hD⟩
          rw [List.length_map, lts, List.take_length] at hD
          generalize hTi : (sortR A0).map (fun p => p.1) = Ti at hD
          have lTi : Ti.length ≤ 11 := by rw [← hTi, List.length_map]; exact lenR
          have ndTi : Ti.Nodup := by rw [← hTi]; exact sortR_names wlA.nd
          have n9 : ∀ s ∈ Ti, s ∈ cQ :: [] :: names9 := fun s m => by
            rw [← hTi] at m
            obtain ⟨p, hp, rfl⟩ := List.mem_map.mp m
            exact row9 p hp
          have tl := strs_lay n9
          have ascTi : (Ti.map S).Pairwise Le := by
            have h1 := sortR_asc wlA.nd
            rw [← hTi, List.map_map]
            exact h1
          have notZ : ∀ s ∈ Ti, s ∉ Z := fun s m zz => by
            rw [← hTi] at m
            obtain ⟨p, hp, rfl⟩ := List.mem_map.mp m
            by_cases e : p.1 = []
            · have := hnm _ (hZm.1 _ zz)
              rw [e] at this
              exact absurd this (by decide +kernel)
            · exact (rowN p hp e).2 zz
          refine ⟨_, rfl, _, rfl, D, rfl, ⟨_, SqL.of hD⟩, fun E1 nE1 => lc_list (K := K) (a := D) (xs := Ti.map tv) (fun n H' => Same H15 H' ∧ H' E1 = some (.lst ((Ti.take n).map tv))) ⟨same_new nE1 _, upd_same⟩ (fun n H' _ p => SqL.of (p.1 _ _ hD)) ?e1 ?e2⟩
          case e1 =>
            rintro m x H' hm ⟨s16, hE⟩
            obtain ⟨y, hy, rfl⟩ := at_name hm
            have lm := (List.getElem?_eq_some_iff.mp hy).1
            refine ⟨rfl, _, rfl, .inr ⟨_, rfl, _, hE, big (by rw [List.length_map, List.length_take]; omega), same_mut s16 nE1, ?_⟩⟩
            rw [upd_same, List.take_succ, hy, List.map_append]
            rfl
          case e2 =>
            rintro H16 ⟨s16, hE⟩
            rw [List.length_map, List.take_length] at hE
            refine ⟨E1, Ti.map S, rfl, SqL.of (by rw [List.map_map]; exact hE), by rw [List.length_map]; omega, fun p1 n1 => ⟨p1, _, _, rfl, upd_same, by rw [List.length_map]; omega, fun ys p2 so ndy memy leny n2 => ?_⟩⟩
            have eys : ys = Ti.map S := same_sorted (sorted_pw so) ascTi ndy (List.pairwise_map.mpr (ndTi.imp fun n e => n (S_inj.mp e))) fun x => memy x
            have s17 := s16.trans ((same_new n1 _).trans (same_new n2 (.lst (ys.map V.str))))
            have eT : ys.map V.str = Ti.map tv := by rw [eys, List.map_map]; rfl
            refine ⟨strsD Ti, strsD Ti, .lst (SqL.of (s17 _ _ hD)) (dp_strs Ti), .lst (SqL.of upd_same) (by rw [eT]; exact dp_strs Ti), tl.2, tl.2, _, rfl, ?_⟩
            rw [SeqAt.eqv_refl _ tl.1]
            refine iteF ?_
            -- none of the zero names
            refine ⟨_, rfl, D, rfl, ⟨_, SqL.of (s17 _ _ hD)⟩, fun E2 nE2 => lc_list (K := K) (a := D) (xs := Ti.map tv) (fun n H' => Same H15 H' ∧ H' E2 = some (.lst [])) ⟨s17.trans (same_new nE2 _), upd_same⟩ (fun n H' _ p => SqL.of (p.1 _ _ hD)) ?y1 ?y2⟩
            case y1 =>
              rintro m x H' hm ⟨s18, hE⟩
              obtain ⟨y, hy, rfl⟩ := at_name hm
              refine ⟨rfl, _, rfl, _, rfl, z, _, rfl, .inr (SqT.of (s18 _ _ (s15 _ _ hz14))), rfl, List.all_eq_true.mpr (fun x m => flat_names Z x m), _, rfl, ?_⟩
              have e : inV (tv y) (Z.map tv) = decide (y ∈ Z) := inV_names y Z
              rw [show (if (false = true) then !inV (V.str (S y)) (Z.map tv) else inV (V.str (S y)) (Z.map tv)) = decide (y ∈ Z) from e, decide_eq_false (notZ y (List.mem_of_getElem? hy))]
              exact iteF ⟨s18, hE⟩
            case y2 =>
              rintro H18 ⟨s18, hE⟩
              have el := strs_lay (l := []) (fun s m => absurd m List.not_mem_nil)
              refine ⟨(by show 0 ≤ sizeLine; decide), fun p3 n3 => ⟨strsD [], strsD [], .lst (SqL.of ((same_new n3 _) _ _ hE)) .nil, .lst (SqL.of upd_same) .nil, el.2, el.2, _, rfl, ?_⟩⟩
              rw [SeqAt.eqv_refl _ el.1]
              refine iteF ?_
              have s19 := s15.trans (s18.trans (same_new n3 (.lst [])))
              have bx19 := bx14.same s19
              -- the tries
              refine ⟨_, rfl, _, rfl, _, rfl, b, pN, z, nm, Z, rfl, bx19.box, nbN, s19 _ _ hN14, s19 _ _ hz14, ndN, by omega, fun H20 pR ds fs bx20 nR nRb hR df gd one far l20 => ?_⟩
              have bxT : Bx H14 H20 b := (Bx.of_same bx14.box s19).trans bx20
              have hA20 : H20 pA = some (.tup (ts.map V.ref)) := bxT.tup bx14.box hA14
              have ra20 : RowsAt H20 ts (sortR A0) := ra14.mono fun c xs e => bxT.tup bx14.box e
              have hT20 : TreeAt H20 t pT := hT14.bx bxT bx14.box
              have nq : cQ ∉ nm := fun m => q_not9 (allN _ m).2
              have hqZ : ∀ s ∈ nm, s ∈ G → s ∈ Z := fun s m g => ((memG s).mp g).resolve_right fun e => nq (by rw [← e]; exact m)
              have hzG : ∀ s, s ∈ Z → s ∈ G := fun s m => (memG s).mpr (.inl m)
              have iv : ∀ f ∈ fs, IsV (ext nm G f) A0 (t.val (ext nm G f)) := fun f m => by rw [← hA0]; exact (atm_v (ext_z (gd f m) hqZ) (ext_p (gd f m) hzG) t okT).2
              have vN : ∀ (f : Cs → Int) s, s ∈ nm → valV (numK nm f) (Sum.inr (S s)) = some (.int (ext nm G f s)) := fun f s m => by
                unfold numK ext
                rw [valV_names, if_pos m, if_pos m]
              have ovT := lv.over
              refine ⟨_, rfl, pR, rfl, ⟨_, SqL.of hR⟩, fun E3 nE3 => lc_list (K := K) (a := pR) (xs := ds.map V.ref) (fun n H' => Same H20 H' ∧ H' E3 = some (.lst [])) ⟨same_new nE3 _, upd_same⟩ (fun n H' _ p => SqL.of (p.1 _ _ hR)) ?r1 ?r2⟩
              case r1 =>
                rintro m x H' hm ⟨s21, hE⟩
                obtain ⟨c, f, rfl, hf, hc⟩ := (df.same s21).at hm
                have mf := List.mem_of_getElem? hf
                refine ⟨rfl, _, rfl, _, rfl, pA, c, ts, sortR A0, numK nm f, ext nm G f, rfl, SqT.of (s21 _ _ hA20), ra20.same s21, .inl hc, fun p hp n => vN f _ (rowN p hp n).1, by omega, fun H22 r s22 mx => ⟨_, rfl, _, rfl, pT, c, t, 2, ext nm G f, rfl, (hT20.same s21).same s22, by decide, lv.dp, okT, ⟨_, s22 _ _ hc, fun s hs => vN f s (ovT s hs)⟩, fun H23 s23 => ?_⟩⟩
                have e := least_v (ext_p (gd f mf) hzG) wlA (iv f mf) (mx.perm (sortR_perm A0))
                rw [e]
                refine ⟨rfl, _, rfl, ?_⟩
                rw [eq_self]
                exact iteF ⟨s21.trans (s22.trans s23), s22.trans s23 _ _ hE⟩
              case r2 =>
                rintro H21 ⟨s21, hE⟩
                refine ⟨(by show 0 ≤ sizeLine; decide), fun p4 n4 => ⟨strsD [], strsD [], .lst (SqL.of ((same_new n4 _) _ _ hE)) .nil, .lst (SqL.of upd_same) .nil, el.2, el.2, _, rfl, ?_⟩⟩
                rw [SeqAt.eqv_refl _ el.1]
                refine iteF ?_
                have s24 := s21.trans (same_new n4 (.lst []))
                have hA24 := s24 _ _ hA20
                -- without each one
                refine ⟨_, rfl, pA, _, rfl, .inr (SqT.of hA24), _, rfl, ?_, ?_, for_range (fun k σ H' => ∃ u12 u13 u14 u15 u16, σ = [some (.ref a), u1, some (.ref b), u3, some (.ref pN), some (.ref pT), some (.ref z), some (.ref pG), some (.ref pS), some (.ref pA), some (.ref D), some (.ref pR), u12, u13, u14, u15, u16] ∧ Same H20 H') ⟨_, _, _, _, _, rfl, s24⟩ ?k1 ?k2⟩
                · omega
                · rw [List.length_map]; omega
                case k2 =>
                  rintro σ H25 ⟨u12, u13, u14, u15, u16, rfl, s25⟩
                  exact ⟨_, _, _, _, _, _, _, _, _, _, _, _, _, rfl, (bx14.trans bxT).same s25⟩
                case k1 =>
                  rintro k σ H25 hk ⟨u12, u13, u14, u15, u16, rfl, s25⟩
                  have hA25 := s25 _ _ hA20
                  rw [List.length_map, Int.toNat_natCast] at hk
                  have hk2 : k < (sortR A0).length := by rw [← lts]; exact hk
                  have l26 : (ts.map V.ref).length ≤ 100 := by rw [List.length_map]; omega
                  refine ⟨_, rfl, _, rfl, _, rfl, ?_⟩
                  refine slA_of (SqT.of hA25) fun H26 q1 s26 h26 => ?_
                  refine ⟨_, rfl, ?_⟩
                  refine ⟨_, rfl, _, _, rfl, rfl, ?_⟩
                  refine ⟨_, rfl, ?_⟩
                  refine noPart_of ?_
                  refine slA_of (SqT.of (s26 _ _ hA25)) fun H27 q2 s27 h27 => ?_
                  refine catA_of (Same.tup s27 h26) h27 ?_ fun H28 q3 s28 h28 => ?_
                  · refine Nat.le_of_lt (big ?_)
                    have c1 := cutV_length (ts.map V.ref) none (some (0 + (k : Int)))
                    have c2 := cutV_length (ts.map V.ref) (some (0 + (k : Int) + 1)) none
                    omega
                  have ecut : cutV (ts.map V.ref) none (some (0 + (k : Int))) ++ cutV (ts.map V.ref) (some (0 + (k : Int) + 1)) none = (ts.eraseIdx k).map V.ref := by
                    rw [show (0 + (k : Int)) = ((k : Nat) : Int) by omega, show ((k : Nat) : Int) + 1 = ((k + 1 : Nat) : Int) by omega, cut_lo, cut_hi, erase_take, map_erase]
                  rw [ecut] at h28
                  have s28' := s25.trans (s26.trans (s27.trans s28))
                  have raE : RowsAt H28 (ts.eraseIdx k) ((sortR A0).eraseIdx k) := (ra20.same s28').erase k
                  obtain ⟨f0, mf0, bad⟩ := bad_try (k := k) okT lv memG nq (by rw [hA0]; exact List.getElem?_eq_getElem hk2) one far
                  rw [hA0] at bad
                  obtain ⟨j0, hj0⟩ := List.mem_iff_getElem?.mp mf0
                  have lE : ((sortR A0).eraseIdx k).length ≤ 11 := Nat.le_trans (List.length_eraseIdx_le _ _) lenR
                  have ldf := df.len
                  refine ⟨_, rfl, pR, rfl, ⟨_, SqL.of (s28' _ _ hR)⟩, fun E4 nE4 => lc_list (K := K) (a := pR) (xs := ds.map V.ref) (fun n H' => Same H28 H' ∧ ∃ xs, H' E4 = some (.lst xs) ∧ xs.length ≤ n ∧ (j0 < n → xs ≠ [])) ⟨same_new nE4 _, _, upd_same, Nat.le_refl _, fun h => absurd h (Nat.not_lt_zero _)⟩ (fun n H' _ p => SqL.of (p.1 _ _ (s28' _ _ hR))) ?z1 ?z2⟩
                  case z1 =>
                    rintro m x H' hm ⟨s29, xs, hE4, lx, nx⟩
                    have s29' := s28'.trans s29
                    obtain ⟨c, f, rfl, hf, hc⟩ := (df.same s29').at hm
                    have mf := List.mem_of_getElem? hf
                    have lm := (List.getElem?_eq_some_iff.mp hf).1
                    refine ⟨rfl, _, rfl, _, rfl, q3, c, ts.eraseIdx k, (sortR A0).eraseIdx k, numK nm f, ext nm G f, rfl, Same.tup s29 h28, raE.same s29, .inl hc, fun p hp n => vN f _ (rowN p (List.mem_of_mem_eraseIdx hp) n).1, by omega, fun H30 r s30 mx => ⟨_, rfl, _, rfl, pT, c, t, 2, ext nm G f, rfl, (hT20.same s29').same s30, by decide, lv.dp, okT, ⟨_, s30 _ _ hc, fun s hs => vN f s (ovT s hs)⟩, fun H31 s31 => ?_⟩⟩
                    have s31' := s29.trans (s30.trans s31)
                    have hE31 := (s30.trans s31) _ _ hE4
                    refine ⟨rfl, _, rfl, ?_⟩
                    rw [show decide (V.int r = V.int (t.val (ext nm G f))) = decide (r = t.val (ext nm G f)) from int_eq _ _]
                    by_cases e : r = t.val (ext nm G f)
                    · rw [decide_eq_true e]
                      refine iteF ⟨s31', xs, hE31, by omega, fun h => nx ?_⟩
                      rcases Nat.lt_or_ge j0 m with h2 | h2
                      · exact h2
                      · have : m = j0 := by omega
                        subst this
                        rw [hj0] at hf
                        cases hf
                        exact absurd e (bad r mx)
                    · rw [decide_eq_false e]
                      refine iteT ⟨_, rfl, xs, hE31, big (by omega), same_mut s31' nE4, _, upd_same, by rw [List.length_append]; exact Nat.succ_le_succ lx, fun _ => by simp⟩
                  case z2 =>
                    rintro H29 ⟨s29, xs, hE4, lx, nx⟩
                    have ne : xs ≠ [] := nx (by rw [List.length_map, ldf]; exact (List.getElem?_eq_some_iff.mp hj0).1)
                    refine ⟨(by show 0 ≤ sizeLine; decide), fun p5 n5 => ⟨E4, p5, xs, [], rfl, rfl, SqL.of ((same_new n5 _) _ _ hE4), SqL.of upd_same, .inl ⟨fun z => ne (List.length_eq_zero_iff.mp z), _, rfl, ?_⟩⟩⟩
                    exact iteF ⟨_, _, _, _, _, rfl, (s28'.trans s29).trans (same_new n5 _)⟩

end
end Pg
/-! Z -/
set_option Elab.async false
set_option linter.all false
set_option maxRecDepth 100000
set_option maxHeartbeats 8000000
namespace Pg
open PySem L2 Mr
theorem signs_vals {t1 t2 t3 t4 t5 : Nat} : Vals (signs.map fun g => V.str (S g)) (#[Value.str "max(" t1, Value.str "imax(" t2, Value.str " + " t3, Value.str ", " t4, Value.str ")" t5] : Array Value).toList := by
  have e : (signs.map fun g => V.str (S g)) = [.str "max(", .str "imax(", .str " + ", .str ", ", .str ")"] := by decide +kernel
  rw [e]
  exact .cons ⟨_, rfl⟩ (.cons ⟨_, rfl⟩ (.cons ⟨_, rfl⟩ (.cons ⟨_, rfl⟩ (.cons ⟨_, rfl⟩ .nil))))
theorem vac {P : Program} {w : World} {K : PySem.W.Frag} {mg : Str → Option Value} {base : Heap} {k : Nat} {f : Addr} {fd : FuncData} {ps : List Str} {sp : Sp} (no : ∀ vs H Q E, ¬ sp vs H Q E) : FnOk P w K mg base CX0 k f fd ps sp :=
  ⟨fun vs H Q E h => absurd h (no vs H Q E), fun A outer s H args us vs Q E _ _ _ _ h => absurd h (no vs H Q E)⟩
theorem no_level {K : PySem.W.Frag} {vs H Q E} (h : spLevel K 0 vs H Q E) : False := by
  obtain ⟨b, a, ns, deep, most, _, _, _, _, _, _, h, _⟩ := h
  omega
theorem no_text {vs H Q E} (h : spText 0 vs H Q E) : False := by
  obtain ⟨a, t, m, _, _, h, _⟩ := h
  omega
theorem no_val {vs H Q E} (h : spVal 0 vs H Q E) : False := by
  obtain ⟨a, d, t, m, f, _, _, h, _⟩ := h
  omega
theorem all_mk {l : PySem.W.OpenLaw} {w : World} {K : PySem.W.Frag} {h : Heap} {mg : Str → Option Value} {fa fS fC f1 f2 f3 f4 f5 f6 f7 f8 f9 f10 f11 f12 f13 f14 f15 f16 f17 f18 f19 f20 f21 f22 f23 f24 f25 : Addr} (X : K.In h) (G : h.Ns mainGlobals mg) (hfa : mg "law" = some (.ref fa))
    {od1 an1 od2 an2 od3 an3 od4 an4 od5 an5 od6 an6 od7 an7 od8 an8 od9 an9 od10 an10 od11 an11 od12 an12 od13 an13 od14 an14 od15 an15 od16 an16 od17 an17 od18 an18 od19 an19 od20 an20 od21 an21 od22 an22 od23 an23 od24 an24 od25 an25 : Option Addr} {sl1 sl2 sl3 sl4 sl5 sl6 sl7 sl8 sl9 sl10 sl11 sl12 sl13 sl14 sl15 sl16 sl17 sl18 sl19 sl20 sl21 sl22 sl23 sl24 sl25 : Array (Option Value)} {oc1 kV1 dc1 pm1 cd1 ct1 oc2 kV2 dc2 pm2 cd2 ct2 oc3 kV3 dc3 pm3 cd3 ct3 oc4 kV4 dc4 pm4 cd4 ct4 oc5 kV5 dc5 pm5 cd5 ct5 oc6 kV6 dc6 pm6 cd6 ct6 oc7 kV7 dc7 pm7 cd7 ct7 oc8 kV8 dc8 pm8 cd8 ct8 oc9 kV9 dc9 pm9 cd9 ct9 oc10 kV10 dc10 pm10 cd10 ct10 oc11 kV11 dc11 pm11 cd11 ct11 oc12 kV12 dc12 pm12 cd12 ct12 oc13 kV13 dc13 pm13 cd13 ct13 oc14 kV14 dc14 pm14 cd14 ct14 oc15 kV15 dc15 pm15 cd15 ct15 oc16 kV16 dc16 pm16 cd16 ct16 oc17 kV17 dc17 pm17 cd17 ct17 oc18 kV18 dc18 pm18 cd18 ct18 oc19 kV19 dc19 pm19 cd19 ct19 oc20 kV20 dc20 pm20 cd20 ct20 oc21 kV21 dc21 pm21 cd21 ct21 oc22 kV22 dc22 pm22 cd22 ct22 oc23 kV23 dc23 pm23 cd23 ct23 oc24 kV24 dc24 pm24 cd24 ct24 oc25 kV25 dc25 pm25 cd25 ct25 : Value}
    {t1 t2 t3 t4 t5 nS nD : Nat} {es : Array DictEntry}
    (a1 : PySem.W.nsIn K mainGlobals "is_name" = some (some (.ref f1))) (l1 : K.lookup f1 = some ⟨oc1, od1, .func (PySem.W.fnOf "is_name" "is_name" (defArgs st_is_name) (defBody st_is_name) (defScope st_is_name) .none kV1 dc1 pm1 an1 cd1 ct1), sl1⟩) (c1 : PySem.W.codeIn K cd1 "is_name" = true) (k1 : PySem.W.keepIn K (.ref f1) = true)
    (a2 : PySem.W.nsIn K mainGlobals "is_numeral" = some (some (.ref f2))) (l2 : K.lookup f2 = some ⟨oc2, od2, .func (PySem.W.fnOf "is_numeral" "is_numeral" (defArgs st_is_numeral) (defBody st_is_numeral) (defScope st_is_numeral) .none kV2 dc2 pm2 an2 cd2 ct2), sl2⟩) (c2 : PySem.W.codeIn K cd2 "is_numeral" = true) (k2 : PySem.W.keepIn K (.ref f2) = true)
    (a3 : PySem.W.nsIn K mainGlobals "_is_full" = some (some (.ref f3))) (l3 : K.lookup f3 = some ⟨oc3, od3, .func (PySem.W.fnOf "_is_full" "_is_full" (defArgs st__is_full) (defBody st__is_full) (defScope st__is_full) .none kV3 dc3 pm3 an3 cd3 ct3), sl3⟩) (c3 : PySem.W.codeIn K cd3 "_is_full" = true) (k3 : PySem.W.keepIn K (.ref f3) = true)
    (a4 : PySem.W.nsIn K mainGlobals "_leaf" = some (some (.ref f4))) (l4 : K.lookup f4 = some ⟨oc4, od4, .func (PySem.W.fnOf "_leaf" "_leaf" (defArgs st__leaf) (defBody st__leaf) (defScope st__leaf) .none kV4 dc4 pm4 an4 cd4 ct4), sl4⟩) (c4 : PySem.W.codeIn K cd4 "_leaf" = true) (k4 : PySem.W.keepIn K (.ref f4) = true)
    (a5 : PySem.W.nsIn K mainGlobals "_token_at" = some (some (.ref f5))) (l5 : K.lookup f5 = some ⟨oc5, od5, .func (PySem.W.fnOf "_token_at" "_token_at" (defArgs st__token_at) (defBody st__token_at) (defScope st__token_at) .none kV5 dc5 pm5 an5 cd5 ct5), sl5⟩) (c5 : PySem.W.codeIn K cd5 "_token_at" = true) (k5 : PySem.W.keepIn K (.ref f5) = true)
    (a6 : PySem.W.nsIn K mainGlobals "tokens_of" = some (some (.ref f6))) (l6 : K.lookup f6 = some ⟨oc6, od6, .func (PySem.W.fnOf "tokens_of" "tokens_of" (defArgs st_tokens_of) (defBody st_tokens_of) (defScope st_tokens_of) .none kV6 dc6 pm6 an6 cd6 ct6), sl6⟩) (c6 : PySem.W.codeIn K cd6 "tokens_of" = true) (k6 : PySem.W.keepIn K (.ref f6) = true)
    (a7 : PySem.W.nsIn K mainGlobals "steps_of" = some (some (.ref f7))) (l7 : K.lookup f7 = some ⟨oc7, od7, .func (PySem.W.fnOf "steps_of" "steps_of" (defArgs st_steps_of) (defBody st_steps_of) (defScope st_steps_of) .none kV7 dc7 pm7 an7 cd7 ct7), sl7⟩) (c7 : PySem.W.codeIn K cd7 "steps_of" = true) (k7 : PySem.W.keepIn K (.ref f7) = true)
    (a8 : PySem.W.nsIn K mainGlobals "read_level" = some (some (.ref f8))) (l8 : K.lookup f8 = some ⟨oc8, od8, .func (PySem.W.fnOf "read_level" "read_level" (defArgs st_read_level) (defBody st_read_level) (defScope st_read_level) .none kV8 dc8 pm8 an8 cd8 ct8), sl8⟩) (c8 : PySem.W.codeIn K cd8 "read_level" = true) (k8 : PySem.W.keepIn K (.ref f8) = true)
    (a9 : PySem.W.nsIn K mainGlobals "_greatest" = some (some (.ref f9))) (l9 : K.lookup f9 = some ⟨oc9, od9, .func (PySem.W.fnOf "_greatest" "_greatest" (defArgs st__greatest) (defBody st__greatest) (defScope st__greatest) .none kV9 dc9 pm9 an9 cd9 ct9), sl9⟩) (c9 : PySem.W.codeIn K cd9 "_greatest" = true) (k9 : PySem.W.keepIn K (.ref f9) = true)
    (a10 : PySem.W.nsIn K mainGlobals "atoms_in" = some (some (.ref f10))) (l10 : K.lookup f10 = some ⟨oc10, od10, .func (PySem.W.fnOf "atoms_in" "atoms_in" (defArgs st_atoms_in) (defBody st_atoms_in) (defScope st_atoms_in) .none kV10 dc10 pm10 an10 cd10 ct10), sl10⟩) (c10 : PySem.W.codeIn K cd10 "atoms_in" = true) (k10 : PySem.W.keepIn K (.ref f10) = true)
    (a11 : PySem.W.nsIn K mainGlobals "least_atoms" = some (some (.ref f11))) (l11 : K.lookup f11 = some ⟨oc11, od11, .func (PySem.W.fnOf "least_atoms" "least_atoms" (defArgs st_least_atoms) (defBody st_least_atoms) (defScope st_least_atoms) .none kV11 dc11 pm11 an11 cd11 ct11), sl11⟩) (c11 : PySem.W.codeIn K cd11 "least_atoms" = true) (k11 : PySem.W.keepIn K (.ref f11) = true)
    (a12 : PySem.W.nsIn K mainGlobals "atoms" = some (some (.ref f12))) (l12 : K.lookup f12 = some ⟨oc12, od12, .func (PySem.W.fnOf "atoms" "atoms" (defArgs st_atoms) (defBody st_atoms) (defScope st_atoms) .none kV12 dc12 pm12 an12 cd12 ct12), sl12⟩) (c12 : PySem.W.codeIn K cd12 "atoms" = true) (k12 : PySem.W.keepIn K (.ref f12) = true)
    (a13 : PySem.W.nsIn K mainGlobals "_law_box" = some (some (.ref f13))) (l13 : K.lookup f13 = some ⟨oc13, od13, .func (PySem.W.fnOf "_law_box" "_law_box" (defArgs st__law_box) (defBody st__law_box) (defScope st__law_box) .none kV13 dc13 pm13 an13 cd13 ct13), sl13⟩) (c13 : PySem.W.codeIn K cd13 "_law_box" = true) (k13 : PySem.W.keepIn K (.ref f13) = true)
    (a14 : PySem.W.nsIn K mainGlobals "_law_take" = some (some (.ref f14))) (l14 : K.lookup f14 = some ⟨oc14, od14, .func (PySem.W.fnOf "_law_take" "_law_take" (defArgs st__law_take) (defBody st__law_take) (defScope st__law_take) .none kV14 dc14 pm14 an14 cd14 ct14), sl14⟩) (c14 : PySem.W.codeIn K cd14 "_law_take" = true) (k14 : PySem.W.keepIn K (.ref f14) = true)
    (a15 : PySem.W.nsIn K mainGlobals "_law_pick" = some (some (.ref f15))) (l15 : K.lookup f15 = some ⟨oc15, od15, .func (PySem.W.fnOf "_law_pick" "_law_pick" (defArgs st__law_pick) (defBody st__law_pick) (defScope st__law_pick) .none kV15 dc15 pm15 an15 cd15 ct15), sl15⟩) (c15 : PySem.W.codeIn K cd15 "_law_pick" = true) (k15 : PySem.W.keepIn K (.ref f15) = true)
    (a16 : PySem.W.nsIn K mainGlobals "_law_mixed" = some (some (.ref f16))) (l16 : K.lookup f16 = some ⟨oc16, od16, .func (PySem.W.fnOf "_law_mixed" "_law_mixed" (defArgs st__law_mixed) (defBody st__law_mixed) (defScope st__law_mixed) .none kV16 dc16 pm16 an16 cd16 ct16), sl16⟩) (c16 : PySem.W.codeIn K cd16 "_law_mixed" = true) (k16 : PySem.W.keepIn K (.ref f16) = true)
    (a17 : PySem.W.nsIn K mainGlobals "_law_level" = some (some (.ref f17))) (l17 : K.lookup f17 = some ⟨oc17, od17, .func (PySem.W.fnOf "_law_level" "_law_level" (defArgs st__law_level) (defBody st__law_level) (defScope st__law_level) .none kV17 dc17 pm17 an17 cd17 ct17), sl17⟩) (c17 : PySem.W.codeIn K cd17 "_law_level" = true) (k17 : PySem.W.keepIn K (.ref f17) = true)
    (a18 : PySem.W.nsIn K mainGlobals "_law_parts" = some (some (.ref f18))) (l18 : K.lookup f18 = some ⟨oc18, od18, .func (PySem.W.fnOf "_law_parts" "_law_parts" (defArgs st__law_parts) (defBody st__law_parts) (defScope st__law_parts) .none kV18 dc18 pm18 an18 cd18 ct18), sl18⟩) (c18 : PySem.W.codeIn K cd18 "_law_parts" = true) (k18 : PySem.W.keepIn K (.ref f18) = true)
    (a19 : PySem.W.nsIn K mainGlobals "_law_text" = some (some (.ref f19))) (l19 : K.lookup f19 = some ⟨oc19, od19, .func (PySem.W.fnOf "_law_text" "_law_text" (defArgs st__law_text) (defBody st__law_text) (defScope st__law_text) .none kV19 dc19 pm19 an19 cd19 ct19), sl19⟩) (c19 : PySem.W.codeIn K cd19 "_law_text" = true) (k19 : PySem.W.keepIn K (.ref f19) = true)
    (a20 : PySem.W.nsIn K mainGlobals "_law_worth" = some (some (.ref f20))) (l20 : K.lookup f20 = some ⟨oc20, od20, .func (PySem.W.fnOf "_law_worth" "_law_worth" (defArgs st__law_worth) (defBody st__law_worth) (defScope st__law_worth) .none kV20 dc20 pm20 an20 cd20 ct20), sl20⟩) (c20 : PySem.W.codeIn K cd20 "_law_worth" = true) (k20 : PySem.W.keepIn K (.ref f20) = true)
    (a21 : PySem.W.nsIn K mainGlobals "_law_lots" = some (some (.ref f21))) (l21 : K.lookup f21 = some ⟨oc21, od21, .func (PySem.W.fnOf "_law_lots" "_law_lots" (defArgs st__law_lots) (defBody st__law_lots) (defScope st__law_lots) .none kV21 dc21 pm21 an21 cd21 ct21), sl21⟩) (c21 : PySem.W.codeIn K cd21 "_law_lots" = true) (k21 : PySem.W.keepIn K (.ref f21) = true)
    (a22 : PySem.W.nsIn K mainGlobals "_law_named_some" = some (some (.ref f22))) (l22 : K.lookup f22 = some ⟨oc22, od22, .func (PySem.W.fnOf "_law_named_some" "_law_named_some" (defArgs st__law_named_some) (defBody st__law_named_some) (defScope st__law_named_some) .none kV22 dc22 pm22 an22 cd22 ct22), sl22⟩) (c22 : PySem.W.codeIn K cd22 "_law_named_some" = true) (k22 : PySem.W.keepIn K (.ref f22) = true)
    (a23 : PySem.W.nsIn K mainGlobals "_law_greatest" = some (some (.ref f23))) (l23 : K.lookup f23 = some ⟨oc23, od23, .func (PySem.W.fnOf "_law_greatest" "_law_greatest" (defArgs st__law_greatest) (defBody st__law_greatest) (defScope st__law_greatest) .none kV23 dc23 pm23 an23 cd23 ct23), sl23⟩) (c23 : PySem.W.codeIn K cd23 "_law_greatest" = true) (k23 : PySem.W.keepIn K (.ref f23) = true)
    (a24 : PySem.W.nsIn K mainGlobals "_law_trials" = some (some (.ref f24))) (l24 : K.lookup f24 = some ⟨oc24, od24, .func (PySem.W.fnOf "_law_trials" "_law_trials" (defArgs st__law_trials) (defBody st__law_trials) (defScope st__law_trials) .none kV24 dc24 pm24 an24 cd24 ct24), sl24⟩) (c24 : PySem.W.codeIn K cd24 "_law_trials" = true) (k24 : PySem.W.keepIn K (.ref f24) = true)
    (a25 : PySem.W.nsIn K mainGlobals "law" = some (some (.ref f25))) (l25 : K.lookup f25 = some ⟨oc25, od25, .func (PySem.W.fnOf "law" "law" (defArgs st_law) (defBody st_law) (defScope st_law) .none kV25 dc25 pm25 an25 cd25 ct25), sl25⟩) (c25 : PySem.W.codeIn K cd25 "law" = true) (k25 : PySem.W.keepIn K (.ref f25) = true)
    (z1 : PySem.W.nsIn K mainGlobals "abs" = some none)
    (z2 : PySem.W.nsIn K mainGlobals "int" = some none)
    (z3 : PySem.W.nsIn K mainGlobals "len" = some none)
    (z4 : PySem.W.nsIn K mainGlobals "list" = some none)
    (z5 : PySem.W.nsIn K mainGlobals "range" = some none)
    (z6 : PySem.W.nsIn K mainGlobals "str" = some none)
    (z7 : PySem.W.nsIn K mainGlobals "tuple" = some none)
    (z8 : PySem.W.nsIn K mainGlobals "dict" = some none)
    (z9 : PySem.W.nsIn K mainGlobals "max" = some none)
    (z10 : PySem.W.nsIn K mainGlobals "min" = some none)
    (z11 : PySem.W.nsIn K mainGlobals "isinstance" = some none)
    (z12 : PySem.W.nsIn K mainGlobals "sorted" = some none)
    (z13 : PySem.W.nsIn K mainGlobals "set" = some none)
    (z14 : PySem.W.nsIn K mainGlobals "all" = some none)
    (aS : PySem.W.nsIn K mainGlobals "SIGNS" = some (some (.ref fS))) (lS : K.lookup fS = some ⟨.type "tuple", none, .seq #[.str "max(" t1, .str "imax(" t2, .str " + " t3, .str ", " t4, .str ")" t5] nS, #[]⟩)
    (aC : PySem.W.nsIn K mainGlobals "CALLS" = some (some (.ref fC))) (lC : K.lookup fC = some ⟨.type "dict", none, .dict es nD, #[]⟩) (kC : PySem.W.KeysLit w.params es.toList) (nC : (fC == sysModules) = false)
    (pC : Paired (fun (kv : Str × V) (e : DictEntry) => (∃ t, e.key = .str kv.1 t) ∧ RelV kv.2 e.val) [("max(", .str "max"), ("imax(", .str "imax")] es.toList) :
    ∃ fd : FuncData, (∀ (s : Shared) (v : Value), BindsTo s fd ⟨[v], []⟩ [("_law_script", v)]) ∧ ∀ base : Heap, K.In base → base.Ns mainGlobals mg → FnOk l.prog w K mg base CX0 7 fa fd ["_law_script"] (spLaw K) := by
  have e := hfa.symm.trans (PySem.W.mg_of X G a25)
  cases e
  have F1 := fun_mk (st := st_is_name) l1 c1 k1
  have b1 := F1.binds (ps := ["thing"]) fun _ _ _ _ _ _ us hl => match us, hl with | [_], _ => rfl
  have m1 := PySem.W.mg_of X G a1
  have F2 := fun_mk (st := st_is_numeral) l2 c2 k2
  have b2 := F2.binds (ps := ["word"]) fun _ _ _ _ _ _ us hl => match us, hl with | [_], _ => rfl
  have m2 := PySem.W.mg_of X G a2
  have F3 := fun_mk (st := st__is_full) l3 c3 k3
  have b3 := F3.binds (ps := ["call", "count"]) fun _ _ _ _ _ _ us hl => match us, hl with | [_, _], _ => rfl
  have m3 := PySem.W.mg_of X G a3
  have F4 := fun_mk (st := st__leaf) l4 c4 k4
  have b4 := F4.binds (ps := ["token", "wanted"]) fun _ _ _ _ _ _ us hl => match us, hl with | [_, _], _ => rfl
  have m4 := PySem.W.mg_of X G a4
  have F5 := fun_mk (st := st__token_at) l5 c5 k5
  have b5 := F5.binds (ps := ["text", "at"]) fun _ _ _ _ _ _ us hl => match us, hl with | [_, _], _ => rfl
  have m5 := PySem.W.mg_of X G a5
  have F6 := fun_mk (st := st_tokens_of) l6 c6 k6
  have b6 := F6.binds (ps := ["text"]) fun _ _ _ _ _ _ us hl => match us, hl with | [_], _ => rfl
  have m6 := PySem.W.mg_of X G a6
  have F7 := fun_mk (st := st_steps_of) l7 c7 k7
  have b7 := F7.binds (ps := ["thing"]) fun _ _ _ _ _ _ us hl => match us, hl with | [_], _ => rfl
  have m7 := PySem.W.mg_of X G a7
  have F8 := fun_mk (st := st_read_level) l8 c8 k8
  have b8 := F8.binds (ps := ["level"]) fun _ _ _ _ _ _ us hl => match us, hl with | [_], _ => rfl
  have m8 := PySem.W.mg_of X G a8
  have F9 := fun_mk (st := st__greatest) l9 c9 k9
  have b9 := F9.binds (ps := ["dicts"]) fun _ _ _ _ _ _ us hl => match us, hl with | [_], _ => rfl
  have m9 := PySem.W.mg_of X G a9
  have F10 := fun_mk (st := st_atoms_in) l10 c10 k10
  have b10 := F10.binds (ps := ["steps", "zeros"]) fun _ _ _ _ _ _ us hl => match us, hl with | [_, _], _ => rfl
  have m10 := PySem.W.mg_of X G a10
  have F11 := fun_mk (st := st_least_atoms) l11 c11 k11
  have b11 := F11.binds (ps := ["steps", "zeros"]) fun _ _ _ _ _ _ us hl => match us, hl with | [_, _], _ => rfl
  have m11 := PySem.W.mg_of X G a11
  have F12 := fun_mk (st := st_atoms) l12 c12 k12
  have b12 := F12.binds (ps := ["level", "zeros"]) fun _ _ _ _ _ _ us hl => match us, hl with | [_, _], _ => rfl
  have m12 := PySem.W.mg_of X G a12
  have F13 := fun_mk (st := st__law_box) l13 c13 k13
  have b13 := F13.binds (ps := ["_law_script", "_law_k", "_law_own"]) fun _ _ _ _ _ _ us hl => match us, hl with | [_, _, _], _ => rfl
  have m13 := PySem.W.mg_of X G a13
  have F14 := fun_mk (st := st__law_take) l14 c14 k14
  have b14 := F14.binds (ps := ["_law_box_here", "_law_many"]) fun _ _ _ _ _ _ us hl => match us, hl with | [_, _], _ => rfl
  have m14 := PySem.W.mg_of X G a14
  have F15 := fun_mk (st := st__law_pick) l15 c15 k15
  have b15 := F15.binds (ps := ["_law_box_here", "_law_items"]) fun _ _ _ _ _ _ us hl => match us, hl with | [_, _], _ => rfl
  have m15 := PySem.W.mg_of X G a15
  have F16 := fun_mk (st := st__law_mixed) l16 c16 k16
  have b16 := F16.binds (ps := ["_law_box_here", "_law_items"]) fun _ _ _ _ _ _ us hl => match us, hl with | [_, _], _ => rfl
  have m16 := PySem.W.mg_of X G a16
  have F17 := fun_mk (st := st__law_level) l17 c17 k17
  have b17 := F17.binds (ps := ["_law_box_here", "_law_names", "_law_deep", "_law_most", "_law_is_plain"]) fun _ _ _ _ _ _ us hl => match us, hl with | [_, _, _, _, _], _ => rfl
  have m17 := PySem.W.mg_of X G a17
  have F18 := fun_mk (st := st__law_parts) l18 c18 k18
  have b18 := F18.binds (ps := ["_law_told"]) fun _ _ _ _ _ _ us hl => match us, hl with | [_], _ => rfl
  have m18 := PySem.W.mg_of X G a18
  have F19 := fun_mk (st := st__law_text) l19 c19 k19
  have b19 := F19.binds (ps := ["_law_told"]) fun _ _ _ _ _ _ us hl => match us, hl with | [_], _ => rfl
  have m19 := PySem.W.mg_of X G a19
  have F20 := fun_mk (st := st__law_worth) l20 c20 k20
  have b20 := F20.binds (ps := ["_law_told", "_law_numbers"]) fun _ _ _ _ _ _ us hl => match us, hl with | [_, _], _ => rfl
  have m20 := PySem.W.mg_of X G a20
  have F21 := fun_mk (st := st__law_lots) l21 c21 k21
  have b21 := F21.binds (ps := ["_law_names"]) fun _ _ _ _ _ _ us hl => match us, hl with | [_], _ => rfl
  have m21 := PySem.W.mg_of X G a21
  have F22 := fun_mk (st := st__law_named_some) l22 c22 k22
  have b22 := F22.binds (ps := ["_law_box_here", "_law_many"]) fun _ _ _ _ _ _ us hl => match us, hl with | [_, _], _ => rfl
  have m22 := PySem.W.mg_of X G a22
  have F23 := fun_mk (st := st__law_greatest) l23 c23 k23
  have b23 := F23.binds (ps := ["_law_some", "_law_numbers"]) fun _ _ _ _ _ _ us hl => match us, hl with | [_, _], _ => rfl
  have m23 := PySem.W.mg_of X G a23
  have F24 := fun_mk (st := st__law_trials) l24 c24 k24
  have b24 := F24.binds (ps := ["_law_box_here", "_law_names", "_law_zeros", "_law_far"]) fun _ _ _ _ _ _ us hl => match us, hl with | [_, _, _, _], _ => rfl
  have m24 := PySem.W.mg_of X G a24
  have F25 := fun_mk (st := st_law) l25 c25 k25
  have y1 := PySem.W.mg_none_of X G z1
  have y2 := PySem.W.mg_none_of X G z2
  have y3 := PySem.W.mg_none_of X G z3
  have y4 := PySem.W.mg_none_of X G z4
  have y5 := PySem.W.mg_none_of X G z5
  have y6 := PySem.W.mg_none_of X G z6
  have y7 := PySem.W.mg_none_of X G z7
  have y8 := PySem.W.mg_none_of X G z8
  have y9 := PySem.W.mg_none_of X G z9
  have y10 := PySem.W.mg_none_of X G z10
  have y11 := PySem.W.mg_none_of X G z11
  have y12 := PySem.W.mg_none_of X G z12
  have y13 := PySem.W.mg_none_of X G z13
  have y14 := PySem.W.mg_none_of X G z14
  have L : Lx mg := ⟨y1, y2, y3, y4, y5, y6, y7, y8, y9, y10⟩
  have LL : L2x mg := ⟨y11, y13, y12⟩
  have T : Tx K w mg fS fC := ⟨y11, y6, y3, y2, y7, y12, y9, PySem.W.mg_of X G aS, fun H => .inr ⟨_, _, _, lS, rfl, rfl, by show 5 ≤ sizeLine; decide, signs_vals⟩, PySem.W.mg_of X G aC, ⟨_, _, lC, kC, nC, pC⟩⟩
  refine ⟨PySem.W.fnOf "law" "law" (defArgs st_law) (defBody st_law) (defScope st_law) .none kV25 dc25 pm25 an25 cd25 ct25, fun s v => .of_eq rfl, fun base _ _ => ?_⟩
  have G1 := ok_is_name (P := l.prog) (w := w) (base := base) F1 T
  have G2 := ok_is_num (P := l.prog) (w := w) (base := base) F2 T
  have G3 := ok_full (mg := mg) (P := l.prog) (w := w) (base := base) F3 
  have G4 := ok_leaf (P := l.prog) (w := w) (base := base) F4 T G1 b1 k1 m1 G2 b2 k2 m2
  have G5 := ok_tokAt (P := l.prog) (w := w) (base := base) F5 T
  have G6 := ok_toks (P := l.prog) (w := w) (base := base) F6 T G5 b5 k5 m5
  have G7 := ok_steps (P := l.prog) (w := w) (base := base) F7 T G6 b6 k6 m6 G4 b4 k4 m4 G3 b3 k3 m3
  have G8 := ok_read (P := l.prog) (w := w) (base := base) F8 G7 b7 k7 m7
  have G9 := ok_gr (P := l.prog) (w := w) (base := base) F9 L
  have G10 := ok_ain (P := l.prog) (w := w) (base := base) F10 L (cal_mk G9 m9 k9 b9)
  have G11 := ok_least (P := l.prog) (w := w) (base := base) F11 L y14 y12 (cal_mk G10 m10 k10 b10)
  have G12 := ok_atoms (P := l.prog) (w := w) (base := base) F12 (cal_mk G11 m11 k11 b11) (cal_mk G8 m8 k8 b8)
  have G13 := ok_box (P := l.prog) (w := w) (base := base) F13 L
  have G14 := ok_take (P := l.prog) (w := w) (base := base) F14 L
  have G15 := ok_pick (P := l.prog) (w := w) (base := base) F15 L G14 b14 k14 m14
  have G16 := ok_mixed (P := l.prog) (w := w) (base := base) F16 L G14 b14 k14 m14
  have G22 := ok_some (P := l.prog) (w := w) (base := base) F22 G16 b16 k16 m16
  have G18 := ok_parts (P := l.prog) (w := w) (base := base) F18 L
  have G21 := ok_lots (P := l.prog) (w := w) (base := base) F21 L y12
  have G23 := ok_greatest (P := l.prog) (w := w) (base := base) F23 L
  have G24 := ok_trials (P := l.prog) (w := w) (base := base) F24 L (cal_mk G14 m14 k14 b14)
  have R17_1 := ok_level1 (P := l.prog) (w := w) (base := base) (n := 0) F17 (cal_mk G14 m14 k14 b14) (cal_mk G15 m15 k15 b15) (cal_mk (vac (P := l.prog) (w := w) (K := K) (mg := mg) (base := base) (k := 3) (ps := ["_law_box_here", "_law_names", "_law_deep", "_law_most", "_law_is_plain"]) (sp := spLevel K 0) fun vs H Q E h => no_level h) m17 k17 b17)
  have R17_2 := ok_level1 (P := l.prog) (w := w) (base := base) (n := 1) F17 (cal_mk G14 m14 k14 b14) (cal_mk G15 m15 k15 b15) (cal_mk R17_1 m17 k17 b17)
  have R17_3 := ok_level1 (P := l.prog) (w := w) (base := base) (n := 2) F17 (cal_mk G14 m14 k14 b14) (cal_mk G15 m15 k15 b15) (cal_mk R17_2 m17 k17 b17)
  have R19_1 := ok_text1 (P := l.prog) (w := w) (base := base) (n := 0) F19 L (cal_mk (vac (P := l.prog) (w := w) (K := K) (mg := mg) (base := base) (k := 1) (ps := ["_law_told"]) (sp := spText 0) fun vs H Q E h => no_text h) m19 k19 b19)
  have R19_2 := ok_text1 (P := l.prog) (w := w) (base := base) (n := 1) F19 L (cal_mk R19_1 m19 k19 b19)
  have R19_3 := ok_text1 (P := l.prog) (w := w) (base := base) (n := 2) F19 L (cal_mk R19_2 m19 k19 b19)
  have R19_4 := ok_text1 (P := l.prog) (w := w) (base := base) (n := 3) F19 L (cal_mk R19_3 m19 k19 b19)
  have R20_1 := ok_val1 (P := l.prog) (w := w) (base := base) (n := 0) F20 L (cal_mk G18 m18 k18 b18) (cal_mk (vac (P := l.prog) (w := w) (K := K) (mg := mg) (base := base) (k := 1) (ps := ["_law_told", "_law_numbers"]) (sp := spVal 0) fun vs H Q E h => no_val h) m20 k20 b20)
  have R20_2 := ok_val1 (P := l.prog) (w := w) (base := base) (n := 1) F20 L (cal_mk G18 m18 k18 b18) (cal_mk R20_1 m20 k20 b20)
  have R20_3 := ok_val1 (P := l.prog) (w := w) (base := base) (n := 2) F20 L (cal_mk G18 m18 k18 b18) (cal_mk R20_2 m20 k20 b20)
  have R20_4 := ok_val1 (P := l.prog) (w := w) (base := base) (n := 3) F20 L (cal_mk G18 m18 k18 b18) (cal_mk R20_3 m20 k20 b20)
  exact ok_law F25 L LL (cal_mk G13 m13 k13 b13) (cal_mk G16 m16 k16 b16) (cal_mk G22 m22 k22 b22) (cal_mk R17_3 m17 k17 b17) (cal_mk R19_4 m19 k19 b19) (cal_mk R20_4 m20 k20 b20) (cal_mk G21 m21 k21 b21) (cal_mk G23 m23 k23 b23) (cal_mk G24 m24 k24 b24) (cal_mk G12 m12 k12 b12)
end Pg
set_option Elab.async false
open PySem PySem.W PyProof.Rows
set_option maxHeartbeats 0
open_top hd06 for PySem.Challenge.rw_everylevel_k06_atoms_of_levels
set_option Elab.async false
set_option maxRecDepth 100000
open PySem PySem.W PyProof.Rows
set_option maxHeartbeats 0
theorem PySem.Challenge.cw_everylevel_k06_atoms_of_levels_holds : PySem.Challenge.rw_everylevel_k06_atoms_of_levels.Holds :=
  hd06 (by
    k_fill
    refine L2.walk_ofK (n := 63) (k := 7) (x := "_law_script") (l := PySem.Challenge.rw_everylevel_k06_atoms_of_levels) (CX := L2.CX0) (sp := Pg.spLaw) rfl (by decide) rfl ⟨rfl, by decide, by decide⟩ (fun w h Y => PySem.W.kIn_of Y) ?F (fun K H a ns hl _ hS => ⟨a, ns, rfl, hS, hl, fun _ => rfl⟩) (fun _ _ _ _ z => z)
    case F =>
      intro w mg fa h KX G hmg
      refine' Pg.all_mk KX G hmg ?a1 ?l1 ?c1 ?k1 ?a2 ?l2 ?c2 ?k2 ?a3 ?l3 ?c3 ?k3 ?a4 ?l4 ?c4 ?k4 ?a5 ?l5 ?c5 ?k5 ?a6 ?l6 ?c6 ?k6 ?a7 ?l7 ?c7 ?k7 ?a8 ?l8 ?c8 ?k8 ?a9 ?l9 ?c9 ?k9 ?a10 ?l10 ?c10 ?k10 ?a11 ?l11 ?c11 ?k11 ?a12 ?l12 ?c12 ?k12 ?a13 ?l13 ?c13 ?k13 ?a14 ?l14 ?c14 ?k14 ?a15 ?l15 ?c15 ?k15 ?a16 ?l16 ?c16 ?k16 ?a17 ?l17 ?c17 ?k17 ?a18 ?l18 ?c18 ?k18 ?a19 ?l19 ?c19 ?k19 ?a20 ?l20 ?c20 ?k20 ?a21 ?l21 ?c21 ?k21 ?a22 ?l22 ?c22 ?k22 ?a23 ?l23 ?c23 ?k23 ?a24 ?l24 ?c24 ?k24 ?a25 ?l25 ?c25 ?k25 ?z1 ?z2 ?z3 ?z4 ?z5 ?z6 ?z7 ?z8 ?z9 ?z10 ?z11 ?z12 ?z13 ?z14 ?aS ?lS ?aC ?lC ?kC ?nC ?pC
      (case a1 => k_is)
      (case l1 => k_is)
      (case c1 => k_is)
      (case k1 => k_is)
      (case a2 => k_is)
      (case l2 => k_is)
      (case c2 => k_is)
      (case k2 => k_is)
      (case a3 => k_is)
      (case l3 => k_is)
      (case c3 => k_is)
      (case k3 => k_is)
      (case a4 => k_is)
      (case l4 => k_is)
      (case c4 => k_is)
      (case k4 => k_is)
      (case a5 => k_is)
      (case l5 => k_is)
      (case c5 => k_is)
      (case k5 => k_is)
      (case a6 => k_is)
      (case l6 => k_is)
      (case c6 => k_is)
      (case k6 => k_is)
      (case a7 => k_is)
      (case l7 => k_is)
      (case c7 => k_is)
      (case k7 => k_is)
      (case a8 => k_is)
      (case l8 => k_is)
      (case c8 => k_is)
      (case k8 => k_is)
      (case a9 => k_is)
      (case l9 => k_is)
      (case c9 => k_is)
      (case k9 => k_is)
      (case a10 => k_is)
      (case l10 => k_is)
      (case c10 => k_is)
      (case k10 => k_is)
      (case a11 => k_is)
      (case l11 => k_is)
      (case c11 => k_is)
      (case k11 => k_is)
      (case a12 => k_is)
      (case l12 => k_is)
      (case c12 => k_is)
      (case k12 => k_is)
      (case a13 => k_is)
      (case l13 => k_is)
      (case c13 => k_is)
      (case k13 => k_is)
      (case a14 => k_is)
      (case l14 => k_is)
      (case c14 => k_is)
      (case k14 => k_is)
      (case a15 => k_is)
      (case l15 => k_is)
      (case c15 => k_is)
      (case k15 => k_is)
      (case a16 => k_is)
      (case l16 => k_is)
      (case c16 => k_is)
      (case k16 => k_is)
      (case a17 => k_is)
      (case l17 => k_is)
      (case c17 => k_is)
      (case k17 => k_is)
      (case a18 => k_is)
      (case l18 => k_is)
      (case c18 => k_is)
      (case k18 => k_is)
      (case a19 => k_is)
      (case l19 => k_is)
      (case c19 => k_is)
      (case k19 => k_is)
      (case a20 => k_is)
      (case l20 => k_is)
      (case c20 => k_is)
      (case k20 => k_is)
      (case a21 => k_is)
      (case l21 => k_is)
      (case c21 => k_is)
      (case k21 => k_is)
      (case a22 => k_is)
      (case l22 => k_is)
      (case c22 => k_is)
      (case k22 => k_is)
      (case a23 => k_is)
      (case l23 => k_is)
      (case c23 => k_is)
      (case k23 => k_is)
      (case a24 => k_is)
      (case l24 => k_is)
      (case c24 => k_is)
      (case k24 => k_is)
      (case a25 => k_is)
      (case l25 => k_is)
      (case c25 => k_is)
      (case k25 => k_is)
      (case z1 => k_is)
      (case z2 => k_is)
      (case z3 => k_is)
      (case z4 => k_is)
      (case z5 => k_is)
      (case z6 => k_is)
      (case z7 => k_is)
      (case z8 => k_is)
      (case z9 => k_is)
      (case z10 => k_is)
      (case z11 => k_is)
      (case z12 => k_is)
      (case z13 => k_is)
      (case z14 => k_is)
      (case aS => k_is)
      (case lS => k_is)
      (case aC => k_is)
      (case lC => k_is)
      (case kC => exact ⟨⟨_, _, rfl, rfl⟩, ⟨_, _, rfl, rfl⟩, trivial⟩)
      (case nC => rfl)
      (case pC => exact .cons ⟨⟨_, rfl⟩, ⟨_, rfl⟩⟩ (.cons ⟨⟨_, rfl⟩, ⟨_, rfl⟩⟩ .nil)))
