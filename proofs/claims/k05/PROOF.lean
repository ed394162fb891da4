import PyProof.Rows.All
import Wide.All
import OpenK.AllK
import Wide.FinOn
import HandS.Codes
import HandS.DictComp
import HandS.ForMost
import HandS.IsInst
import HandS.ListItems
import HandS.RaiseMore
import HandS.Set
import HandS.SetBool
import HandS.StrMore
import HandS.Walk
import PySem.Challenge.RW_everylevel_k05_levels_in_the_place_of_na
/-! P0 -/
set_option Elab.async false
set_option linter.all false
set_option maxRecDepth 100000
namespace Pg
open PySem L2
def top (i : Nat) : Stmt := PySem.Challenge.pw_everylevel_k05_levels_in_the_place_of_na.main.body.getD i (.Pass ⟨0, 0, 0, 0⟩)
abbrev st_is_name : Stmt := top 7
abbrev st_tokens_of : Stmt := top 8
abbrev st__token_at : Stmt := top 9
abbrev st_steps_of : Stmt := top 10
abbrev st__leaf : Stmt := top 11
abbrev st_is_numeral : Stmt := top 12
abbrev st__is_full : Stmt := top 13
abbrev st_read_level : Stmt := top 14
abbrev st_names_in : Stmt := top 15
abbrev st_worth : Stmt := top 16
abbrev st_names_of : Stmt := top 18
abbrev st_value : Stmt := top 19
abbrev st_put_for : Stmt := top 20
abbrev st__law_box : Stmt := top 22
abbrev st__law_take : Stmt := top 23
abbrev st__law_pick : Stmt := top 24
abbrev st__law_mixed : Stmt := top 25
abbrev st__law_level : Stmt := top 26
abbrev st__law_parts : Stmt := top 27
abbrev st__law_text : Stmt := top 28
abbrev st__law_worth : Stmt := top 29
abbrev st__law_numbers : Stmt := top 30
abbrev st__law_named_some : Stmt := top 31
abbrev st__law_with : Stmt := top 32
abbrev st_law : Stmt := top 33
end Pg
/-! Mr -/
set_option Elab.async false
set_option linter.all false
set_option maxRecDepth 100000
set_option maxHeartbeats 2000000
/-! What the program's reader of levels computes, over lists of code points. -/
namespace Mr
open PySem
abbrev Cs := List Nat
def S (l : Cs) : Str := ⟨l.toArray⟩
theorem S_inj {a b : Cs} : S a = S b ↔ a = b := by
  unfold S
  constructor
  · intro h; injection h with h; simpa using h
  · rintro rfl; rfl
theorem S_of (z : Str) : S z.cps.toList = z := by unfold S; rw [Array.toArray_toList]
theorem len_S (a : Cs) : (S a).length = a.length := by unfold S Str.length; simp
def cMax : Cs := [109, 97, 120, 40]
def cImax : Cs := [105, 109, 97, 120, 40]
def cPlus : Cs := [32, 43, 32]
def cSep : Cs := [44, 32]
def cEnd : Cs := [41]
def signs : List Cs := [cMax, cImax, cPlus, cSep, cEnd]
def isAl (c : Nat) : Bool := Unicode.isAlnum c
def tokAt (r : Cs) : Cs := match signs.find? (fun g => g.isPrefixOf r) with
  | some g => g
  | none => r.takeWhile isAl
def toksF : Nat → Cs → Option (List Cs)
  | 0, r => if r.isEmpty then some [] else none
  | n + 1, r => if r.isEmpty then some [] else if (tokAt r).isEmpty then none else (toksF n (r.drop (tokAt r).length)).map (tokAt r :: ·)
def toks (z : Cs) : Option (List Cs) := toksF z.length z
theorem toksF_fuel : ∀ (n m : Nat) (r : Cs), r.length ≤ n → r.length ≤ m → toksF n r = toksF m r
  | 0, 0, _, _, _ => rfl
  | 0, m + 1, r, h, _ => by
    have e : r = [] := List.length_eq_zero_iff.mp (by omega)
    subst e; rfl
  | n + 1, 0, r, _, h => by
    have e : r = [] := List.length_eq_zero_iff.mp (by omega)
    subst e; rfl
  | n + 1, m + 1, r, h, h' => by
    unfold toksF
    by_cases c : r.isEmpty = true
    · rw [if_pos c, if_pos c]
    · rw [if_neg c, if_neg c]
      by_cases d : (tokAt r).isEmpty = true
      · rw [if_pos d, if_pos d]
      · rw [if_neg d, if_neg d]
        have l0 : 0 < r.length := by cases r with | nil => exact absurd rfl c | cons => simp
        have l1 : 0 < (tokAt r).length := by cases q : tokAt r with | nil => rw [q] at d; exact absurd rfl d | cons => simp
        have l2 : (r.drop (tokAt r).length).length < r.length := by rw [List.length_drop]; omega
        rw [toksF_fuel n m _ (by omega) (by omega)]

inductive W where | level | sign | number
  deriving DecidableEq
inductive Stp where
  | num (k : Int) | nam (s : Cs) | plus (k : Int) | call (b : Bool) (n : Int)
  deriving DecidableEq
def isName (t : Cs) : Bool := (!(decide (t = [109, 97, 120]) || decide (t = [105, 109, 97, 120]))) && (decide (t.length ≤ 4) && (Txt.isascii (S t) && (Txt.isalpha (S t) && Txt.islower (S t))))
def isNum (t : Cs) : Bool := (Txt.isascii (S t) && Txt.isdigit (S t)) && (decide (t.length ≤ 4) && (decide (t = [48]) || decide (t[0]? ≠ some 48)))
def valOf (t : Cs) : Int := (PySem.intText? (S t)).getD 0
def leaf (t : Cs) (w : W) : Option Stp :=
  if w = .level && isName t then some (.nam t) else if w = .level && isNum t then some (.num (valOf t)) else if w = .number && isNum t then some (.plus (valOf t)) else none
structure PSt where
  ss : List Stp
  st : List (Bool × Int)
  w : W
def full (b : Bool) (n : Int) : Bool := if b then decide (2 ≤ n) else decide (n = 2)
def turn (p : PSt) (t : Cs) : Option PSt := match leaf t p.w with
  | some l => some ⟨p.ss ++ [l], p.st, .sign⟩
  | none =>
    if p.w = .level && (t = cMax) then some ⟨p.ss, (true, 1) :: p.st, .level⟩
    else if p.w = .level && (t = cImax) then some ⟨p.ss, (false, 1) :: p.st, .level⟩
    else if p.w = .sign && (t = cPlus) then some ⟨p.ss, p.st, .number⟩
    else if p.w = .sign && (t = cSep) then match p.st with
      | (b, n) :: r => some ⟨p.ss, (b, n + 1) :: r, .level⟩
      | [] => none
    else if p.w = .sign && (t = cEnd) then match p.st with
      | (b, n) :: r => if full b n then some ⟨p.ss ++ [.call b n], r, .sign⟩ else none
      | [] => none
    else none
def parse (p : PSt) : List Cs → Option PSt
  | [] => some p
  | t :: r => match turn p t with
    | some q => parse q r
    | none => none
def ended (p : PSt) : Option (List Stp) := if p.w = .sign && p.st.isEmpty then some p.ss else none
def stepsT (ts : List Cs) : Option (List Stp) := (parse ⟨[], [], .level⟩ ts).bind ended
def stepsOf (z : Cs) : Option (List Stp) := (toks z).bind stepsT
theorem parse_append : ∀ (a b : List Cs) (p : PSt), parse p (a ++ b) = (parse p a).bind fun q => parse q b
  | [], b, p => rfl
  | t :: a, b, p => by
    show (match turn p t with | some q => parse q (a ++ b) | none => none) = (match turn p t with | some q => parse q a | none => none).bind _
    cases turn p t with
    | none => rfl
    | some q => exact parse_append a b q

/-! ### trees -/
inductive T where
  | num (k : Nat) | nam (s : Cs) | plus (t : T) (k : Nat) | node (b : Bool) (ts : List T)
def D (k : Nat) : Cs := (((toString (k : Int) : String) : Str)).cps.toList
def glue : List (List Cs) → List Cs
  | [] => []
  | [a] => a
  | a :: b :: r => a ++ cSep :: glue (b :: r)
def opn (b : Bool) : Cs := if b then cMax else cImax
def T.tok : T → List Cs
  | .num k => [D k]
  | .nam s => [s]
  | .plus t k => t.tok ++ [cPlus, D k]
  | .node b ts => opn b :: (glue (ts.map fun t => t.tok) ++ [cEnd])
def T.stp : T → List Stp
  | .num k => [.num k]
  | .nam s => [.nam s]
  | .plus t k => t.stp ++ [.plus k]
  | .node b ts => (ts.map fun t => t.stp).flatten ++ [.call b ts.length]
def T.text (t : T) : Cs := t.tok.flatten
def T.ok : T → Prop
  | .num k => k < 100
  | .nam s => isName s = true
  | .plus t k => t.ok ∧ k < 100
  | .node b ts => full b ts.length = true ∧ ∀ t ∈ ts, t.ok

/-! ### numerals -/
def numFacts (k : Nat) : Bool := (D k).all isAl && !(D k).isEmpty && isNum (D k) && !isName (D k) && decide (PySem.intText? (S (D k)) = some (k : Int)) && decide ((D k).length ≤ 2)
theorem num_all : ∀ k : Fin 100, numFacts k.val = true := by decide +kernel
theorem num_ok {k : Nat} (h : k < 100) : numFacts k = true := num_all ⟨k, h⟩
end Mr
/-! Mt -/
set_option Elab.async false
set_option linter.all false
set_option maxRecDepth 100000
set_option maxHeartbeats 2000000
/-! The reader reads what is written of a tree. -/
namespace Mr
open PySem
def sepHd (c : Nat) : Bool := decide (c = 32) || decide (c = 44) || decide (c = 41)
def sep0 (r : Cs) : Prop := ∀ c, r[0]? = some c → sepHd c = true
theorem sep_al : isAl 32 = false ∧ isAl 44 = false ∧ isAl 41 = false ∧ isAl 40 = false := by decide +kernel
theorem sep_not_al {c : Nat} (h : sepHd c = true) : isAl c = false := by
  unfold sepHd at h
  simp only [Bool.or_eq_true, decide_eq_true_eq] at h
  rcases h with (rfl | rfl) | rfl
  · exact sep_al.1
  · exact sep_al.2.1
  · exact sep_al.2.2.1
def word (t : Cs) : Prop := t ≠ [] ∧ ∀ c ∈ t, isAl c = true
theorem no_sign {g t r : Cs} (hw : word t) (hr : sep0 r) (h40 : ∃ i : Nat, g[i]? = some 40) (hg : ∀ c ∈ g, sepHd c = false) : g.isPrefixOf (t ++ r) = false := by
  cases q : g.isPrefixOf (t ++ r) with
  | false => rfl
  | true =>
    obtain ⟨k, e⟩ := List.isPrefixOf_iff_prefix.mp q
    have at_ : ∀ (i : Nat) (c : Nat), g[i]? = some c → (t ++ r)[i]? = some c := fun i c h => by
      rw [← e, List.getElem?_append_left (List.getElem?_eq_some_iff.mp h).1]; exact h
    obtain ⟨i, hi⟩ := h40
    have h1 := at_ i 40 hi
    by_cases c : i < t.length
    · rw [List.getElem?_append_left c] at h1
      have := hw.2 40 (List.mem_of_getElem? h1)
      rw [sep_al.2.2.2] at this; cases this
    · have lt : t.length < g.length := Nat.lt_of_le_of_lt (Nat.le_of_not_lt c) (List.getElem?_eq_some_iff.mp hi).1
      have h2 := at_ t.length g[t.length] (List.getElem?_eq_getElem lt)
      rw [List.getElem?_append_right (Nat.le_refl _), Nat.sub_self] at h2
      have h3 := hr _ h2
      rw [hg _ (List.getElem_mem lt)] at h3; cases h3
theorem tok_word {t r : Cs} (hw : word t) (hr : sep0 r) : tokAt (t ++ r) = t := by
  obtain ⟨c, t', rfl⟩ : ∃ c t', t = c :: t' := by
    cases t with
    | nil => exact absurd rfl hw.1
    | cons c t' => exact ⟨c, t', rfl⟩
  have hc := hw.2 c (List.mem_cons_self)
  have n1 : (c :: t' ++ r) = c :: (t' ++ r) := rfl
  have ne : ∀ d, isAl d = false → (d == c) = false := fun d hd => by
    cases q : d == c with
    | false => rfl
    | true => rw [beq_iff_eq.mp q, hc] at hd; cases hd
  have f1 : cMax.isPrefixOf (c :: t' ++ r) = false := no_sign hw hr ⟨3, rfl⟩ (by decide)
  have f2 : cImax.isPrefixOf (c :: t' ++ r) = false := no_sign hw hr ⟨4, rfl⟩ (by decide)
  have f3 : cPlus.isPrefixOf (c :: t' ++ r) = false := by rw [n1]; unfold cPlus List.isPrefixOf; rw [ne 32 sep_al.1]; rfl
  have f4 : cSep.isPrefixOf (c :: t' ++ r) = false := by rw [n1]; unfold cSep List.isPrefixOf; rw [ne 44 sep_al.2.1]; rfl
  have f5 : cEnd.isPrefixOf (c :: t' ++ r) = false := by rw [n1]; unfold cEnd List.isPrefixOf; rw [ne 41 sep_al.2.2.1]; rfl
  have fd : signs.find? (fun g => g.isPrefixOf (c :: t' ++ r)) = none := by
    unfold signs
    rw [List.find?_cons, f1, List.find?_cons, f2, List.find?_cons, f3, List.find?_cons, f4, List.find?_cons, f5, List.find?_nil]
  unfold tokAt
  rw [fd]
  show (c :: t' ++ r).takeWhile isAl = c :: t'
  rw [List.takeWhile_append_of_pos (fun x hx => hw.2 x hx)]
  have : r.takeWhile isAl = [] := by
    cases r with
    | nil => rfl
    | cons d r' => rw [List.takeWhile_cons, sep_not_al (hr d rfl)]; rfl
  rw [this, List.append_nil]
theorem tok_sign {g : Cs} (hg : g ∈ signs) (r : Cs) : tokAt (g ++ r) = g := by
  unfold signs at hg
  simp only [List.mem_cons, List.not_mem_nil, or_false] at hg
  rcases hg with rfl | rfl | rfl | rfl | rfl <;> rfl
theorem toks_nil : toks [] = some [] := rfl
theorem toks_cons {t r : Cs} (h : tokAt (t ++ r) = t) (h0 : t ≠ []) {rs : List Cs} (hr : toks r = some rs) : toks (t ++ r) = some (t :: rs) := by
  have l0 : 0 < t.length := List.length_pos_iff.mpr h0
  have ht : t.isEmpty = false := by cases t with | nil => exact absurd rfl h0 | cons => rfl
  have he : (t ++ r).isEmpty = false := by cases t with | nil => exact absurd rfl h0 | cons => rfl
  have e : (t ++ r).length = ((t ++ r).length - 1) + 1 := by rw [List.length_append]; omega
  unfold toks
  rw [e]
  unfold toksF
  rw [he, h, ht]
  simp only [Bool.false_eq_true, if_false]
  rw [List.drop_left, toksF_fuel _ r.length r (by rw [List.length_append]; omega) (Nat.le_refl _)]
  show (toks r).map _ = _
  rw [hr]; rfl
theorem all_word {t : Cs} (h0 : t ≠ []) (h : t.all isAl = true) : word t := ⟨h0, fun c hc => List.all_eq_true.mp h c hc⟩
theorem num_word {k : Nat} (h : k < 100) : word (D k) := by
  have q := num_ok h
  unfold numFacts at q
  simp only [Bool.and_eq_true] at q
  refine all_word (fun z => ?_) q.1.1.1.1.1
  have := q.1.1.1.1.2
  rw [z] at this; cases this
theorem name_word {s : Cs} (h : isName s = true) : word s := by
  unfold isName at h
  simp only [Bool.and_eq_true] at h
  have q := h.2.2.2.1
  unfold Txt.isalpha at q
  rw [Bool.and_eq_true, decide_eq_true_eq, len_S] at q
  refine ⟨fun z => ?_, fun c hc => ?_⟩
  · rw [z] at q; exact absurd q.1 (Nat.lt_irrefl _)
  · have := q.2
    unfold S at this
    rw [List.all_toArray, List.all_eq_true] at this
    unfold isAl Unicode.isAlnum
    rw [this c hc]; rfl
theorem sign_ne {g : Cs} (hg : g ∈ signs) : g ≠ [] := by
  unfold signs at hg
  simp only [List.mem_cons, List.not_mem_nil, or_false] at hg
  rcases hg with rfl | rfl | rfl | rfl | rfl <;> decide
theorem toks_sign {g r : Cs} (hg : g ∈ signs) {rs : List Cs} (hr : toks r = some rs) : toks (g ++ r) = some (g :: rs) := toks_cons (tok_sign hg r) (sign_ne hg) hr
theorem toks_word {t r : Cs} (hw : word t) (h : sep0 r) {rs : List Cs} (hr : toks r = some rs) : toks (t ++ r) = some (t :: rs) := toks_cons (tok_word hw h) hw.1 hr
theorem sep_plus (r : Cs) : sep0 (cPlus ++ r) := fun c h => by cases h; rfl
theorem sep_sep (r : Cs) : sep0 (cSep ++ r) := fun c h => by cases h; rfl
theorem sep_end (r : Cs) : sep0 (cEnd ++ r) := fun c h => by cases h; rfl
theorem sep_nil : sep0 [] := fun c h => by cases h
theorem mem_sign (b : Bool) : opn b ∈ signs := by cases b <;> decide
/-- a list of tokens is read back, whatever is read behind a sign -/
def Reads (ts : List Cs) : Prop := ∀ r rs, toks r = some rs → sep0 r → toks (ts.flatten ++ r) = some (ts ++ rs)
theorem reads_glue : ∀ l : List (List Cs), (∀ ts ∈ l, Reads ts) → Reads (glue l)
  | [], _ => fun r rs h _ => h
  | [a], h => h a List.mem_cons_self
  | a :: b :: l, h => fun r rs hr h0 => by
    have ih := reads_glue (b :: l) fun ts hts => h ts (List.mem_cons_of_mem _ hts)
    have h1 := ih r rs hr h0
    have h2 := toks_sign (g := cSep) (by decide) h1
    have h3 := h a List.mem_cons_self _ _ h2 (sep_sep _)
    show toks ((a ++ cSep :: glue (b :: l)).flatten ++ r) = some (a ++ cSep :: glue (b :: l) ++ rs)
    rw [List.flatten_append, List.flatten_cons, List.append_assoc, List.append_assoc, h3]
    simp
theorem T.reads : ∀ t : T, t.ok → Reads t.tok
  | .num k, h => fun r rs hr h0 => by
    rw [T.tok]
    rw [List.flatten_cons, List.flatten_nil, List.append_nil]
    exact toks_word (num_word (by unfold T.ok at h; exact h)) h0 hr
  | .nam s, h => fun r rs hr h0 => by
    rw [T.tok]
    rw [List.flatten_cons, List.flatten_nil, List.append_nil]
    exact toks_word (name_word (by unfold T.ok at h; exact h)) h0 hr
  | .plus t k, h => fun r rs hr h0 => by
    unfold T.ok at h
    have h1 := toks_sign (g := cPlus) (by decide) (toks_word (num_word h.2) h0 hr)
    have h2 := T.reads t h.1 _ _ h1 (sep_plus _)
    unfold T.tok
    rw [List.flatten_append, List.append_assoc]
    simp only [List.flatten_cons, List.flatten_nil, List.append_nil, List.append_assoc] at h2 ⊢
    rw [h2]; simp
  | .node b ts, h => fun r rs hr h0 => by
    unfold T.ok at h
    have g : Reads (glue (ts.map fun t => t.tok)) := reads_glue _ fun x hx => by
      obtain ⟨t, ht, rfl⟩ := List.mem_map.mp hx
      exact T.reads t (h.2 t ht)
    have h1 := g _ _ (toks_sign (g := cEnd) (by decide) hr) (sep_end r)
    have h2 := toks_sign (mem_sign b) h1
    unfold T.tok
    rw [List.flatten_cons, List.flatten_append, List.append_assoc, List.append_assoc]
    simp only [List.flatten_cons, List.flatten_nil, List.append_nil, List.append_assoc] at h2 ⊢
    rw [h2]; simp
theorem T.toks_text (t : T) (h : t.ok) : toks t.text = some t.tok := by
  have q := T.reads t h [] [] toks_nil sep_nil
  rw [List.append_nil, List.append_nil] at q
  exact q

/-! ### parsing -/
theorem leaf_name {s : Cs} (h : isName s = true) : leaf s .level = some (.nam s) := by unfold leaf; rw [h]; rfl
theorem leaf_num {k : Nat} (h : k < 100) : leaf (D k) .level = some (.num k) ∧ leaf (D k) .number = some (.plus k) := by
  have q := num_ok h
  unfold numFacts at q
  simp only [Bool.and_eq_true, decide_eq_true_eq, Bool.not_eq_true'] at q
  have v : valOf (D k) = (k : Int) := by unfold valOf; rw [q.1.2]; rfl
  unfold leaf
  rw [q.1.1.2, q.1.1.1.2, v]
  exact ⟨rfl, rfl⟩
theorem leaf_sign {w : W} {g : Cs} (hg : g ∈ signs) : leaf g w = none := by
  have f : ∀ g ∈ signs, isName g = false ∧ isNum g = false := by decide +kernel
  unfold leaf
  rw [(f g hg).1, (f g hg).2]
  cases w <;> rfl
theorem turn_plus (ss : List Stp) (st : List (Bool × Int)) : turn ⟨ss, st, .sign⟩ cPlus = some ⟨ss, st, .number⟩ := by
  unfold turn; rw [leaf_sign (by decide)]; rfl
theorem turn_sep (ss : List Stp) (b : Bool) (n : Int) (st : List (Bool × Int)) : turn ⟨ss, (b, n) :: st, .sign⟩ cSep = some ⟨ss, (b, n + 1) :: st, .level⟩ := by
  unfold turn; rw [leaf_sign (by decide)]; rfl
theorem turn_end (ss : List Stp) (b : Bool) (n : Int) (st : List (Bool × Int)) (h : full b n = true) : turn ⟨ss, (b, n) :: st, .sign⟩ cEnd = some ⟨ss ++ [.call b n], st, .sign⟩ := by
  unfold turn; rw [leaf_sign (by decide)]
  show (if full b n = true then _ else _) = _
  rw [if_pos h]
theorem turn_opn (ss : List Stp) (b : Bool) (st : List (Bool × Int)) : turn ⟨ss, st, .level⟩ (opn b) = some ⟨ss, (b, 1) :: st, .level⟩ := by
  unfold turn; rw [leaf_sign (mem_sign b)]; cases b <;> rfl
theorem parse_step {p q : PSt} {t : Cs} (h : turn p t = some q) (r : List Cs) : parse p (t :: r) = parse q r := by
  unfold parse; rw [h]; cases r <;> rfl
theorem turn_leaf {ss : List Stp} {st : List (Bool × Int)} {w : W} {t : Cs} {l : Stp} (h : leaf t w = some l) : turn ⟨ss, st, w⟩ t = some ⟨ss ++ [l], st, .sign⟩ := by
  unfold turn; rw [h]
def Parses (ts : List Cs) (o : List Stp) : Prop := ∀ ss st, parse ⟨ss, st, .level⟩ ts = some ⟨ss ++ o, st, .sign⟩
theorem parse_glue : ∀ l : List (List Cs × List Stp), l ≠ [] → (∀ p ∈ l, Parses p.1 p.2) → ∀ ss b n st,
    parse ⟨ss, (b, n) :: st, .level⟩ (glue (l.map (·.1))) = some ⟨ss ++ (l.map (·.2)).flatten, (b, n + (l.length : Int) - 1) :: st, .sign⟩
  | [], h, _ => absurd rfl h
  | [p], _, h => fun ss b n st => by
    have := h p List.mem_cons_self ss ((b, n) :: st)
    have e : n + (([p] : List (List Cs × List Stp)).length : Int) - 1 = n := by simp
    rw [e]
    simpa [glue] using this
  | p :: q :: l, _, h => fun ss b n st => by
    have h1 := h p List.mem_cons_self ss ((b, n) :: st)
    have ih := parse_glue (q :: l) (by simp) (fun x hx => h x (List.mem_cons_of_mem _ hx)) (ss ++ p.2) b (n + 1) st
    have e : n + 1 + (((q :: l).length : Nat) : Int) - 1 = n + (((p :: q :: l).length : Nat) : Int) - 1 := by simp only [List.length_cons]; omega
    rw [e] at ih
    show parse _ (p.1 ++ cSep :: glue ((q :: l).map (·.1))) = _
    rw [parse_append, h1, Option.bind_some, parse_step (turn_sep _ _ _ _)]
    refine ih.trans ?_
    simp [List.append_assoc]
theorem T.parses : ∀ t : T, t.ok → Parses t.tok t.stp
  | .num k, h => fun ss st => by
    unfold T.ok at h
    rw [T.tok, T.stp, parse_step (turn_leaf (leaf_num h).1)]
    rfl
  | .nam s, h => fun ss st => by
    unfold T.ok at h
    rw [T.tok, T.stp, parse_step (turn_leaf (leaf_name h))]
    rfl
  | .plus t k, h => fun ss st => by
    unfold T.ok at h
    rw [T.tok, T.stp, parse_append, T.parses t h.1, Option.bind_some, parse_step (turn_plus _ _), parse_step (turn_leaf (leaf_num h.2).2)]
    show some (PSt.mk (ss ++ t.stp ++ [Stp.plus k]) st W.sign) = _
    rw [List.append_assoc]
  | .node b ts, h => fun ss st => by
    unfold T.ok at h
    rw [T.tok, T.stp]
    have g := parse_glue (ts.map fun t => (t.tok, t.stp)) (fun z => ?_) (fun p hp => ?_) ss b 1 st
    · rw [parse_step (turn_opn _ _ _), parse_append]
      simp only [List.map_map, List.length_map] at g
      have e : (1 : Int) + (ts.length : Int) - 1 = ts.length := by omega
      rw [e] at g
      have g1 : parse ⟨ss, (b, 1) :: st, .level⟩ (glue (ts.map fun t => t.tok)) = some ⟨ss ++ (ts.map fun t => t.stp).flatten, (b, (ts.length : Int)) :: st, .sign⟩ := g
      rw [g1, Option.bind_some, parse_step (turn_end _ _ _ _ h.1)]
      show some (PSt.mk _ _ _) = _
      rw [List.append_assoc]
    · have : ts = [] := List.map_eq_nil_iff.mp z
      subst this
      have := h.1
      cases b <;> cases this
    · obtain ⟨t, ht, rfl⟩ := List.mem_map.mp hp
      exact T.parses t (h.2 t ht)
theorem T.steps (t : T) (h : t.ok) : stepsOf t.text = some t.stp := by
  unfold stepsOf
  rw [T.toks_text t h]
  show (parse ⟨[], [], .level⟩ t.tok).bind ended = _
  rw [T.parses t h]
  rfl
end Mr
/-! Sx -/
set_option Elab.async false
set_option linter.all false
set_option maxRecDepth 100000
set_option maxHeartbeats 2000000
/-! Sets of texts over the layer: made by a comprehension, sorted. -/
namespace Sx
open PySem PySem.Spec PyProof.Rows L2

def elName (e : Int × Value) : Str := strOf e.2
def ElOk (w : World) (e : Int × Value) : Prop := ∃ x tk, e.2 = Value.str x tk ∧ e.1 = hashStr w x
theorem kdIs (P : Program) (w : World) (x : Str) (tk : Tok) : (strKind P w).is x (.str x tk) = true := by
  show Value.isStrOf x (.str x tk) = true
  simp [Value.isStrOf]
/-- the texts ks stand in the set at a (at most n places are taken) -/
def TSet (w : World) (h : Heap) (a : Addr) (ks : List Str) (n : Nat) : Prop := ∃ (o : Obj) (es : Array (Int × Value)) (ep : Nat) (t : SetTable),
  (h.get? a = some o ∧ o.ExactSet ∧ o.data = .set es ep t) ∧ (∀ e ∈ es.toList, ElOk w e) ∧ (es.toList.map elName).Nodup ∧ (∀ x, x ∈ ks ↔ x ∈ es.toList.map elName) ∧
  (es.size ≤ n ∧ n < scanBound) ∧ t.fits es.size = true ∧ Ris t.place.toList ∧ (w.params.followText "set-order" = true ∨ t.led = true)
section
variable {P : Program} {w : World} {h h' : Heap} {a : Addr} {ks : List Str} {n : Nat}
theorem TSet.stay (R : TSet w h a ks n) (k : ∀ o, h.get? a = some o → h'.get? a = some o) : TSet w h' a ks n :=
  let ⟨o, es, ep, t, ⟨h1, h2⟩, r⟩ := R
  ⟨o, es, ep, t, ⟨k o h1, h2⟩, r⟩
theorem elemsOk {l : List (Int × Value)} (g : ∀ e ∈ l, ElOk w e) : ElemsOf (strKind P w) l := fun e he =>
  let ⟨x, tk, p, q⟩ := g e he
  ⟨⟨x, (by rw [p]; exact kdIs P w x tk), q⟩, by rw [p] <;> rfl⟩
theorem elIs {e : Int × Value} (g : ElOk w e) (x : Str) : (strKind P w).is x e.2 = true ↔ elName e = x := by
  obtain ⟨y, tk, p, _⟩ := g
  unfold elName
  rw [p]
  constructor
  · intro z
    obtain ⟨t, q⟩ := Value.isStrOf_shape (show Value.isStrOf x (.str y tk) = true from z)
    injection q
  · rintro rfl
    exact kdIs P w y tk
theorem elMem {l : List (Int × Value)} (g : ∀ e ∈ l, ElOk w e) (x : Str) : x ∈ l.map elName ↔ ∃ e ∈ l, (strKind P w).is x e.2 = true := by
  rw [List.mem_map]
  exact ⟨fun ⟨e, he, q⟩ => ⟨e, he, (elIs (g e he) x).2 q⟩, fun ⟨e, he, q⟩ => ⟨e, he, (elIs (g e he) x).1 q⟩⟩
theorem TSet.setOf (R : TSet w h a ks n) : ∃ S m, h.SetOf (strKind P w) a S m := by
  obtain ⟨o, es, ep, t, ⟨h1, h2, h3⟩, g, nd, hm, hb, hf, _⟩ := R
  exact ⟨fun x => decide (x ∈ ks), es.size, o, es, ep, t, h1, h2, h3, elemsOk g, fun x => (by rw [decide_eq_true_eq]; exact (hm x).trans (elMem g x)), Nat.lt_of_le_of_lt hb.1 hb.2, hf, rfl⟩
end

section
variable {P : Program} {w : World} {A : Around} {E : Value → Shared → Prop} {s : Shared} {a : Addr} {ks : List Str} {n : Nat}
/-- behind the store of a new element -/
theorem addTail {gv : Bool → Sem Unit} (hg : ∀ (b : Bool) (s₁ : Shared) (Q' : Unit → Shared → Prop), Q' () s₁ → wpAny (model P w) A (gv b) Q' E s₁)
    {o : Obj} {es es1 : Array (Int × Value)} {ep : Nat} {t t2 : SetTable} {wd : Bool} {kk : List Str} {m : Nat} {R : Option Bool → Shared → Prop} (ob : s.heap.get? a = some o ∧ o.ExactSet ∧ o.data = .set es ep t)
    (g1 : ∀ e ∈ es1.toList, ElOk w e) (nd1 : (es1.toList.map elName).Nodup) (m1 : ∀ x, x ∈ kk ↔ x ∈ es1.toList.map elName) (hb : es1.size ≤ m ∧ m < scanBound)
    (hf : t2.fits es1.size = true) (hr : Ris t2.place.toList) (hl : w.params.followText "set-order" = true ∨ t2.led = true)
    (hR : ∀ h', Heap.SameBut a s.heap h' → TSet w h' a kk m → R (some true) { s with heap := h' }) :
    wpAny (model P w) A (do
      storeSet a es1 t2
      if (!wd && t2.tooFull) = true then do
        gv (relayAll t2 es1 (SetTable.grown es1.size)).2.2; storeSet a (relayAll t2 es1 (SetTable.grown es1.size)).1 (relayAll t2 es1 (SetTable.grown es1.size)).2.1; pure (some true)
      else pure (some true)) R E s := by
  obtain ⟨ho, hex, hd⟩ := ob
  have lt1 : es1.size < scanBound := Nat.lt_of_le_of_lt hb.1 hb.2
  have o1 := store_at (es' := es1) (t' := t2) ho hd
  have b1 := Heap.SameBut.update s.heap a (Obj.putSet es1 t2)
  refine wpAny_bind (wpAny_storeSet_of ho hd ?_ (fits_of_scanBound lt1))
  split
  · have pm := relayAll_perm t2 es1 (SetTable.grown es1.size); have f3 := relayAll_fits t2 es1 (SetTable.grown es1.size); have r3 := relayAll_ris t2 es1 (SetTable.grown es1.size); have l3 := relayAll_led t2 es1 (SetTable.grown es1.size)
    generalize relayAll t2 es1 (SetTable.grown es1.size) = Z at pm f3 r3 l3 ⊢
    obtain ⟨es2, t3, gave⟩ := Z
    dsimp only at pm f3 r3 l3 ⊢
    have sz2 : es2.size = es1.size := by rw [← Array.length_toList, pm.length_eq, Array.length_toList]
    refine wpAny_bind (hg _ _ _ (wpAny_bind (wpAny_storeSet_of o1 rfl ?_ (fits_of_scanBound (by rw [sz2]; exact lt1)))))
    refine wpAny_pure (hR _ (b1.trans (Heap.SameBut.update _ a _)) ⟨_, es2, _, t3, ⟨store_at (es' := es2) (t' := t3) o1 rfl, hex, rfl⟩, fun e he => g1 e (pm.mem_iff.mp he), ?_, ?_, ?_, f3, r3, ?_⟩)
    · exact (pm.map elName).nodup_iff.mpr nd1
    · exact fun x => (m1 x).trans (pm.map elName).mem_iff.symm
    · rw [sz2]; exact hb
    · exact hl.imp id fun z => (by rw [l3]; exact z)
  · exact wpAny_pure (hR _ b1 ⟨_, es1, _, t2, ⟨o1, hex, rfl⟩, g1, nd1, m1, hb, hf, hr, hl⟩)
theorem addHashed {x : Str} {tk : Tok} {Q : Bool → Shared → Prop} (R : TSet w s.heap a ks n) (room : n + 1 < scanBound)
    (hQ : ∀ b h', Heap.SameBut a s.heap h' → TSet w h' a (ks ++ [x]) (n + 1) → Q b { s with heap := h' }) : wpAny (model P w) A (setAddHashed a (.str x tk) ((strKind P w).hash x)) Q E s := by
  obtain ⟨o, es, ep, t, ⟨ho, hex, hd⟩, g, nd, hm, ⟨hb, hbn⟩, hf, hr, hl⟩ := R
  have lt0 : es.size < scanBound := Nat.lt_of_le_of_lt hb hbn
  have el : ElemsOf (strKind P w) es.toList := elemsOk g
  have hsc : (Value.str x tk).scannable = true := rfl
  unfold setAddHashed setAddHashedIn
  refine wpAny_holding (wpAny_bind (wpAny_setState_of ho hd hf ?_))
  dsimp only
  rw [byScan_of hsc lt0 el]
  simp only [↓reduceIte]
  unfold setAddByScan
  refine wpAny_bind (wpAny_bind (wpAny_rule (wpAny_bind (wpAny_setScan_of (kdIs P w x tk) ho hd hf el ?_))))
  cases fi : List.findIdx? (fun e => (strKind P w).is x e.2) es.toList with
  | some j =>
    dsimp only
    obtain ⟨hj, pj, _⟩ := List.findIdx?_eq_some_iff_getElem.mp fi
    have xin : x ∈ ks := (hm x).2 ((elMem (P := P) (w := w) g x).2 ⟨es.toList[j], List.getElem_mem hj, pj⟩)
    refine wpAny_pure (wpAny_pure (hQ _ s.heap (Heap.SameBut.refl a s.heap) ⟨o, es, ep, t, ⟨ho, hex, hd⟩, g, nd, fun y => ?_, ⟨Nat.le_succ_of_le hb, room⟩, hf, hr, hl⟩))
    rw [List.mem_append, List.mem_singleton, ← hm y]
    exact ⟨fun z => z.elim id fun e => e ▸ xin, .inl⟩
  | none =>
    dsimp only
    have xout : x ∉ es.toList.map elName := fun z => by
      obtain ⟨e, he, q⟩ := (elMem (P := P) (w := w) g x).1 z
      exact absurd q (by rw [List.findIdx?_eq_none_iff.mp fi e he]; exact Bool.false_ne_true)
    have way : ∀ (b : Bool) {s₁ : Shared} {Q' : Unit → Shared → Prop}, Q' () s₁ → wpAny (model P w) A (match b with | true => rule "set.scan.the-table-gave-way" | false => pure ()) Q' E s₁ := fun b s₁ Q' q => by
      cases b
      · exact wpAny_pure q
      · exact wpAny_rule q
    have pm := layNew_perm t es ((strKind P w).hash x) (.str x tk); have f1 := layNew_fits t es ((strKind P w).hash x) (.str x tk); have r1 := layNew_ris t es ((strKind P w).hash x) (.str x tk) hr; have l1 := layNew_led t es ((strKind P w).hash x) (.str x tk)
    generalize layNew t es ((strKind P w).hash x) (.str x tk) = Z at pm f1 r1 l1 ⊢
    obtain ⟨es1, t1, wd, gave⟩ := Z
    dsimp only at pm f1 r1 l1 ⊢
    rw [Array.toList_push] at pm
    have pc : es1.toList.Perm (((strKind P w).hash x, Value.str x tk) :: es.toList) := pm.trans (List.perm_append_singleton _ _)
    have pk : (es1.toList.map elName).Perm (x :: es.toList.map elName) := pc.map elName
    have g1 : ∀ e ∈ es1.toList, ElOk w e := fun e he => (List.mem_cons.mp (pc.mem_iff.mp he)).elim (fun z => z ▸ ⟨x, tk, rfl, rfl⟩) (g e)
    have nd1 : (es1.toList.map elName).Nodup := pk.nodup_iff.mpr (List.nodup_cons.mpr ⟨xout, nd⟩)
    have m1 : ∀ y, y ∈ ks ++ [x] ↔ y ∈ es1.toList.map elName := fun y => by rw [List.mem_append, List.mem_singleton, hm y, pk.mem_iff, List.mem_cons]; exact Or.comm
    have sz1 : es1.size ≤ n + 1 := by rw [← Array.length_toList, pc.length_eq, List.length_cons, Array.length_toList]; exact Nat.succ_le_succ hb
    have led1 : w.params.followText "set-order" = true ∨ t1.led = true := hl.imp id fun z => (by rw [l1]; exact z)
    have gw : ∀ (b : Bool) (s₁ : Shared) (Q' : Unit → Shared → Prop), Q' () s₁ → wpAny (model P w) A ((fun b : Bool => (match b with | true => rule "set.scan.the-table-gave-way" | false => pure () : Sem Unit)) b) Q' E s₁ := fun b s₁ Q' q => way b q
    refine wpAny_bind (way _ ?_)
    split
    · refine wpAny_bind ?_
      rw [hashByValue_scannable 8 hsc]
      refine wpAny_pure (addTail gw ⟨ho, hex, hd⟩ g1 nd1 m1 ⟨sz1, room⟩ ?_ ?_ ?_ fun h' sb r => ?_)
      · first | (split <;> first | exact f1 | exact SetTable.fits_plain_off f1) | exact f1
      · first | (split <;> exact r1) | exact r1
      · first | (split <;> exact led1) | exact led1
      · dsimp only; exact wpAny_pure (hQ _ h' sb r)
    · refine wpAny_bind (wpAny_pure ?_)
      simp only [↓reduceIte]
      refine addTail gw ⟨ho, hex, hd⟩ g1 nd1 m1 ⟨sz1, room⟩ f1 r1 led1 fun h' sb r => ?_
      dsimp only; exact wpAny_pure (hQ _ h' sb r)
/-- set.add of a text -/
theorem addText {x : Str} {tk : Tok} {Q : Value → Shared → Prop} (R : TSet w s.heap a ks n) (room : n + 1 < scanBound)
    (hQ : ∀ h', Heap.SameBut a s.heap h' → TSet w h' a (ks ++ [x]) (n + 1) → Q .none { s with heap := h', toks := s.toks + 1 }) : wpAny (model P w) A (call (.builtin "set.add") [.ref a, .str x tk]) Q E s := by
  obtain ⟨S, m, hS⟩ := TSet.setOf (P := P) R
  refine wpAny_call_entry F.slot_set_add hS.typeIs F.entry_set_add ?_ (F.args_set_add_2 _ _)
  unfold Builtin.«set.add» Builtin.Frozenset.oneOther; simp only [List.isEmpty_nil, bind_assoc]; unfold Builtin.Frozenset.addrOf setAdd
  refine wpAny_bind (wpAny_pure ?_); try dsimp only
  refine wpAny_bind (wpAny_pure ?_); try dsimp only
  refine wpAny_bind (wpAny_holding (wpAny_bind ((strKind P w).pyHash (kdIs P w x tk) ?_)))
  refine addHashed (s := { s with toks := s.toks + 1 }) R room fun b h' sb r => ?_
  exact wpAny_pure ⟨_, rfl, hQ h' sb r⟩
theorem emptySet (w : World) (h : Heap) : TSet w (h.push { cls := .type "set", dict := none, data := .set #[] 0 (.fresh 0 0 (!w.params.followText "set-order")) }) h.objs.size [] 0 := by
  refine ⟨_, #[], 0, _, ⟨Heap.get?_push_size _ rfl, ⟨rfl, rfl, rfl⟩, rfl⟩, fun e he => by simp at he, by simp, fun x => by simp, ⟨Nat.le_refl _, by decide⟩, by rfl, List.Pairwise.nil, ?_⟩
  show _ ∨ (!w.params.followText "set-order") = true
  cases w.params.followText "set-order"
  · exact .inr rfl
  · exact .inl rfl
/-- sorted(set of fewer than 64 texts): a new list -/
theorem sortedSet {Q : Value → Shared → Prop} (R : TSet w s.heap a ks n) (hh : A.handled = none) (few : n < 64)
    (hQ : ∀ s' p (out : Array Value) (c : Nat) (ys : List Str), (∀ b o, s.heap.get? b = some o → s'.heap.get? b = some o) → s'.gens = s.gens → s'.os = s.os → s.heap.objs.size ≤ p →
      s'.heap.get? p = some (seqObj "list" out c) → StrsAre out.toList ys → sortedS ys = true → ys.Nodup → (∀ x, x ∈ ys ↔ x ∈ ks) → ys.length ≤ n → Q (.ref p) s') : wpAny (model P w) A (call (.builtin "sorted") [.ref a]) Q E s := by
  obtain ⟨o, es, ep, t, ⟨ho, hex, hd⟩, g, nd, hm, ⟨hb, hbn⟩, hf, hr, hl⟩ := R
  refine Calls.call_function_entry kind_sorted plain_sorted entry_sorted (args_sorted1 _) ?_
  unfold Builtin.«sorted»
  refine wpAny_bind (m := checkCount "sorted" 1 1 _) (wpAny_pure (wpAny_bind (collect_set (A := A.in1) hh ⟨o, ho, hex.1, hd⟩ hf (Nat.lt_of_le_of_lt hb hbn) hr hl fun s1 vs k1 hz g1 o1 pm => ?_)))
  have lv : vs.length ≤ n := by rw [pm.length_eq, List.length_map, Array.length_toList]; exact hb
  have hS : StrsAre vs (vs.map strOf) := strsAre_map vs fun v hv => by
    obtain ⟨e, he, q⟩ := List.mem_map.mp (pm.mem_iff.mp hv)
    obtain ⟨x, tk, z, _⟩ := g e he
    exact ⟨x, tk, by rw [← q]; exact z⟩
  have pk : (vs.map strOf).Perm (es.toList.map elName) := by
    have q := pm.map strOf
    rw [List.map_map] at q
    exact q
  refine wpAny_bind (wpAny_newList ?_ (by rw [sizeLine_eq]; omega))
  have hoL : (s1.heap.push (seqObj "list" vs.toArray 0)).get? s1.heap.objs.size = some (seqObj "list" vs.toArray 0) := Heap.get?_push_size _ rfl
  refine wpAny_bind (wpAny_holding (wpAny_call_entry slot_list_sort ⟨_, hoL, rfl⟩ entry_list_sort (list_sort_treeK strKind_oneLt hoL hS.keysOf (fun v₁ v₂ rest e => keyKind_strs (by rw [← e]; exact hS)) (by omega) fun st' a1 a2 => ⟨_, rfl, ?_⟩) (args_list_sort _)))
  obtain ⟨ys, y1, y2, y3⟩ := sorted_out_str hS a1 a2
  obtain ⟨c, hc⟩ := sortedHeap_at (vs := vs) (out := (arrOf st').map (·.2)) hoL
  have py : ys.Perm (es.toList.map elName) := y2.trans pk
  refine wpAny_pure ⟨_, rfl, hQ _ s1.heap.objs.size _ c ys (fun b u e => ?_) g1 o1 hz hc y1 y3 (py.nodup_iff.mpr nd) (fun x => by rw [py.mem_iff, ← hm x]) ?_⟩
  · have q := k1 b u e
    have lt := Heap.lt_size q
    show (sortedHeap (s1.heap.push (seqObj "list" vs.toArray 0)) s1.heap.objs.size vs _).get? b = some u
    rw [sortedHeap_old (Nat.ne_of_lt lt) (by rw [size_push']; exact Nat.lt_succ_of_lt lt)]; exact Heap.get?_push_of_some _ q
  · rw [py.length_eq, List.length_map, Array.length_toList]; exact hb
end

/-! ### over the layer -/
def TxS (w : World) (a : Addr) (ks : List Str) (n : Nat) : HO := .ext fun h => TSet w h a ks n
theorem to_ok {w : World} {P : Program} {H : Hp} {h : Heap} {a : Addr} {ks : List Str} {n : Nat} (R : TSet w h a ks n) : ObjOk P w H h a (TxS w a ks n) :=
  let ⟨o, _, _, _, ⟨ho, _⟩, _⟩ := R
  ⟨R, ⟨o, ho⟩, fun h1 h2 p k => TSet.stay p k⟩
section
variable {X : Cx}
theorem to_get {pins : List (Addr × Obj)} {σ : L2.St} {H : Hp} {s : Shared} {a : Addr} {ks : List Str} {n : Nat} (I : Inv X pins σ H s) (ha : H a = some (TxS X.w a ks n)) : TSet X.w s.heap a ks n := (I.hok a _ ha).1
theorem to_add {pins : List (Addr × Obj)} {σ : L2.St} {H : Hp} {s : Shared} {E : Value → Shared → Prop} {D : Addr} {ks : List Str} {n : Nat} {x : Str} {tk : Tok} {Q : Value → Shared → Prop} (I : Inv X pins σ H s) (hD : H D = some (TxS X.w D ks n)) (room : n + 1 < scanBound)
    (h : ∀ s', Inv X pins σ (upd H D (TxS X.w D (ks ++ [x]) (n + 1))) s' → Q .none s') : wpAny (model X.prog X.w) X.A (call (.builtin "set.add") [.ref D, .str x tk]) Q E s := by
  refine addText (to_get I hD) room fun h' sb new => h _ ?_
  have he : ∃ u, h'.get? D = some u := let ⟨o, _, _, _, ⟨ho, _⟩, _⟩ := new; ⟨o, ho⟩
  exact I.write (e := D) (t' := s.toks + 1) (by rw [hD]; trivial) (.inl rfl) (fun b u hb hu => (sb.2 b hb).trans hu) he (to_ok new)
/-- sorted(s), s a set of texts -/
def rSortTO (w : World) : List V → Hp → VK → Prop := fun vs H Q => ∃ (a : Addr) (ks : List Str) (n : Nat), vs = [V.ref a] ∧ H a = some (TxS w a ks n) ∧ n < 64 ∧
  ∀ (ys : List Str) (p : Addr), sortedS ys = true → ys.Nodup → (∀ x, x ∈ ys ↔ x ∈ ks) → ys.length ≤ n → H p = none → Q (.ref p) (upd H p (.lst (ys.map V.str)))
theorem cr_sortTO (hc : X.calm = true) : CallR X (.builtin "sorted") (rSortTO X.w) := by
  intro pins s σ H vs us Q I r h
  obtain ⟨a, ks, n, rfl, ha, few, q⟩ := h
  rw [Vals.ref1 r]
  refine sortedSet (to_get I ha) (I.ok.hd hc) few fun s' p out c ys k g o hp hg hi h1 h2 h3 h4 => ?_
  have lz : (ys.map V.str).length ≤ sizeLine := by rw [List.length_map, sizeLine_eq]; omega
  have hn : H p = none := I.hok.fresh hp
  have J : Inv X pins σ (upd H p (.lst (ys.map V.str))) { s with heap := s'.heap, gens := s'.gens, drawn := s'.drawn, toks := s'.toks } :=
    I.call (ch := []) (Un.laid k hp hn) (I.hok.laid k hp ⟨lz, out.toList, c, vals_of_strs hi, hg⟩) (by rw [g]; exact I.bare) (fun _ z => nomatch z)
  have e : s' = { s with heap := s'.heap, gens := s'.gens, drawn := s'.drawn, toks := s'.toks } := by cases s'; cases s; cases o; rfl
  rw [e]
  exact ⟨.ref p, _, J, rfl, q ys p h1 h2 h3 h4 hn⟩
end
end Sx
/-! Sc -/
set_option Elab.async false
set_option linter.all false
set_option maxRecDepth 100000
set_option maxHeartbeats 2000000
/-! {e for .. in .. if ..} of texts. -/
namespace Sx
open PySem PySem.Spec PyProof.Rows L2
section
variable {X : Cx}
/-- what a turn does with the member that it made -/
def kAdd (w : World) (D : Addr) (Nx : Hp → Prop) : VK := fun y H => ∃ (z : Str) (ks : List Str) (n : Nat), y = .str z ∧ H D = some (TxS w D ks n) ∧ n + 1 < scanBound ∧ Nx (upd H D (TxS w D (ks ++ [z]) (n + 1)))
def turnOf (w : World) (g : TG) (tt : TT) (te : TE) (vs : List Nat) (σ : L2.St) (D : Addr) (Nx : Hp → Prop) : V → Hp → Prop := fun x H => g x (wipe σ vs) H fun σ2 H2 => wipe σ2 vs = wipe σ vs ∧ tt σ2 H2 fun b H3 => if b = true then te σ2 H3 (kAdd w D Nx) else Nx H3
def tSs (w : World) (wi : TI) (g : TG) (tt : TT) (te : TE) (vs : List Nat) : TE := fun σ H Q => wi σ H fun J H1 => ∀ D, H1 D = none → ∃ W : Nat → Nat → Hp → Prop, (∃ m, W 0 m (upd H1 D (TxS w D [] 0))) ∧
  ∀ i m H, W i m H → (J.stop i H ∧ Q (.ref D) H) ∨ (J.go i H ∧ ∃ Nx : Hp → Prop, (∀ H', Nx H' → ∃ m', m' < m ∧ W (i + 1) m' H') ∧ ∀ x H', J.yld i H x H' → turnOf w g tt te vs σ D Nx x H')
theorem pe_ss {elt tg iter : Expr} {ifs : List Expr} {scope : Scope} {own : List (PySem.Str × Nat)} {pos : Pos} {wi : TI} {g : TG} {tt : TT} {te : TE} (hc : X.calm = true) (hN : X.N.Nodup) (hi : PI X tg iter wi) (ok : BlkOk X.N X.env.scope scope own)
    (hg : ∀ (s : Shared) (H : Hp) (C : Addr) (cl : List (PySem.Str × Addr)) (fp : List Addr), PG (X.blk s H scope (compEnvC scope cl C X.env) fp) tg g)
    (ht : ∀ (s : Shared) (H : Hp) (C : Addr) (cl : List (PySem.Str × Addr)) (fp : List Addr), PTs (X.blk s H scope (compEnvC scope cl C X.env) fp) ifs tt)
    (he : ∀ (s : Shared) (H : Hp) (C : Addr) (cl : List (PySem.Str × Addr)) (fp : List Addr), PE (X.blk s H scope (compEnvC scope cl C X.env) fp) elt te)
    (hs : ∀ x, foldedSetIterable iter X.env x = pure x := by intro _; rfl) : PE X (.SetComp elt [⟨tg, iter, ifs, 0⟩] scope pos) (tSs X.w wi g tt te (own.map (·.2))) := by
  refine ⟨fun pins s σ H Q I h => ?_⟩
  rw [PpSet.eval_SetComp]
  have frees : ∀ y ∈ scope.names, y.2 = .free → ∃ c, X.env.cells.lookup y.1 = some c := fun y hy e => I.ok.has _ ((ok.free y hy e).imp id id)
  refine wpAny_comprehension_free rfl hs (closure_ok frees) ok.kind (fun y hy e => by rw [ok.uniq y hy, e]) (thn (hi.run pins s σ H _ I h) fun xv s1 hx => thn hx fun itv s2 h2 => ?_)
  obtain ⟨it, fp, tn, J, H2, rfl, I2, T, st2, f2, q⟩ := h2
  refine PpSet.newSet_ok (newEnv_comp ?_)
  generalize hD : s2.heap.objs.size = D
  generalize ho : ({ cls := .type "set", dict := none, data := .set #[] 0 (.fresh 0 0 (!X.w.params.followText "set-order")) } : Obj) = oD
  obtain ⟨W, ⟨m0, w0⟩, turn⟩ := q D (I2.hok.fresh (Nat.le_of_eq hD))
  generalize hs3 : ({ s2 with heap := s2.heap.push oD } : Shared) = s3
  have e3 : s3.heap = s2.heap.push oD := by rw [← hs3]
  have I3 : Inv X pins σ (upd H2 D (TxS X.w D [] 0)) s3 := by
    rw [← hs3]
    refine I2.laid (t' := s2.toks) (fun b o e => Heap.get?_push_of_some _ e) (Nat.le_of_eq hD) (to_ok ?_)
    rw [← hD, ← ho]; exact emptySet X.w s2.heap
  have lt : ∀ b ∈ fp, b < s2.heap.objs.size := fun b hb => let ⟨o, e, _⟩ := T.obj _ _ st2 b hb; Heap.lt_size e
  have f3 : ∀ b ∈ fp, FpOk X pins (upd H2 D (TxS X.w D [] 0)) b ∧ b < s3.heap.objs.size := fun b hb => by
    refine ⟨⟨(upd_ne (by rw [← hD]; exact Nat.ne_of_lt (lt b hb))).trans (f2 b hb).1, (f2 b hb).2⟩, ?_⟩
    rw [e3, Heap.size_push]; exact Nat.lt_succ_of_lt (lt b hb)
  have st3 : tn 0 s3.heap := T.keep _ _ _ st2 fun b _ o e => by rw [e3]; exact Heap.get?_push_of_some _ e
  have I4 := block_start I3 ok hN f3
  generalize hcl : cellsFrom (s3.heap.objs.size + 1) scope.names (cloFrom X.env.cells scope.names []) = cl at I4 ⊢
  have pg := hg s3 (upd H2 D (TxS X.w D [] 0)) s3.heap.objs.size cl fp
  have pt := ht s3 (upd H2 D (TxS X.w D [] 0)) s3.heap.objs.size cl fp
  have pe := he s3 (upd H2 D (TxS X.w D [] 0)) s3.heap.objs.size cl fp
  show codeAny _ _ (.compStart (.SetComp elt [⟨tg, iter, ifs, 0⟩] scope pos) 0 (.ref it) (.ref D) (compEnvC scope cl s3.heap.objs.size X.env)) (compPost (model X.prog X.w) X.A X.xe none (EP X pins σ Q) (.ref D) s3.heap.objs.size)
    { s3 with heap := pushCells (s3.heap.push { cls := .type "dict", data := .dict #[] }) scope.names }
  generalize hce : compEnvC scope cl s3.heap.objs.size X.env = ce at I4 pg pt pe ⊢
  have loc : ce.locals = s3.heap.objs.size := by subst hce; rfl
  generalize hH3 : upd H2 D (TxS X.w D [] 0) = H3 at I3 I4 pg pt pe w0 f3
  generalize hs4 : ({ s3 with heap := pushCells (s3.heap.push { cls := .type "dict", data := .dict #[] }) scope.names } : Shared) = s4 at I4 ⊢
  have st4 : tn 0 s4.heap := T.keep _ _ _ st3 fun b _ o e => by rw [← hs4]; exact pushCells_keeps _ _ _ _ (Heap.get?_push_of_some _ e)
  generalize hY : X.blk s3 H3 scope ce fp = Y at I4 pg pt pe
  have yA : Y.A = X.A := by subst hY; rfl
  have still : ∀ {σ' : L2.St} {H' : Hp} {s' : Shared}, Inv Y [] σ' H' s' → (∀ b ∈ fp, H' b = none) → ∀ b ∈ fp, FpOk Y [] H' b := fun {σ' H' s'} I' hn b hb => by
    subst hY
    exact ⟨hn b hb, (I'.ok.exf b hb).1, I'.ok.exfs b hb, .inl hb, fun x c e => (I'.ok.exf b hb).2 x c e, fun p hp => absurd (show p ∈ ([] : List (Addr × Obj)) ++ [] from hp) (by simp)⟩
  have loop : codeAny (model X.prog X.w) X.A (.compLoop (.SetComp elt [⟨tg, iter, ifs, 0⟩] scope pos) 0 (.ref it) (.ref D) ce) (compPost (model X.prog X.w) X.A X.xe none (EP X pins σ Q) (.ref D) s3.heap.objs.size) s4 := by
    refine PpSet.compLoopS_any (fun n s' => ∃ i H', Inv Y [] (wipe σ (own.map (·.2))) H' s' ∧ tn i s'.heap ∧ (∀ b ∈ fp, H' b = none) ∧ W i n H') ?_ m0 ⟨0, H3, I4, st4, fun b hb => (f3 b hb).1.1, w0⟩
    rintro n s5 ⟨i, H5, I5, st5, n5, w5⟩
    rcases turn i n H5 w5 with ⟨stop, qq⟩ | ⟨go, Nx, hNx, step⟩
    · have td := T.done Y (by subst hY; rfl) (by subst hY; rfl) (by subst hY; rfl) (by subst hY; exact hc) i [] s5 _ H5 (fun _ _ => False) I5 (still I5 n5) st5 stop
      rw [yA] at td
      subst hY
      refine thnF td fun r s6 ⟨hr, I6⟩ => ?_
      subst hr
      have I7 : Inv X pins σ H5 s6 := I3.call' (ch := fp) I6.os I6.base I6.hok I6.bare fun b hb => let z := (f3 b hb).1.2; ⟨z.2.2.1, z.1, z.2.2.2.1, z.2.2.2.2⟩
      have nC : H5 s3.heap.objs.size = none := by rw [← loc]; exact I6.free
      obtain ⟨m, hn, _⟩ := I6.loc
      have hn : s6.heap.Ns ce.locals m := hn
      rw [loc] at hn
      refine ⟨m, hn, fun h'' sb => ?_⟩
      obtain ⟨f0, f1, f2, f3, f4, f5⟩ := I3.fpOk (Nat.le_refl _) nC
      exact ⟨.ref D, H5, I7.turned (t' := s6.toks) (fun b o hb e => (sb.2 b hb).trans e) f0 f1 f3 f4 f5, rfl, qq⟩
    · have ti := T.item Y (by subst hY; rfl) (by subst hY; rfl) (by subst hY; rfl) (by subst hY; exact hc) i [] s5 _ H5 (fun _ _ => False) I5 (still I5 n5) st5 go
      rw [yA] at ti
      subst hY
      refine thnF ti fun r s6 ⟨u, hr, h6⟩ => ?_
      subst hr
      refine thnF h6 fun _ s7 ⟨x, H7, I7, r7, y7, st7, n7⟩ => ?_
      have I8 := I7.pinned (still I7 n7) (T.obj _ _ st7)
      refine thnF (pg.run _ s7 _ H7 x u _ I8 r7 (step x H7 y7)) fun _ s8 ⟨σ8, H8, I9, hw8, q8⟩ => ?_
      refine thnF (pt.run _ s8 σ8 H8 _ I9 q8) fun b s9 ⟨H9, I10, q9⟩ => ?_
      have nxt : ∀ {s' : Shared} {H' : Hp}, Inv (X.blk s3 H3 scope ce fp) ([] ++ pinsAt fp s7.heap) σ8 H' s' → Nx H' → ∃ m, m < n ∧ ∃ i H', Inv (X.blk s3 H3 scope ce fp) [] (wipe σ (own.map (·.2))) H' s' ∧ tn i s'.heap ∧ (∀ b ∈ fp, H' b = none) ∧ W i m H' := fun {s' H'} I' nx => by
        obtain ⟨m', hm, w'⟩ := hNx H' nx
        have pinned : ∀ b ∈ fp, ∀ o, s7.heap.get? b = some o → s'.heap.get? b = some o ∧ H' b = none := fun b hb o e => by
          have z := I'.pin (b, o) (List.mem_append_right _ (List.mem_append_right _ (mem_pinsAt hb e)))
          exact ⟨z.1, z.2.1⟩
        have hl : (wipe σ (own.map (·.2))).length = σ8.length := by rw [← hw8, wipe_length]
        have wk := (I'.unpinned (pins := [])).weak hl fun j v e => by rw [← hw8] at e; exact (wipe_some e).1
        refine ⟨m', hm, i + 1, H', wk, T.keep _ _ _ st7 fun b hb o e => (pinned b hb o e).1, fun b hb => ?_, w'⟩
        obtain ⟨o, e, _⟩ := T.obj _ _ st7 b hb
        exact (pinned b hb o e).2
      cases b with
      | false => simp only [Bool.false_eq_true, if_false] at q9 ⊢; exact nxt I10 q9
      | true =>
        simp only [if_true] at q9 ⊢
        refine thnF (pe.run _ s9 σ8 H9 _ I10 q9) fun z s10 ⟨yv, H10, I11, r10, zt, ks, n0, ey, hD10, room, nx⟩ => ?_
        subst ey
        obtain ⟨tk, rfl⟩ := (show ∃ t, z = Value.str zt t from r10)
        exact to_add (X := X.blk s3 H3 scope ce fp) I11 hD10 room fun s11 I12 => nxt I12 nx
  exact PpSet.codeAny_compStart_set loop (T.self X.A 0 _ _ _ st4 loop)
end
/-- over a tuple that the block leaves as it is: the invariant Pv i says what stands when i items are gone through -/
theorem ss_tup {w : World} {K : PySem.W.Frag} {a : Addr} {xs : List V} {g : TG} {tt : TT} {te : TE} {vs : List Nat} {σ : L2.St} {H1 : Hp} {D : Addr} {Qd : Hp → Prop} (Pv : Nat → Hp → Prop)
    (h0 : Pv 0 (upd H1 D (TxS w D [] 0))) (hl : ∀ i H, i ≤ xs.length → Pv i H → SqT K H a xs) (hs : ∀ i x H, xs[i]? = some x → Pv i H → turnOf w g tt te vs σ D (Pv (i + 1)) x H) (hd : ∀ H, Pv xs.length H → Qd H) :
    ∃ W : Nat → Nat → Hp → Prop, (∃ m, W 0 m (upd H1 D (TxS w D [] 0))) ∧ ∀ i m H, W i m H → ((Itt K a).stop i H ∧ Qd H) ∨
      ((Itt K a).go i H ∧ ∃ Nx : Hp → Prop, (∀ H', Nx H' → ∃ m', m' < m ∧ W (i + 1) m' H') ∧ ∀ x H', (Itt K a).yld i H x H' → turnOf w g tt te vs σ D Nx x H') := by
  refine ⟨fun i m H => (m = xs.length - i ∧ i ≤ xs.length) ∧ Pv i H, ⟨xs.length, ⟨by simp, Nat.zero_le _⟩, h0⟩, ?_⟩
  rintro i m H ⟨⟨rfl, hi⟩, p⟩
  have q := hl i H hi p
  by_cases lt : i < xs.length
  · refine .inr ⟨⟨xs, xs[i], q, by simp [lt]⟩, Pv (i + 1), fun H' p' => ⟨xs.length - (i + 1), by omega, ⟨rfl, lt⟩, p'⟩, ?_⟩
    rintro x H' ⟨rfl, y⟩
    exact hs i x _ (y xs q) p
  · obtain rfl : i = xs.length := by omega
    exact .inl ⟨⟨xs, q, Nat.le_refl _⟩, hd H p⟩
end Sx
/-! Dl -/
set_option Elab.async false
set_option linter.all false
set_option maxRecDepth 100000
set_option maxHeartbeats 2000000
/-! del xs[a:] -/
namespace Sx
open PySem PySem.Spec PyProof.Rows L2
/-- what is left when the places from k on are taken out -/
theorem keep_front (p : Nat → Bool) (k : Nat) : ∀ (xs : List Value) (i : Nat), (∀ j, j < i + xs.length → (p j = true ↔ i + k ≤ j) ∨ j < i) →
    ((xs.zipIdx i).filterMap fun x => if p x.2 = true then none else some x.1) = xs.take k
  | [], i, _ => by simp
  | x :: xs, i, h => by
    rw [List.zipIdx_cons, List.filterMap_cons]
    have h0 := (h i (by simp)).resolve_right (Nat.lt_irrefl _)
    cases k with
    | zero =>
      have hp : p i = true := h0.2 (by omega)
      simp only [hp, if_true, List.take_zero]
      refine (keep_front p 0 xs (i + 1) fun j hj => ?_).trans (by simp)
      rcases h j (by simp only [List.length_cons]; omega) with z | z
      · by_cases c : j < i + 1
        · exact .inr c
        · refine .inl (z.trans ?_); omega
      · exact .inr (by omega)
    | succ k =>
      have hp : p i = false := by
        cases q : p i with
        | false => rfl
        | true => have := h0.1 q; omega
      simp only [hp, Bool.false_eq_true, if_false, List.take_succ_cons]
      congr 1
      refine keep_front p k xs (i + 1) fun j hj => ?_
      rcases h j (by simp only [List.length_cons]; omega) with z | z
      · by_cases c : j < i + 1
        · exact .inr c
        · refine .inl (z.trans ?_); omega
      · exact .inr (by omega)
def back (a c : Int) (j : Nat) : Bool := decide (c < (j : Int)) && decide ((j : Int) ≤ a) && (a - (j : Int)) % (-1) == 0
def gone (a c : Int) (j : Nat) : Bool := if (1 : Int) > 0 then decide (a ≤ (j : Int)) && decide ((j : Int) < c) && ((j : Int) - a) % 1 == 0 else back a c j
section
variable {prog : Program} {w : World} {A : Around} {E : Value → Shared → Prop} {s : Shared}
theorem delItem_tail {l sl : Addr} {items : Array Value} {n : Nat} {vl : Value} {lo : Option Int} {Q : Unit → Shared → Prop} (e : s.heap.get? l = some { cls := .type "list", data := .seq items n })
    (hs : s.heap.IsSliceOf sl vl .none .none) (pl : IsPart vl lo) (hsz : items.size ≤ sizeLine)
    (h : ∀ f : Array Value → Array Value, f items = (items.toList.take (HT.sIx items.size 0 lo)).toArray → Q () { s with heap := s.heap.update l (Obj.mapSeq f) }) : wpAny (model prog w) A (delItem (.ref l) (.ref sl)) Q E s := by
  have hl : s.heap.IsList l items := PySem.IsL.isList e
  obtain ⟨os, hos, hcs, hds⟩ := id hs
  have hTs : s.TypeIs (.ref sl) "slice" := ⟨os, hos, hcs⟩
  refine wpAny_delItem_slot hl.typeIs (by decide) F.slot_list_delitem (wpAny_call_entry F.slot_list_delitem hl.typeIs F.entry_list_delitem ?_ (F.args_list_delitem_2 _ _))
  obtain ⟨b1, b2, b3⟩ := slice_bounds lo none items.size
  have hle : HT.sIx items.size 0 lo ≤ items.size := HT.sIx_le _ _ (Nat.zero_le _) _
  have hend : HT.sIx items.size items.size none = items.size := rfl
  rw [hend] at b2
  generalize hk : HT.sIx items.size 0 lo = k at b1 hle h
  have hb : sliceBounds lo none none items.size = ((k : Int), (items.size : Int), 1) := by
    rw [← b1, ← b2, ← b3]
  show wpAny _ _ (Builtin.List.listSubscript? (.ref sl) >>= _) _ _ s
  refine wpAny_bind ?_
  unfold Builtin.List.listSubscript?; refine wpAny_bind (wpAny_specialOf hTs slice_no_index ?_)
  simp only [Option.isNone_none, if_true]; refine wpAny_pure ?_
  show wpAny _ _ (typeOf (.ref sl) >>= _) _ _ s
  refine wpAny_bind (wpAny_typeOf hTs ?_)
  first | rw [if_neg (by decide)] | refine PySem.W.KFB.if_not (by decide) ?_
  rw [listSliceParts_eq]
  refine wpAny_bind (wpAny_bind (wpAny_field hos hds (x := .none) rfl (wpAny_bind (wpAny_listPart .none ?_))))
  rw [if_neg (show ¬ ((rawPart none == rawInt 0) = true) from Bool.false_ne_true)]
  refine wpAny_bind (wpAny_field hos hds (x := vl) rfl (wpAny_bind (wpAny_listPart pl ?_)))
  refine wpAny_bind (wpAny_field hos hds (x := .none) rfl (wpAny_bind (wpAny_listPart .none (wpAny_pure ?_))))
  unfold Builtin.List.listItems
  refine wpAny_bind (wpAny_bind (wpAny_seqItems e rfl (wpAny_pure ?_)))
  refine wpAny_bind (wpAny_of_eq ((sliceIndices_raw lo none none items.size (by simp)).trans (congrArg (pure : Int × Int × Int → Sem (Int × Int × Int)) hb)) ?_)
  refine wpAny_bind (wpAny_rule ?_)
  have hf : ∀ p : Nat → Bool, (∀ j, j < items.size → (p j = true ↔ k ≤ j)) → (items.toList.zipIdx.filterMap fun x => if p x.2 = true then none else some x.1).toArray = (items.toList.take k).toArray := fun p hp => by
    rw [keep_front p k items.toList 0 fun j hj => .inl ((hp j (by simpa using hj)).trans (by omega))]
  have sel : ∀ (start stop step : Int) (b : Nat → Bool), step = 1 → start = (k : Int) → stop = (items.size : Int) → ∀ j, j < items.size → (((if step > 0 then decide (start ≤ (j : Int)) && decide ((j : Int) < stop) && ((j : Int) - start) % step == 0 else b j) = true) ↔ k ≤ j) := by
    rintro _ _ _ b rfl rfl rfl j hj
    have e1 : ((j : Int) - (k : Int)) % 1 = 0 := Int.emod_one _
    rw [if_pos (by decide), e1]
    simp only [Bool.and_eq_true, decide_eq_true_eq, beq_self_eq_true, and_true]
    omega
  have len : ∀ p : Nat → Bool, (∀ j, j < items.size → (p j = true ↔ k ≤ j)) → (items.toList.zipIdx.filterMap fun x => if p x.2 = true then none else some x.1).toArray.size ≤ sizeLine + 1 := fun p hp => by
    rw [hf p hp, List.size_toArray, List.length_take, Array.length_toList]
    omega
  refine wpAny_bind (wpAny_updateSeq (hz := hsz) (_hz' := ?_) e rfl (wpAny_bind (wpAny_letGo (wpAny_pure ⟨_, rfl, h _ ?_⟩))))
  · exact hf (gone (k : Int) (items.size : Int)) fun j hj => sel _ _ _ (back (k : Int) (items.size : Int)) rfl rfl rfl j hj
  · exact len (gone (k : Int) (items.size : Int)) fun j hj => sel _ _ _ (back (k : Int) (items.size : Int)) rfl rfl rfl j hj
end
section
variable {X : Cx}
/-- del o[lo:] of a list -/
def tDelT (to : TE) (tl : TO) : TS := fun D σ H => to σ H fun x H1 => tl σ H1 fun lo H2 => ∃ (l : Addr) (xs : List V), x = .ref l ∧ H2 l = some (.lst xs) ∧ D.nx σ (upd H2 l (.lst (xs.take (HT.sIx xs.length 0 lo))))
theorem ps_delT {o : Expr} {lo : Option Expr} {to : TE} {tl : TO} {tpos p2 pos : Pos} (ho : PE X o to) (hl : PO X lo tl) : PS X (.Delete [.Subscript o (.Slice lo none none p2) tpos] pos) (tDelT to tl) := by
  refine ⟨fun pins s σ H D I h => ?_⟩
  refine wpAny_Delete (wpAny_deleteEach_cons (wpAny_delete_Subscript (thn (ho.run pins s σ H _ I h) fun u s1 ⟨x, H1, I1, rx, q1⟩ => ?_)))
  refine wpAny_Slice (thn (hl.run pins s1 σ H1 _ I1 q1) fun vl s2 ⟨lo', H2, I2, pl, q2⟩ => ?_)
  refine wpAny_evalPart_none (wpAny_evalPart_none ?_)
  obtain ⟨l, xs, rfl, hH, q⟩ := q2
  cases (show u = Value.ref l from rx)
  have I4 : Inv X pins σ H2 { s2 with heap := s2.heap.push { cls := .type "slice", data := .fields #[vl, .none, .none] } } := I2.kept (t' := s2.toks) fun b ob q => Heap.get?_push_of_some _ q
  obtain ⟨z, its, n, r, hlen, e⟩ := I4.lstM hH
  refine delItem_tail e ⟨_, Heap.get?_push_size _ rfl, rfl, rfl⟩ pl (by rw [List.size_toArray]; omega) fun f hf => wpAny_deleteEach_nil ⟨σ, _, ?_, q⟩
  refine I4.lset (its' := its.take (HT.sIx xs.length 0 lo')) (t' := s2.toks) hH e ?_ (r.take _) ?_
  · rw [hf, List.size_toArray, ← hlen]
  · rw [List.length_take]; omega
end
end Sx
/-! Rl -/
set_option Elab.async false
set_option linter.all false
set_option maxRecDepth 100000
set_option maxHeartbeats 2000000
/-! A few rules more: xs[i] op= e, a written dict of texts asked. -/
namespace Sx
open PySem PySem.Spec PyProof.Rows L2
/-- the written dict at p: its texts and values, in order -/
def KD (K : PySem.W.Frag) (w : World) (p : Addr) (kvs : List (Str × V)) : Prop := ∃ es n, K.lookup p = some ⟨.type "dict", none, .dict es n, #[]⟩ ∧ PySem.W.KeysLit w.params es.toList ∧ (p == sysModules) = false ∧
  Paired (fun (kv : Str × V) (e : DictEntry) => (∃ t, e.key = .str kv.1 t) ∧ RelV kv.2 e.val) kvs es.toList
def lookD (kvs : List (Str × V)) (z : Str) : Option V := (kvs.find? fun kv => decide (kv.1 = z)).map (·.2)
theorem kd_find (z : Str) : ∀ {kvs : List (Str × V)} {es : List DictEntry}, Paired (fun (kv : Str × V) (e : DictEntry) => (∃ t, e.key = .str kv.1 t) ∧ RelV kv.2 e.val) kvs es →
    RelO (lookD kvs z) ((es.find? fun e => Value.isStrOf z e.key).map (·.val))
  | _, _, .nil => True.intro
  | kv :: kvs, e :: es, .cons ⟨⟨t, h1⟩, h2⟩ r => by
    have ih := kd_find z r
    have q : Value.isStrOf z e.key = decide (kv.1 = z) := by
      rw [h1]
      by_cases c : kv.1 = z
      · rw [decide_eq_true c, ← c]; simp [Value.isStrOf]
      · rw [decide_eq_false c]
        cases d : Value.isStrOf z (.str kv.1 t) with
        | false => rfl
        | true => obtain ⟨u, d⟩ := Value.isStrOf_shape d; injection d with d; exact absurd d c
    unfold lookD at ih ⊢
    rw [List.find?_cons, List.find?_cons, q]
    cases decide (kv.1 = z) with
    | true => exact h2
    | false => exact ih
def rInKD (K : PySem.W.Frag) (w : World) : R2 := fun x y H Q => ∃ (p : Addr) (z : Str) (kvs : List (Str × V)), y = .ref p ∧ x = .str z ∧ KD K w p kvs ∧ Q (.bl (lookD kvs z).isSome) H
def rIxKD (K : PySem.W.Frag) (w : World) : R2 := fun x y H Q => ∃ (p : Addr) (z : Str) (kvs : List (Str × V)) (v : V), x = .ref p ∧ y = .str z ∧ KD K w p kvs ∧ lookD kvs z = some v ∧ Q v H
section
variable {X : Cx}
theorem op_inKD : OpR X (compareOp .In) (rInKD X.K X.w) := by
  intro pins s σ H x y v u Q I rx ry h
  obtain ⟨p, z, kvs, rfl, rfl, ⟨es, n, hl, hk, low, hp⟩, q⟩ := h
  obtain rfl : u = Value.ref p := ry
  obtain ⟨t, rfl⟩ := rx
  have hm := PySem.W.mapOf_K (prog := X.prog) (w := X.w) I.kIn hl hk
  have f := kd_find z hp
  refine wpAny_in_of (strKind_is X.prog X.w z t) low hm ⟨.bl _, H, I.tok _, rfl, ?_⟩
  have e : (findBy Value.isStrOf es z).isSome = (lookD kvs z).isSome := by
    obtain ⟨l⟩ := es
    unfold findBy
    rw [List.find?_toArray]
    cases a : lookD kvs z with
    | none => rw [a] at f; cases b : (l.find? fun e => Value.isStrOf z e.key).map (·.val) with | none => rfl | some r => rw [b] at f; exact f.elim
    | some r => rw [a] at f; cases b : (l.find? fun e => Value.isStrOf z e.key).map (·.val) with | none => rw [b] at f; exact f.elim | some r => rfl
  rw [e]; exact q
theorem ix_KD : IxR X (rIxKD X.K X.w) := by
  intro value slice pins s σ H x y v u Q I rx ry h hs
  obtain ⟨p, z, kvs, r, rfl, rfl, ⟨es, n, hl, hk, low, hp⟩, e, q⟩ := h
  obtain rfl : v = Value.ref p := rx
  obtain ⟨t, rfl⟩ := ry
  have hm := PySem.W.mapOf_K (prog := X.prog) (w := X.w) I.kIn hl hk
  have f := kd_find z hp
  rw [e] at f
  cases b : (es.toList.find? fun e => Value.isStrOf z e.key).map (·.val) with
  | none => rw [b] at f; exact f.elim
  | some u0 =>
    rw [b] at f
    have g : findBy Value.isStrOf es z = some u0 := by obtain ⟨l⟩ := es; unfold findBy; rw [List.find?_toArray]; exact b
    exact tail_any hm.typeIs slot_dict_getitem.lookup (wpAny_getItem_of (strKind_is X.prog X.w z t) hm g ⟨r, H, I.tok _, f, q⟩) hs
/-- the read of xs[i] op= e -/
theorem pget_list : PGet X (rIxL X.K) := by
  intro pins s σ H o i ov iv Q I ro ri h
  obtain ⟨p, xs, k, z, rfl, rfl, hq, he, q⟩ := h
  cases ro
  obtain ⟨t, rfl⟩ := ri
  obtain ⟨its, r, pl, hz⟩ := I.list hq
  obtain ⟨j, h1, h2, h3, h4, h5⟩ := atI_get he
  obtain ⟨w, ew, rw'⟩ := r.get h2
  have hl := r.length
  have hn := line63
  have fin : EP X pins σ Q w s := ⟨z, H, I, rw', q⟩
  by_cases h0 : 0 ≤ k
  · rw [seqIndex_of h0 h5] at h1
    exact wpAny_getItem_list pl.isList h0 (by omega) (by rw [Option.some.inj h1]; simpa using ew) fin
  · rw [seqIndex_neg (by omega) h4] at h1
    have e : (k + (its.toArray.size : Int)).toNat = j := by rw [List.size_toArray, ← hl]; exact Option.some.inj h1
    exact wpAny_getItem_list_neg pl.isList (by omega) (by rw [List.size_toArray] <;> omega) (by omega) (by rw [e]; simpa using ew) fin
end
end Sx
/-! Pg -/
set_option Elab.async false
set_option linter.all false
set_option maxRecDepth 100000
set_option maxHeartbeats 2000000
/-! The program's defs, each by its promise. -/
namespace Pg
open PySem L2 Mr
structure Tx (K : PySem.W.Frag) (w : World) (mg : Str → Option Value) (pS pC : Addr) : Prop where
  isi : mg "isinstance" = none
  str : mg "str" = none
  len : mg "len" = none
  int : mg "int" = none
  tup : mg "tuple" = none
  sorted : mg "sorted" = none
  max : mg "max" = none
  mS : mg "SIGNS" = some (.ref pS)
  tS : ∀ H, SqT K H pS (signs.map fun g => V.str (S g))
  mC : mg "CALLS" = some (.ref pC)
  tC : Sx.KD K w pC [("max(", .str "max"), ("imax(", .str "imax")]
theorem nm_same {t : Cs} {l : Cs} {x : Str} (h : S l = x) : decide (S t = x) = decide (t = l) := by
  rw [← h]
  by_cases c : t = l
  · rw [decide_eq_true c, c]; exact decide_eq_true rfl
  · rw [decide_eq_false c]; exact decide_eq_false fun e => c (S_inj.mp e)
theorem eqV_str (a b : Str) : eqV (.str a) (.str b) = decide (a = b) := by
  show (a == b) = _
  by_cases c : a = b
  · rw [decide_eq_true c, c]; simp
  · rw [decide_eq_false c]; simpa using c
theorem sMax : S [109, 97, 120] = ("max" : Str) := by decide +kernel
theorem sImax : S [105, 109, 97, 120] = ("imax" : Str) := by decide +kernel
theorem same_new {H : Hp} {p : Addr} (h : H p = none) (o : HO) : Same H (upd H p o) := fun b u q => by rw [upd_ne (ne_of_none q h)]; exact q
theorem in_names (t : Cs) : inV (.str (S t)) [.str "max", .str "imax"] = (decide (t = [109, 97, 120]) || decide (t = [105, 109, 97, 120])) := by
  unfold inV
  rw [List.any_cons, List.any_cons, List.any_nil, eqV_str, eqV_str, Bool.or_false]
  have e1 : decide ((("max" : Str)) = S t) = decide (t = [109, 97, 120]) := by rw [← nm_same sMax]; exact decide_eq_decide.mpr eq_comm
  have e2 : decide ((("imax" : Str)) = S t) = decide (t = [105, 109, 97, 120]) := by rw [← nm_same sImax]; exact decide_eq_decide.mpr eq_comm
  rw [e1, e2]
section
variable {P : Program} {w : World} {K : PySem.W.Frag} {mg : Str → Option Value} {base : Heap} {pS pC : Addr}
def spIsName : Sp := fun vs H Q _ => ∃ t : Cs, vs = [.str (S t)] ∧ t.length ≤ 100000 ∧ ∀ H', Same H H' → Q (.bl (isName t)) H'
theorem sc_is_name : FnScope ["thing"] ["thing"] (defScope st_is_name) := ⟨rfl, rfl, rfl, by decide +kernel, rfl, by decide +kernel, by decide +kernel⟩
theorem lenS {t : Cs} (h : t.length ≤ 100000) : (S t).length ≤ sizeLine := by rw [len_S]; exact Nat.le_trans h (by decide)
theorem ok_is_name {f : Addr} {fd : FuncData} (F : Fun K "is_name" "is_name" st_is_name f fd) (T : Tx K w mg pS pC) : FnOk P w K mg base CX0 1 f fd ["thing"] spIsName := by
  refine F.ok sc_is_name (fun vs H Q E h => ?_) (fun cdv A outer s H vs Q E hr h => ?_)
  · obtain ⟨t, rfl, _⟩ := h
    rfl
  obtain ⟨t, rfl, ht, q⟩ := h
  refine ⟨_, pss_cons (ps_if (PW.pt (pw_or (pt_not (pt_val (pe_callB call_isi (by rfl) T.isi (by decide +kernel) (pa_cons (pv 0) (pa_cons (pe_bltn (v := .ty "str") (by rfl) T.str (by decide +kernel) rfl) pa_nil)))))
      (pw_or1 (pt_cmpR op_in_seq (pv 0) (pe_tup (pa_cons pe_str (pa_cons pe_str pa_nil))) rfl)))) (pss_one (ps_ret pe_bl)) pss_nil)
    (pss_one (ps_ret (pe_and (pe_cmpR op_le (pe_callB call_len (by rfl) T.len PySem.boot_len (pa_cons (pv 0) pa_nil)) pe_int (nomark _))
      (pe_and (pe_m0 PySem.F.slot_str_isascii PySem.F.type_str_isascii mt_isascii (pv 0)) (pe_and (pe_m0 PySem.F.slot_str_isalpha PySem.F.type_str_isalpha mt_isalpha (pv 0)) (pe_one (pe_m0 PySem.F.slot_str_islower PySem.F.type_str_islower mt_islower (pv 0)))))))), ?_⟩
  refine ⟨_, rfl, _, _, _, _, _, rfl, .ty "str", .base (.str _), kit_ty (by decide +kernel), true, rfl, iteF ⟨_, rfl, (by show 2 ≤ sizeLine; decide), fun p np => ⟨p, _, rfl, .inr (SqT.of upd_same), rfl, rfl, _, rfl, ?_⟩⟩⟩
  have s1 : Same H (upd H p (.tup [.str "max", .str "imax"])) := same_new np _
  have e0 := in_names t
  have fin : ∀ b H', Same H H' → b = isName t → Q (.bl b) H' := fun b H' s e => e ▸ q H' s
  refine ite2 (fun c => ?_) (fun c => ?_)
  · have c' : inV (.str (S t)) [.str "max", .str "imax"] = true := c
    rw [e0] at c'
    exact fin _ _ s1 (by unfold isName; rw [c']; rfl)
  · have c' : inV (.str (S t)) [.str "max", .str "imax"] = false := Bool.eq_false_iff.mpr c
    rw [e0] at c'
    have e1 : isName t = (decide (t.length ≤ 4) && (Txt.isascii (S t) && (Txt.isalpha (S t) && Txt.islower (S t)))) := by unfold isName; rw [c']; rfl
    have e2 : decide (((S t).length : Int) ≤ 4) = decide (t.length ≤ 4) := by rw [len_S]; exact decide_eq_decide.mpr (by omega)
    refine ⟨_, rfl, _, _, rfl, ⟨lenS ht, rfl⟩, _, _, rfl, rfl, _, rfl, ?_⟩
    refine ite2 (fun d => ?_) (fun d => ?_)
    · have d' : decide (((S t).length : Int) ≤ 4) = true := d
      rw [e2] at d'
      rw [d', Bool.true_and] at e1
      refine ⟨_, rfl, ⟨_, rfl⟩, _, rfl, rfl, trivial, _, rfl, ite2 (fun u => ?_) (fun u => fin _ _ s1 (by rw [e1, Bool.eq_false_iff.mpr u, Bool.false_and]))⟩
      refine ⟨_, rfl, ⟨_, rfl⟩, _, rfl, rfl, trivial, _, rfl, ite2 (fun v => ?_) (fun v => fin _ _ s1 (by rw [e1, u, Bool.eq_false_iff.mpr v, Bool.false_and, Bool.and_false]))⟩
      exact ⟨_, rfl, ⟨_, rfl⟩, _, rfl, rfl, trivial, fin _ _ s1 (by rw [e1, u, v, Bool.true_and, Bool.true_and])⟩
    · have d' : decide (((S t).length : Int) ≤ 4) = false := Bool.eq_false_iff.mpr d
      rw [e2] at d'
      exact fin _ _ s1 (by rw [e1, d', Bool.false_and])
/-! ### is_numeral -/
def spIsNum : Sp := fun vs H Q _ => ∃ t : Cs, vs = [.str (S t)] ∧ t.length ≤ 100000 ∧ Q (.bl (isNum t)) H
theorem sc_is_num : FnScope ["word"] ["word"] (defScope st_is_numeral) := ⟨rfl, rfl, rfl, by decide +kernel, rfl, by decide +kernel, by decide +kernel⟩
theorem digit_ne {t : Cs} (h : Txt.isdigit (S t) = true) : t ≠ [] := by
  rintro rfl
  exact absurd h (by decide +kernel)
theorem ok_is_num {f : Addr} {fd : FuncData} (F : Fun K "is_numeral" "is_numeral" st_is_numeral f fd) (T : Tx K w mg pS pC) : FnOk P w K mg base CX0 1 f fd ["word"] spIsNum := by
  refine F.ok sc_is_num (fun vs H Q E h => ?_) (fun cdv A outer s H vs Q E hr h => ?_)
  · obtain ⟨t, rfl, _⟩ := h
    rfl
  obtain ⟨t, rfl, ht, q⟩ := h
  refine ⟨_, pss_cons (ps_if (PW.pt (pw_or (pt_not (pt_val (pe_m0 PySem.F.slot_str_isascii PySem.F.type_str_isascii mt_isascii (pv 0)))) (pw_or1 (pt_not (pt_val (pe_m0 PySem.F.slot_str_isdigit PySem.F.type_str_isdigit mt_isdigit (pv 0))))))) (pss_one (ps_ret pe_bl)) pss_nil)
    (pss_one (ps_ret (pe_and (pe_cmpR op_le (pe_callB call_len (by rfl) T.len PySem.boot_len (pa_cons (pv 0) pa_nil)) pe_int (nomark _))
      (pe_one (pe_or (pe_cmpR op_eq (pv 0) pe_str (nomark _)) (pe_one (pe_cmpR op_ne (pe_item_str (pv 0) pe_int (fun _ _ => rfl)) pe_str (nomark _)))))))), ?_⟩
  have fin : ∀ b, b = isNum t → Q (.bl b) H := fun b e => e ▸ q
  have e2 : decide (((S t).length : Int) ≤ 4) = decide (t.length ≤ 4) := by rw [len_S]; exact decide_eq_decide.mpr (by omega)
  have z0 : S [48] = ("0" : Str) := by decide +kernel
  refine ⟨_, rfl, ⟨_, rfl⟩, _, rfl, rfl, trivial, _, rfl, ite2 (fun a => ?_) (fun a => ?_)⟩
  · have a' : Txt.isascii (S t) = false := by simpa using a
    exact fin _ (by unfold isNum; rw [a']; rfl)
  have a' : Txt.isascii (S t) = true := by simpa using a
  refine ⟨_, rfl, ⟨_, rfl⟩, _, rfl, rfl, trivial, _, rfl, ite2 (fun b => ?_) (fun b => ?_)⟩
  · have b' : Txt.isdigit (S t) = false := by simpa using b
    exact fin _ (by unfold isNum; rw [a', b']; rfl)
  have b' : Txt.isdigit (S t) = true := by simpa using b
  have e1 : isNum t = (decide (t.length ≤ 4) && (decide (t = [48]) || decide (t[0]? ≠ some 48))) := by unfold isNum; rw [a', b', Bool.true_and, Bool.true_and]
  refine ⟨_, rfl, _, _, rfl, ⟨lenS ht, rfl⟩, _, _, rfl, rfl, _, rfl, ?_⟩
  refine ite2 (fun d => ?_) (fun d => ?_)
  · have d' : decide (((S t).length : Int) ≤ 4) = true := d
    rw [e2] at d'
    rw [d', Bool.true_and] at e1
    refine ⟨_, rfl, rfl, _, rfl, ite2 (fun g => ?_) (fun g => ?_)⟩
    · have g' : t = [48] := by
        have := of_decide_eq_true g
        injection this with this
        rw [← z0] at this
        exact S_inj.mp this
      exact fin _ (by rw [e1, g']; rfl)
    · have g' : ¬ t = [48] := fun e => g (by rw [e, z0]; exact decide_eq_true rfl)
      obtain ⟨c, t', rfl⟩ : ∃ c t', t = c :: t' := by
        cases t with
        | nil => exact absurd rfl (digit_ne b')
        | cons c t' => exact ⟨c, t', rfl⟩
      refine ⟨_, rfl, S (c :: t'), 0, c, rfl, rfl, by decide, by decide, ?_, ?_, ?_⟩
      · rw [len_S]; simp only [List.length_cons]; omega
      · unfold S; simp
      · refine ⟨rfl, fin _ ?_⟩
        rw [e1, decide_eq_false g', Bool.false_or]
        have : (V.str ⟨#[c]⟩ = V.str ("0" : Str)) ↔ c = 48 := by
          rw [← z0]
          constructor
          · intro h; injection h with h; have h := S_inj.mp (show S [c] = S [48] from h); injection h
          · rintro rfl; rfl
        show (!decide (V.str ⟨#[c]⟩ = V.str ("0" : Str))) = _
        by_cases hc : c = 48
        · rw [decide_eq_true (this.mpr hc), hc]; rfl
        · rw [decide_eq_false (fun h => hc (this.mp h))]; simp [hc]
  · have d' : decide (((S t).length : Int) ≤ 4) = false := Bool.eq_false_iff.mpr d
    rw [e2] at d'
    exact fin _ (by rw [e1, d', Bool.false_and])
/-! ### _is_full -/
def cName (b : Bool) : Str := if b then "max" else "imax"
def spFull : Sp := fun vs H Q _ => ∃ (b : Bool) (n : Int), vs = [.str (cName b), .int n] ∧ Q (.bl (full b n)) H
theorem sc_full : FnScope ["call", "count"] ["call", "count"] (defScope st__is_full) := ⟨rfl, rfl, rfl, by decide +kernel, rfl, by decide +kernel, by decide +kernel⟩
theorem cName_max (b : Bool) : decide (V.str (cName b) = V.str ("max" : Str)) = b := by cases b <;> decide +kernel
theorem ok_full {f : Addr} {fd : FuncData} (F : Fun K "_is_full" "_is_full" st__is_full f fd) : FnOk P w K mg base CX0 1 f fd ["call", "count"] spFull := by
  refine F.ok sc_full (fun vs H Q E h => ?_) (fun cdv A outer s H vs Q E hr h => ?_)
  · obtain ⟨b, n, rfl, _⟩ := h
    rfl
  obtain ⟨b, n, rfl, q⟩ := h
  refine ⟨_, pss_one (ps_ret (pe_ifExp (pt_cmpR op_eq (pv 0) pe_str (nomark _)) (pe_cmpR op_ge (pv 1) pe_int (nomark _)) (pe_cmpR op_eq (pv 1) pe_int (nomark _)))), ?_⟩
  refine ⟨_, rfl, rfl, _, rfl, ?_⟩
  rw [cName_max b]
  cases b with
  | true => exact iteT ⟨_, rfl, _, _, rfl, rfl, q⟩
  | false =>
    refine iteF ⟨_, rfl, rfl, ?_⟩
    have e : decide (V.int n = V.int 2) = full false n := by
      unfold full
      exact decide_eq_decide.mpr ⟨fun h => by injection h, fun h => by rw [h]⟩
    show Q (.bl (decide (V.int n = V.int 2))) H
    rw [e]; exact q
/-! ### _leaf -/
def wName : W → Str
  | .level => "level"
  | .sign => "sign"
  | .number => "number"
theorem w_level (x : W) : decide (V.str (wName x) = V.str ("level" : Str)) = decide (x = .level) := by cases x <;> decide +kernel
theorem w_number (x : W) : decide (V.str (wName x) = V.str ("number" : Str)) = decide (x = .number) := by cases x <;> decide +kernel
theorem w_sign (x : W) : decide (V.str (wName x) = V.str ("sign" : Str)) = decide (x = .sign) := by cases x <;> decide +kernel
def sv : Stp → List V
  | .num k => [.str "number", .int k]
  | .nam s => [.str "name", .str (S s)]
  | .plus k => [.str "+", .int k]
  | .call b n => [.str (cName b), .int n]
def spLeaf : Sp := fun vs H Q _ => ∃ (t : Cs) (x : W), vs = [.str (S t), .str (wName x)] ∧ t.length ≤ 100000 ∧ (isNum t = true → ∃ n, PySem.intText? (S t) = some n) ∧
  (leaf t x = none → ∀ H', Same H H' → Q .non H') ∧ ∀ l, leaf t x = some l → ∀ H' p, Same H H' → H' p = some (.tup (sv l)) → Q (.ref p) H'
theorem sc_leaf : FnScope ["token", "wanted"] ["token", "wanted"] (defScope st__leaf) := ⟨rfl, rfl, rfl, by decide +kernel, rfl, by decide +kernel, by decide +kernel⟩
theorem ok_leaf {f fN fM : Addr} {fd fdN fdM : FuncData} (F : Fun K "_leaf" "_leaf" st__leaf f fd) (T : Tx K w mg pS pC) (GN : FnOk P w K mg base CX0 1 fN fdN ["thing"] spIsName) (bN : Binds K fdN ["thing"] []) (kN : PySem.W.keepIn K (.ref fN) = true) (mN : mg "is_name" = some (.ref fN))
    (GM : FnOk P w K mg base CX0 1 fM fdM ["word"] spIsNum) (bM : Binds K fdM ["word"] []) (kM : PySem.W.keepIn K (.ref fM) = true) (mM : mg "is_numeral" = some (.ref fM)) : FnOk P w K mg base CX0 2 f fd ["token", "wanted"] spLeaf := by
  refine F.ok sc_leaf (fun vs H Q E h => ?_) (fun cdv A outer s H vs Q E hr h => ?_)
  · obtain ⟨t, x, rfl, _⟩ := h
    rfl
  obtain ⟨t, x, rfl, ht, hnum, q0, q1⟩ := h
  refine ⟨_, pss_cons (ps_if (PW.pt (pw_and (pt_cmpR op_eq (pv 1) pe_str (nomark _)) (pw_and1 (pt_val (pe_call GN hr rfl mN kN bN .nil pass0 (pa_cons (pv 0) pa_nil)))))) (pss_one (ps_ret (pe_tup (pa_cons pe_str (pa_cons (pv 0) pa_nil))))) pss_nil)
    (pss_cons (ps_if (PW.pt (pw_and (pt_cmpR op_eq (pv 1) pe_str (nomark _)) (pw_and1 (pt_val (pe_call GM hr rfl mM kM bM .nil pass0 (pa_cons (pv 0) pa_nil)))))) (pss_one (ps_ret (pe_tup (pa_cons pe_str (pa_cons (pe_callTy call_int_str (by rfl) T.int (by decide +kernel) (pa_cons (pv 0) pa_nil)) pa_nil))))) pss_nil)
    (pss_cons (ps_if (PW.pt (pw_and (pt_cmpR op_eq (pv 1) pe_str (nomark _)) (pw_and1 (pt_val (pe_call GM hr rfl mM kM bM .nil pass0 (pa_cons (pv 0) pa_nil)))))) (pss_one (ps_ret (pe_tup (pa_cons pe_str (pa_cons (pe_callTy call_int_str (by rfl) T.int (by decide +kernel) (pa_cons (pv 0) pa_nil)) pa_nil))))) pss_nil)
    (pss_one (ps_ret pe_non)))), ?_⟩
  have none_ : leaf t x = none → ∀ H', Same H H' → Q .non H' := q0
  -- behind the three tests
  have num : ∀ (k : Str) (mk : Int → Stp), (∀ n, sv (mk n) = [.str k, .int n]) → isNum t = true → leaf t x = some (mk (valOf t)) → ∀ H1, Same H H1 → ∃ a n, [V.str (S t)] = [V.str a] ∧ PySem.intText? a = some n ∧ a.length ≤ 640 ∧
      (2 ≤ sizeLine ∧ ∀ p, H1 p = none → Q (.ref p) (upd H1 p (.tup [.str k, .int n]))) := fun k mk hmk hn hl H1 hs => by
    obtain ⟨n, e⟩ := hnum hn
    have l4 : t.length ≤ 4 := by
      unfold isNum at hn
      simp only [Bool.and_eq_true, decide_eq_true_eq] at hn
      exact hn.2.1
    have ev : valOf t = n := by unfold valOf; rw [e]; rfl
    refine ⟨S t, n, rfl, e, by rw [len_S]; omega, by decide, fun p np => ?_⟩
    refine q1 _ hl _ p (hs.trans (same_new np _)) ?_
    rw [upd_same, hmk, ev]
  cases x with
  | level =>
    refine ⟨_, rfl, rfl, _, rfl, ?_⟩
    rw [w_level]
    refine iteT ⟨_, rfl, t, rfl, ht, fun H1 s1 => ⟨_, rfl, ite2 (fun a => ?_) (fun a => ?_)⟩⟩
    · refine ⟨_, rfl, (by show 2 ≤ sizeLine; decide), fun p np => q1 (.nam t) ?_ _ p (s1.trans (same_new np _)) upd_same⟩
      unfold leaf; rw [a]; rfl
    · have a' : isName t = false := Bool.eq_false_iff.mpr a
      refine ⟨_, rfl, rfl, _, rfl, ?_⟩
      rw [w_level]
      refine iteT ⟨_, rfl, t, rfl, ht, _, rfl, ite2 (fun b => ?_) (fun b => ?_)⟩
      · exact ⟨_, rfl, num "number" .num (fun _ => rfl) b (by unfold leaf; rw [a', b]; rfl) H1 s1⟩
      · refine ⟨_, rfl, rfl, _, rfl, ?_⟩
        rw [w_number]
        refine iteF ?_
        exact q0 (by unfold leaf; rw [a', Bool.eq_false_iff.mpr b]; rfl) H1 s1
  | sign =>
    refine ⟨_, rfl, rfl, _, rfl, ?_⟩
    rw [w_level]
    refine iteF ⟨_, rfl, rfl, _, rfl, ?_⟩
    rw [w_level]
    refine iteF ⟨_, rfl, rfl, _, rfl, ?_⟩
    rw [w_number]
    exact iteF (q0 rfl H (Same.refl H))
  | number =>
    refine ⟨_, rfl, rfl, _, rfl, ?_⟩
    rw [w_level]
    refine iteF ⟨_, rfl, rfl, _, rfl, ?_⟩
    rw [w_level]
    refine iteF ⟨_, rfl, rfl, _, rfl, ?_⟩
    rw [w_number]
    refine iteT ⟨_, rfl, t, rfl, ht, _, rfl, ite2 (fun b => ?_) (fun b => ?_)⟩
    · exact ⟨_, rfl, num "+" .plus (fun _ => rfl) b (by unfold leaf; rw [b]; rfl) H (Same.refl H)⟩
    · exact q0 (by unfold leaf; rw [Bool.eq_false_iff.mpr b]; rfl) H (Same.refl H)
end
end Pg
/-! Pg2 -/
set_option Elab.async false
set_option linter.all false
set_option maxRecDepth 100000
set_option maxHeartbeats 2000000
namespace Pg
open PySem L2 Mr
theorem tl_S (z : Cs) : TL.tl (S z) = z := rfl
theorem sw (z g : Cs) (n : Nat) (hg : g ≠ []) : Txt.startswith3 (S z) (S g) (n : Int) = g.isPrefixOf (z.drop n) := by
  have hi : fromIndex (S z).length (n : Int) = n := by
    unfold fromIndex
    rw [if_neg (by omega)]
    omega
  have h1 : Txt.startswith3 (S z) (S g) (n : Int) = true ↔ TL.pre g (z.drop n) = true := by
    show _ ↔ TL.pre (TL.tl (S g)) ((TL.tl (S z)).drop n) = true
    rw [← TL.at_iff (x := S z) (y := S g) hg n]
    unfold Txt.startswith3
    rw [hi, Bool.and_eq_true, decide_eq_true_eq]
    exact Iff.rfl
  have h2 : TL.pre g (z.drop n) = true ↔ g.isPrefixOf (z.drop n) = true := by
    rw [List.isPrefixOf_iff_prefix, List.prefix_iff_eq_take]
    unfold TL.pre
    rw [beq_iff_eq]
    exact eq_comm
  exact Bool.eq_iff_iff.mpr (h1.trans h2)
theorem alnum1 (c : Nat) : Txt.isalnum ⟨#[c]⟩ = isAl c := by
  unfold Txt.isalnum isAl Str.length
  simp
theorem cut_S (z : Cs) (a b : Nat) (h : a ≤ b) (hb : b ≤ z.length) : cutS (S z) (some (a : Int)) (some (b : Int)) = S ((z.drop a).take (b - a)) := by
  unfold cutS
  rw [HT.sIx_nat, HT.sIx_nat, len_S, Nat.min_eq_left (show a ≤ z.length by omega), Nat.min_eq_left hb]
  rfl
section
variable {P : Program} {w : World} {K : PySem.W.Frag} {mg : Str → Option Value} {base : Heap} {pS pC : Addr}
/-! ### _token_at -/
def spTokAt : Sp := fun vs H Q _ => ∃ (z : Cs) (n : Nat), vs = [.str (S z), .int n] ∧ n ≤ z.length ∧ z.length ≤ 100000 ∧ Q (.str (S (tokAt (z.drop n)))) H
theorem sc_tokAt : FnScope ["text", "at", "sign", "end"] ["text", "at"] (defScope st__token_at) := ⟨rfl, rfl, rfl, by decide +kernel, rfl, by decide +kernel, by decide +kernel⟩
theorem sign_at {i : Nat} {x : V} (h : (signs.map fun g => V.str (S g))[i]? = some x) : ∃ g, signs[i]? = some g ∧ x = .str (S g) := by
  rw [List.getElem?_map] at h
  cases e : signs[i]? with
  | none => rw [e] at h; cases h
  | some g => rw [e] at h; exact ⟨g, rfl, (Option.some.inj h).symm⟩
theorem find_at : ∀ (l : List Cs) (p : Cs → Bool) (i : Nat) (g : Cs), l[i]? = some g → p g = true → (∀ j g', j < i → l[j]? = some g' → p g' = false) → l.find? p = some g
  | [], _, _, _, h, _, _ => by cases h
  | a :: l, p, 0, g, h, hp, _ => by
    cases h
    rw [List.find?_cons, hp]
  | a :: l, p, i + 1, g, h, hp, hn => by
    rw [List.find?_cons, hn 0 a (Nat.succ_pos _) rfl]
    exact find_at l p i g h hp fun j g' hj e => hn (j + 1) g' (Nat.succ_lt_succ hj) e
theorem take_while_stop {p : Nat → Bool} : ∀ (l : Cs) (k : Nat), k ≤ l.length → (∀ j, j < k → ∀ c, l[j]? = some c → p c = true) → (∀ c, l[k]? = some c → p c = false) → l.takeWhile p = l.take k
  | [], k, h, _, _ => by simp
  | c :: l, 0, _, _, hs => by rw [List.takeWhile_cons, hs c rfl]; rfl
  | c :: l, k + 1, h, hk, hs => by
    rw [List.takeWhile_cons, hk 0 (Nat.succ_pos _) c rfl, if_pos rfl, List.take_succ_cons, take_while_stop l k (by simpa using h) (fun j hj d e => hk (j + 1) (Nat.succ_lt_succ hj) d e) fun d e => hs d e]
def wTok (z : Cs) (n : Nat) (H0 : Hp) (m : Nat) (σ' : L2.St) (H2 : Hp) : Prop := ∃ k, m = z.length - (n + k) ∧ n + k ≤ z.length ∧ H2 = H0 ∧ (∃ u, σ' = [some (.str (S z)), some (.int n), u, some (.int ((n + k : Nat) : Int))]) ∧ ∀ (j : Nat), j < k → ∀ (c : Nat), (z.drop n)[j]? = some c → isAl c = true
theorem ok_tokAt {f : Addr} {fd : FuncData} (F : Fun K "_token_at" "_token_at" st__token_at f fd) (T : Tx K w mg pS pC) : FnOk P w K mg base CX0 1 f fd ["text", "at"] spTokAt := by
  refine F.ok sc_tokAt (fun vs H Q E h => ?_) (fun cdv A outer s H vs Q E hr h => ?_)
  · obtain ⟨z, n, rfl, _⟩ := h
    rfl
  obtain ⟨z, n, rfl, hn, hz, q⟩ := h
  refine ⟨_, pss_cons (ps_for PassesOwn.never rfl (pi_tup (pe_glob (v := .ref pS) (by rfl) T.mS rfl)) (pg_name (i := 2) sc_tokAt.nd rfl (.inl rfl))
      (pss_one (ps_if (pt_val (pe_bm PySem.F.plainAttrs_str PySem.F.slot_str_startswith PySem.F.type_str_startswith mt_startswith3 (pv 0) (pa_cons (pv 2) (pa_cons (pv 1) pa_nil)))) (pss_one (ps_ret (pv 2))) pss_nil)))
    (pss_cons (ps_set (i := 3) sc_tokAt.nd rfl (.inl rfl) (pv 1))
    (pss_cons (ps_while PassesOwn.never (PW.pt (pw_and (pt_cmpR op_lt (pv 3) (pe_callB call_len (by rfl) T.len PySem.boot_len (pa_cons (pv 0) pa_nil)) (nomark _)) (pw_and1 (pt_val (pe_m0 PySem.F.slot_str_isalnum PySem.F.type_str_isalnum mt_isalnum (pe_item_str (pv 0) (pv 3) (fun _ _ => rfl)))))))
      (pss_one (ps_aug (i := 3) sc_tokAt.nd rfl (.inl rfl) pe_int ip_add)))
    (pss_one (ps_ret (pe_slice sl_str (pv 0) (po_some (pv 1)) (po_some (pv 3))))))), ?_⟩
  have hS := T.tS H
  refine ⟨pS, rfl, ⟨_, T.tS _⟩, for_tup (K := K) (a := pS) (xs := signs.map fun g => V.str (S g)) (fun i σ H' => H' = H ∧ (∃ v, σ = [some (.str (S z)), some (.int n), v, none]) ∧ ∀ j g, j < i → signs[j]? = some g → g.isPrefixOf (z.drop n) = false)
    ⟨rfl, ⟨_, rfl⟩, fun j g hj => absurd hj (Nat.not_lt_zero _)⟩ (fun i σ H' _ _ => T.tS H') ?_ ?_⟩
  · rintro i x σ H' hi ⟨rfl, ⟨v, rfl⟩, hno⟩
    obtain ⟨g, hg, rfl⟩ := sign_at hi
    have gm : g ∈ signs := List.mem_of_getElem? hg
    refine ⟨_, rfl, rfl, _, rfl, _, rfl, S z, S g, n, rfl, rfl, _, rfl, ?_⟩
    rw [sw z g n (sign_ne gm)]
    refine ite2 (fun c => ?_) (fun c => ?_)
    · refine ⟨_, rfl, ?_⟩
      have e : tokAt (z.drop n) = g := by
        unfold tokAt
        rw [find_at signs (fun g => g.isPrefixOf (z.drop n)) i g hg c fun j g' hj e => hno j g' hj e]
      rw [← e]
      exact q
    · refine ⟨rfl, ⟨_, rfl⟩, fun j g' hj e => ?_⟩
      by_cases hji : j = i
      · subst hji
        rw [hg] at e; cases e
        exact Bool.eq_false_iff.mpr c
      · exact hno j g' (by omega) e
  · rintro σ H' ⟨rfl, ⟨v, rfl⟩, hno⟩
    have none_ : signs.find? (fun g => g.isPrefixOf (z.drop n)) = none := by
      rw [List.find?_eq_none]
      intro g hg
      obtain ⟨j, e⟩ := List.getElem?_of_mem hg
      rw [hno j g (by rw [List.length_map]; exact (List.getElem?_eq_some_iff.mp e).1) e]
      exact Bool.false_ne_true
    have tk : tokAt (z.drop n) = (z.drop n).takeWhile isAl := by unfold tokAt; rw [none_]
    refine ⟨_, rfl, ?_⟩
    refine ⟨wTok z n H',
      ⟨_, 0, rfl, by omega, rfl, ⟨_, rfl⟩, fun j hj => absurd hj (Nat.not_lt_zero _)⟩, ?_⟩
    rintro m σ' H2 ⟨k, rfl, hk, rfl, ⟨u, rfl⟩, hal⟩
    have fin : (∀ c, (z.drop n)[k]? = some c → isAl c = false) → S (tokAt (z.drop n)) = cutS (S z) (some (n : Int)) (some ((n + k : Nat) : Int)) := fun hs => by
      rw [tk, take_while_stop (z.drop n) k (by rw [List.length_drop]; omega) hal hs, cut_S z n (n + k) (by omega) hk, Nat.add_sub_cancel_left]
    refine ⟨_, rfl, _, rfl, _, _, rfl, ⟨lenS hz, rfl⟩, _, _, rfl, rfl, _, rfl, ite2 (fun c => ?_) (fun c => ?_)⟩
    · have c' : ((n + k : Nat) : Int) < ((S z).length : Int) := of_decide_eq_true c
      rw [len_S] at c'
      have lt : n + k < z.length := by omega
      have hc : (z.drop n)[k]? = some z[n + k] := by rw [List.getElem?_drop, List.getElem?_eq_getElem lt]
      refine ⟨_, rfl, _, rfl, S z, _, z[n + k], rfl, rfl, by omega, by omega, (by rw [len_S]; omega), ?_, ⟨_, rfl⟩, _, rfl, rfl, trivial, _, rfl, ?_⟩
      · rw [Int.toNat_natCast]; unfold S; simp [lt]
      rw [alnum1]
      refine ite2 (fun d => ?_) (fun d => ?_)
      · refine ⟨fun σ3 H3 => ∃ m', m' < z.length - (n + k) ∧ wTok z n H2 m' σ3 H3, fun _ _ h => h, _, rfl, _, _, rfl, rfl, ⟨z.length - (n + (k + 1)), by omega, k + 1, rfl, by omega, rfl, ⟨u, rfl⟩, fun j hj c' e => ?_⟩⟩
        by_cases hjk : j = k
        · subst hjk; rw [hc] at e; cases e; exact d
        · exact hal j (by omega) c' e
      · refine ⟨_, rfl, _, rfl, _, rfl, _, rfl, _, rfl, _, rfl, lenS hz, ?_⟩
        rw [← fin fun c' e => by rw [hc] at e; cases e; exact Bool.eq_false_iff.mpr d]
        exact q
    · have c' : ¬ ((n + k : Nat) : Int) < ((S z).length : Int) := fun h => c (decide_eq_true h)
      rw [len_S] at c'
      refine iteF ⟨_, rfl, _, rfl, _, rfl, _, rfl, _, rfl, _, rfl, lenS hz, ?_⟩
      rw [← fin fun c' e => by rw [List.getElem?_drop, List.getElem?_eq_none (by omega)] at e; cases e]
      exact q
end
end Pg
/-! Nt -/
set_option maxRecDepth 100000
set_option maxHeartbeats 2000000
namespace Mr
open PySem
theorem dig1 : ∀ a : Fin 10, (PySem.intText? (S [48 + a.val])).isSome = true := by decide +kernel
theorem dig2 : ∀ a b : Fin 10, (PySem.intText? (S [48 + a.val, 48 + b.val])).isSome = true := by decide +kernel
theorem dig3 : ∀ a b c : Fin 10, (PySem.intText? (S [48 + a.val, 48 + b.val, 48 + c.val])).isSome = true := by decide +kernel
theorem dig4 : ∀ a b c d : Fin 10, (PySem.intText? (S [48 + a.val, 48 + b.val, 48 + c.val, 48 + d.val])).isSome = true := by decide +kernel
theorem dig_asc : ∀ c : Fin 128, Unicode.isDigit c.val = true → 48 ≤ c.val ∧ c.val < 58 := by decide +kernel
theorem dig_of {c : Nat} (h1 : c < 128) (h2 : Unicode.isDigit c = true) : ∃ a : Fin 10, c = 48 + a.val := by
  have l : 48 ≤ c := (dig_asc ⟨c, h1⟩ h2).1
  have u : c < 58 := (dig_asc ⟨c, h1⟩ h2).2
  exact ⟨⟨c - 48, by omega⟩, by show c = 48 + (c - 48); omega⟩
theorem num_text {t : Cs} (h : isNum t = true) : ∃ n, PySem.intText? (S t) = some n := by
  unfold isNum at h
  simp only [Bool.and_eq_true, decide_eq_true_eq] at h
  obtain ⟨⟨ha, hd⟩, hl, _⟩ := h
  have a : ∀ c ∈ t, c < 128 := by
    unfold Txt.isascii S at ha
    rw [List.all_toArray, List.all_eq_true] at ha
    exact fun c hc => of_decide_eq_true (ha c hc)
  unfold Txt.isdigit S at hd
  rw [Bool.and_eq_true, List.all_toArray, List.all_eq_true] at hd
  have d : ∀ c ∈ t, ∃ a : Fin 10, c = 48 + a.val := fun c hc => dig_of (a c hc) (hd.2 c hc)
  have some_ : ∀ o : Option Int, o.isSome = true → ∃ n, o = some n := fun o h => Option.isSome_iff_exists.mp h
  match t, hl, d, hd.1 with
  | [], _, _, h0 => exact absurd h0 (by decide)
  | [c1], _, d, _ =>
    obtain ⟨a1, rfl⟩ := d c1 (by simp)
    exact some_ _ (dig1 a1)
  | [c1, c2], _, d, _ =>
    obtain ⟨a1, rfl⟩ := d c1 (by simp)
    obtain ⟨a2, rfl⟩ := d c2 (by simp)
    exact some_ _ (dig2 a1 a2)
  | [c1, c2, c3], _, d, _ =>
    obtain ⟨a1, rfl⟩ := d c1 (by simp)
    obtain ⟨a2, rfl⟩ := d c2 (by simp)
    obtain ⟨a3, rfl⟩ := d c3 (by simp)
    exact some_ _ (dig3 a1 a2 a3)
  | [c1, c2, c3, c4], _, d, _ =>
    obtain ⟨a1, rfl⟩ := d c1 (by simp)
    obtain ⟨a2, rfl⟩ := d c2 (by simp)
    obtain ⟨a3, rfl⟩ := d c3 (by simp)
    obtain ⟨a4, rfl⟩ := d c4 (by simp)
    exact some_ _ (dig4 a1 a2 a3 a4)
  | _ :: _ :: _ :: _ :: _ :: _, hl, _, _ => simp only [List.length_cons] at hl; omega
theorem tokAt_len (r : Cs) : (tokAt r).length ≤ r.length := by
  unfold tokAt
  split
  · rename_i g e
    have := List.find?_some e
    exact (List.isPrefixOf_iff_prefix.mp this).length_le
  · exact (List.takeWhile_prefix _).length_le
theorem toks_eq (r : Cs) : toks r = if r.isEmpty then some [] else if (tokAt r).isEmpty then none else (toks (r.drop (tokAt r).length)).map (tokAt r :: ·) := by
  by_cases c : r.isEmpty = true
  · rw [if_pos c]
    have e : r = [] := List.isEmpty_iff.mp c
    subst e; rfl
  · rw [if_neg c]
    have l0 : 0 < r.length := List.length_pos_iff.mpr fun e => c (by rw [e]; rfl)
    have e : toks r = toksF ((r.length - 1) + 1) r := by unfold toks; congr 1; omega
    rw [e]
    unfold toksF
    rw [if_neg c]
    by_cases d : (tokAt r).isEmpty = true
    · rw [if_pos d, if_pos d]
    · rw [if_neg d, if_neg d]
      have l1 : 0 < (tokAt r).length := List.length_pos_iff.mpr fun e => d (by rw [e]; rfl)
      have hf : toksF (r.length - 1) (r.drop (tokAt r).length) = toks (r.drop (tokAt r).length) := toksF_fuel _ _ _ (by rw [List.length_drop]; omega) (Nat.le_refl _)
      rw [hf]
end Mr
/-! Pg3 -/
set_option Elab.async false
set_option linter.all false
set_option maxRecDepth 100000
set_option maxHeartbeats 4000000
namespace Pg
open PySem L2 Mr
abbrev tv (t : Cs) : V := .str (S t)
theorem toks_small : ∀ (n : Nat) (r : Cs) (ts : List Cs), toksF n r = some ts → ts.length ≤ r.length ∧ ∀ t ∈ ts, t.length ≤ r.length
  | 0, r, ts, h => by
    unfold toksF at h
    split at h
    · cases h; exact ⟨Nat.zero_le _, fun _ z => absurd z List.not_mem_nil⟩
    · cases h
  | n + 1, r, ts, h => by
    unfold toksF at h
    split at h
    · cases h; exact ⟨Nat.zero_le _, fun _ z => absurd z List.not_mem_nil⟩
    · split at h
      · cases h
      · rename_i c d
        obtain ⟨us, e, rfl⟩ := Option.map_eq_some_iff.mp h
        have l1 : 0 < (tokAt r).length := List.length_pos_iff.mpr fun e => d (by rw [e]; rfl)
        have l2 := tokAt_len r
        obtain ⟨i1, i2⟩ := toks_small n _ us e
        rw [List.length_drop] at i1 i2
        refine ⟨by rw [List.length_cons]; omega, fun t ht => ?_⟩
        rcases List.mem_cons.mp ht with rfl | ht
        · exact l2
        · exact Nat.le_trans (i2 t ht) (by omega)
section
variable {P : Program} {w : World} {K : PySem.W.Frag} {mg : Str → Option Value} {base : Heap} {pS pC : Addr}
/-! ### tokens_of -/
def spToks : Sp := fun vs H Q _ => ∃ z : Cs, vs = [tv z] ∧ z.length ≤ 100000 ∧ (toks z = none → ∀ H', Same H H' → Q .non H') ∧ ∀ ts, toks z = some ts → ∀ H' p, Same H H' → H p = none → H' p = some (.lst (ts.map tv)) → Q (.ref p) H'
theorem sc_toks : FnScope ["text", "tokens", "at", "token"] ["text"] (defScope st_tokens_of) := ⟨rfl, rfl, rfl, by decide +kernel, rfl, by decide +kernel, by decide +kernel⟩
def wToks (z : Cs) (H0 : Hp) (p : Addr) (m : Nat) (σ' : L2.St) (H2 : Hp) : Prop := ∃ (n : Nat) (acc : List Cs) (u : Option V), m = z.length - n ∧ n ≤ z.length ∧ acc.length ≤ n ∧ σ' = [some (tv z), some (.ref p), some (.int n), u] ∧ Same H0 H2 ∧ H2 p = some (.lst (acc.map tv)) ∧
  toks z = (toks (z.drop n)).map (acc ++ ·)
theorem ok_toks {f fA : Addr} {fd fdA : FuncData} (F : Fun K "tokens_of" "tokens_of" st_tokens_of f fd) (T : Tx K w mg pS pC) (GA : FnOk P w K mg base CX0 1 fA fdA ["text", "at"] spTokAt) (bA : Binds K fdA ["text", "at"] []) (kA : PySem.W.keepIn K (.ref fA) = true) (mA : mg "_token_at" = some (.ref fA)) :
    FnOk P w K mg base CX0 2 f fd ["text"] spToks := by
  refine F.ok sc_toks (fun vs H Q E h => ?_) (fun cdv A outer s H vs Q E hr h => ?_)
  · obtain ⟨z, rfl, _⟩ := h
    rfl
  obtain ⟨z, rfl, hz, q0, q1⟩ := h
  refine ⟨_, pss_cons (ps_set (i := 1) sc_toks.nd rfl (.inl rfl) (pe_lst pa_nil)) (pss_cons (ps_set (i := 2) sc_toks.nd rfl (.inl rfl) pe_int)
    (pss_cons (ps_while PassesOwn.never (pt_cmpR op_lt (pv 2) (pe_callB call_len (by rfl) T.len PySem.boot_len (pa_cons (pv 0) pa_nil)) (nomark _))
      (pss_cons (ps_set (i := 3) sc_toks.nd rfl (.inl rfl) (pe_call GA hr rfl mA kA bA .nil pass0 (pa_cons (pv 0) (pa_cons (pv 2) pa_nil))))
      (pss_cons (ps_if (pt_cmpR op_eq (pv 3) pe_str (nomark _)) (pss_one (ps_ret pe_non)) pss_nil)
      (pss_cons (ps_expr (pe_bm PySem.F.plainAttrs_list PySem.F.slot_list_append PySem.F.type_list_append mt_append (pv 1) (pa_cons (pv 3) pa_nil)))
      (pss_one (ps_aug (i := 2) sc_toks.nd rfl (.inl rfl) (pe_callB call_len (by rfl) T.len PySem.boot_len (pa_cons (pv 3) pa_nil)) ip_add))))))
    (pss_one (ps_ret (pv 1))))), ?_⟩
  refine ⟨Nat.zero_le _, fun p np => ⟨wToks z H p, ⟨_, 0, [], none, rfl, Nat.zero_le _, Nat.le_refl _, rfl, same_new np _, upd_same, ?_⟩, ?_⟩⟩
  · rw [List.drop_zero]; cases toks z <;> rfl
  rintro m σ' H2 ⟨n, acc, u, rfl, hn, ha, rfl, sm, hp, ht⟩
  refine ⟨_, rfl, _, rfl, _, _, rfl, ⟨lenS hz, rfl⟩, _, _, rfl, rfl, _, rfl, ite2 (fun c => ?_) (fun c => ?_)⟩
  · have c' : (n : Int) < ((S z).length : Int) := of_decide_eq_true c
    rw [len_S] at c'
    have ne : (z.drop n).isEmpty = false := by
      cases e : z.drop n with
      | nil => have := congrArg List.length e; rw [List.length_drop] at this; simp at this; omega
      | cons => rfl
    have te := toks_eq (z.drop n)
    rw [ne] at te
    simp only [Bool.false_eq_true, if_false] at te
    have tl := tokAt_len (z.drop n)
    rw [List.length_drop] at tl
    refine ⟨fun σ3 H3 => ∃ m', m' < z.length - n ∧ wToks z H p m' σ3 H3, fun _ _ h => h, _, rfl, _, rfl, z, n, rfl, hn, hz, _, rfl, rfl, _, rfl, ?_⟩
    have ee : decide (V.str (S (tokAt (z.drop n))) = V.str ("" : Str)) = (tokAt (z.drop n)).isEmpty := by
      have e0 : S [] = ("" : Str) := by decide +kernel
      rw [← e0]
      cases e : tokAt (z.drop n) with
      | nil => exact decide_eq_true rfl
      | cons a b => exact decide_eq_false fun h => by injection h with h; have := S_inj.mp h; cases this
    rw [ee]
    refine ite2 (fun d => ?_) (fun d => ?_)
    · rw [if_pos d] at te
      rw [te] at ht
      exact q0 ht H2 sm
    · rw [if_neg d, List.drop_drop] at te
      have l1 : 0 < (tokAt (z.drop n)).length := List.length_pos_iff.mpr fun e => d (by rw [e]; rfl)
      refine ⟨_, rfl, .inl ⟨rfl, _, SqL.of hp⟩, _, rfl, p, _, _, rfl, rfl, hp, ?_, ?_⟩
      · rw [List.length_map]; exact Nat.lt_of_le_of_lt (Nat.le_trans ha (Nat.le_trans hn hz)) (by decide)
      refine ⟨_, rfl, _, rfl, _, _, rfl, ⟨lenS (Nat.le_trans tl (by omega)), rfl⟩, _, _, rfl, rfl, z.length - (n + (tokAt (z.drop n)).length), by omega, n + (tokAt (z.drop n)).length, acc ++ [tokAt (z.drop n)], some (tv (tokAt (z.drop n))), rfl, by omega, by rw [List.length_append, List.length_singleton]; omega, ?_, ?_, ?_, ?_⟩
      · show [_, _, some (V.int ((n : Int) + ((S (tokAt (z.drop n))).length : Int))), _] = _
        rw [len_S, ← Int.natCast_add]
      · exact fun b o e => by rw [upd_ne (ne_of_none e np)]; exact sm b o e
      · rw [List.map_append]; exact upd_same
      · rw [ht, te, Option.map_map]
        congr 1
        funext x
        simp [Function.comp]
  · have c' : ¬ (n : Int) < ((S z).length : Int) := fun h => c (decide_eq_true h)
    rw [len_S] at c'
    have e : z.drop n = [] := List.drop_eq_nil_of_le (by omega)
    rw [e] at ht
    refine ⟨_, rfl, q1 acc (by rw [ht]; show some (acc ++ []) = _; rw [List.append_nil]) H2 p sm np hp⟩
end
end Pg
/-! Pg4 -/
set_option Elab.async false
set_option linter.all false
set_option maxRecDepth 100000
set_option maxHeartbeats 4000000
namespace Pg
open PySem L2 Mr
theorem mtext (b : Bool) : S (opn b) = (if b then ("max(" : Str) else "imax(") := by cases b <;> decide +kernel
theorem tok_eq {t g : Cs} {x : Str} (h : S g = x) : decide (V.str (S t) = V.str x) = decide (t = g) := by
  rw [← h]
  exact decide_eq_decide.mpr ⟨fun e => by injection e with e; exact S_inj.mp e, fun e => by rw [e]⟩
theorem xPlus : S cPlus = (" + " : Str) := by decide +kernel
theorem xSep : S cSep = (", " : Str) := by decide +kernel
theorem xEnd : S cEnd = (")" : Str) := by decide +kernel
def calls0 : List (Str × V) := [("max(", .str "max"), ("imax(", .str "imax")]
theorem look_max : Sx.lookD calls0 (S cMax) = some (.str (cName true)) := by decide +kernel
theorem look_imax : Sx.lookD calls0 (S cImax) = some (.str (cName false)) := by decide +kernel
theorem look_other {t : Cs} (h1 : t ≠ cMax) (h2 : t ≠ cImax) : Sx.lookD calls0 (S t) = none := by
  have e1 : S cMax = ("max(" : Str) := mtext true
  have e2 : S cImax = ("imax(" : Str) := mtext false
  unfold Sx.lookD calls0
  rw [List.find?_cons, ← e1, ← e2, decide_eq_false (fun e => h1 (S_inj.mp e).symm), List.find?_cons, decide_eq_false (fun e => h2 (S_inj.mp e).symm)]
  rfl
/-- the steps ss stand in tuples at as -/
def StepsAt (H : Hp) (as : List Addr) (ss : List Stp) : Prop := Paired (fun a s => H a = some (.tup (sv s))) as ss
theorem StepsAt.mono {H H' : Hp} : ∀ {as : List Addr} {ss : List Stp}, StepsAt H as ss → (∀ a xs, H a = some (.tup xs) → H' a = some (.tup xs)) → StepsAt H' as ss
  | _, _, .nil, _ => .nil
  | _, _, .cons h r, k => .cons (k _ _ h) (StepsAt.mono r k)
theorem StepsAt.snoc {H : Hp} {a : Addr} {s : Stp} (h : H a = some (.tup (sv s))) : ∀ {as : List Addr} {ss : List Stp}, StepsAt H as ss → StepsAt H (as ++ [a]) (ss ++ [s])
  | _, _, .nil => .cons h .nil
  | _, _, .cons g r => .cons g (StepsAt.snoc h r)
theorem StepsAt.len {H : Hp} {as : List Addr} {ss : List Stp} (h : StepsAt H as ss) : as.length = ss.length := Paired.length h
/-- what stands before a turn of the loop -/
structure Sr (K : PySem.W.Frag) (H0 : Hp) (ts : List Cs) (pT p1 p2 p3 : Addr) (v0 : V) (i : Nat) (σ : L2.St) (H : Hp) (p : PSt) (as : List Addr) : Prop where
  sm : Same H0 H
  run : parse ⟨[], [], .level⟩ (ts.take i) = some p
  hT : H pT = some (.lst (ts.map tv))
  h1 : H p1 = some (.lst (as.map V.ref))
  h2 : H p2 = some (.lst (p.st.reverse.map fun x => .str (cName x.1)))
  h3 : H p3 = some (.lst (p.st.reverse.map fun x => .int x.2))
  st : StepsAt H as p.ss
  l1 : p.ss.length ≤ i
  l2 : p.st.length ≤ i
  sl : ∃ u l, σ = [some v0, some (.ref pT), some (.ref p1), some (.ref p2), some (.ref p3), some (.str (wName p.w)), u, l]
theorem parse_none {q : PSt} {ts : List Cs} {i : Nat} {t : Cs} {p : PSt} (h : parse q (ts.take i) = some p) (ht : ts[i]? = some t) (hn : turn p t = none) : parse q ts = none := by
  have lt := (List.getElem?_eq_some_iff.mp ht).1
  have e : ts = ts.take i ++ t :: ts.drop (i + 1) := by
    have := (List.getElem?_eq_some_iff.mp ht).2
    rw [← this, ← List.drop_eq_getElem_cons lt, List.take_append_drop]
  rw [e, parse_append, h]
  show parse p (t :: _) = none
  unfold parse
  rw [hn]
theorem parse_more {q : PSt} {ts : List Cs} {i : Nat} {t : Cs} {p r : PSt} (h : parse q (ts.take i) = some p) (ht : ts[i]? = some t) (hn : turn p t = some r) : parse q (ts.take (i + 1)) = some r := by
  have lt := (List.getElem?_eq_some_iff.mp ht).1
  have e : ts.take (i + 1) = ts.take i ++ [t] := by rw [List.take_succ, ht]; rfl
  rw [e, parse_append, h]
  show parse p [t] = _
  rw [parse_step hn]
  rfl
theorem upd_none {H : Hp} {p q : Addr} {o : HO} (h : upd H p o q = none) : q ≠ p ∧ H q = none := by
  by_cases e : q = p
  · rw [e, upd_same] at h; cases h
  · rw [upd_ne e] at h; exact ⟨e, h⟩
theorem tup_keep {H : Hp} {p : Addr} {xs ys : List V} (h : H p = some (.lst xs)) : ∀ a zs, H a = some (.tup zs) → upd H p (.lst ys) a = some (.tup zs) := fun a zs e => by
  rw [upd_ne (ne_of e h (by intro z; cases z))]; exact e
theorem same_mut {H0 H : Hp} {p : Addr} {o : HO} (s : Same H0 H) (n : H0 p = none) : Same H0 (upd H p o) := fun b u e => by
  rw [upd_ne (ne_of_none e n)]; exact s b u e
theorem big {n : Nat} (h : n ≤ 100000) : n < sizeLine := Nat.lt_of_le_of_lt h (by decide)
/-- three lists that stand apart -/
structure Apart (H0 : Hp) (pT p1 p2 p3 : Addr) : Prop where
  n1 : H0 p1 = none
  n2 : H0 p2 = none
  n3 : H0 p3 = none
  t1 : pT ≠ p1
  t2 : pT ≠ p2
  t3 : pT ≠ p3
  d12 : p1 ≠ p2
  d13 : p1 ≠ p3
  d23 : p2 ≠ p3
theorem Sr.same {K : PySem.W.Frag} {H0 H H' : Hp} {ts : List Cs} {pT p1 p2 p3 : Addr} {v0 : V} {i : Nat} {σ : L2.St} {p : PSt} {as : List Addr} (R : Sr K H0 ts pT p1 p2 p3 v0 i σ H p as) (s : Same H H') {σ' : L2.St}
    (sl : ∃ u l, σ' = [some v0, some (.ref pT), some (.ref p1), some (.ref p2), some (.ref p3), some (.str (wName p.w)), u, l]) : Sr K H0 ts pT p1 p2 p3 v0 i σ' H' p as :=
  ⟨R.sm.trans s, R.run, s _ _ R.hT, s _ _ R.h1, s _ _ R.h2, s _ _ R.h3, R.st.mono fun a xs e => s a _ e, R.l1, R.l2, sl⟩
section
variable {P : Program} {w : World} {K : PySem.W.Frag} {mg : Str → Option Value} {base : Heap} {pS pC : Addr}
/-! ### steps_of -/
def spSteps (K : PySem.W.Frag) : Sp := fun vs H Q _ => ∃ v : V, vs = [v] ∧
  ((∃ z : Cs, v = tv z ∧ z.length ≤ 100000 ∧ (stepsOf z = none → ∀ H', Same H H' → Q .non H') ∧ ∀ ss, stepsOf z = some ss → ss.length ≤ z.length → ∀ H' p as, Same H H' → H' p = some (.tup (as.map V.ref)) → StepsAt H' as ss → Q (.ref p) H') ∨
   (∃ ty : String, TyX K H v (.type ty) ∧ kitB ty "str" = some false ∧ ∀ H', Same H H' → Q .non H'))
theorem sc_steps : FnScope ["thing", "tokens", "steps", "calls", "counts", "wanted", "token", "leaf"] ["thing"] (defScope st_steps_of) := ⟨rfl, rfl, rfl, by decide +kernel, rfl, by decide +kernel, by decide +kernel⟩
theorem ok_steps {f fT fL fF : Addr} {fd fdT fdL fdF : FuncData} (F : Fun K "steps_of" "steps_of" st_steps_of f fd) (T : Tx K w mg pS pC)
    (GT : FnOk P w K mg base CX0 2 fT fdT ["text"] spToks) (bT : Binds K fdT ["text"] []) (kT : PySem.W.keepIn K (.ref fT) = true) (mT : mg "tokens_of" = some (.ref fT))
    (GL : FnOk P w K mg base CX0 2 fL fdL ["token", "wanted"] spLeaf) (bL : Binds K fdL ["token", "wanted"] []) (kL : PySem.W.keepIn K (.ref fL) = true) (mL : mg "_leaf" = some (.ref fL))
    (GF : FnOk P w K mg base CX0 1 fF fdF ["call", "count"] spFull) (bF : Binds K fdF ["call", "count"] []) (kF : PySem.W.keepIn K (.ref fF) = true) (mF : mg "_is_full" = some (.ref fF)) :
    FnOk P w K mg base CX0 3 f fd ["thing"] (spSteps K) := by
  refine F.ok sc_steps (fun vs H Q E h => ?_) (fun cdv A outer s H vs Q E hr h => ?_)
  · obtain ⟨v, rfl, _⟩ := h
    rfl
  obtain ⟨v, rfl, hv⟩ := h
  have hr1 : Room 1 _ := hr.mono (by decide)
  have nd := sc_steps.nd
  refine ⟨_, pss_cons (ps_set (i := 1) nd rfl (.inl rfl) (pe_ifExp (pt_val (pe_callB call_isi (by rfl) T.isi (by decide +kernel) (pa_cons (pv 0) (pa_cons (pe_bltn (v := .ty "str") (by rfl) T.str (by decide +kernel) rfl) pa_nil))))
        (pe_call GT hr rfl mT kT bT .nil pass0 (pa_cons (pv 0) pa_nil)) pe_non))
    (pss_cons (ps_if (pt_cmpR op_isN (pv 1) pe_non (nomark _)) (pss_one (ps_ret pe_non)) pss_nil)
    (pss_cons (ps_asg (pe_tup (pa_cons (pe_lst pa_nil) (pa_cons (pe_lst pa_nil) (pa_cons (pe_lst pa_nil) (pa_cons pe_str pa_nil)))))
        (pg_tup rfl (pgs_cons (pg_name (i := 2) nd rfl (.inl rfl)) (pgs_cons (pg_name (i := 3) nd rfl (.inl rfl)) (pgs_cons (pg_name (i := 4) nd rfl (.inl rfl)) (pgs_cons (pg_name (i := 5) nd rfl (.inl rfl)) pgs_nil))))))
    (pss_cons (ps_for PassesOwn.never rfl (pi_list (pv 1)) (pg_name (i := 6) nd rfl (.inl rfl))
      (pss_cons (ps_set (i := 7) nd rfl (.inl rfl) (pe_call GL hr rfl mL kL bL .nil pass0 (pa_cons (pv 6) (pa_cons (pv 5) pa_nil))))
      (pss_one (ps_if (pt_cmpR op_notN (pv 7) pe_non (nomark _))
        (pss_cons (ps_expr (pe_bm PySem.F.plainAttrs_list PySem.F.slot_list_append PySem.F.type_list_append mt_append (pv 2) (pa_cons (pv 7) pa_nil))) (pss_one (ps_set (i := 5) nd rfl (.inl rfl) pe_str)))
      (pss_one (ps_if (PW.pt (pw_and (pt_cmpR op_eq (pv 5) pe_str (nomark _)) (pw_and1 (pt_cmpR Sx.op_inKD (pv 6) (pe_glob (v := .ref pC) (by rfl) T.mC rfl) rfl))))
        (pss_cons (ps_expr (pe_bm PySem.F.plainAttrs_list PySem.F.slot_list_append PySem.F.type_list_append mt_append (pv 3) (pa_cons (pe_ix Sx.ix_KD (pe_glob (v := .ref pC) (by rfl) T.mC rfl) (pv 6) (fun _ _ => rfl)) pa_nil)))
          (pss_one (ps_expr (pe_bm PySem.F.plainAttrs_list PySem.F.slot_list_append PySem.F.type_list_append mt_append (pv 4) (pa_cons pe_int pa_nil)))))
      (pss_one (ps_if (PW.pt (pw_and (pt_cmpR op_eq (pv 5) pe_str (nomark _)) (pw_and1 (pt_cmpR op_eq (pv 6) pe_str (nomark _))))) (pss_one (ps_set (i := 5) nd rfl (.inl rfl) pe_str))
      (pss_one (ps_if (PW.pt (pw_and (pt_cmpR op_eq (pv 5) pe_str (nomark _)) (pw_and (pt_cmpR op_eq (pv 6) pe_str (nomark _)) (pw_and1 (pt_truth (pv 3) (by intro _; rfl))))))
        (pss_cons (ps_augS (pv 4) (pe_un un_neg pe_int) Sx.pget_list pe_int ip_add set_list) (pss_one (ps_set (i := 5) nd rfl (.inl rfl) pe_str)))
      (pss_one (ps_if (PW.pt (pw_and (pt_cmpR op_eq (pv 5) pe_str (nomark _)) (pw_and (pt_cmpR op_eq (pv 6) pe_str (nomark _)) (pw_and (pt_truth (pv 3) (by intro _; rfl))
          (pw_and1 (pt_val (pe_call GF hr1 rfl mF kF bF .nil pass0 (pa_cons (pe_ix ix_list (pv 3) (pe_un un_neg pe_int) (fun _ _ => rfl)) (pa_cons (pe_ix ix_list (pv 4) (pe_un un_neg pe_int) (fun _ _ => rfl)) pa_nil)))))))))
        (pss_one (ps_expr (pe_bm PySem.F.plainAttrs_list PySem.F.slot_list_append PySem.F.type_list_append mt_append (pv 2)
          (pa_cons (pe_tup (pa_cons (pe_bm0 PySem.F.plainAttrs_list PySem.F.slot_list_pop PySem.F.type_list_pop mt_pop (pv 3)) (pa_cons (pe_bm0 PySem.F.plainAttrs_list PySem.F.slot_list_pop PySem.F.type_list_pop mt_pop (pv 4)) pa_nil))) pa_nil))))
        (pss_one (ps_ret pe_non))))))))))))))
    (pss_one (ps_ret (pe_ifExp (PW.pt (pw_and (pt_cmpR op_eq (pv 5) pe_str (nomark _)) (pw_and1 (pt_not (pt_truth (pv 3) (by intro _; rfl)))))) (pe_callTy call_tuple_of (by rfl) T.tup (by decide +kernel) (pa_cons (pv 2) pa_nil)) pe_non)))))), ?_⟩
  rcases hv with ⟨z, rfl, hz, q0, q1⟩ | ⟨ty, hty, hk, q0⟩
  case inr =>
    refine ⟨_, rfl, _, _, _, _, false, rfl, .ty "str", hty, kit_ty hk, _, rfl, iteF ⟨_, rfl, rfl, _, rfl, iteT (q0 H (Same.refl H))⟩⟩
  refine ⟨_, rfl, _, _, _, _, true, rfl, .ty "str", .base (.str _), kit_ty (by decide +kernel), _, rfl, iteT ⟨_, rfl, z, rfl, hz, fun hn H1 s1 => ?_, fun ts hts H1 pT s1 nT hT => ?_⟩⟩
  · exact ⟨_, rfl, rfl, _, rfl, iteT (q0 (by unfold stepsOf; rw [hn]; rfl) H1 s1)⟩
  have e0 : stepsOf z = stepsT ts := by unfold stepsOf; rw [hts]; rfl
  obtain ⟨tl1, tl2⟩ := toks_small _ _ _ hts
  refine ⟨_, rfl, rfl, _, rfl, iteF ⟨Nat.zero_le _, fun p1 n1 => ⟨Nat.zero_le _, fun p2 n2 => ⟨Nat.zero_le _, fun p3 n3 => ⟨(by show 4 ≤ sizeLine; decide), fun pt nt => ⟨pt, _, rfl, SqT.of upd_same, rfl, _, _, rfl, _, _, rfl, _, _, rfl, _, _, rfl, rfl, ?_⟩⟩⟩⟩⟩⟩
  obtain ⟨a12, m2⟩ := upd_none n2
  obtain ⟨a23, m3⟩ := upd_none n3
  obtain ⟨a13, m3⟩ := upd_none m3
  have ap : Apart H pT p1 p2 p3 := ⟨s1.free n1, s1.free m2, s1.free m3, ne_of_none hT n1, ne_of_none hT m2, ne_of_none hT m3, Ne.symm a12, Ne.symm a13, Ne.symm a23⟩
  have hend : ∀ H', Same H H' → stepsT ts = none → Q .non H' := fun H' s' e => q0 (by rw [e0, e]) H' s'
  have sm5 := (((s1.trans (same_new n1 (.lst []))).trans (same_new n2 (.lst []))).trans (same_new n3 (.lst []))).trans (same_new nt (.tup [V.ref p1, V.ref p2, V.ref p3, V.str ("level" : Str)]))
  have keep5 := same_new nt (.tup [V.ref p1, V.ref p2, V.ref p3, V.str ("level" : Str)])
  have hT5 := keep5 pT _ (show upd (upd (upd H1 p1 (.lst [])) p2 (.lst [])) p3 (.lst []) pT = some (.lst (ts.map tv)) by rw [upd_ne ap.t3, upd_ne ap.t2, upd_ne ap.t1]; exact hT)
  have h15 := keep5 p1 _ (show upd (upd (upd H1 p1 (.lst [])) p2 (.lst [])) p3 (.lst []) p1 = some (.lst []) by rw [upd_ne ap.d13, upd_ne ap.d12]; exact upd_same)
  have h25 := keep5 p2 _ (show upd (upd (upd H1 p1 (.lst [])) p2 (.lst [])) p3 (.lst []) p2 = some (.lst []) by rw [upd_ne ap.d23]; exact upd_same)
  have h35 := keep5 p3 _ (show upd (upd (upd H1 p1 (.lst [])) p2 (.lst [])) p3 (.lst []) p3 = some (.lst []) from upd_same)
  refine ⟨_, rfl, pT, rfl, ⟨ts.map tv, SqL.of hT5⟩, for_list (K := K) (a := pT) (xs := ts.map tv) (fun i σ H' => ∃ p as, Sr K H ts pT p1 p2 p3 (tv z) i σ H' p as)
    ⟨⟨[], [], .level⟩, [], ⟨sm5, rfl, hT5, h15, h25, h35, .nil, Nat.le_refl _, Nat.le_refl _, ⟨_, _, rfl⟩⟩⟩ (fun i σ H' _ ⟨p, as, R⟩ => SqL.of R.hT) ?turn ?after⟩
  case turn =>
    rintro i x σ H' hi ⟨p, as, R⟩
    obtain ⟨t, ht, rfl⟩ : ∃ t, ts[i]? = some t ∧ x = tv t := by
      rw [List.getElem?_map] at hi
      cases e : ts[i]? with
      | none => rw [e] at hi; cases hi
      | some t => rw [e] at hi; exact ⟨t, rfl, (Option.some.inj hi).symm⟩
    have hi' : i < ts.length := (List.getElem?_eq_some_iff.mp ht).1
    have tlen : t.length ≤ 100000 := Nat.le_trans (tl2 t (List.mem_of_getElem? ht)) hz
    have ilen : i ≤ 100000 := by omega
    obtain ⟨u, l0, rfl⟩ := R.sl
    obtain ⟨ss, st, x⟩ := p
    refine ⟨_, rfl, _, rfl, t, x, rfl, tlen, num_text, fun hn H2 s2 => ?_, fun l hl H2 pl s2 hpl => ?_⟩
    case refine_2 =>
      have R2 := R.same s2 (σ' := [some (tv z), some (.ref pT), some (.ref p1), some (.ref p2), some (.ref p3), some (.str (wName x)), some (tv t), some (.ref pl)]) ⟨_, _, rfl⟩
      refine ⟨_, rfl, rfl, _, rfl, iteT ⟨_, rfl, .inl ⟨rfl, _, SqL.of R2.h1⟩, _, rfl, p1, _, _, rfl, rfl, R2.h1, big (by rw [List.length_map, R2.st.len]; exact Nat.le_trans R2.l1 ilen), ?_⟩⟩
      refine ⟨⟨ss ++ [l], st, .sign⟩, as ++ [pl], same_mut R2.sm ap.n1, parse_more R.run ht (turn_leaf hl), by rw [upd_ne ap.t1]; exact R2.hT, by rw [List.map_append]; exact upd_same, by rw [upd_ne ap.d12.symm]; exact R2.h2, by rw [upd_ne ap.d13.symm]; exact R2.h3,
        (StepsAt.snoc hpl R2.st).mono (tup_keep R2.h1), by rw [List.length_append, List.length_singleton]; exact Nat.succ_le_succ R2.l1, Nat.le_succ_of_le R2.l2, ⟨_, _, rfl⟩⟩
    have R2 := R.same s2 (σ' := [some (tv z), some (.ref pT), some (.ref p1), some (.ref p2), some (.ref p3), some (.str (wName x)), some (tv t), some .non]) ⟨_, _, rfl⟩
    have stop : turn ⟨ss, st, x⟩ t = none → Q .non H2 := fun e => hend H2 R2.sm (by unfold stepsT; rw [parse_none R.run ht e]; rfl)
    refine ⟨_, rfl, rfl, _, rfl, iteF ⟨_, rfl, rfl, _, rfl, ?_⟩⟩
    rw [w_level]
    cases x with
    | number =>
      have hstop : turn ⟨ss, st, .number⟩ t = none := by unfold turn; rw [hn]; rfl
      refine iteF ⟨_, rfl, rfl, _, rfl, ?_⟩
      rw [w_sign]
      refine iteF ⟨_, rfl, rfl, _, rfl, ?_⟩
      rw [w_sign]
      refine iteF ⟨_, rfl, rfl, _, rfl, ?_⟩
      rw [w_sign]
      exact iteF (stop hstop)
    | level =>
      refine iteT ⟨_, rfl, pC, S t, calls0, rfl, rfl, T.tC, _, rfl, ?_⟩
      -- a bracket opens
      have opens : ∀ b : Bool, t = opn b → Sx.lookD calls0 (S t) = some (.str (cName b)) → ∃ p as, Sr K H ts pT p1 p2 p3 (tv z) (i + 1) [some (tv z), some (.ref pT), some (.ref p1), some (.ref p2), some (.ref p3), some (.str (wName .level)), some (tv t), some .non]
          (upd (upd H2 p2 (.lst ((st.reverse.map fun x => V.str (cName x.1)) ++ [.str (cName b)]))) p3 (.lst ((st.reverse.map fun x => V.int x.2) ++ [.int 1]))) p as := fun b eb _ => by
        have e2 : upd H2 p2 (.lst ((st.reverse.map fun x => V.str (cName x.1)) ++ [.str (cName b)])) p3 = some (.lst (st.reverse.map fun x => V.int x.2)) := by rw [upd_ne ap.d23.symm]; exact R2.h3
        refine ⟨⟨ss, (b, 1) :: st, .level⟩, as, same_mut (same_mut R2.sm ap.n2) ap.n3, parse_more R.run ht (by rw [eb]; exact turn_opn ss b st), by rw [upd_ne ap.t3, upd_ne ap.t2]; exact R2.hT, by rw [upd_ne ap.d13, upd_ne ap.d12]; exact R2.h1, ?_, ?_,
          (R2.st.mono (tup_keep R2.h2)).mono (tup_keep e2), Nat.le_succ_of_le R2.l1, Nat.succ_le_succ R2.l2, ⟨_, _, rfl⟩⟩
        · rw [upd_ne ap.d23, upd_same, List.reverse_cons, List.map_append]; rfl
        · rw [upd_same, List.reverse_cons, List.map_append]; rfl
      by_cases c1 : t = cMax
      · have lk : Sx.lookD calls0 (S t) = some (.str (cName true)) := by rw [c1]; exact look_max
        rw [lk]
        refine iteT ⟨_, rfl, .inl ⟨rfl, _, SqL.of R2.h2⟩, _, rfl, pC, S t, calls0, _, rfl, rfl, T.tC, lk, p2, _, _, rfl, rfl, R2.h2, big (by rw [List.length_map, List.length_reverse]; exact Nat.le_trans R2.l2 ilen), ?_⟩
        have e2 : upd H2 p2 (.lst ((st.reverse.map fun x => V.str (cName x.1)) ++ [.str (cName true)])) p3 = some (.lst (st.reverse.map fun x => V.int x.2)) := by rw [upd_ne ap.d23.symm]; exact R2.h3
        exact ⟨_, rfl, .inl ⟨rfl, _, SqL.of e2⟩, p3, _, _, rfl, rfl, e2, big (by rw [List.length_map, List.length_reverse]; exact Nat.le_trans R2.l2 ilen), opens true c1 lk⟩
      by_cases c2 : t = cImax
      · have lk : Sx.lookD calls0 (S t) = some (.str (cName false)) := by rw [c2]; exact look_imax
        rw [lk]
        refine iteT ⟨_, rfl, .inl ⟨rfl, _, SqL.of R2.h2⟩, _, rfl, pC, S t, calls0, _, rfl, rfl, T.tC, lk, p2, _, _, rfl, rfl, R2.h2, big (by rw [List.length_map, List.length_reverse]; exact Nat.le_trans R2.l2 ilen), ?_⟩
        have e2 : upd H2 p2 (.lst ((st.reverse.map fun x => V.str (cName x.1)) ++ [.str (cName false)])) p3 = some (.lst (st.reverse.map fun x => V.int x.2)) := by rw [upd_ne ap.d23.symm]; exact R2.h3
        exact ⟨_, rfl, .inl ⟨rfl, _, SqL.of e2⟩, p3, _, _, rfl, rfl, e2, big (by rw [List.length_map, List.length_reverse]; exact Nat.le_trans R2.l2 ilen), opens false c2 lk⟩
      have hstop : turn ⟨ss, st, .level⟩ t = none := by
        unfold turn; rw [hn]
        simp only [c1, c2, decide_false, Bool.and_false, Bool.false_eq_true, if_false, show (W.level = W.sign) = False from eq_false (fun h => by cases h), Bool.false_and]
      rw [look_other c1 c2]
      refine iteF ⟨_, rfl, rfl, _, rfl, ?_⟩
      rw [w_sign]
      refine iteF ⟨_, rfl, rfl, _, rfl, ?_⟩
      rw [w_sign]
      refine iteF ⟨_, rfl, rfl, _, rfl, ?_⟩
      rw [w_sign]
      exact iteF (stop hstop)
    | sign =>
      refine iteF ⟨_, rfl, rfl, _, rfl, ?_⟩
      rw [w_sign]
      refine iteT ⟨_, rfl, rfl, _, rfl, ?_⟩
      rw [tok_eq xPlus]
      by_cases c1 : t = cPlus
      · rw [decide_eq_true c1]
        refine iteT ⟨⟨ss, st, .number⟩, as, R2.sm, parse_more R.run ht (by rw [c1]; exact turn_plus ss st), R2.hT, R2.h1, R2.h2, R2.h3, R2.st, Nat.le_succ_of_le R2.l1, Nat.le_succ_of_le R2.l2, ⟨_, _, rfl⟩⟩
      rw [decide_eq_false c1]
      refine iteF ⟨_, rfl, rfl, _, rfl, ?_⟩
      rw [w_sign]
      refine iteT ⟨_, rfl, rfl, _, rfl, ?_⟩
      rw [tok_eq xSep]
      by_cases c2 : t = cSep
      · rw [decide_eq_true c2]
        refine iteT ⟨_, rfl, _, .inl ⟨_, SqL.of R2.h2, rfl⟩, ?_⟩
        match st, R, R2, stop with
        | [], R, R2, stop =>
          refine iteF ⟨_, rfl, rfl, _, rfl, ?_⟩
          rw [w_sign]
          refine iteT ⟨_, rfl, rfl, _, rfl, ?_⟩
          rw [tok_eq xEnd, decide_eq_false (by rw [c2]; decide)]
          refine iteF (stop ?_)
          unfold turn; rw [hn, c2]; rfl
        | (b, n) :: r, R, R2, stop =>
          have g3 : H2 p3 = some (.lst ((r.reverse.map fun x => V.int x.2) ++ [V.int n])) := by have := R2.h3; rw [List.reverse_cons, List.map_append] at this; exact this
          have ne2 : (!(List.map (fun x : Bool × Int => V.str (cName x.1)) (PSt.mk ss ((b, n) :: r) W.sign).st.reverse).isEmpty) = true := by
            rw [List.reverse_cons, List.map_append]
            cases List.map (fun x : Bool × Int => V.str (cName x.1)) r.reverse <;> rfl
          rw [ne2]
          have e4 : ((r.reverse.map fun x => V.int x.2) ++ [V.int n]).set (r.reverse.map fun x => V.int x.2).length (.int (n + 1)) = (r.reverse.map fun x => V.int x.2) ++ [V.int (n + 1)] := by
            rw [List.set_append_right _ _ (Nat.le_refl _), Nat.sub_self]; rfl
          have e5 : ixN ((r.reverse.map fun x => V.int x.2) ++ [V.int n]).length (-1) = some (r.reverse.map fun x => V.int x.2).length := by
            unfold ixN
            rw [if_neg (by decide), if_pos (by rw [List.length_append, List.length_singleton]; omega), List.length_append, List.length_singleton]
            congr 1
            omega
          refine iteT ⟨_, rfl, _, rfl, p3, _, _, _, rfl, rfl, SqL.of g3, atI_last _ _, _, _, rfl, rfl, p3, _, _, _, rfl, rfl, g3, e5, ?_⟩
          rw [e4]
          refine ⟨⟨ss, (b, n + 1) :: r, .level⟩, as, same_mut R2.sm ap.n3, parse_more R.run ht (by rw [c2]; exact turn_sep ss b n r), by rw [upd_ne ap.t3]; exact R2.hT, by rw [upd_ne ap.d13]; exact R2.h1, by rw [upd_ne ap.d23, R2.h2]; simp only [List.reverse_cons, List.map_append, List.map_cons, List.map_nil], ?_, R2.st.mono (tup_keep g3), Nat.le_succ_of_le R2.l1, Nat.le_succ_of_le R2.l2, ⟨_, _, rfl⟩⟩
          rw [upd_same, List.reverse_cons, List.map_append]; rfl
      rw [decide_eq_false c2]
      refine iteF ⟨_, rfl, rfl, _, rfl, ?_⟩
      rw [w_sign]
      refine iteT ⟨_, rfl, rfl, _, rfl, ?_⟩
      rw [tok_eq xEnd]
      by_cases c3 : t = cEnd
      · rw [decide_eq_true c3]
        refine iteT ⟨_, rfl, _, .inl ⟨_, SqL.of R2.h2, rfl⟩, ?_⟩
        match st, R, R2, stop with
        | [], R, R2, stop =>
          refine iteF (stop ?_)
          unfold turn; rw [hn, c3]; rfl
        | (b, n) :: r, R, R2, stop =>
          have g2 : H2 p2 = some (.lst ((r.reverse.map fun x => V.str (cName x.1)) ++ [V.str (cName b)])) := by have := R2.h2; rw [List.reverse_cons, List.map_append] at this; exact this
          have g3 : H2 p3 = some (.lst ((r.reverse.map fun x => V.int x.2) ++ [V.int n])) := by have := R2.h3; rw [List.reverse_cons, List.map_append] at this; exact this
          have ne2 : (!(List.map (fun x : Bool × Int => V.str (cName x.1)) (PSt.mk ss ((b, n) :: r) W.sign).st.reverse).isEmpty) = true := by
            rw [List.reverse_cons, List.map_append]
            cases List.map (fun x : Bool × Int => V.str (cName x.1)) r.reverse <;> rfl
          rw [ne2]
          refine iteT ⟨_, rfl, _, rfl, p2, _, _, _, rfl, rfl, SqL.of g2, atI_last _ _, _, rfl, _, rfl, p3, _, _, _, rfl, rfl, SqL.of g3, atI_last _ _, b, n, rfl, _, rfl, ite2 (fun d => ?_) (fun d => ?_)⟩
          · have last : ∀ (xs : List V) (y : V), (xs ++ [y])[(xs ++ [y]).length - 1]? = some y := fun xs y => by simp
            have g3' : upd H2 p2 (.lst ((r.reverse.map fun x => V.str (cName x.1)) ++ [V.str (cName b)]).dropLast) p3 = some (.lst ((r.reverse.map fun x => V.int x.2) ++ [V.int n])) := by rw [upd_ne ap.d23.symm]; exact g3
            have h1'' : upd (upd H2 p2 (.lst ((r.reverse.map fun x => V.str (cName x.1)) ++ [V.str (cName b)]).dropLast)) p3 (.lst ((r.reverse.map fun x => V.int x.2) ++ [V.int n]).dropLast) p1 = some (.lst (as.map V.ref)) := by
              rw [upd_ne ap.d13, upd_ne ap.d12]; exact R2.h1
            refine ⟨_, rfl, .inl ⟨rfl, _, SqL.of R2.h1⟩, _, rfl, .inl ⟨rfl, _, SqL.of g2⟩, p2, _, _, rfl, rfl, g2, last _ _, _, rfl, .inl ⟨rfl, _, SqL.of g3'⟩, p3, _, _, rfl, rfl, g3', last _ _, (by show 2 ≤ sizeLine; decide), fun pl nl => ?_⟩
            have h1p := same_new nl (.tup [V.str (cName b), V.int n]) p1 _ h1''
            refine ⟨p1, _, _, rfl, rfl, h1p, big (by rw [List.length_map, R2.st.len]; exact Nat.le_trans R2.l1 ilen), ?_⟩
            have k3 := same_new nl (.tup [V.str (cName b), V.int n])
            have st1 : StepsAt (upd (upd (upd H2 p2 (.lst ((r.reverse.map fun x => V.str (cName x.1)) ++ [V.str (cName b)]).dropLast)) p3 (.lst ((r.reverse.map fun x => V.int x.2) ++ [V.int n]).dropLast)) pl (.tup [V.str (cName b), V.int n])) as ss :=
              (((R2.st.mono (tup_keep g2)).mono (tup_keep g3')).mono fun a xs e => k3 a _ e)
            refine ⟨⟨ss ++ [.call b n], r, .sign⟩, as ++ [pl], same_mut ((same_mut (same_mut R2.sm ap.n2) ap.n3).trans k3) ap.n1, parse_more R.run ht (by rw [c3]; exact turn_end ss b n r d), ?_, by rw [List.map_append]; exact upd_same, ?_, ?_,
              (StepsAt.snoc (s := .call b n) (a := pl) (by exact upd_same) st1).mono (tup_keep h1p), by rw [List.length_append, List.length_singleton]; exact Nat.succ_le_succ R2.l1, Nat.le_trans (Nat.le_of_succ_le R2.l2) (Nat.le_succ _), ⟨_, _, rfl⟩⟩
            · rw [upd_ne ap.t1]
              exact k3 pT _ (by rw [upd_ne ap.t3, upd_ne ap.t2]; exact R2.hT)
            · rw [upd_ne ap.d12.symm]
              exact k3 p2 _ (by rw [upd_ne ap.d23, upd_same, List.dropLast_concat])
            · rw [upd_ne ap.d13.symm]
              exact k3 p3 _ (by rw [upd_same, List.dropLast_concat])
          · refine stop ?_
            unfold turn; rw [hn, c3]
            show (if full b n = true then _ else none) = none
            rw [if_neg d]
      rw [decide_eq_false c3]
      refine iteF (stop ?_)
      unfold turn; rw [hn]
      simp only [c1, c2, c3, decide_false, Bool.and_false, Bool.false_eq_true, if_false, show (W.sign = W.level) = False from eq_false (fun h => by cases h), Bool.false_and]
  case after =>
    rintro σ H' ⟨p, as, R⟩
    obtain ⟨u, l0, rfl⟩ := R.sl
    have run : parse ⟨[], [], .level⟩ ts = some p := by
      have := R.run
      rw [List.length_map, List.take_length] at this
      exact this
    have es : stepsT ts = ended p := by unfold stepsT; rw [run]; rfl
    obtain ⟨ss, st, x⟩ := p
    refine ⟨_, rfl, rfl, _, rfl, ?_⟩
    rw [w_sign]
    cases x with
    | level => exact iteF (iteF (hend H' R.sm (by rw [es]; rfl)))
    | number => exact iteF (iteF (hend H' R.sm (by rw [es]; rfl)))
    | sign =>
      match st, R, es with
      | [], R, es =>
        refine iteT ⟨_, rfl, false, .inl ⟨_, SqL.of R.h2, rfl⟩, iteT ⟨_, rfl, p1, _, rfl, .inl ⟨SqL.of R.h1, fun l hl => ?_⟩⟩⟩
        have k := same_new hl (.tup (as.map V.ref))
        exact q1 ss (by rw [e0, es]; rfl) (by have := R.l1; rw [List.length_map] at this; exact Nat.le_trans this tl1) _ l as (R.sm.trans k) upd_same (R.st.mono fun a xs e => k a _ e)
      | (b, n) :: r, R, es =>
        refine iteT ⟨_, rfl, true, .inl ⟨_, SqL.of R.h2, ?_⟩, iteF (hend H' R.sm (by rw [es]; rfl))⟩
        rw [List.reverse_cons, List.map_append]
        cases List.map (fun x : Bool × Int => V.str (cName x.1)) r.reverse <;> rfl
end
end Pg
/-! Pg5 -/
set_option Elab.async false
set_option linter.all false
set_option maxRecDepth 100000
set_option maxHeartbeats 4000000
namespace Pg
open PySem L2 Mr
theorem StepsAt.at {H : Hp} : ∀ {as : List Addr} {ss : List Stp} {i : Nat} {x : V}, StepsAt H as ss → (as.map V.ref)[i]? = some x → ∃ a s, x = .ref a ∧ ss[i]? = some s ∧ H a = some (.tup (sv s))
  | _, _, _, _, .nil, h => by cases h
  | a :: as, s :: ss, 0, x, .cons h r, e => by cases e; exact ⟨a, s, rfl, rfl, h⟩
  | a :: as, s :: ss, i + 1, x, .cons h r, e => StepsAt.at (as := as) (ss := ss) (i := i) r e
theorem StepsAt.same {H H' : Hp} {as : List Addr} {ss : List Stp} (h : StepsAt H as ss) (s : Same H H') : StepsAt H' as ss := h.mono fun a _ e => s a _ e
theorem Same.tup {K : PySem.W.Frag} {H H' : Hp} {a : Addr} {xs : List V} (e : Same H H') (h : SqT K H a xs) : SqT K H' a xs := by
  rcases h with (h | ⟨o, h⟩) | h
  · exact .inl (.inl (e _ _ h))
  · exact .inl (.inr ⟨o, e _ _ h⟩)
  · exact .inr h
/-- a level's steps, as a tuple at a -/
def LevAt (K : PySem.W.Frag) (H : Hp) (a : Addr) (ss : List Stp) : Prop := ∃ as, SqT K H a (as.map V.ref) ∧ StepsAt H as ss
theorem LevAt.same {K : PySem.W.Frag} {H H' : Hp} {a : Addr} {ss : List Stp} (h : LevAt K H a ss) (s : Same H H') : LevAt K H' a ss := let ⟨as, h1, h2⟩ := h; ⟨as, Same.tup s h1, h2.same s⟩
section
variable {P : Program} {w : World} {K : PySem.W.Frag} {mg : Str → Option Value} {base : Heap} {pS pC : Addr}
/-! ### read_level, of a level -/
def spRead (K : PySem.W.Frag) : Sp := fun vs H Q _ => ∃ (z : Cs) (ss : List Stp), vs = [tv z] ∧ z.length ≤ 100000 ∧ stepsOf z = some ss ∧ ∀ H' p, Same H H' → LevAt K H' p ss → Q (.ref p) H'
theorem sc_read : FnScope ["level", "steps"] ["level"] (defScope st_read_level) := ⟨rfl, rfl, rfl, by decide +kernel, rfl, by decide +kernel, by decide +kernel⟩
theorem ok_read {f fS : Addr} {fd fdS : FuncData} (F : Fun K "read_level" "read_level" st_read_level f fd) (GS : FnOk P w K mg base CX0 3 fS fdS ["thing"] (spSteps K)) (bS : Binds K fdS ["thing"] []) (kS : PySem.W.keepIn K (.ref fS) = true) (mS : mg "steps_of" = some (.ref fS)) :
    FnOk P w K mg base CX0 4 f fd ["level"] (spRead K) := by
  refine F.ok sc_read (fun vs H Q E h => ?_) (fun cdv A outer s H vs Q E hr h => ?_)
  · obtain ⟨z, ss, rfl, _⟩ := h
    rfl
  obtain ⟨z, ss, rfl, hz, e, q⟩ := h
  refine ⟨_, pss_cons (ps_set (i := 1) sc_read.nd rfl (.inl rfl) (pe_call GS hr rfl mS kS bS .nil pass0 (pa_cons (pv 0) pa_nil))) (pss_cons (ps_if (pt_cmpR op_isN (pv 1) pe_non (nomark _)) (pss_one ps_never) pss_nil) (pss_one (ps_ret (pv 1)))), ?_⟩
  refine ⟨_, rfl, _, rfl, .inl ⟨z, rfl, hz, fun n => (by rw [e] at n; cases n), fun ss' e' _ H' p as s hp ha => ?_⟩⟩
  rw [e] at e'
  cases e'
  exact ⟨_, rfl, rfl, _, rfl, iteF ⟨_, rfl, q H' p s ⟨as, SqT.of hp, ha⟩⟩⟩
/-! ### names_in -/
def spNames (K : PySem.W.Frag) : Sp := fun vs H Q _ => ∃ (a : Addr) (ss : List Stp), vs = [.ref a] ∧ LevAt K H a ss ∧ ss.length < 64 ∧
  ∀ H' p (ys : List Str), Same H H' → H' p = some (.tup (ys.map V.str)) → PyProof.Rows.sortedS ys = true → ys.Nodup → (∀ x, x ∈ ys ↔ ∃ s, x = S s ∧ Stp.nam s ∈ ss) → ys.length ≤ ss.length → Q (.ref p) H'
theorem sc_names : FnScope ["steps", "kind", "thing"] ["steps"] (defScope st_names_in) := ⟨rfl, rfl, rfl, by decide +kernel, rfl, by decide +kernel, by decide +kernel⟩
theorem not_name : decide (V.str ("number" : Str) = V.str ("name" : Str)) = false ∧ decide (V.str ("+" : Str) = V.str ("name" : Str)) = false ∧ (∀ b, decide (V.str (cName b) = V.str ("name" : Str)) = false) ∧ decide (V.str ("name" : Str) = V.str ("name" : Str)) = true := by decide +kernel
theorem ok_names {f : Addr} {fd : FuncData} (F : Fun K "names_in" "names_in" st_names_in f fd) (T : Tx K w mg pS pC) : FnOk P w K mg base CX0 1 f fd ["steps"] (spNames K) := by
  refine F.ok sc_names (fun vs H Q E h => ?_) (fun cdv A outer s H vs Q E hr h => ?_)
  · obtain ⟨a, ss, rfl, _⟩ := h
    rfl
  obtain ⟨a, ss, rfl, ⟨as, hS, hA⟩, few, q⟩ := h
  have nd := sc_names.nd
  refine ⟨_, pss_one (ps_ret (pe_callTy call_tuple_of (by rfl) T.tup (by decide +kernel) (pa_cons (pe_callB (Sx.cr_sortTO rfl) (by rfl) T.sorted (by decide +kernel) (pa_cons
    (Sx.pe_ss (g := gTup K 2 (gCons (gName 1) (gCons (gName 2) gNil))) (own := [("kind", 1), ("thing", 2)]) rfl nd (pi_tup (pv 0)) (blkOk_by (N := ["steps", "kind", "thing"]) (sc := defScope st_names_in) (by decide +kernel))
      (fun _ _ _ _ _ => pg_tup (n := 2) rfl (pgs_cons (pg_name (i := 1) nd rfl (.inl rfl) (hf := .inr rfl)) (pgs_cons (pg_name (i := 2) nd rfl (.inl rfl) (hf := .inr rfl)) pgs_nil))) (fun _ _ _ _ _ => pts_one (pt_cmpR op_eq (pv 1) pe_str (nomark _))) (fun _ _ _ _ _ => pv 2)) pa_nil)) pa_nil))), ?_⟩
  refine ⟨_, rfl, a, rfl, ⟨_, hS⟩, fun D nD => Sx.ss_tup (K := K) (a := a) (xs := as.map V.ref) (fun i H' => Same H H' ∧ ∃ ks n, H' D = some (Sx.TxS w D ks n) ∧ n ≤ i ∧ ∀ x, x ∈ ks ↔ ∃ s, x = S s ∧ Stp.nam s ∈ ss.take i)
    ⟨same_new nD _, [], 0, upd_same, Nat.le_refl _, fun x => by simp⟩ (fun i H' _ p => Same.tup p.1 hS) ?_ ?_⟩
  · rintro i x H' hi ⟨sm, ks, n, hD, hn, hk⟩
    obtain ⟨b, st, rfl, hs, hb⟩ := (hA.same sm).at hi
    have ilt : i < ss.length := (List.getElem?_eq_some_iff.mp hs).1
    have tk : ss.take (i + 1) = ss.take i ++ [st] := by rw [List.take_succ, hs]; rfl
    have other : (∀ s, st ≠ .nam s) → Same H H' ∧ ∃ ks n, H' D = some (Sx.TxS w D ks n) ∧ n ≤ i + 1 ∧ ∀ x, x ∈ ks ↔ ∃ s, x = S s ∧ Stp.nam s ∈ ss.take (i + 1) := fun ne => by
      refine ⟨sm, ks, n, hD, Nat.le_succ_of_le hn, fun x => ?_⟩
      rw [hk x, tk]
      constructor
      · rintro ⟨s, e, h⟩; exact ⟨s, e, List.mem_append_left _ h⟩
      · rintro ⟨s, e, h⟩
        rcases List.mem_append.mp h with h | h
        · exact ⟨s, e, h⟩
        · exact absurd (List.mem_singleton.mp h).symm (ne s)
    cases st with
    | num k =>
      refine ⟨b, _, rfl, SqT.of hb, rfl, _, _, rfl, _, _, rfl, rfl, rfl, _, rfl, rfl, _, rfl, ?_⟩
      rw [not_name.1]
      exact other fun s e => by cases e
    | plus k =>
      refine ⟨b, _, rfl, SqT.of hb, rfl, _, _, rfl, _, _, rfl, rfl, rfl, _, rfl, rfl, _, rfl, ?_⟩
      rw [not_name.2.1]
      exact other fun s e => by cases e
    | call c k =>
      refine ⟨b, _, rfl, SqT.of hb, rfl, _, _, rfl, _, _, rfl, rfl, rfl, _, rfl, rfl, _, rfl, ?_⟩
      rw [not_name.2.2.1]
      exact other fun s e => by cases e
    | nam s0 =>
      refine ⟨b, _, rfl, SqT.of hb, rfl, _, _, rfl, _, _, rfl, rfl, rfl, _, rfl, rfl, _, rfl, ?_⟩
      rw [not_name.2.2.2]
      refine ⟨_, rfl, S s0, ks, n, rfl, hD, ?_, same_mut sm nD, ks ++ [S s0], n + 1, upd_same, Nat.succ_le_succ hn, fun x => ?_⟩
      · exact Nat.lt_of_le_of_lt (show n + 1 ≤ 64 by omega) (by decide)
      · rw [List.mem_append, hk x, List.mem_singleton, tk]
        constructor
        · rintro (⟨s, e, h⟩ | rfl)
          · exact ⟨s, e, List.mem_append_left _ h⟩
          · exact ⟨s0, rfl, List.mem_append_right _ (by simp)⟩
        · rintro ⟨s, e, h⟩
          rcases List.mem_append.mp h with h | h
          · exact .inl ⟨s, e, h⟩
          · have := List.mem_singleton.mp h
            cases this
            exact .inr e
  · rintro H' ⟨sm, ks, n, hD, hn, hk⟩
    rw [List.length_map, hA.len] at hn hk
    rw [List.take_length] at hk
    refine ⟨D, ks, n, rfl, hD, by omega, fun ys p h1 h2 h3 h4 np => ⟨p, _, rfl, .inl ⟨SqL.of upd_same, fun l nl => ?_⟩⟩⟩
    exact q _ l ys ((sm.trans (same_new np _)).trans (same_new nl _)) upd_same h1 h2 (fun x => (h3 x).trans (hk x)) (by omega)
end
end Pg
/-! Mw -/
set_option Elab.async false
set_option linter.all false
set_option maxRecDepth 100000
set_option maxHeartbeats 2000000
namespace Mr
open PySem
/-! what a level is worth -/
def maxL : List Int → Int
  | [] => 0
  | x :: r => r.foldl max x
theorem foldl_max : ∀ (r : List Int) (x : Int), (r.foldl max x = x ∨ r.foldl max x ∈ r) ∧ x ≤ r.foldl max x ∧ ∀ y ∈ r, y ≤ r.foldl max x
  | [], x => ⟨.inl rfl, Int.le_refl _, fun _ h => absurd h List.not_mem_nil⟩
  | a :: r, x => by
    obtain ⟨h1, h2, h3⟩ := foldl_max r (max x a)
    rw [List.foldl_cons]
    refine ⟨?_, by omega, fun y hy => ?_⟩
    · rcases h1 with h | h
      · by_cases c : x ≤ a
        · refine .inr (List.mem_cons.mpr (.inl ?_)); rw [h]; omega
        · refine .inl ?_; rw [h]; omega
      · exact .inr (List.mem_cons_of_mem _ h)
    · rcases List.mem_cons.mp hy with rfl | hy
      · omega
      · exact h3 y hy
theorem maxL_of {l : List Int} {m : Int} (h : m ∈ l) (hm : ∀ y ∈ l, y ≤ m) : maxL l = m := by
  cases l with
  | nil => exact absurd h List.not_mem_nil
  | cons x r =>
    obtain ⟨h1, h2, h3⟩ := foldl_max r x
    show r.foldl max x = m
    have g1 : r.foldl max x ≤ m := by
      rcases h1 with e | e
      · rw [e]; exact hm x List.mem_cons_self
      · exact hm _ (List.mem_cons_of_mem _ e)
    have g2 : m ≤ r.foldl max x := by
      rcases List.mem_cons.mp h with rfl | h
      · exact h2
      · exact h3 m h
    omega
def callV (b : Bool) (vs : List Int) : Int := if (!b && decide (vs.getLast? = some 0)) = true then 0 else maxL vs
def T.val (f : Cs → Int) : T → Int
  | .num k => k
  | .nam s => f s
  | .plus t k => t.val f + k
  | .node b ts => callV b (ts.map fun t => t.val f)
def wstep (f : Cs → Int) (p : List Int) : Stp → Option (List Int)
  | .num k => some (p ++ [k])
  | .nam s => some (p ++ [f s])
  | .plus k => match p.getLast? with
    | some x => some (p.dropLast ++ [x + k])
    | none => none
  | .call b n => if 1 ≤ n ∧ n ≤ p.length then some (p.take (p.length - n.toNat) ++ [callV b (p.drop (p.length - n.toNat))]) else none
def wrun (f : Cs → Int) (p : List Int) : List Stp → Option (List Int)
  | [] => some p
  | s :: r => (wstep f p s).bind fun q => wrun f q r
theorem wrun_append (f : Cs → Int) : ∀ (a b : List Stp) (p : List Int), wrun f p (a ++ b) = (wrun f p a).bind fun q => wrun f q b
  | [], b, p => rfl
  | s :: a, b, p => by
    show (wstep f p s).bind (fun q => wrun f q (a ++ b)) = ((wstep f p s).bind fun q => wrun f q a).bind _
    cases wstep f p s with
    | none => rfl
    | some q => exact wrun_append f a b q
theorem wrun_one (f : Cs → Int) (p : List Int) (s : Stp) : wrun f p [s] = wstep f p s := by
  show (wstep f p s).bind (fun q => some q) = _
  cases wstep f p s <;> rfl
theorem wrun_flat (f : Cs → Int) : ∀ (l : List (List Stp × Int)) (p : List Int), (∀ x ∈ l, ∀ p, wrun f p x.1 = some (p ++ [x.2])) → wrun f p (l.map (·.1)).flatten = some (p ++ l.map (·.2))
  | [], p, _ => by show some p = _; simp
  | x :: l, p, h => by
    rw [List.map_cons, List.flatten_cons, wrun_append, h x List.mem_cons_self, Option.bind_some, wrun_flat f l _ fun y hy => h y (List.mem_cons_of_mem _ hy)]
    simp
theorem T.wrun (f : Cs → Int) : ∀ t : T, t.ok → ∀ p, Mr.wrun f p t.stp = some (p ++ [t.val f])
  | .num k, _, p => by rw [T.stp, wrun_one, T.val]; rfl
  | .nam s, _, p => by rw [T.stp, wrun_one, T.val]; rfl
  | .plus t k, h, p => by
    rw [T.ok] at h
    rw [T.stp, wrun_append, T.wrun f t h.1, Option.bind_some, wrun_one, T.val]
    show (match (p ++ [t.val f]).getLast? with | some x => some ((p ++ [t.val f]).dropLast ++ [x + (k : Int)]) | none => none) = _
    rw [List.getLast?_concat, List.dropLast_concat]
  | .node b ts, h, p => by
    rw [T.ok] at h
    have g := wrun_flat f (ts.map fun t => (t.stp, t.val f)) p fun x hx q => by
      obtain ⟨t, ht, rfl⟩ := List.mem_map.mp hx
      exact T.wrun f t (h.2 t ht) q
    rw [List.map_map, List.map_map] at g
    have g1 : Mr.wrun f p (ts.map fun t => t.stp).flatten = some (p ++ ts.map fun t => t.val f) := g
    rw [T.stp, wrun_append, g1, Option.bind_some, wrun_one, T.val]
    have l1 : 1 ≤ ts.length := by
      have := h.1
      cases ts with
      | nil => cases b <;> cases this
      | cons => simp
    have hl : (p ++ ts.map fun t => t.val f).length - ((ts.length : Int)).toNat = p.length := by rw [List.length_append, List.length_map]; omega
    show (if _ then _ else _) = _
    rw [if_pos (by rw [List.length_append, List.length_map]; omega), hl, List.take_left, List.drop_left]
theorem wrun_take (f : Cs → Int) {ss : List Stp} {r : List Int} (h : wrun f [] ss = some r) (i : Nat) : ∃ p, wrun f [] (ss.take i) = some p := by
  have e : ss = ss.take i ++ ss.drop i := (List.take_append_drop i ss).symm
  rw [e, wrun_append] at h
  cases q : wrun f [] (ss.take i) with
  | none => rw [q] at h; cases h
  | some p => exact ⟨p, rfl⟩
theorem wrun_next (f : Cs → Int) {ss : List Stp} {r p : List Int} {i : Nat} {s : Stp} (h : wrun f [] ss = some r) (hp : wrun f [] (ss.take i) = some p) (hs : ss[i]? = some s) : ∃ q, wstep f p s = some q ∧ wrun f [] (ss.take (i + 1)) = some q := by
  have e : ss.take (i + 1) = ss.take i ++ [s] := by rw [List.take_succ, hs]; rfl
  obtain ⟨q, hq⟩ := wrun_take f h (i + 1)
  rw [e, wrun_append, hp, Option.bind_some, wrun_one] at hq
  refine ⟨q, hq, ?_⟩
  rw [e, wrun_append, hp, Option.bind_some, wrun_one]
  exact hq
theorem wstep_plus {f : Cs → Int} {p q : List Int} {k : Int} (h : wstep f p (.plus k) = some q) : ∃ ys x, p = ys ++ [x] ∧ q = ys ++ [x + k] := by
  have h : (match p.getLast? with | some x => some (p.dropLast ++ [x + k]) | none => none) = some q := h
  cases e : p.getLast? with
  | none => rw [e] at h; cases h
  | some x =>
    rw [e] at h
    obtain ⟨ys, rfl⟩ := List.getLast?_eq_some_iff.mp e
    refine ⟨ys, x, rfl, ?_⟩
    have h : some ((ys ++ [x]).dropLast ++ [x + k]) = some q := h
    rw [List.dropLast_concat] at h
    exact (Option.some.inj h).symm
theorem wstep_call {f : Cs → Int} {p q : List Int} {b : Bool} {n : Int} (h : wstep f p (.call b n) = some q) : 1 ≤ n ∧ n ≤ p.length ∧ q = p.take (p.length - n.toNat) ++ [callV b (p.drop (p.length - n.toNat))] := by
  have h : (if 1 ≤ n ∧ n ≤ p.length then some (p.take (p.length - n.toNat) ++ [callV b (p.drop (p.length - n.toNat))]) else none) = some q := h
  by_cases c : 1 ≤ n ∧ n ≤ p.length
  · rw [if_pos c] at h; exact ⟨c.1, c.2, (Option.some.inj h).symm⟩
  · rw [if_neg c] at h; cases h
theorem wstep_len {f : Cs → Int} {p q : List Int} {s : Stp} (h : wstep f p s = some q) : q.length ≤ p.length + 1 := by
  cases s with
  | num k => cases h; simp
  | nam s => cases h; simp
  | plus k => obtain ⟨ys, x, rfl, rfl⟩ := wstep_plus h; rw [List.length_append, List.length_append]; simp only [List.length_singleton]; omega
  | call b n => obtain ⟨h1, h2, rfl⟩ := wstep_call h; rw [List.length_append, List.length_take]; simp only [List.length_singleton]; omega
theorem callV_true (ns : List Int) : callV true ns = maxL ns := rfl
theorem callV_false (ys : List Int) (y : Int) : callV false (ys ++ [y]) = if y = 0 then 0 else maxL (ys ++ [y]) := by
  unfold callV
  rw [List.getLast?_concat]
  by_cases c : y = 0
  · rw [if_pos c, c]; rfl
  · rw [if_neg c, if_neg (by simp [c])]
end Mr
/-! Pg6 -/
set_option Elab.async false
set_option linter.all false
set_option maxRecDepth 100000
set_option maxHeartbeats 4000000
namespace Pg
open PySem L2 Mr
theorem Same.rd {H H' : Hp} {a : Addr} {u : HO} (e : Same H H') (h : Rd H a u) : Rd H' a u := by
  rcases h with h | ⟨o, h⟩
  · exact .inl (e _ _ h)
  · exact .inr ⟨o, e _ _ h⟩
theorem kinds : (∀ k : Str, k ∈ [("name" : Str), "+", "max", "imax"] → decide (V.str k = V.str ("number" : Str)) = false) ∧ (∀ k : Str, k ∈ [("number" : Str), "+", "max", "imax"] → decide (V.str k = V.str ("name" : Str)) = false) ∧
   (∀ k : Str, k ∈ [("number" : Str), "name", "max", "imax"] → decide (V.str k = V.str ("+" : Str)) = false) := by decide +kernel
theorem kind_same (k : Str) : decide (V.str k = V.str k) = true := decide_eq_true rfl
theorem cName_mem (b : Bool) : cName b ∈ [("max" : Str), "imax"] := by cases b <;> decide +kernel
theorem cName_imax (b : Bool) : decide (V.str (cName b) = V.str ("imax" : Str)) = !b := by cases b <;> decide +kernel
theorem cut_tail (xs : List Int) (n : Int) (h : 1 ≤ n) (hn : n ≤ xs.length) : cutV (xs.map V.int) (some (-n)) none = (xs.drop (xs.length - n.toNat)).map V.int := by
  have e : HT.sIx (xs.map V.int).length 0 (some (-n)) = xs.length - n.toNat := by
    rw [List.length_map]
    show (if -n < 0 then (-n + (xs.length : Int)).toNat else _) = _
    rw [if_pos (by omega)]
    omega
  unfold cutV
  rw [e, HT.sIx_none, List.length_map, ← List.map_drop, List.take_of_length_le]
  rw [List.length_map, List.length_drop]
  omega
theorem six_tail (xs : List Int) (n : Int) (h : 1 ≤ n) (hn : n ≤ xs.length) : (xs.map V.int).take (HT.sIx (xs.map V.int).length 0 (some (-n))) = (xs.take (xs.length - n.toNat)).map V.int := by
  have e : HT.sIx (xs.map V.int).length 0 (some (-n)) = xs.length - n.toNat := by
    rw [List.length_map]
    show (if -n < 0 then (-n + (xs.length : Int)).toNat else _) = _
    rw [if_pos (by omega)]
    omega
  rw [e, List.map_take]
section
variable {P : Program} {w : World} {K : PySem.W.Frag} {mg : Str → Option Value} {base : Heap} {pS pC : Addr}
/-! ### worth -/
def NumAt (H : Hp) (d : Addr) (f : Cs → Int) (ss : List Stp) : Prop := ∃ kvs, Rd H d (.dK kvs) ∧ ∀ s, Stp.nam s ∈ ss → valV kvs (Sum.inr (S s)) = some (.int (f s))
def spWorth (K : PySem.W.Frag) : Sp := fun vs H Q _ => ∃ (a d : Addr) (ss : List Stp) (f : Cs → Int) (v : Int), vs = [.ref a, .ref d] ∧ LevAt K H a ss ∧ ss.length ≤ 1000 ∧ NumAt H d f ss ∧ wrun f [] ss = some [v] ∧ ∀ H', Same H H' → Q (.int v) H'
theorem sc_worth : FnScope ["steps", "numbers", "pile", "kind", "thing", "taken"] ["steps", "numbers"] (defScope st_worth) := ⟨rfl, rfl, rfl, by decide +kernel, rfl, by decide +kernel, by decide +kernel⟩
/-- what stands before a turn -/
structure Wr (H0 : Hp) (a d pP : Addr) (f : Cs → Int) (ss : List Stp) (i : Nat) (σ : L2.St) (H : Hp) (p : List Int) : Prop where
  sm : Same H0 H
  run : wrun f [] (ss.take i) = some p
  hP : H pP = some (.lst (p.map V.int))
  len : p.length ≤ i
  sl : ∃ u v x, σ = [some (.ref a), some (.ref d), some (.ref pP), u, v, x]
theorem ok_worth {f0 : Addr} {fd : FuncData} (F : Fun K "worth" "worth" st_worth f0 fd) (T : Tx K w mg pS pC) : FnOk P w K mg base CX0 1 f0 fd ["steps", "numbers"] (spWorth K) := by
  refine F.ok sc_worth (fun vs H Q E h => ?_) (fun cdv A outer s H vs Q E hr h => ?_)
  · obtain ⟨a, d, ss, f, v, rfl, _⟩ := h
    rfl
  obtain ⟨a, d, ss, f, v, rfl, ⟨as, hS, hA⟩, hlen, ⟨kvs, hd, hv⟩, hrun, q⟩ := h
  have nd := sc_worth.nd
  have hu := hu_of hr
  refine ⟨_, pss_cons (ps_set (i := 2) nd rfl (.inl rfl) (pe_lst pa_nil))
    (pss_cons (ps_for PassesOwn.never rfl (pi_tup (pv 0)) (pg_tup (n := 2) rfl (pgs_cons (pg_name (i := 3) nd rfl (.inl rfl)) (pgs_cons (pg_name (i := 4) nd rfl (.inl rfl)) pgs_nil)))
      (pss_one (ps_if (pt_cmpR op_eq (pv 3) pe_str (nomark _)) (pss_one (ps_expr (pe_bm PySem.F.plainAttrs_list PySem.F.slot_list_append PySem.F.type_list_append mt_append (pv 2) (pa_cons (pv 4) pa_nil))))
      (pss_one (ps_if (pt_cmpR op_eq (pv 3) pe_str (nomark _)) (pss_one (ps_expr (pe_bm PySem.F.plainAttrs_list PySem.F.slot_list_append PySem.F.type_list_append mt_append (pv 2) (pa_cons (pe_dget hu (pv 1) (pv 4) (fun _ _ => rfl)) pa_nil))))
      (pss_one (ps_if (pt_cmpR op_eq (pv 3) pe_str (nomark _)) (pss_one (ps_expr (pe_bm PySem.F.plainAttrs_list PySem.F.slot_list_append PySem.F.type_list_append mt_append (pv 2)
          (pa_cons (pe_op op_add (pe_bm0 PySem.F.plainAttrs_list PySem.F.slot_list_pop PySem.F.type_list_pop mt_pop (pv 2)) (pv 4)) pa_nil))))
        (pss_cons (ps_set (i := 5) nd rfl (.inl rfl) (pe_slice sl_list (pv 2) (po_some (pe_un un_neg (pv 4))) po_none))
        (pss_cons (Sx.ps_delT (pv 2) (po_some (pe_un un_neg (pv 4))))
        (pss_one (ps_expr (pe_bm PySem.F.plainAttrs_list PySem.F.slot_list_append PySem.F.type_list_append mt_append (pv 2)
          (pa_cons (pe_ifExp (PW.pt (pw_and (pt_cmpR op_eq (pv 3) pe_str (nomark _)) (pw_and1 (pt_cmpR op_eq (pe_ix ix_list (pv 5) (pe_un un_neg pe_int) (fun _ _ => rfl)) pe_int (nomark _)))))
            pe_int (pe_callB (cr_max rfl) (by rfl) T.max (by decide +kernel) (pa_cons (pv 5) pa_nil))) pa_nil)))))))))))))
    (pss_one (ps_ret (pe_ix ix_list (pv 2) pe_int (fun _ _ => rfl))))), ?_⟩
  refine ⟨Nat.zero_le _, fun pP nP => ⟨_, rfl, a, rfl, ⟨_, Same.tup (same_new nP _) hS⟩, for_tup (K := K) (a := a) (xs := as.map V.ref) (fun i σ H' => ∃ p, Wr H a d pP f ss i σ H' p)
    ⟨[], same_new nP _, rfl, upd_same, Nat.le_refl _, ⟨_, _, _, rfl⟩⟩ (fun i σ H' _ ⟨p, R⟩ => Same.tup R.sm hS) ?turn ?after⟩⟩
  case turn =>
    rintro i x σ H' hi ⟨p, R⟩
    obtain ⟨b, st, rfl, hs, hb⟩ := (hA.same R.sm).at hi
    have ilt : i < ss.length := (List.getElem?_eq_some_iff.mp hs).1
    obtain ⟨r, hw, hnx⟩ := wrun_next f hrun R.run hs
    have rl := wstep_len hw
    have plen : p.length < sizeLine := big (by have := R.len; omega)
    have plen' : (p.map V.int).length < sizeLine := by rw [List.length_map]; exact plen
    obtain ⟨u, v', x', rfl⟩ := R.sl
    have fin : ∀ (H2 : Hp) (xs : List V), H2 pP = some (.lst xs) → Same H H2 → ∀ (σ2 : L2.St), (∃ u v x, σ2 = [some (.ref a), some (.ref d), some (.ref pP), u, v, x]) → ∀ ys : List V, ys = r.map V.int → ∃ p, Wr H a d pP f ss (i + 1) σ2 (upd H2 pP (.lst ys)) p := fun H2 xs e s σ2 sl ys ey =>
      ⟨r, same_mut s nP, hnx, by rw [ey]; exact upd_same, by have := R.len; omega, sl⟩
    cases st with
    | num k =>
      cases hw
      refine ⟨b, _, rfl, SqT.of hb, rfl, _, _, rfl, _, _, rfl, rfl, ?_⟩
      refine ⟨_, rfl, rfl, _, rfl, ?_⟩
      rw [kind_same]
      refine iteT ⟨_, rfl, .inl ⟨rfl, _, SqL.of R.hP⟩, _, rfl, pP, _, _, rfl, rfl, R.hP, plen', ?_⟩
      exact fin H' _ R.hP R.sm _ ⟨_, _, _, rfl⟩ _ (by rw [List.map_append]; rfl)
    | nam s0 =>
      cases hw
      refine ⟨b, _, rfl, SqT.of hb, rfl, _, _, rfl, _, _, rfl, rfl, ?_⟩
      refine ⟨_, rfl, rfl, _, rfl, ?_⟩
      rw [kinds.1 _ (by decide +kernel)]
      refine iteF ⟨_, rfl, rfl, _, rfl, ?_⟩
      rw [kind_same]
      have hg : DGet H' d (.str (S s0)) (some (.int (f s0))) := .inl ⟨kvs, Sum.inr (S s0), Same.rd R.sm hd, rfl, (hv s0 (List.mem_of_getElem? hs)).symm⟩
      refine iteT ⟨_, rfl, .inl ⟨rfl, _, SqL.of R.hP⟩, _, rfl, _, rfl, d, _, rfl, hg, pP, _, _, rfl, rfl, R.hP, plen', ?_⟩
      exact fin H' _ R.hP R.sm _ ⟨_, _, _, rfl⟩ _ (by rw [List.map_append]; rfl)
    | plus k =>
      obtain ⟨ys, x, rfl, rfl⟩ := wstep_plus hw
      have hP' : H' pP = some (.lst ((ys.map V.int) ++ [V.int x])) := by rw [R.hP, List.map_append]; rfl
      refine ⟨b, _, rfl, SqT.of hb, rfl, _, _, rfl, _, _, rfl, rfl, ?_⟩
      refine ⟨_, rfl, rfl, _, rfl, ?_⟩
      rw [kinds.1 _ (by decide +kernel)]
      refine iteF ⟨_, rfl, rfl, _, rfl, ?_⟩
      rw [kinds.2.1 _ (by decide +kernel)]
      refine iteF ⟨_, rfl, rfl, _, rfl, ?_⟩
      rw [kind_same]
      have hl : ((ys.map V.int) ++ [V.int x])[((ys.map V.int) ++ [V.int x]).length - 1]? = some (V.int x) := by simp
      have ed : ((ys.map V.int) ++ [V.int x]).dropLast = ys.map V.int := List.dropLast_concat
      refine iteT ⟨_, rfl, .inl ⟨rfl, _, SqL.of hP'⟩, _, rfl, .inl ⟨rfl, _, SqL.of hP'⟩, pP, _, _, rfl, rfl, hP', hl, _, rfl, _, _, rfl, rfl, pP, _, _, rfl, rfl, upd_same, ?_, ?_⟩
      · rw [ed]; rw [List.length_map, List.length_append] at plen'; rw [List.length_map]; omega
      · exact fin (upd H' pP (.lst ((ys.map V.int) ++ [V.int x]).dropLast)) _ upd_same (same_mut R.sm nP) _ ⟨_, _, _, rfl⟩ _ (by rw [ed, List.map_append]; rfl)
    | call c n =>
      obtain ⟨h1, h2, rfl⟩ := wstep_call hw
      refine ⟨b, _, rfl, SqT.of hb, rfl, _, _, rfl, _, _, rfl, rfl, ?_⟩
      refine ⟨_, rfl, rfl, _, rfl, ?_⟩
      rw [kinds.1 _ (by cases c <;> decide +kernel)]
      refine iteF ⟨_, rfl, rfl, _, rfl, ?_⟩
      rw [kinds.2.1 _ (by cases c <;> decide +kernel)]
      refine iteF ⟨_, rfl, rfl, _, rfl, ?_⟩
      rw [kinds.2.2 _ (by cases c <;> decide +kernel)]
      refine iteF ⟨_, rfl, _, rfl, _, rfl, _, rfl, pP, _, rfl, SqL.of R.hP, fun tk nt => ?_⟩
      rw [cut_tail p n h1 h2]
      have hP2 := same_new nt (.lst ((p.drop (p.length - n.toNat)).map V.int)) pP _ R.hP
      refine ⟨_, rfl, _, rfl, _, rfl, _, rfl, pP, _, rfl, hP2, ?_⟩
      rw [six_tail p n h1 h2]
      have tne : tk ≠ pP := fun e => by rw [e, R.hP] at nt; cases nt
      have ht : upd (upd H' tk (.lst ((p.drop (p.length - n.toNat)).map V.int))) pP (.lst ((p.take (p.length - n.toNat)).map V.int)) tk = some (.lst ((p.drop (p.length - n.toNat)).map V.int)) := by rw [upd_ne tne]; exact upd_same
      refine ⟨_, rfl, .inl ⟨rfl, _, SqL.of upd_same⟩, _, rfl, rfl, _, rfl, ?_⟩
      have smq : Same H (upd (upd H' tk (.lst ((p.drop (p.length - n.toNat)).map V.int))) pP (.lst ((p.take (p.length - n.toNat)).map V.int))) := same_mut (R.sm.trans (same_new nt _)) nP
      have size : ((p.take (p.length - n.toNat)).map V.int).length < sizeLine := by rw [List.length_map, List.length_take]; exact Nat.lt_of_le_of_lt (Nat.min_le_right _ _) plen
      have lpos : 0 < (p.drop (p.length - n.toNat)).length := by rw [List.length_drop]; omega
      have store : ∀ z : Int, z = callV c (p.drop (p.length - n.toNat)) → ∀ x : Option V, ∃ q, Wr H a d pP f ss (i + 1) [some (.ref a), some (.ref d), some (.ref pP), some (.str (cName c)), some (.int n), x]
          (upd (upd (upd H' tk (.lst ((p.drop (p.length - n.toNat)).map V.int))) pP (.lst ((p.take (p.length - n.toNat)).map V.int))) pP (.lst ((p.take (p.length - n.toNat)).map V.int ++ [V.int z]))) q := fun z e x => by
        refine fin _ _ upd_same smq _ ⟨_, _, _, rfl⟩ _ ?_
        rw [List.map_append, e]; rfl
      have mx : ∀ m : Int, m ∈ p.drop (p.length - n.toNat) → (∀ y, y ∈ p.drop (p.length - n.toNat) → y ≤ m) → maxL (p.drop (p.length - n.toNat)) = m := fun m h1 h2 => maxL_of h1 h2
      rw [cName_imax]
      cases c with
      | true =>
        refine iteF (iteF ⟨_, rfl, tk, _, rfl, SqL.of ht, lpos, fun m hm hle => ⟨pP, _, _, rfl, rfl, upd_same, size, store m (mx m hm hle).symm _⟩⟩)
      | false =>
        obtain ⟨ys, y, ey⟩ : ∃ ys y, p.drop (p.length - n.toNat) = ys ++ [y] := by
          cases e : (p.drop (p.length - n.toNat)).getLast? with
          | none => rw [List.getLast?_eq_none_iff] at e; rw [e] at lpos; exact absurd lpos (Nat.lt_irrefl _)
          | some y => obtain ⟨ys, h⟩ := List.getLast?_eq_some_iff.mp e; exact ⟨ys, y, h⟩
        have cv := callV_false ys y
        rw [← ey] at cv
        have ey0 : decide (V.int y = V.int 0) = decide (y = 0) := decide_eq_decide.mpr ⟨fun h => by injection h, fun h => by rw [h]⟩
        refine iteT ⟨_, rfl, _, rfl, tk, _, _, _, rfl, rfl, SqL.of ?_, atI_last (ys.map V.int) (V.int y), rfl, _, rfl, ?_⟩
        · exact ht.trans (by rw [ey, List.map_append]; rfl)
        rw [ey0]
        by_cases y0 : y = 0
        · rw [decide_eq_true y0]
          exact iteT ⟨pP, _, _, rfl, rfl, upd_same, size, store 0 (by rw [cv, if_pos y0]) _⟩
        · rw [decide_eq_false y0]
          exact iteF ⟨_, rfl, tk, _, rfl, SqL.of ht, lpos, fun m hm hle => ⟨pP, _, _, rfl, rfl, upd_same, size, store m (by rw [cv, if_neg y0]; exact (mx m hm hle).symm) _⟩⟩
  case after =>
    rintro σ H' ⟨p, R⟩
    obtain ⟨u, v', x', rfl⟩ := R.sl
    have run := R.run
    rw [List.length_map, hA.len, List.take_length, hrun] at run
    cases run
    exact ⟨_, rfl, pP, _, _, _, rfl, rfl, SqL.of R.hP, rfl, q H' R.sm⟩
end
end Pg
/-! Pg7 -/
set_option Elab.async false
set_option linter.all false
set_option maxRecDepth 100000
set_option maxHeartbeats 4000000
namespace Pg
open PySem L2 Mr
section
variable {P : Program} {w : World} {K : PySem.W.Frag} {mg : Str → Option Value} {base : Heap} {pS pC : Addr}
/-! ### names_of -/
def spNamesOf (K : PySem.W.Frag) : Sp := fun vs H Q _ => ∃ (z : Cs) (ss : List Stp), vs = [tv z] ∧ z.length ≤ 100000 ∧ stepsOf z = some ss ∧ ss.length < 64 ∧
  ∀ H' p (ys : List Str), Same H H' → H' p = some (.tup (ys.map V.str)) → PyProof.Rows.sortedS ys = true → ys.Nodup → (∀ x, x ∈ ys ↔ ∃ s, x = S s ∧ Stp.nam s ∈ ss) → ys.length ≤ ss.length → Q (.ref p) H'
theorem sc_namesOf : FnScope ["level"] ["level"] (defScope st_names_of) := ⟨rfl, rfl, rfl, by decide +kernel, rfl, by decide +kernel, by decide +kernel⟩
theorem ok_namesOf {f fN fR : Addr} {fd fdN fdR : FuncData} (F : Fun K "names_of" "names_of" st_names_of f fd)
    (GN : FnOk P w K mg base CX0 1 fN fdN ["steps"] (spNames K)) (bN : Binds K fdN ["steps"] []) (kN : PySem.W.keepIn K (.ref fN) = true) (mN : mg "names_in" = some (.ref fN))
    (GR : FnOk P w K mg base CX0 4 fR fdR ["level"] (spRead K)) (bR : Binds K fdR ["level"] []) (kR : PySem.W.keepIn K (.ref fR) = true) (mR : mg "read_level" = some (.ref fR)) : FnOk P w K mg base CX0 5 f fd ["level"] (spNamesOf K) := by
  refine F.ok sc_namesOf (fun vs H Q E h => ?_) (fun cdv A outer s H vs Q E hr h => ?_)
  · obtain ⟨z, ss, rfl, _⟩ := h
    rfl
  obtain ⟨z, ss, rfl, hz, e, few, q⟩ := h
  have hr1 : Room 1 _ := hr.mono (by decide)
  refine ⟨_, pss_one (ps_ret (pe_call GN hr1 rfl mN kN bN .nil pass0 (pa_cons (pe_call GR hr rfl mR kR bR .nil pass0 (pa_cons (pv 0) pa_nil)) pa_nil))), ?_⟩
  refine ⟨_, rfl, z, ss, rfl, hz, e, fun H1 p s1 hp => ⟨p, ss, rfl, hp, few, fun H2 p2 ys s2 h1 h2 h3 h4 h5 => q H2 p2 ys (s1.trans s2) h1 h2 h3 h4 h5⟩⟩
/-! ### value, of numbers for all names -/
def spValue (K : PySem.W.Frag) : Sp := fun vs H Q _ => ∃ (z : Cs) (ss : List Stp) (d : Addr) (f : Cs → Int) (v : Int), vs = [tv z, .ref d] ∧ z.length ≤ 100000 ∧ stepsOf z = some ss ∧ ss.length < 64 ∧ NumAt H d f ss ∧ wrun f [] ss = some [v] ∧ ∀ H', Same H H' → Q (.int v) H'
theorem sc_value : FnScope ["level", "numbers", "steps", "name"] ["level", "numbers"] (defScope st_value) := ⟨rfl, rfl, rfl, by decide +kernel, rfl, by decide +kernel, by decide +kernel⟩
theorem NumAt.same {H H' : Hp} {d : Addr} {f : Cs → Int} {ss : List Stp} (h : NumAt H d f ss) (s : Same H H') : NumAt H' d f ss := let ⟨kvs, h1, h2⟩ := h; ⟨kvs, Same.rd s h1, h2⟩
theorem ok_value {f0 fN fR fW : Addr} {fd fdN fdR fdW : FuncData} (F : Fun K "value" "value" st_value f0 fd)
    (GN : FnOk P w K mg base CX0 1 fN fdN ["steps"] (spNames K)) (bN : Binds K fdN ["steps"] []) (kN : PySem.W.keepIn K (.ref fN) = true) (mN : mg "names_in" = some (.ref fN))
    (GR : FnOk P w K mg base CX0 4 fR fdR ["level"] (spRead K)) (bR : Binds K fdR ["level"] []) (kR : PySem.W.keepIn K (.ref fR) = true) (mR : mg "read_level" = some (.ref fR))
    (GW : FnOk P w K mg base CX0 1 fW fdW ["steps", "numbers"] (spWorth K)) (bW : Binds K fdW ["steps", "numbers"] []) (kW : PySem.W.keepIn K (.ref fW) = true) (mW : mg "worth" = some (.ref fW)) :
    FnOk P w K mg base CX0 5 f0 fd ["level", "numbers"] (spValue K) := by
  refine F.ok sc_value (fun vs H Q E h => ?_) (fun cdv A outer s H vs Q E hr h => ?_)
  · obtain ⟨z, ss, d, f, v, rfl, _⟩ := h
    rfl
  obtain ⟨z, ss, d, f, v, rfl, hz, e, few, hn, hrun, q⟩ := h
  have hr1 : Room 1 _ := hr.mono (by decide)
  have nd := sc_value.nd
  have hu := hu_of hr
  refine ⟨_, pss_cons (ps_set (i := 2) nd rfl (.inl rfl) (pe_call GR hr rfl mR kR bR .nil pass0 (pa_cons (pv 0) pa_nil)))
    (pss_cons (ps_for PassesOwn.never rfl (pi_tup (pe_call GN hr1 rfl mN kN bN .nil pass0 (pa_cons (pv 2) pa_nil))) (pg_name (i := 3) nd rfl (.inl rfl))
      (pss_one (ps_if (pt_cmp (pc_dnotin hu (pv 3) (pv 1))) (pss_one ps_never) pss_nil)))
    (pss_one (ps_ret (pe_call GW hr1 rfl mW kW bW .nil pass0 (pa_cons (pv 2) (pa_cons (pv 1) pa_nil)))))), ?_⟩
  refine ⟨_, rfl, z, ss, rfl, hz, e, fun H1 p s1 hp => ⟨_, rfl, p, ss, rfl, hp, few, fun H2 p2 ys s2 h1 _ _ h4 _ => ⟨p2, rfl, ⟨_, SqT.of h1⟩,
    for_tup (K := K) (a := p2) (xs := ys.map V.str) (fun i σ H' => H' = H2 ∧ ∃ u, σ = [some (tv z), some (.ref d), some (.ref p), u]) ⟨rfl, _, rfl⟩ (fun i σ H' _ p => p.1 ▸ SqT.of h1) ?_ ?_⟩⟩⟩
  · rintro i x σ H' hi ⟨rfl, u, rfl⟩
    obtain ⟨y, hy, rfl⟩ : ∃ y, y ∈ ys ∧ x = .str y := by
      rw [List.getElem?_map] at hi
      cases e : ys[i]? with
      | none => rw [e] at hi; cases hi
      | some y => rw [e] at hi; exact ⟨y, List.mem_of_getElem? e, (Option.some.inj hi).symm⟩
    obtain ⟨s0, rfl, hs0⟩ := (h4 y).mp hy
    obtain ⟨kvs, hd, hv⟩ := (hn.same s1).same s2
    have hg : DGet H' d (.str (S s0)) (some (.int (f s0))) := .inl ⟨kvs, Sum.inr (S s0), hd, rfl, (hv s0 hs0).symm⟩
    exact ⟨_, rfl, _, rfl, d, _, rfl, hg, _, rfl, iteF ⟨rfl, _, rfl⟩⟩
  · rintro σ H' ⟨rfl, u, rfl⟩
    exact ⟨_, rfl, _, rfl, p, d, ss, f, v, rfl, hp.same s2, by omega, (hn.same s1).same s2, hrun, fun H' s' => q H' ((s1.trans s2).trans s')⟩
/-! ### put_for -/
def repl (ss : List Stp) (sub : Cs → Option Cs) (t : Cs) : Cs := if Stp.nam t ∈ ss then (sub t).getD t else t
def spPut (K : PySem.W.Frag) : Sp := fun vs H Q _ => ∃ (z : Cs) (ts : List Cs) (ss : List Stp) (d : Addr) (kvs : List (Key × V)) (sub : Cs → Option Cs), vs = [tv z, .ref d] ∧ z.length ≤ 1000 ∧ toks z = some ts ∧ stepsOf z = some ss ∧ ss.length < 64 ∧
  H d = some (.dK kvs) ∧ (∀ s, Stp.nam s ∈ ss → valV kvs (Sum.inr (S s)) = (sub s).map tv) ∧ (∀ s t, sub s = some t → t.length ≤ 1000 ∧ ∃ ss', stepsOf t = some ss') ∧
  ∀ H', Same H H' → Q (tv ((ts.map (repl ss sub)).flatten)) H'
theorem sc_put : FnScope ["level", "others", "name", "texts", "token"] ["level", "others"] (defScope st_put_for) := ⟨rfl, rfl, rfl, by decide +kernel, rfl, by decide +kernel, by decide +kernel⟩
theorem joinL_nil : ∀ l : List Cs, TL.joinL [] l = l.flatten
  | [] => rfl
  | [p] => by simp [TL.joinL]
  | p :: q :: r => by
    show p ++ ([] ++ TL.joinL [] (q :: r)) = _
    rw [joinL_nil (q :: r)]; simp
theorem join_nil (l : List Cs) : Txt.join ("" : Str) (l.map S) = S l.flatten := by
  have e0 : S [] = ("" : Str) := by decide +kernel
  rw [TL.join_eq]
  apply TL.ext_tl
  rw [TL.tl_join, ← e0, List.map_map]
  show TL.joinL [] (l.map fun t => t) = _
  rw [List.map_id', joinL_nil]
  rfl
theorem valV_mem {kv : List (Key × V)} {k : Key} {v : V} (h : (k, v) ∈ kv) : ∃ v', valV kv k = some v' ∧ (k, v') ∈ kv := by
  unfold valV
  cases e : kv.find? fun x => decide (x.1 = k) with
  | none =>
    have := List.find?_eq_none.mp e (k, v) h
    exact absurd (decide_eq_true rfl) this
  | some p =>
    have h1 := List.find?_some e
    have h2 := List.mem_of_find?_eq_some e
    have h3 : p.1 = k := of_decide_eq_true h1
    exact ⟨p.2, rfl, by rw [← h3]; exact h2⟩
theorem lock_same {H H' : Hp} {d : Addr} {u : HO} (h : H d = some u) (s : ∀ b o, b ≠ d → H b = some o → H' b = some o) : Same H (upd H' d u) := fun b o e => by
  by_cases c : b = d
  · rw [c] at e ⊢; rw [upd_same, ← e, h]
  · rw [upd_ne c]; exact s b o c e
theorem ok_put {f0 fN fR fT : Addr} {fd fdN fdR fdT : FuncData} (F : Fun K "put_for" "put_for" st_put_for f0 fd)
    (GN : FnOk P w K mg base CX0 5 fN fdN ["level"] (spNamesOf K)) (bN : Binds K fdN ["level"] []) (kN : PySem.W.keepIn K (.ref fN) = true) (mN : mg "names_of" = some (.ref fN))
    (GR : FnOk P w K mg base CX0 4 fR fdR ["level"] (spRead K)) (bR : Binds K fdR ["level"] []) (kR : PySem.W.keepIn K (.ref fR) = true) (mR : mg "read_level" = some (.ref fR))
    (GT : FnOk P w K mg base CX0 2 fT fdT ["text"] spToks) (bT : Binds K fdT ["text"] []) (kT : PySem.W.keepIn K (.ref fT) = true) (mT : mg "tokens_of" = some (.ref fT)) :
    FnOk P w K mg base CX0 6 f0 fd ["level", "others"] (spPut K) := by
  refine F.ok sc_put (fun vs H Q E h => ?_) (fun cdv A outer s H vs Q E hr h => ?_)
  · obtain ⟨z, ts, ss, d, kvs, sub, rfl, _⟩ := h
    rfl
  obtain ⟨z, ts, ss, d, kvs, sub, rfl, hz, hts, e, few, hd, hv, hsub, q⟩ := h
  have hr4 : Room 4 _ := hr.mono (by decide)
  have hr2 : Room 2 _ := hr.mono (by decide)
  have nd := sc_put.nd
  have hu := hu_of hr
  refine ⟨_, pss_cons (ps_set (i := 3) nd rfl (.inr rfl) (pe_dc (own := [("name", 2)]) (g := gName 2) rfl nd (pi_tup (pe_call GN hr rfl mN kN bN .nil pass0 (pa_cons (pv 0) pa_nil))) (blkOk_by (N := ["level", "others", "name", "texts", "token"]) (sc := defScope st_put_for) (by decide +kernel))
      (fun _ _ _ _ _ => pg_name (i := 2) nd rfl (Or.inl rfl)) (fun _ _ _ _ _ => pts_one (pt_cmp (pc_din hu (pv 2) (pv 1)))) (fun _ _ _ _ _ => pv 2) (fun _ _ _ _ _ => pe_dget hu (pv 1) (pv 2) (fun _ _ => rfl))))
    (pss_cons (ps_lock (ps_for PassesOwn.never rfl (pi_keys (pv 3)) (pg_name (i := 2) nd rfl (.inl rfl)) (pss_one (ps_expr (pe_call GR hr4 rfl mR kR bR .nil pass0 (pa_cons (pe_dget hu (pv 3) (pv 2) (fun _ _ => rfl)) pa_nil))))))
    (pss_one (ps_ret (pe_join pe_str (pe_lc (own := [("token", 4)]) (g := gName 4) (tt := tYes) rfl nd (pi_list (pe_call GT hr2 rfl mT kT bT .nil pass0 (pa_cons (pv 0) pa_nil))) (blkOk_by (N := ["level", "others", "name", "texts", "token"]) (sc := defScope st_put_for) (by decide +kernel))
      (fun _ _ _ _ _ => pg_name (i := 4) nd rfl (Or.inl rfl)) (fun _ _ _ _ _ => pts_nil) (fun _ _ _ _ _ => pe_dget2 hu (pv 3) (pv 4) (pv 4) ⟨rfl, rfl, rfl, rfl⟩)))))), ?_⟩
  -- {name: others[name] for name in names_of(level) if name in others}
  have key : ∀ (ys : List Str), (∀ x, x ∈ ys ↔ ∃ s, x = S s ∧ Stp.nam s ∈ ss) → ys.Nodup → ∀ (i : Nat) (y : Str), ys[i]? = some y → y ∉ ys.take i := fun ys _ nd i y hy hm => by
    obtain ⟨j, hj, e⟩ := List.getElem_of_mem hm
    rw [List.getElem_take] at e
    rw [List.length_take] at hj
    have hi := (List.getElem?_eq_some_iff.mp hy)
    have := (List.getElem_inj (h₀ := by omega) (h₁ := hi.1) nd).mp (e.trans hi.2.symm)
    omega
  refine ⟨_, rfl, z, ss, rfl, by omega, e, few, fun H1 p1 ys s1 h1 _ nd1 h4 h5 => ⟨p1, rfl, ⟨_, SqT.of h1⟩, fun D nD => dc_tup (K := K) (a := p1) (xs := ys.map V.str)
    (fun i H' => ∃ kv : List (Key × V), Same H1 H' ∧ H' D = some (.dK kv) ∧ kv.length ≤ i ∧ (∀ x : Str, valV kv (Sum.inr x) = if x ∈ ys.take i then valV kvs (Sum.inr x) else none) ∧ ∀ k v, (k, v) ∈ kv → ∃ s t, k = Sum.inr (S s) ∧ v = tv t ∧ sub s = some t)
    ⟨[], same_new nD _, upd_same, Nat.le_refl _, fun x => by rw [List.take_zero]; simp [valV], fun _ _ hm => absurd hm List.not_mem_nil⟩ (fun i H' _ ⟨kv, sm, _⟩ => SqT.of (sm _ _ h1)) ?comp ?more⟩⟩
  case comp =>
    rintro i x H' hi ⟨kv, sm, hD, hl, hval, hent⟩
    obtain ⟨y, hy, rfl⟩ : ∃ y, ys[i]? = some y ∧ x = .str y := by
      rw [List.getElem?_map] at hi
      cases e : ys[i]? with
      | none => rw [e] at hi; cases hi
      | some y => rw [e] at hi; exact ⟨y, rfl, (Option.some.inj hi).symm⟩
    have yin : y ∈ ys := List.mem_of_getElem? hy
    obtain ⟨s0, rfl, hs0⟩ := (h4 y).mp yin
    have hd' : H' d = some (.dK kvs) := sm d _ (s1 d _ hd)
    have ynot := key ys h4 nd1 i _ hy
    have tk : ys.take (i + 1) = ys.take i ++ [S s0] := by rw [List.take_succ, hy]; rfl
    have hvs := hv s0 hs0
    have ilt := (List.getElem?_eq_some_iff.mp hy).1
    refine ⟨rfl, _, rfl, _, rfl, d, _, rfl, DGet.k (k := Sum.inr (S s0)) hd', _, rfl, ?_⟩
    rw [hvs]
    cases hsb : sub s0 with
    | none =>
      refine iteF ⟨kv, sm, hD, Nat.le_succ_of_le hl, fun x => ?_, hent⟩
      rw [hval x, tk]
      by_cases c : x ∈ ys.take i
      · rw [if_pos c, if_pos (List.mem_append_left _ c)]
      · rw [if_neg c]
        by_cases c2 : x = S s0
        · rw [if_pos (by rw [c2]; exact List.mem_append_right _ (by simp)), c2, hvs, hsb]; rfl
        · rw [if_neg]
          intro h
          rcases List.mem_append.mp h with h | h
          · exact c h
          · exact c2 (List.mem_singleton.mp h)
    | some t =>
      refine iteT ⟨_, rfl, _, rfl, _, rfl, d, tv t, rfl, ?_, kv, Sum.inr (S s0), rfl, hD, big (by omega), ?_⟩
      · have := DGet.k (k := Sum.inr (S s0)) hd'
        rw [hvs, hsb] at this
        exact this
      have en : valV kv (Sum.inr (S s0)) = none := by rw [hval, if_neg ynot]
      refine ⟨putK kv (Sum.inr (S s0)) (tv t), same_mut sm nD, upd_same, Nat.le_trans (length_putK _ _ _) (Nat.succ_le_succ hl), fun x => ?_, fun k v hm => ?_⟩
      · rw [valV_put, hval x, tk]
        by_cases c2 : x = S s0
        · rw [if_pos (by rw [c2]), if_pos (by rw [c2]; exact List.mem_append_right _ (by simp)), c2, hvs, hsb]; rfl
        · rw [if_neg (fun h => c2 (Sum.inr.inj h))]
          by_cases c : x ∈ ys.take i
          · rw [if_pos c, if_pos (List.mem_append_left _ c)]
          · rw [if_neg c, if_neg]
            intro h
            rcases List.mem_append.mp h with h | h
            · exact c h
            · exact c2 (List.mem_singleton.mp h)
      · rw [putK_new _ en] at hm
        rcases List.mem_append.mp hm with hm | hm
        · exact hent k v hm
        · have := List.mem_singleton.mp hm
          cases this
          exact ⟨s0, t, rfl, rfl, hsb⟩
  case more =>
    rintro H2 ⟨kv, sm, hD, hl, hval, hent⟩
    rw [List.length_map, List.take_length] at hval
    refine ⟨D, _, hD, trivial, fun od => ⟨_, rfl, D, od, rfl, .inl ⟨kv, upd_same, for_it walk_keys (fun i σ H' => (∀ b o, b ≠ D → H2 b = some o → H' b = some o) ∧ H' D = some (.frz od (.dK kv)) ∧ ∃ u, σ = [some (tv z), some (.ref d), u, some (.ref D), none])
      ⟨fun b o c e => by rw [upd_ne c]; exact e, upd_same, _, rfl⟩ (fun i σ H' _ p => p.2.1) ?read ?done⟩⟩⟩
    case read =>
      rintro i x σ H' H'' hi ⟨s3, hf, u, rfl⟩ ⟨rfl, k, v, hk, rfl⟩
      have hm : (k, v) ∈ kv := List.mem_of_getElem? hk
      obtain ⟨s0, t, rfl, rfl, hst⟩ := hent k v hm
      obtain ⟨v', hv', hm'⟩ := valV_mem hm
      obtain ⟨s0', t', ek, rfl, hst'⟩ := hent _ v' hm'
      have es : s0 = s0' := S_inj.mp (Sum.inr.inj ek)
      obtain ⟨tl, ss', hss⟩ := hsub s0' t' hst'
      refine ⟨_, rfl, _, rfl, D, tv t', rfl, .inl ⟨kv, Sum.inr (S s0), .inr ⟨od, hf⟩, rfl, hv'.symm⟩, t', ss', rfl, by omega, hss, fun H3 p3 s4 _ => ?_⟩
      exact ⟨fun b o c e => s4 b o (s3 b o c e), s4 _ _ hf, _, rfl⟩
    case done =>
      rintro σ H' ⟨s3, hf, u, rfl⟩
      refine ⟨hf, ?_⟩
      have sm3 : Same H2 (upd H' D (.dK kv)) := lock_same hD s3
      have hD3 : upd H' D (.dK kv) D = some (.dK kv) := upd_same
      refine ⟨⟨_, rfl⟩, _, rfl, z, rfl, by omega, fun hn => (by rw [hts] at hn; cases hn), fun ts' hts' H4 pT s4 _ hT => ?_⟩
      rw [hts] at hts'
      cases hts'
      have hD4 := s4 _ _ hD3
      obtain ⟨tl1, tl2⟩ := toks_small _ _ _ hts
      refine ⟨pT, rfl, ⟨_, SqL.of hT⟩, fun L nL => lc_list (K := K) (a := pT) (xs := ts.map tv) (fun i H' => Same H4 H' ∧ H' L = some (.lst ((ts.take i).map fun t => tv (repl ss sub t)))) ⟨same_new nL _, upd_same⟩ (fun i H' _ p => SqL.of (p.1 _ _ hT)) ?tok ?join⟩
      case tok =>
        rintro i x H5 hi ⟨s5, hL⟩
        obtain ⟨t, ht, rfl⟩ : ∃ t, ts[i]? = some t ∧ x = tv t := by
          rw [List.getElem?_map] at hi
          cases e : ts[i]? with
          | none => rw [e] at hi; cases hi
          | some t => rw [e] at hi; exact ⟨t, rfl, (Option.some.inj hi).symm⟩
        have ilt := (List.getElem?_eq_some_iff.mp ht).1
        have hD5 := s5 _ _ hD4
        have er : (valV kv (Sum.inr (S t))).getD (tv t) = tv (repl ss sub t) := by
          rw [hval (S t)]
          unfold repl
          by_cases c : Stp.nam t ∈ ss
          · rw [if_pos ((h4 (S t)).mpr ⟨t, rfl, c⟩), if_pos c, hv t c]
            cases sub t <;> rfl
          · rw [if_neg c, if_neg]
            · rfl
            · intro h
              obtain ⟨s0, e0, h0⟩ := (h4 (S t)).mp h
              exact c (S_inj.mp e0 ▸ h0)
        refine ⟨rfl, ⟨_, rfl, D, rfl, .inl ⟨kv, .inl hD5⟩, _, rfl, _, rfl, _, DGet.k (k := Sum.inr (S t)) hD5, _, hL, big (by rw [List.length_map, List.length_take]; omega), same_mut s5 nL, ?_⟩⟩
        rw [er, upd_same, List.take_succ, ht, List.map_append]
        rfl
      case join =>
        rintro H5 ⟨s5, hL⟩
        rw [List.length_map, List.take_length] at hL
        have small : ∀ t ∈ ts, (repl ss sub t).length ≤ 1000 := fun t ht => by
          unfold repl
          have := tl2 t ht
          by_cases c : Stp.nam t ∈ ss
          · rw [if_pos c]
            cases e : sub t with
            | none => show t.length ≤ 1000; omega
            | some t' => exact (hsub t t' e).1
          · rw [if_neg c]; omega
        have sum_le : ∀ l : List Cs, (∀ t ∈ l, (repl ss sub t).length ≤ 1000) → ((l.map fun t => S (repl ss sub t)).map (·.length)).sum ≤ l.length * 1000 := fun l => by
          induction l with
          | nil => intro _; exact Nat.le_refl _
          | cons a l ih =>
            intro h
            have i1 := ih fun t ht => h t (List.mem_cons_of_mem _ ht)
            have i2 := h a List.mem_cons_self
            rw [List.map_cons, List.map_cons, List.sum_cons, List.length_cons, len_S]
            omega
        have hs := sum_le ts small
        refine ⟨("" : Str), L, ts.map fun t => S (repl ss sub t), rfl, rfl, .inl (SqL.of (by rw [hL, List.map_map]; rfl)), ?_, ?_⟩
        · have e0 : ("" : Str).length = 0 := by decide +kernel
          rw [e0, Nat.mul_zero, Nat.add_zero]
          omega
        · have ej := join_nil (ts.map (repl ss sub))
          rw [List.map_map] at ej
          have ej : Txt.join ("" : Str) (ts.map fun t => S (repl ss sub t)) = S (ts.map (repl ss sub)).flatten := ej
          rw [ej]
          exact q H5 ((((s1.trans sm).trans sm3).trans s4).trans s5)
end
end Pg
/-! Lw1 -/
set_option Elab.async false
set_option linter.all false
set_option maxRecDepth 100000
set_option maxHeartbeats 4000000
namespace Pg
open PySem L2 Mr
/-- the law's box of draws -/
def boxV (d s c : Int) : HO := .lst [.int d, .int s, .int c]
def BoxAt (H : Hp) (b : Addr) : Prop := ∃ d s c, H b = some (boxV d s c)
/-- all but the box is as it was -/
structure Bx (H H' : Hp) (b : Addr) : Prop where
  keep : ∀ a o, a ≠ b → H a = some o → H' a = some o
  box : BoxAt H' b
theorem Bx.refl {H : Hp} {b : Addr} (h : BoxAt H b) : Bx H H b := ⟨fun _ _ _ e => e, h⟩
theorem Bx.trans {H H1 H2 : Hp} {b : Addr} (x : Bx H H1 b) (y : Bx H1 H2 b) : Bx H H2 b := ⟨fun a o n e => y.keep a o n (x.keep a o n e), y.box⟩
theorem Bx.same {H H1 H2 : Hp} {b : Addr} (x : Bx H H1 b) (s : Same H1 H2) : Bx H H2 b := ⟨fun a o n e => s a o (x.keep a o n e), let ⟨d, t, c, h⟩ := x.box; ⟨d, t, c, s _ _ h⟩⟩
theorem Bx.of_same {H H1 : Hp} {b : Addr} (h : BoxAt H b) (s : Same H H1) : Bx H H1 b := (Bx.refl h).same s
theorem Bx.draw {H : Hp} {b : Addr} {d s c : Int} : Bx H (upd H b (boxV d s c)) b := ⟨fun a o n e => by rw [upd_ne n]; exact e, ⟨_, _, _, upd_same⟩⟩
theorem Bx.tup {H H' : Hp} {b a : Addr} {xs : List V} (x : Bx H H' b) (h : BoxAt H b) (e : H a = some (.tup xs)) : H' a = some (.tup xs) := x.keep a _ (fun z => by obtain ⟨d, s, c, g⟩ := h; rw [z, g] at e; cases e) e
/-- something new (or not the box's) is stored -/
theorem Bx.mut {H H1 : Hp} {b p : Addr} {o : HO} (x : Bx H H1 b) (n : H p = none) (ne : p ≠ b) : Bx H (upd H1 p o) b := ⟨fun a u na e => by rw [upd_ne (ne_of_none e n)]; exact x.keep a u na e, let ⟨d, t, c, h⟩ := x.box; ⟨d, t, c, by rw [upd_ne ne.symm]; exact h⟩⟩
theorem BoxAt.same {H H' : Hp} {b : Addr} (h : BoxAt H b) (s : Same H H') : BoxAt H' b := let ⟨d, t, c, e⟩ := h; ⟨d, t, c, s _ _ e⟩
theorem BoxAt.ne {H : Hp} {b p : Addr} (h : BoxAt H b) (n : H p = none) : p ≠ b := fun z => by obtain ⟨d, s, c, e⟩ := h; rw [z, e] at n; cases n
theorem seqL_upd {K : PySem.W.Frag} {H H' : Hp} {a b : Addr} {xs : List V} (x : Bx H H' b) (ne : a ≠ b) (h : SqL K H a xs) : SqL K H' a xs := by
  rcases h with (h | ⟨o, h⟩) | h
  · exact .inl (.inl (x.keep _ _ ne h))
  · exact .inl (.inr ⟨o, x.keep _ _ ne h⟩)
  · exact .inr h
theorem at_any {xs : List V} {k : Int} (h0 : 0 ≤ k) (h1 : k < xs.length) : ∃ v, atI xs k = some v ∧ xs[k.toNat]? = some v := by
  obtain ⟨n, rfl⟩ := Int.eq_ofNat_of_zero_le h0
  have lt : n < xs.length := by omega
  exact ⟨xs[n], atI_nat (List.getElem?_eq_getElem lt), List.getElem?_eq_getElem lt⟩
theorem at_int {ns : List Int} {k : Int} (h0 : 0 ≤ k) (h1 : k < ns.length) : ∃ n, atI (ns.map V.int) k = some (V.int n) := by
  obtain ⟨v, e, e'⟩ := at_any (xs := ns.map V.int) h0 (by rw [List.length_map]; exact h1)
  rw [List.getElem?_map] at e'
  cases q : ns[k.toNat]? with
  | none => rw [q] at e'; cases e'
  | some n => rw [q] at e'; exact ⟨n, by rw [e, ← e']; rfl⟩
structure Lx (mg : Str → Option Value) : Prop where
  abs : mg "abs" = none
  int : mg "int" = none
  len : mg "len" = none
  list : mg "list" = none
  range : mg "range" = none
  str : mg "str" = none
  tup : mg "tuple" = none
  dict : mg "dict" = none
  max : mg "max" = none
  min : mg "min" = none
section
variable {P : Program} {w : World} {K : PySem.W.Frag} {mg : Str → Option Value} {base : Heap} {pS pC : Addr}
/-! ### _law_box -/
def spBox (K : PySem.W.Frag) : Sp := fun vs H Q _ => ∃ (a : Addr) (ns : List Int) (k o : Int), vs = [.ref a, .int k, .int o] ∧ SqL K H a (ns.map V.int) ∧ 0 ≤ k ∧ k < 1000 ∧ 0 ≤ o ∧ o < 1000 ∧
  ∀ H' b, Same H H' → H b = none → BoxAt H' b → Q (.ref b) H'
theorem sc_box : FnScope ["_law_script", "_law_k", "_law_own", "_law_cell", "_law_seed"] ["_law_script", "_law_k", "_law_own"] (defScope st__law_box) := ⟨rfl, rfl, rfl, by decide +kernel, rfl, by decide +kernel, by decide +kernel⟩
theorem ok_box {f : Addr} {fd : FuncData} (F : Fun K "_law_box" "_law_box" st__law_box f fd) (L : Lx mg) : FnOk P w K mg base CX0 1 f fd ["_law_script", "_law_k", "_law_own"] (spBox K) := by
  refine F.ok sc_box (fun vs H Q E h => ?_) (fun cdv A outer s H vs Q E hr h => ?_)
  · obtain ⟨a, ns, k, o, rfl, _⟩ := h
    rfl
  obtain ⟨a, ns, k, o, rfl, hS, hk0, hk1, ho0, ho1, q⟩ := h
  have nd := sc_box.nd
  refine ⟨_, pss_cons (ps_set (i := 3) nd rfl (.inl rfl) (pe_op op_add (pe_op op_add (pe_op op_mul pe_int (pv 1)) (pe_op op_mul pe_int (pv 2))) pe_int))
    (C8.pss_cut (ps_if (pt_cmpR op_lt (pv 1) (pe_callB call_len_seq (by rfl) L.len PySem.boot_len (pa_cons (pv 0) pa_nil)) (nomark _))
        (pss_one (ps_set (i := 3) nd rfl (.inl rfl) (pe_callB call_abs (by rfl) L.abs (by decide +kernel) (pa_cons (pe_ix ix_list (pv 0) (pv 1) (fun _ _ => rfl)) pa_nil))))
      (pss_one (ps_if (pt_cmpR op_gt (pe_callB call_len_seq (by rfl) L.len PySem.boot_len (pa_cons (pv 0) pa_nil)) pe_int (nomark _))
        (pss_one (ps_set (i := 3) nd rfl (.inl rfl) (pe_op op_add (pv 3) (pe_op op_mul (pe_op op_mod (pe_callTy call_int1 (by rfl) L.int (by decide +kernel) (pa_cons (pe_callB call_abs (by rfl) L.abs (by decide +kernel)
          (pa_cons (pe_ix ix_list (pv 0) (pe_op op_modN (pe_callTy call_int1 (by rfl) L.int (by decide +kernel) (pa_cons (pv 1) pa_nil)) (pe_callB call_len_seq (by rfl) L.len PySem.boot_len (pa_cons (pv 0) pa_nil))) (fun _ _ => rfl)) pa_nil)) pa_nil)) pe_int) pe_int)))) pss_nil)))
    (pss_cons (ps_set (i := 4) nd rfl (.inl rfl) (pe_op op_add (pe_op op_mod (pe_callTy call_int1 (by rfl) L.int (by decide +kernel) (pa_cons
        (pe_op op_add (pe_op op_mul (pe_op op_mod (pe_callTy call_int1 (by rfl) L.int (by decide +kernel) (pa_cons (pv 3) pa_nil)) pe_int) pe_int) (pe_op op_mul pe_int (pe_op op_add (pv 1) (pe_op op_mul pe_int (pv 2))))) pa_nil)) pe_int) pe_int))
    (pss_one (ps_ret (pe_lst (pa_cons (pe_ix ix_list (pe_lst (pa_cons pe_int (pa_cons (pv 3) pa_nil))) (pe_callTy call_int1 (by rfl) L.int (by decide +kernel) (pa_cons (pe_cmpR op_ge (pv 3) (pe_op op_pow pe_int pe_int) (nomark _)) pa_nil)) (fun _ _ => rfl))
      (pa_cons (pv 4) (pa_cons pe_int pa_nil)))))))), ?_⟩
  refine ⟨_, rfl, _, _, rfl, rfl, .inl ⟨by decide, by decide⟩, _, rfl, _, _, rfl, rfl, .inl ⟨by decide, by decide⟩, _, _, rfl, rfl, _, _, rfl, rfl, ?_⟩
  have hl : (ns.map V.int).length = ns.length := List.length_map _
  refine ⟨fun σ H' => H' = H ∧ ∃ cell, σ = [some (.ref a), some (.int k), some (.int o), some (.int cell), none], ?_, ?_⟩
  · refine ⟨_, rfl, _, rfl, a, _, rfl, .inl hS, _, _, rfl, rfl, _, rfl, ite2 (fun c => ?_) (fun c => ?_)⟩
    · have c' : k < ((ns.map V.int).length : Int) := of_decide_eq_true c
      rw [hl] at c'
      obtain ⟨n0, hat⟩ := at_int hk0 c'
      exact ⟨_, rfl, _, rfl, a, _, _, _, rfl, rfl, hS, hat, _, rfl, rfl, _, rfl⟩
    · refine ⟨_, rfl, a, _, rfl, .inl hS, _, _, rfl, rfl, _, rfl, ite2 (fun d => ?_) (fun d => ⟨rfl, _, rfl⟩)⟩
      have d' : (0 : Int) < ((ns.map V.int).length : Int) := of_decide_eq_true d
      rw [hl] at d'
      have m0 : 0 ≤ k.fmod (ns.length : Int) := Int.fmod_nonneg_of_pos _ d'
      have m1 : k.fmod (ns.length : Int) < (ns.length : Int) := Int.fmod_lt_of_pos _ d'
      obtain ⟨n0, hat⟩ := at_int m0 m1
      refine ⟨_, rfl, _, rfl, _, rfl, .inl ⟨_, rfl, _, rfl, a, _, rfl, .inl hS, _, _, rfl, rfl, ?_, a, _, _, _, rfl, rfl, hS, (by rw [hl]; exact hat), _, rfl, .inl ⟨_, rfl, _, _, rfl, rfl, (by show (0 : Int) < 2147483629; decide), _, _, rfl, rfl, .inr ⟨by decide, by decide⟩, _, _, rfl, rfl, rfl, _, rfl⟩⟩⟩
      rw [hl]; omega
  · rintro σ H' ⟨rfl, cell, rfl⟩
    refine ⟨_, rfl, .inl ⟨_, rfl, _, _, rfl, rfl, (by show (0 : Int) < 2147483629; decide), _, _, rfl, rfl, .inr ⟨by decide, by decide⟩, _, rfl, _, rfl, _, _, rfl, rfl, .inl ⟨by decide, by decide⟩, _, _, rfl, rfl, _, _, rfl, rfl, .inl ⟨by decide, by decide⟩, _, _, rfl, rfl, .inl ⟨_, rfl, _, _, rfl, rfl, (by show (0 : Int) < 2147483629; decide), _, _, rfl, rfl, ?_⟩⟩⟩
    refine ⟨_, rfl, (by show 2 ≤ sizeLine; decide), fun p np => ⟨_, rfl, _, _, rfl, rfl, ⟨by decide, by decide, by decide⟩, _, _, rfl, rfl, .inr ⟨_, rfl, ?_⟩⟩⟩
    have fin : ∀ (d s : Int) (b : Addr), upd H' p (.lst [.int 0, .int cell]) b = none → Q (.ref b) (upd (upd H' p (.lst [.int 0, .int cell])) b (boxV d s 0)) := fun d s b nb =>
      q _ b ((same_new np _).trans (same_new nb _)) (upd_none nb).2 ⟨_, _, _, upd_same⟩
    by_cases c : (10 : Int) ^ (18 : Int).toNat ≤ cell
    · rw [decide_eq_true c]
      exact ⟨p, _, _, _, rfl, rfl, SqL.of upd_same, rfl, _, rfl, (by show 3 ≤ sizeLine; decide), fun b nb => fin _ _ b nb⟩
    · rw [decide_eq_false c]
      exact ⟨p, _, _, _, rfl, rfl, SqL.of upd_same, rfl, _, rfl, (by show 3 ≤ sizeLine; decide), fun b nb => fin _ _ b nb⟩
/-! ### _law_take -/
def spTake : Sp := fun vs H Q _ => ∃ (b : Addr) (n : Int), vs = [.ref b, .int n] ∧ BoxAt H b ∧ 1 ≤ n ∧ n < 1000000 ∧ ∀ r d s c, 0 ≤ r → r < n → Q (.int r) (upd H b (boxV d s c))
theorem sc_take : FnScope ["_law_box_here", "_law_many", "_law_digit", "_law_raw", "_law_wide"] ["_law_box_here", "_law_many"] (defScope st__law_take) := ⟨rfl, rfl, rfl, by decide +kernel, rfl, by decide +kernel, by decide +kernel⟩
theorem ok_take {f : Addr} {fd : FuncData} (F : Fun K "_law_take" "_law_take" st__law_take f fd) (L : Lx mg) : FnOk P w K mg base CX0 1 f fd ["_law_box_here", "_law_many"] spTake := by
  refine F.ok sc_take (fun vs H Q E h => ?_) (fun cdv A outer s H vs Q E hr h => ?_)
  · obtain ⟨b, n, rfl, _⟩ := h
    rfl
  obtain ⟨b, n, rfl, ⟨d, t, c, hb⟩, hn, hn2, q⟩ := h
  have nd := sc_take.nd
  refine ⟨_, pss_cons (ps_if (pt_cmpR op_gt (pe_ix ix_list (pv 0) pe_int (fun _ _ => rfl)) pe_int (nomark _))
      (pss_cons (ps_set (i := 2) nd rfl (.inl rfl) (pe_op op_modN (pe_callTy call_int1 (by rfl) L.int (by decide +kernel) (pa_cons (pe_ix ix_list (pv 0) pe_int (fun _ _ => rfl)) pa_nil)) (pv 1)))
      (pss_cons (ps_asg (pe_op op_fdivN (pe_ix ix_list (pv 0) pe_int (fun _ _ => rfl)) (pv 1)) (pg_sub (pv 0) pe_int set_list))
      (pss_one (ps_ret (pv 2))))) pss_nil)
    (pss_cons (ps_asg (pe_op op_add (pe_ix ix_list (pv 0) pe_int (fun _ _ => rfl)) pe_int) (pg_sub (pv 0) pe_int set_list))
    (pss_cons (ps_set (i := 3) nd rfl (.inl rfl) (pe_op op_mod (pe_callTy call_int1 (by rfl) L.int (by decide +kernel) (pa_cons
        (pe_op op_mul (pe_op op_add (pe_ix ix_list (pv 0) pe_int (fun _ _ => rfl)) (pe_op op_mul pe_int (pe_ix ix_list (pv 0) pe_int (fun _ _ => rfl)))) pe_int) pa_nil)) pe_int))
    (pss_cons (ps_asg (pe_op op_add (pe_op op_mod (pe_callTy call_int1 (by rfl) L.int (by decide +kernel) (pa_cons (pe_op op_add (pe_op op_mul (pv 3) pe_int) pe_int) pa_nil)) pe_int) pe_int) (pg_sub (pv 0) pe_int set_list))
    (pss_cons (ps_if (pt_cmpR op_lt (pv 1) (pe_op op_pow pe_int pe_int) (nomark _))
      (pss_one (ps_ret (pe_op op_modN (pe_callTy call_int1 (by rfl) L.int (by decide +kernel) (pa_cons (pe_op op_fdivN (pe_op op_add (pe_op op_mul (pv 3) pe_int) (pe_ix ix_list (pv 0) pe_int (fun _ _ => rfl))) pe_int) pa_nil)) (pv 1)))) pss_nil)
    pss_never)))), ?_⟩
  have n0 : n ≠ 0 := by omega
  have m0 : ∀ x : Int, 0 ≤ x.fmod n := fun x => Int.fmod_nonneg_of_pos _ (by omega)
  have m1 : ∀ x : Int, x.fmod n < n := fun x => Int.fmod_lt_of_pos _ (by omega)
  refine ⟨_, rfl, b, _, _, _, rfl, rfl, SqL.of hb, rfl, _, _, rfl, rfl, _, rfl, ite2 (fun e => ?_) (fun e => ?_)⟩
  · refine ⟨_, rfl, b, _, _, _, rfl, rfl, SqL.of hb, rfl, .inl ⟨_, rfl, _, rfl, _, _, rfl, rfl, n0, ?_⟩⟩
    exact ⟨_, rfl, b, _, _, _, rfl, rfl, SqL.of hb, rfl, _, rfl, _, _, rfl, rfl, ⟨n0, by omega⟩, _, rfl, b, _, _, _, rfl, rfl, hb, rfl, _, rfl, q _ _ _ _ (m0 _) (m1 _)⟩
  · refine ⟨_, rfl, b, _, _, _, rfl, rfl, SqL.of hb, rfl, _, _, rfl, rfl, _, rfl, b, _, _, _, rfl, rfl, hb, rfl, ?_⟩
    have h1 : upd H b (boxV d t (c + 1)) b = some (boxV d t (c + 1)) := upd_same
    refine ⟨_, rfl, b, _, _, _, rfl, rfl, SqL.of h1, rfl, _, rfl, b, _, _, _, rfl, rfl, SqL.of h1, rfl, _, _, rfl, rfl, .inl ⟨by decide, by decide⟩, _, _, rfl, rfl, _, _, rfl, rfl, .inr ⟨by decide, by decide⟩, .inl ⟨_, rfl, _, _, rfl, rfl, (by show (0 : Int) < 2147483647; decide), ?_⟩⟩
    refine ⟨_, rfl, _, _, rfl, rfl, .inr ⟨by decide, by decide⟩, _, _, rfl, rfl, .inl ⟨_, rfl, _, _, rfl, rfl, (by show (0 : Int) < 2147483629; decide), _, _, rfl, rfl, _, rfl, b, _, _, _, rfl, rfl, h1, rfl, ?_⟩⟩
    generalize ((((t + 95617 * (c + 1)) * 50021) % 2147483647 * 48271 + 17011) % 2147483629 + 1) = t2
    refine ⟨_, rfl, _, _, rfl, rfl, ⟨by decide, by decide, by decide⟩, _, _, rfl, rfl, _, rfl, ?_⟩
    have lt : n < (2 : Int) ^ (40 : Int).toNat := Int.lt_trans hn2 (by decide)
    rw [decide_eq_true lt]
    refine iteT ⟨_, rfl, _, _, rfl, rfl, .inr ⟨by decide, by decide⟩, _, rfl, b, _, _, _, rfl, rfl, SqL.of upd_same, rfl, _, _, rfl, rfl, _, _, rfl, rfl, ⟨by decide, by decide⟩, .inl ⟨_, rfl, _, rfl, _, _, rfl, rfl, n0, ?_⟩⟩
    rw [upd_upd]
    exact q _ _ _ _ (m0 _) (m1 _)
/-! ### _law_pick -/
def spPick (K : PySem.W.Frag) : Sp := fun vs H Q _ => ∃ (b a : Addr) (xs : List V), vs = [.ref b, .ref a] ∧ BoxAt H b ∧ a ≠ b ∧ SqL K H a xs ∧ 0 < xs.length ∧ xs.length < 1000000 ∧ ∀ x d s c, x ∈ xs → Q x (upd H b (boxV d s c))
theorem sc_pick : FnScope ["_law_box_here", "_law_items"] ["_law_box_here", "_law_items"] (defScope st__law_pick) := ⟨rfl, rfl, rfl, by decide +kernel, rfl, by decide +kernel, by decide +kernel⟩
theorem ok_pick {f fT : Addr} {fd fdT : FuncData} (F : Fun K "_law_pick" "_law_pick" st__law_pick f fd) (L : Lx mg) (GT : FnOk P w K mg base CX0 1 fT fdT ["_law_box_here", "_law_many"] spTake) (bT : Binds K fdT ["_law_box_here", "_law_many"] []) (kT : PySem.W.keepIn K (.ref fT) = true) (mT : mg "_law_take" = some (.ref fT)) :
    FnOk P w K mg base CX0 2 f fd ["_law_box_here", "_law_items"] (spPick K) := by
  refine F.ok sc_pick (fun vs H Q E h => ?_) (fun cdv A outer s H vs Q E hr h => ?_)
  · obtain ⟨b, a, xs, rfl, _⟩ := h
    rfl
  obtain ⟨b, a, xs, rfl, hb, hne, hS, h0, h1, q⟩ := h
  refine ⟨_, pss_one (ps_ret (pe_ix ix_list (pv 1) (pe_call GT hr rfl mT kT bT .nil pass0 (pa_cons (pv 0) (pa_cons (pe_callB call_len_seq (by rfl) L.len PySem.boot_len (pa_cons (pv 1) pa_nil)) pa_nil))) (fun _ _ => rfl))), ?_⟩
  refine ⟨_, rfl, _, rfl, _, rfl, a, _, rfl, .inl hS, b, _, rfl, hb, by omega, by omega, fun r d s c r0 r1 => ?_⟩
  obtain ⟨v, e, e'⟩ := at_any r0 r1
  exact ⟨a, _, _, _, rfl, rfl, seqL_upd Bx.draw hne hS, e, q v d s c (List.mem_of_getElem? e')⟩
/-! ### _law_mixed -/
def spMixed (K : PySem.W.Frag) : Sp := fun vs H Q _ => ∃ (b a : Addr) (xs : List V), vs = [.ref b, .ref a] ∧ BoxAt H b ∧ a ≠ b ∧ SqL K H a xs ∧ xs.length ≤ 1000 ∧ ∀ H' p ys, Bx H H' b → H p = none → p ≠ b → H' p = some (.lst ys) → ys.Perm xs → Q (.ref p) H'
theorem sc_mixed : FnScope ["_law_box_here", "_law_items", "_law_left", "_law_found", "_law_turn"] ["_law_box_here", "_law_items"] (defScope st__law_mixed) := ⟨rfl, rfl, rfl, by decide +kernel, rfl, by decide +kernel, by decide +kernel⟩
theorem ok_mixed {f fT : Addr} {fd fdT : FuncData} (F : Fun K "_law_mixed" "_law_mixed" st__law_mixed f fd) (L : Lx mg) (GT : FnOk P w K mg base CX0 1 fT fdT ["_law_box_here", "_law_many"] spTake) (bT : Binds K fdT ["_law_box_here", "_law_many"] []) (kT : PySem.W.keepIn K (.ref fT) = true) (mT : mg "_law_take" = some (.ref fT)) :
    FnOk P w K mg base CX0 2 f fd ["_law_box_here", "_law_items"] (spMixed K) := by
  refine F.ok sc_mixed (fun vs H Q E h => ?_) (fun cdv A outer s H vs Q E hr h => ?_)
  · obtain ⟨b, a, xs, rfl, _⟩ := h
    rfl
  obtain ⟨b, a, xs, rfl, hb, hne, hS, h1, q⟩ := h
  have nd := sc_mixed.nd
  refine ⟨_, pss_cons (ps_par (i := 2) (j := 3) (by rfl) nd rfl rfl (by decide) rfl rfl (pa_cons (pe_callTy call_list_of (by rfl) L.list (by decide +kernel) (pa_cons (pv 1) pa_nil)) (pa_cons (pe_lst pa_nil) pa_nil)) (by rfl))
    (pss_cons (ps_for PassesOwn.never rfl (pi_range1 rfl L.range (pa_cons (pe_callB call_len_seq (by rfl) L.len PySem.boot_len (pa_cons (pv 2) pa_nil)) pa_nil)) (pg_name (i := 4) nd rfl (.inl rfl))
      (pss_one (ps_expr (pe_bm PySem.F.plainAttrs_list PySem.F.slot_list_append PySem.F.type_list_append mt_append (pv 3) (pa_cons (pe_bm PySem.F.plainAttrs_list PySem.F.slot_list_pop PySem.F.type_list_pop mt_popAt (pv 2)
        (pa_cons (pe_call GT hr rfl mT kT bT .nil pass0 (pa_cons (pv 0) (pa_cons (pe_callB call_len_seq (by rfl) L.len PySem.boot_len (pa_cons (pv 2) pa_nil)) pa_nil))) pa_nil)) pa_nil)))))
    (pss_one (ps_ret (pv 3)))), ?_⟩
  refine ⟨_, rfl, a, _, rfl, .inl hS, fun p1 n1 => ⟨Nat.zero_le _, fun p2 n2 => ⟨_, _, rfl, ?_⟩⟩⟩
  obtain ⟨d12, n2'⟩ := upd_none n2
  have b1 : p1 ≠ b := hb.ne n1
  have b2 : p2 ≠ b := hb.ne n2'
  have h10 : upd (upd H p1 (.lst xs)) p2 (.lst []) p1 = some (.lst xs) := by rw [upd_ne d12.symm]; exact upd_same
  refine ⟨_, rfl, p1, _, rfl, .inl (SqL.of h10), _, rfl, by omega, by omega, for_range (n := xs.length) (fun i σ H' => ∃ (ys zs : List V) (u : Option V), σ = [some (.ref b), some (.ref a), some (.ref p1), some (.ref p2), u] ∧ Bx H H' b ∧ H' p1 = some (.lst ys) ∧ H' p2 = some (.lst zs) ∧ (zs ++ ys).Perm xs ∧ ys.length + i = xs.length)
    ⟨xs, [], none, rfl, Bx.of_same hb ((same_new n1 _).trans (same_new n2 _)), h10, upd_same, List.Perm.refl _, rfl⟩ ?_ ?_⟩
  · rintro i σ H' hi ⟨ys, zs, u, rfl, bx, e1, e2, pm, hl⟩
    refine ⟨_, rfl, .inl ⟨rfl, _, SqL.of e2⟩, _, rfl, .inl ⟨rfl, _, SqL.of e1⟩, _, rfl, _, rfl, p1, _, rfl, .inl (SqL.of e1), b, _, rfl, bx.box, by omega, by omega, fun r d s c r0 r1 => ?_⟩
    obtain ⟨v, ev, ev'⟩ := at_any r0 r1
    have g1 : upd H' b (boxV d s c) p1 = some (.lst ys) := by rw [upd_ne b1]; exact e1
    have hsz : xs.length ≤ 1000 := h1
    have hr : r.toNat < ys.length := by omega
    refine ⟨p1, ys, r, r.toNat, v, rfl, rfl, g1, by omega, by omega, ?_, ev', ?_⟩
    · rw [seqIndex_of r0 r1]
    have g2 : upd (upd H' b (boxV d s c)) p1 (.lst (ys.eraseIdx r.toNat)) p2 = some (.lst zs) := by rw [upd_ne d12, upd_ne b2]; exact e2
    have pl := pm.length_eq
    rw [List.length_append] at pl
    refine ⟨p2, _, _, rfl, rfl, g2, big (by omega), ?_⟩
    have er := erase_perm ys r.toNat v ev'
    refine ⟨ys.eraseIdx r.toNat, zs ++ [v], _, rfl, ((bx.trans Bx.draw).mut n1 b1).mut n2' b2, by rw [upd_ne d12.symm]; exact upd_same, upd_same, ?_, by rw [List.length_eraseIdx_of_lt hr]; omega⟩
    have : (zs ++ [v] ++ ys.eraseIdx r.toNat).Perm (zs ++ ys) := by rw [List.append_assoc]; exact List.Perm.append_left zs er
    exact this.trans pm
  · rintro σ H' ⟨ys, zs, u, rfl, bx, e1, e2, pm, hl⟩
    have e0 : ys = [] := List.length_eq_zero_iff.mp (by omega)
    subst e0
    rw [List.append_nil] at pm
    exact ⟨_, rfl, q H' p2 zs bx n2' b2 e2 pm⟩
/-! ### _law_named_some -/
def names9 : List Cs := [[117], [118], [119], [97], [98], [109, 97, 120, 105], [105, 109], [122, 122, 122, 122], [105]]
theorem names9_ok : (∀ s ∈ names9, isName s = true) ∧ names9.Nodup := by decide +kernel
theorem names9_lits : names9.map tv = [.str "u", .str "v", .str "w", .str "a", .str "b", .str "maxi", .str "im", .str "zzzz", .str "i"] := by decide +kernel
def spSome (K : PySem.W.Frag) : Sp := fun vs H Q _ => ∃ (b : Addr) (n : Nat), vs = [.ref b, .int n] ∧ BoxAt H b ∧ 1 ≤ n ∧ n ≤ 9 ∧ ∀ H' p (ns : List Cs), Bx H H' b → H p = none → p ≠ b → H' p = some (.lst (ns.map tv)) → ns.length = n → ns.Nodup → (∀ s ∈ ns, isName s = true ∧ s ∈ names9) → Q (.ref p) H'
theorem sc_some : FnScope ["_law_box_here", "_law_many"] ["_law_box_here", "_law_many"] (defScope st__law_named_some) := ⟨rfl, rfl, rfl, by decide +kernel, rfl, by decide +kernel, by decide +kernel⟩
theorem perm_map_inv {α β : Type} {f : α → β} {l : List α} {ys : List β} (h : ys.Perm (l.map f)) : ∃ l' : List α, ys = l'.map f ∧ l'.Perm l := by
  induction l generalizing ys with
  | nil => exact ⟨[], by rw [List.map_nil] at h; exact List.perm_nil.mp h, .refl _⟩
  | cons a l ih =>
    rw [List.map_cons] at h
    have hm : f a ∈ ys := h.mem_iff.mpr List.mem_cons_self
    obtain ⟨s, t, rfl⟩ := List.append_of_mem hm
    have h2 : (s ++ t).Perm (l.map f) := (List.perm_cons (f a)).mp ((List.perm_middle.symm).trans h)
    obtain ⟨l', e, p⟩ := ih h2
    refine ⟨l'.take s.length ++ a :: l'.drop s.length, ?_, ?_⟩
    · have e1 : s = (l'.take s.length).map f := by rw [List.map_take, ← e, List.take_left]
      have e2 : t = (l'.drop s.length).map f := by rw [List.map_drop, ← e, List.drop_left]
      rw [List.map_append, List.map_cons, ← e1, ← e2]
    · refine List.perm_middle.trans (List.Perm.cons a ?_)
      rw [List.take_append_drop]; exact p
theorem ok_some {f fM : Addr} {fd fdM : FuncData} (F : Fun K "_law_named_some" "_law_named_some" st__law_named_some f fd) (GM : FnOk P w K mg base CX0 2 fM fdM ["_law_box_here", "_law_items"] (spMixed K)) (bM : Binds K fdM ["_law_box_here", "_law_items"] []) (kM : PySem.W.keepIn K (.ref fM) = true) (mM : mg "_law_mixed" = some (.ref fM)) :
    FnOk P w K mg base CX0 3 f fd ["_law_box_here", "_law_many"] (spSome K) := by
  refine F.ok sc_some (fun vs H Q E h => ?_) (fun cdv A outer s H vs Q E hr h => ?_)
  · obtain ⟨b, n, rfl, _⟩ := h
    rfl
  obtain ⟨b, n, rfl, hb, hn1, hn9, q⟩ := h
  refine ⟨_, pss_one (ps_ret (pe_slice sl_list (pe_call GM hr rfl mM kM bM .nil pass0 (pa_cons (pv 0) (pa_cons (pe_lst (pa_cons pe_str (pa_cons pe_str (pa_cons pe_str (pa_cons pe_str (pa_cons pe_str (pa_cons pe_str (pa_cons pe_str (pa_cons pe_str (pa_cons pe_str pa_nil)))))))))) pa_nil))) po_none (po_some (pv 1)))), ?_⟩
  refine ⟨_, rfl, (by show 9 ≤ sizeLine; decide), fun p1 n1 => ⟨b, p1, _, rfl, hb.same (same_new n1 _), hb.ne n1, SqL.of upd_same, (by show 9 ≤ 1000; decide), fun H' p ys bx np pb hp pm => ⟨_, rfl, _, rfl, p, _, rfl, SqL.of hp, fun l nl => ?_⟩⟩⟩
  rw [← names9_lits] at pm
  obtain ⟨ns, rfl, pn⟩ := perm_map_inv pm
  obtain ⟨_, np0⟩ := upd_none np
  have len9 : ns.length = 9 := pn.length_eq
  have nb : l ≠ b := (bx.box).ne nl
  have nl0 : H l = none := by
    cases e : H l with
    | none => rfl
    | some o =>
      rw [bx.keep l o nb (same_new n1 _ l o e)] at nl; cases nl
  have b0 : Bx H H' b := (Bx.of_same hb (same_new n1 _)).trans bx
  have ec : cutV (ns.map tv) none (some (n : Int)) = (ns.take n).map tv := by
    unfold cutV
    rw [HT.sIx_none, HT.sIx_nat, List.length_map, len9, Nat.min_eq_left hn9, List.drop_zero, Nat.sub_zero, List.map_take]
  refine q _ l (ns.take n) (b0.same (same_new nl _)) nl0 nb ?_ (by rw [List.length_take]; omega) ((pn.nodup_iff.mpr names9_ok.2).sublist (List.take_sublist n ns)) fun s hs => ?_
  · rw [upd_same, ec]
  · have := pn.mem_iff.mp (List.mem_of_mem_take hs)
    exact ⟨names9_ok.1 s this, this⟩
end
end Pg
/-! Lw2 -/
set_option Elab.async false
set_option linter.all false
set_option maxRecDepth 100000
set_option maxHeartbeats 4000000
namespace Pg
open PySem L2 Mr
/-- the tree t stands in tuples at a -/
inductive TreeAt (H : Hp) : T → Addr → Prop where
  | num {a : Addr} {k : Nat} (h : H a = some (.tup [.str "number", .int k])) : TreeAt H (.num k) a
  | nam {a : Addr} {s : Cs} (h : H a = some (.tup [.str "name", tv s])) : TreeAt H (.nam s) a
  | plus {a c : Addr} {t : T} {k : Nat} (h : H a = some (.tup [.str "plus", .ref c, .int k])) (r : TreeAt H t c) : TreeAt H (.plus t k) a
  | node {a : Addr} {b : Bool} {ts : List T} {cs : List Addr} (h : H a = some (.tup (.str (cName b) :: cs.map V.ref))) (l : ts.length = cs.length) (r : ∀ (i : Nat) t c, ts[i]? = some t → cs[i]? = some c → TreeAt H t c) : TreeAt H (.node b ts) a
theorem TreeAt.mono {H H' : Hp} (k : ∀ a xs, H a = some (.tup xs) → H' a = some (.tup xs)) {t : T} {a : Addr} (h : TreeAt H t a) : TreeAt H' t a := by
  induction h with
  | num h => exact .num (k _ _ h)
  | nam h => exact .nam (k _ _ h)
  | plus h _ ih => exact .plus (k _ _ h) ih
  | node h l _ ih => exact .node (k _ _ h) l ih
theorem TreeAt.same {H H' : Hp} (s : Same H H') {t : T} {a : Addr} (h : TreeAt H t a) : TreeAt H' t a := h.mono fun _ _ e => s _ _ e
theorem TreeAt.bx {H H' : Hp} {b : Addr} (x : Bx H H' b) (hb : BoxAt H b) {t : T} {a : Addr} (h : TreeAt H t a) : TreeAt H' t a := h.mono fun _ _ e => x.tup hb e
/-- the trees that the law draws: names of ns, numbers to m, so deep -/
inductive Lv (ns : List Cs) (m : Nat) : Nat → T → Prop where
  | num {d k : Nat} (h : k ≤ m) : Lv ns m d (.num k)
  | nam {d : Nat} {s : Cs} (h : s ∈ ns) : Lv ns m d (.nam s)
  | plus {d k : Nat} {t : T} (r : Lv ns m d t) (h : k ≤ m) : Lv ns m (d + 1) (.plus t k)
  | two {d : Nat} {b : Bool} {t u : T} (r : Lv ns m d t) (s : Lv ns m d u) : Lv ns m (d + 1) (.node b [t, u])
  | three {d : Nat} {t u : T} {s : Cs} (r : Lv ns m d t) (q : Lv ns m d u) (h : s ∈ ns) : Lv ns m (d + 1) (.node true [t, u, .nam s])
theorem Lv.ok {ns : List Cs} {m : Nat} (hm : m < 100) (hn : ∀ s ∈ ns, isName s = true) {d : Nat} {t : T} (h : Lv ns m d t) : t.ok := by
  induction h with
  | num h => rw [T.ok]; omega
  | nam h => rw [T.ok]; exact hn _ h
  | plus r h ih => rw [T.ok]; exact ⟨ih, by omega⟩
  | @two d b t u r s ih1 ih2 =>
    rw [T.ok]
    refine ⟨by cases b <;> rfl, fun t ht => ?_⟩
    rcases List.mem_cons.mp ht with rfl | ht
    · exact ih1
    · rcases List.mem_singleton.mp ht with rfl
      exact ih2
  | three r q h ih1 ih2 =>
    rw [T.ok]
    refine ⟨rfl, fun t ht => ?_⟩
    rcases List.mem_cons.mp ht with rfl | ht
    · exact ih1
    · rcases List.mem_cons.mp ht with rfl | ht
      · exact ih2
      · rcases List.mem_singleton.mp ht with rfl
        rw [T.ok]; exact hn _ h
section
variable {P : Program} {w : World} {K : PySem.W.Frag} {mg : Str → Option Value} {base : Heap} {pS pC : Addr}
/-! ### _law_level -/
def spLevel (K : PySem.W.Frag) (n : Nat) : Sp := fun vs H Q _ => ∃ (b a : Addr) (ns : List Cs) (deep most : Nat), vs = [.ref b, .ref a, .int deep, .int most, .bl false] ∧ BoxAt H b ∧ a ≠ b ∧ SqL K H a (ns.map tv) ∧ 0 < ns.length ∧ ns.length ≤ 9 ∧ deep < n ∧ most ≤ 98 ∧
  ∀ H' p t, Bx H H' b → TreeAt H' t p → Lv ns most deep t → Q (.ref p) H'
theorem sc_level : FnScope ["_law_box_here", "_law_names", "_law_deep", "_law_most", "_law_is_plain", "_law_form", "_law_one", "_law_other"] ["_law_box_here", "_law_names", "_law_deep", "_law_most", "_law_is_plain"] (defScope st__law_level) := ⟨rfl, rfl, rfl, by decide +kernel, rfl, by decide +kernel, by decide +kernel⟩
theorem int_eq (a b : Int) : decide (V.int a = V.int b) = decide (a = b) := decide_eq_decide.mpr ⟨fun h => by injection h, fun h => by rw [h]⟩
abbrev CalX (P : Program) (w : World) (K : PySem.W.Frag) (mg : Str → Option Value) (base : Heap) (k : Nat) (x : Str) (sp : Sp) := C8.Cal P w K mg base k x sp []
theorem cal_mk {k : Nat} {x : Str} {f : Addr} {fd : FuncData} {ps : List Str} {sp : Sp} (G : FnOk P w K mg base CX0 k f fd ps sp) (m : mg x = some (.ref f)) (kp : PySem.W.keepIn K (.ref f) = true) (b : Binds K fd ps []) : CalX P w K mg base k x sp := ⟨f, fd, ps, [], G, m, kp, b, .nil⟩
theorem ok_level1 {n : Nat} {f : Addr} {fd : FuncData} (F : Fun K "_law_level" "_law_level" st__law_level f fd)
    (c_take : CalX P w K mg base 1 "_law_take" spTake) (c_pick : CalX P w K mg base 2 "_law_pick" (spPick K)) (c_level : CalX P w K mg base (n + 3) "_law_level" (spLevel K n)) :
    FnOk P w K mg base CX0 (n + 4) f fd ["_law_box_here", "_law_names", "_law_deep", "_law_most", "_law_is_plain"] (spLevel K (n + 1)) := by
  refine F.ok sc_level (fun vs H Q E h => ?_) (fun cdv A outer s H vs Q E hr h => ?_)
  · obtain ⟨b, a, ns, deep, most, rfl, _⟩ := h
    rfl
  obtain ⟨b, a, ns, deep, most, rfl, hb, hne, hS, h0, h9, hd, hm, q⟩ := h
  have nd := sc_level.nd
  refine ⟨_, (pss_cons (ps_set (i := 5) nd rfl (.inl rfl) (C8.pe_c c_take hr (by omega) rfl (pa_cons (pv 0) (pa_cons pe_int pa_nil))))
      (pss_cons (ps_if (PW.pt (pw_or (pt_cmpR op_eq (pv 2) pe_int (nomark _)) (pw_or1 (pt_cmpR op_lt (pv 5) pe_int (nomark _))))) (pss_cons (ps_if (pt_cmpR op_eq (pv 5) pe_int (nomark _)) (pss_one (ps_ret (pe_tup (pa_cons pe_str (pa_cons (C8.pe_c c_take hr (by omega) rfl (pa_cons (pv 0) (pa_cons (pe_op op_add (pv 3) pe_int) pa_nil))) pa_nil))))) pss_nil)
      (pss_one (ps_ret (pe_tup (pa_cons pe_str (pa_cons (C8.pe_c c_pick hr (by omega) rfl (pa_cons (pv 0) (pa_cons (pv 1) pa_nil))) pa_nil)))))) pss_nil)
      (pss_cons (ps_set (i := 6) nd rfl (.inl rfl) (C8.pe_c c_level hr (by omega) rfl (pa_cons (pv 0) (pa_cons (pv 1) (pa_cons (pe_op op_sub (pv 2) pe_int) (pa_cons (pv 3) (pa_cons (pv 4) pa_nil)))))))
      (pss_cons (ps_if (pt_cmpR op_lt (pv 5) pe_int (nomark _)) (pss_one (ps_ret (pe_tup (pa_cons pe_str (pa_cons (pv 6) (pa_cons (C8.pe_c c_take hr (by omega) rfl (pa_cons (pv 0) (pa_cons (pe_op op_add (pv 3) pe_int) pa_nil))) pa_nil)))))) pss_nil)
      (pss_cons (ps_set (i := 7) nd rfl (.inl rfl) (C8.pe_c c_level hr (by omega) rfl (pa_cons (pv 0) (pa_cons (pv 1) (pa_cons (pe_op op_sub (pv 2) pe_int) (pa_cons (pv 3) (pa_cons (pv 4) pa_nil)))))))
      (pss_cons (ps_if (PW.pt (pw_or (PW.pt (pw_and (pt_cmpR op_eq (pv 5) pe_int (nomark _)) (pw_and1 (pt_not (pt_val (pv 4)))))) (pw_or1 (PW.pt (pw_and (pt_cmpR op_eq (pv 5) pe_int (nomark _)) (pw_and1 (pt_not (pt_val (pv 4))))))))) (pss_one (ps_ret (pe_tup (pa_cons pe_str (pa_cons (pv 6) (pa_cons (pv 7) pa_nil)))))) pss_nil)
      (pss_cons (ps_if (pt_cmpR op_eq (pv 5) pe_int (nomark _)) (pss_one (ps_ret (pe_tup (pa_cons pe_str (pa_cons (pv 6) (pa_cons (pv 7) (pa_cons (pe_tup (pa_cons pe_str (pa_cons (C8.pe_c c_pick hr (by omega) rfl (pa_cons (pv 0) (pa_cons (pv 1) pa_nil))) pa_nil))) pa_nil))))))) pss_nil)
      (pss_one (ps_ret (pe_tup (pa_cons pe_str (pa_cons (pv 6) (pa_cons (pv 7) pa_nil))))))))))))), ?_⟩
  have natk : ∀ r : Int, 0 ≤ r → r < (most : Int) + 1 → ∃ k : Nat, r = (k : Int) ∧ k ≤ most := fun r h1 h2 => ⟨r.toNat, by omega, by omega⟩
  have name_in : ∀ x : V, x ∈ ns.map tv → ∃ s, s ∈ ns ∧ x = tv s := fun x h => by obtain ⟨s, h1, rfl⟩ := List.mem_map.mp h; exact ⟨s, h1, rfl⟩
  have lm : (ns.map tv).length = ns.length := List.length_map _
  have new : ∀ {H1 : Hp} {p : Addr} {o : HO}, Bx H H1 b → H1 p = none → Bx H (upd H1 p o) b := fun bx np => bx.same (same_new np _)
  refine ⟨_, rfl, b, 9, rfl, hb, by decide, by decide, fun r d t c r0 r1 => ?_⟩
  have bx1 : Bx H (upd H b (boxV d t c)) b := Bx.draw
  generalize upd H b (boxV d t c) = H1 at bx1
  refine ⟨_, rfl, rfl, _, rfl, ?_⟩
  rw [int_eq]
  by_cases hz : (deep : Int) = 0
  · rw [decide_eq_true hz]
    refine iteT ?_
    refine ⟨_, rfl, rfl, _, rfl, ?_⟩
    rw [int_eq]
    by_cases e0 : r = 0
    · rw [decide_eq_true e0]
      refine iteT ⟨_, rfl, _, rfl, _, _, rfl, rfl, b, _, rfl, bx1.box, by omega, by omega, fun r' d' t' c' r0' r1' => ⟨(by show 2 ≤ sizeLine; decide), fun p np => ?_⟩⟩
      obtain ⟨k, rfl, hk⟩ := natk r' r0' r1'
      exact q _ p (.num k) (new (bx1.trans Bx.draw) np) (.num upd_same) (.num hk)
    · rw [decide_eq_false e0]
      refine iteF ⟨_, rfl, _, rfl, b, a, _, rfl, bx1.box, hne, seqL_upd bx1 hne hS, by rw [lm]; omega, by rw [lm]; omega, fun x d' t' c' hx => ⟨(by show 2 ≤ sizeLine; decide), fun p np => ?_⟩⟩
      obtain ⟨s0, hs0, rfl⟩ := name_in x hx
      exact q _ p (.nam s0) (new (bx1.trans Bx.draw) np) (.nam upd_same) (.nam hs0)
  rw [decide_eq_false hz]
  refine iteF ⟨_, rfl, _, _, rfl, rfl, _, rfl, ?_⟩
  by_cases h3 : r < 3
  · rw [decide_eq_true h3]
    refine iteT ?_
    refine ⟨_, rfl, rfl, _, rfl, ?_⟩
    rw [int_eq]
    by_cases e0 : r = 0
    · rw [decide_eq_true e0]
      refine iteT ⟨_, rfl, _, rfl, _, _, rfl, rfl, b, _, rfl, bx1.box, by omega, by omega, fun r' d' t' c' r0' r1' => ⟨(by show 2 ≤ sizeLine; decide), fun p np => ?_⟩⟩
      obtain ⟨k, rfl, hk⟩ := natk r' r0' r1'
      exact q _ p (.num k) (new (bx1.trans Bx.draw) np) (.num upd_same) (.num hk)
    · rw [decide_eq_false e0]
      refine iteF ⟨_, rfl, _, rfl, b, a, _, rfl, bx1.box, hne, seqL_upd bx1 hne hS, by rw [lm]; omega, by rw [lm]; omega, fun x d' t' c' hx => ⟨(by show 2 ≤ sizeLine; decide), fun p np => ?_⟩⟩
      obtain ⟨s0, hs0, rfl⟩ := name_in x hx
      exact q _ p (.nam s0) (new (bx1.trans Bx.draw) np) (.nam upd_same) (.nam hs0)
  rw [decide_eq_false h3]
  obtain ⟨m, rfl⟩ : ∃ m, deep = m + 1 := ⟨deep - 1, by omega⟩
  have hm1 : [V.ref b, V.ref a, V.int (((m + 1 : Nat) : Int) - 1), V.int (most : Int), V.bl false] = [V.ref b, V.ref a, V.int (m : Int), V.int (most : Int), V.bl false] := by
    rw [show (((m + 1 : Nat) : Int) - 1) = (m : Int) by omega]
  refine iteF ⟨_, rfl, _, rfl, _, rfl, _, _, rfl, rfl, _, rfl, _, rfl, b, a, ns, m, most, hm1, bx1.box, hne, seqL_upd bx1 hne hS, h0, h9, by omega, hm, fun H2 p2 t2 bx2 ht2 lv2 => ?_⟩
  have bxa := bx1.trans bx2
  refine ⟨_, rfl, _, _, rfl, rfl, _, rfl, ?_⟩
  by_cases h5 : r < 5
  · rw [decide_eq_true h5]
    refine iteT ⟨_, rfl, _, rfl, _, rfl, _, _, rfl, rfl, b, _, rfl, bxa.box, by omega, by omega, fun r' d' t' c' r0' r1' => ⟨(by show 3 ≤ sizeLine; decide), fun p np => ?_⟩⟩
    obtain ⟨k, rfl, hk⟩ := natk r' r0' r1'
    have bxd := bxa.trans (Bx.draw (d := d') (s := t') (c := c'))
    exact q _ p (.plus t2 k) (new bxd np) (.plus upd_same ((ht2.bx Bx.draw bxa.box).same (same_new np _))) (.plus lv2 hk)
  rw [decide_eq_false h5]
  refine iteF ⟨_, rfl, _, rfl, _, rfl, _, _, rfl, rfl, _, rfl, _, rfl, b, a, ns, m, most, hm1, bxa.box, hne, seqL_upd bxa hne hS, h0, h9, by omega, hm, fun H3 p3 t3 bx3' ht3 lv3 => ?_⟩
  have bx3 := bxa.trans bx3'
  have ht2' := ht2.bx bx3' bxa.box
  have kids : ∀ (i : Nat) (t : T) (c : Addr), [t2, t3][i]? = some t → [p2, p3][i]? = some c → ∀ H', Same H3 H' → TreeAt H' t c := fun i t c e1 e2 H' s' => by
    match i with
    | 0 => cases e1; cases e2; exact ht2'.same s'
    | 1 => cases e1; cases e2; exact ht3.same s'
    | i + 2 => cases e1
  refine ⟨_, rfl, rfl, _, rfl, ?_⟩
  rw [int_eq]
  by_cases g5 : r = 5
  · rw [decide_eq_true g5]
    refine iteT ⟨_, rfl, _, rfl, iteT ?_⟩
    refine ⟨_, rfl, _, rfl, (by show 3 ≤ sizeLine; decide), fun p np => ?_⟩
    exact q _ p (.node false [t2, t3]) (new bx3 np) (.node (cs := [p2, p3]) (by rw [upd_same]; rfl) rfl fun i t c e1 e2 => kids i t c e1 e2 _ (same_new np _)) (.two lv2 lv3)
  rw [decide_eq_false g5]
  refine iteF (iteF ⟨_, rfl, rfl, _, rfl, ?_⟩)
  rw [int_eq]
  by_cases g6 : r = 6
  · rw [decide_eq_true g6]
    refine iteT ⟨_, rfl, _, rfl, ?_⟩
    refine ⟨_, rfl, _, rfl, (by show 3 ≤ sizeLine; decide), fun p np => ?_⟩
    exact q _ p (.node false [t2, t3]) (new bx3 np) (.node (cs := [p2, p3]) (by rw [upd_same]; rfl) rfl fun i t c e1 e2 => kids i t c e1 e2 _ (same_new np _)) (.two lv2 lv3)
  rw [decide_eq_false g6]
  refine iteF (iteF ⟨_, rfl, rfl, _, rfl, ?_⟩)
  rw [int_eq]
  by_cases g7 : r = 7
  · rw [decide_eq_true g7]
    refine iteT ⟨_, rfl, _, rfl, _, rfl, _, rfl, b, a, _, rfl, bx3.box, hne, seqL_upd bx3 hne hS, by rw [lm]; omega, by rw [lm]; omega, fun x d' t' c' hx => ⟨(by show 2 ≤ sizeLine; decide), fun p4 np4 => ⟨(by show 4 ≤ sizeLine; decide), fun p np => ?_⟩⟩⟩
    obtain ⟨s0, hs0, rfl⟩ := name_in x hx
    have bxd := bx3.trans (Bx.draw (d := d') (s := t') (c := c'))
    have e4 := same_new np (.tup [.str (cName true), .ref p2, .ref p3, .ref p4]) p4 _ (upd_same (o := .tup [.str "name", tv s0]))
    refine q _ p (.node true [t2, t3, .nam s0]) (new (new bxd np4) np) (.node (cs := [p2, p3, p4]) (by rw [upd_same]; rfl) rfl fun i t c e1 e2 => ?_) (.three lv2 lv3 hs0)
    have up : ∀ {t : T} {c : Addr}, TreeAt H3 t c → TreeAt _ t c := fun h => ((h.bx (Bx.draw (d := d') (s := t') (c := c')) bx3.box).same (same_new np4 (.tup [.str "name", tv s0]))).same (same_new np (.tup [.str "max", .ref p2, .ref p3, .ref p4]))
    match i with
    | 0 => cases e1; cases e2; exact up ht2'
    | 1 => cases e1; cases e2; exact up ht3
    | 2 => cases e1; cases e2; exact .nam e4
    | i + 3 => cases e1
  rw [decide_eq_false g7]
  refine iteF ?_
  refine ⟨_, rfl, _, rfl, (by show 3 ≤ sizeLine; decide), fun p np => ?_⟩
  exact q _ p (.node true [t2, t3]) (new bx3 np) (.node (cs := [p2, p3]) (by rw [upd_same]; rfl) rfl fun i t c e1 e2 => kids i t c e1 e2 _ (same_new np _)) (.two lv2 lv3)
end
end Pg
/-! Lw3 -/
set_option Elab.async false
set_option linter.all false
set_option maxRecDepth 100000
set_option maxHeartbeats 4000000
namespace Pg
open PySem L2 Mr
theorem call_str_any {X : Cx} : CallR X (.type "str") (fun xs H Q => (∃ i, xs = [.int i] ∧ i.natAbs.log2 < 1920 ∧ Q (.str (toString i : String)) H) ∨ ∃ a, xs = [.str a] ∧ Q (.str a) H) := by
  intro pins s σ H vs us Q I r h
  rcases h with h | h
  · exact call_str_int pins s σ H vs us Q I r h
  · exact SkE.call_str_str pins s σ H vs us Q I r h
theorem S_D (k : Nat) : ((toString (k : Int) : String) : Str) = S (D k) := (S_of _).symm
theorem log_small {k : Nat} (h : k < 100) : ((k : Int)).natAbs.log2 < 1920 := by
  have e : ((k : Int)).natAbs = k := Int.natAbs_natCast k
  rw [e]
  have : k.log2 ≤ k := by
    rcases Nat.eq_zero_or_pos k with h | h
    · rw [h]; decide
    · exact Nat.le_of_lt (Nat.log2_lt (by omega) |>.mpr (Nat.lt_two_pow_self))
  omega
theorem S_app (a b : Cs) : S a ++ S b = S (a ++ b) := by
  apply TL.ext_tl
  rw [TL.tl_append]
  rfl
end Pg
namespace Mr
def T.kids : T → List T
  | .num _ => []
  | .nam _ => []
  | .plus t _ => [t]
  | .node _ ts => ts
end Mr
namespace Pg
open PySem L2 Mr
theorem ifF (b : Bool) : (if false = true then !b else b) = b := rfl
theorem eq_self (v : V) : decide (v = v) = true := decide_eq_true rfl
/-- not deeper than n, not too wide -/
inductive Dp : Nat → T → Prop where
  | num {n k : Nat} : Dp n (.num k)
  | nam {n : Nat} {s : Cs} : Dp n (.nam s)
  | plus {n k : Nat} {t : T} (r : Dp n t) : Dp (n + 1) (.plus t k)
  | node {n : Nat} {b : Bool} {ts : List T} (l : ts.length ≤ 20) (r : ∀ t ∈ ts, Dp n t) : Dp (n + 1) (.node b ts)
/-- the trees ts stand at cs -/
def KidsAt (H : Hp) (ts : List T) (cs : List Addr) : Prop := ts.length = cs.length ∧ ∀ (i : Nat) t c, ts[i]? = some t → cs[i]? = some c → TreeAt H t c
theorem KidsAt.same {H H' : Hp} {ts : List T} {cs : List Addr} (h : KidsAt H ts cs) (s : Same H H') : KidsAt H' ts cs := ⟨h.1, fun i t c e1 e2 => (h.2 i t c e1 e2).same s⟩
theorem KidsAt.at {H : Hp} {ts : List T} {cs : List Addr} (h : KidsAt H ts cs) {i : Nat} {x : V} (e : (cs.map V.ref)[i]? = some x) : ∃ t c, ts[i]? = some t ∧ t ∈ ts ∧ x = .ref c ∧ TreeAt H t c := by
  rw [List.getElem?_map] at e
  cases q : cs[i]? with
  | none => rw [q] at e; cases e
  | some c =>
    rw [q] at e
    have lt : i < ts.length := by rw [h.1]; exact (List.getElem?_eq_some_iff.mp q).1
    exact ⟨ts[i], c, List.getElem?_eq_getElem lt, List.getElem_mem lt, (Option.some.inj e).symm, h.2 i _ c (List.getElem?_eq_getElem lt) q⟩
theorem in_leaf : (∀ k : Str, k ∈ [("number" : Str), "name"] → inV (.str k) [.str "number", .str "name"] = true) ∧ ∀ k : Str, k ∈ [("plus" : Str), "max", "imax"] → inV (.str k) [.str "number", .str "name"] = false := by decide +kernel
theorem is_plus : (∀ k : Str, k ∈ [("number" : Str), "name", "max", "imax"] → decide (V.str k = V.str ("plus" : Str)) = false) ∧ (∀ k : Str, k ∈ [("number" : Str), "plus", "max", "imax"] → decide (V.str k = V.str ("name" : Str)) = false) ∧
  (∀ k : Str, k ∈ [("name" : Str), "plus", "max", "imax"] → decide (V.str k = V.str ("number" : Str)) = false) ∧ (∀ k : Str, k ∈ [("number" : Str), "name", "plus"] → decide (V.str k = V.str ("imax" : Str)) = false) := by decide +kernel
theorem cut_tl (x : V) (xs : List V) : cutV (x :: xs) (some 1) none = xs ∧ ¬ (HT.sIx (x :: xs).length 0 (some 1) = 0 ∧ HT.sIx (x :: xs).length (x :: xs).length none = (x :: xs).length) := by
  have e : HT.sIx (x :: xs).length 0 (some 1) = 1 := by
    rw [show (1 : Int) = ((1 : Nat) : Int) from rfl, HT.sIx_nat, List.length_cons]
    omega
  refine ⟨?_, fun h => by rw [e] at h; exact absurd h.1 (by decide)⟩
  unfold cutV
  rw [e, HT.sIx_none]
  simp
theorem cut_12 (x y z : V) : ¬ (HT.sIx [x, y, z].length 0 (some 1) = 0 ∧ HT.sIx [x, y, z].length [x, y, z].length (some 2) = [x, y, z].length) := by
  show ¬ (HT.sIx 3 0 (some 1) = 0 ∧ HT.sIx 3 3 (some 2) = 3)
  decide
theorem at_hd (x : V) (xs : List V) : atI (x :: xs) 0 = some x := atI_nat (xs := x :: xs) (j := 0) rfl
section
variable {P : Program} {w : World} {K : PySem.W.Frag} {mg : Str → Option Value} {base : Heap} {pS pC : Addr}
/-! ### _law_parts -/
def spParts : Sp := fun vs H Q _ => ∃ (a : Addr) (t : T), vs = [.ref a] ∧ TreeAt H t a ∧ ∀ H' p cs, Same H H' → H p = none → H' p = some (.lst (cs.map V.ref)) → KidsAt H t.kids cs → Q (.ref p) H'
theorem sc_parts : FnScope ["_law_told"] ["_law_told"] (defScope st__law_parts) := ⟨rfl, rfl, rfl, by decide +kernel, rfl, by decide +kernel, by decide +kernel⟩
theorem ok_parts {f : Addr} {fd : FuncData} (F : Fun K "_law_parts" "_law_parts" st__law_parts f fd) (L : Lx mg) : FnOk P w K mg base CX0 1 f fd ["_law_told"] spParts := by
  refine F.ok sc_parts (fun vs H Q E h => ?_) (fun cdv A outer s H vs Q E hr h => ?_)
  · obtain ⟨a, t, rfl, _⟩ := h
    rfl
  obtain ⟨a, t, rfl, ht, q⟩ := h
  have nd := sc_parts.nd
  refine ⟨_, (pss_cons (ps_if (pt_cmpR op_in_seq (pe_ix ix_tup (pv 0) pe_int (fun _ _ => rfl)) (pe_tup (pa_cons pe_str (pa_cons pe_str pa_nil))) rfl) (pss_one (ps_ret (pe_lst pa_nil))) pss_nil)
      (pss_one (ps_ret (pe_ifExp (pt_cmpR op_eq (pe_ix ix_tup (pv 0) pe_int (fun _ _ => rfl)) pe_str (nomark _)) (pe_callTy call_list_of (by rfl) L.list (by decide +kernel) (pa_cons (pe_slice sl_tup (pv 0) (po_some pe_int) (po_some pe_int)) pa_nil)) (pe_callTy call_list_of (by rfl) L.list (by decide +kernel) (pa_cons (pe_slice sl_tup (pv 0) (po_some pe_int) po_none) pa_nil)))))), ?_⟩
  have none_ : ∀ H1, Same H H1 → KidsAt H t.kids [] → ∀ p, H1 p = none → Q (.ref p) (upd H1 p (.lst [])) := fun H1 s1 hk p np => q _ p [] (s1.trans (same_new np _)) (s1.free np) upd_same hk
  cases ht with
  | num h =>
    refine ⟨_, rfl, a, _, _, _, rfl, rfl, SqT.of h, rfl, (by show 2 ≤ sizeLine; decide), fun p1 n1 => ⟨p1, _, rfl, .inr (SqT.of upd_same), rfl, rfl, _, rfl, ?_⟩⟩
    rw [ifF, in_leaf.1 _ (by decide +kernel)]
    exact iteT ⟨Nat.zero_le _, fun p np => none_ _ (same_new n1 _) ⟨rfl, fun i t c e => by cases e⟩ p np⟩
  | nam h =>
    refine ⟨_, rfl, a, _, _, _, rfl, rfl, SqT.of h, rfl, (by show 2 ≤ sizeLine; decide), fun p1 n1 => ⟨p1, _, rfl, .inr (SqT.of upd_same), rfl, rfl, _, rfl, ?_⟩⟩
    rw [ifF, in_leaf.1 _ (by decide +kernel)]
    exact iteT ⟨Nat.zero_le _, fun p np => none_ _ (same_new n1 _) ⟨rfl, fun i t c e => by cases e⟩ p np⟩
  | @plus a c t k h r =>
    refine ⟨_, rfl, a, _, _, _, rfl, rfl, SqT.of h, rfl, (by show 2 ≤ sizeLine; decide), fun p1 n1 => ⟨p1, _, rfl, .inr (SqT.of upd_same), rfl, rfl, _, rfl, ?_⟩⟩
    rw [ifF, in_leaf.2 _ (by decide +kernel)]
    have h1 := same_new n1 (.tup [.str "number", .str "name"]) a _ h
    refine iteF ⟨_, rfl, a, _, _, _, rfl, rfl, SqT.of h1, rfl, rfl, _, rfl, ?_⟩
    rw [eq_self]
    refine iteT ⟨_, rfl, _, rfl, _, rfl, a, _, rfl, SqT.of h1, cut_12 _ _ _, fun p2 n2 => ⟨p2, _, rfl, .inr (SqT.of upd_same), fun p np => ?_⟩⟩
    have s2 := (same_new n1 (.tup [.str "number", .str "name"])).trans (same_new n2 (.tup [.ref c]))
    refine q _ p [c] (s2.trans (same_new np _)) (s2.free np) upd_same ⟨rfl, fun i t' c' e1 e2 => ?_⟩
    match i with
    | 0 => cases e1; cases e2; exact r
    | i + 1 => cases e1
  | @node a b ts cs h l r =>
    refine ⟨_, rfl, a, _, _, _, rfl, rfl, SqT.of h, at_hd _ _, (by show 2 ≤ sizeLine; decide), fun p1 n1 => ⟨p1, _, rfl, .inr (SqT.of upd_same), rfl, rfl, _, rfl, ?_⟩⟩
    rw [ifF, in_leaf.2 _ (by cases b <;> decide +kernel)]
    have h1 := same_new n1 (.tup [.str "number", .str "name"]) a _ h
    refine iteF ⟨_, rfl, a, _, _, _, rfl, rfl, SqT.of h1, at_hd _ _, rfl, _, rfl, ?_⟩
    rw [is_plus.1 _ (by cases b <;> decide +kernel)]
    refine iteF ⟨_, rfl, _, rfl, a, _, rfl, SqT.of h1, (cut_tl _ _).2, fun p2 n2 => ⟨p2, _, rfl, .inr (SqT.of upd_same), fun p np => ?_⟩⟩
    rw [(cut_tl _ _).1] at np ⊢
    have s2 := (same_new n1 (.tup [.str "number", .str "name"])).trans (same_new n2 (.tup (cs.map V.ref)))
    exact q _ p cs (s2.trans (same_new np _)) (s2.free np) upd_same ⟨l, r⟩
end
end Pg
/-! Lw4 -/
set_option Elab.async false
set_option linter.all false
set_option maxRecDepth 100000
set_option maxHeartbeats 4000000
namespace Mr
open PySem
theorem T.text_plus (t : T) (k : Nat) : (T.plus t k).text = t.text ++ cPlus ++ D k := by
  unfold T.text
  rw [T.tok, List.flatten_append]
  simp
theorem joinL_glue : ∀ l : List (List Cs), TL.joinL cSep (l.map List.flatten) = (glue l).flatten
  | [] => rfl
  | [a] => by
    show TL.joinL cSep [a.flatten] = a.flatten
    simp [TL.joinL]
  | a :: b :: r => by
    have ih := joinL_glue (b :: r)
    show a.flatten ++ (cSep ++ TL.joinL cSep ((b :: r).map List.flatten)) = (a ++ cSep :: glue (b :: r)).flatten
    rw [ih, List.flatten_append, List.flatten_cons]
theorem T.text_node (b : Bool) (ts : List T) : (T.node b ts).text = opn b ++ TL.joinL cSep (ts.map T.text) ++ cEnd := by
  have e := joinL_glue (ts.map fun t => t.tok)
  rw [List.map_map] at e
  have e' : TL.joinL cSep (ts.map T.text) = (glue (ts.map fun t => t.tok)).flatten := e
  rw [e']
  unfold T.text
  rw [T.tok, List.flatten_cons, List.flatten_append]
  simp
theorem joinL_len (sep : Cs) : ∀ (l : List Cs) (t : Cs), t ∈ l → t.length ≤ (TL.joinL sep l).length
  | [], t, h => absurd h List.not_mem_nil
  | [a], t, h => by
    rcases List.mem_singleton.mp h with rfl
    simp [TL.joinL]
  | a :: b :: r, t, h => by
    show t.length ≤ (a ++ (sep ++ TL.joinL sep (b :: r))).length
    rw [List.length_append, List.length_append]
    rcases List.mem_cons.mp h with rfl | h
    · omega
    · have := joinL_len sep (b :: r) t h
      omega
end Mr
namespace Pg
open PySem L2 Mr
theorem tv_S (a : Cs) : tv a = .str (S a) := rfl
theorem join_sep (l : List Cs) : Txt.join (", " : Str) (l.map S) = S (TL.joinL cSep l) := by
  have e0 : S cSep = (", " : Str) := by decide +kernel
  rw [TL.join_eq]
  apply TL.ext_tl
  rw [TL.tl_join, ← e0, List.map_map]
  show TL.joinL cSep (l.map fun t => t) = _
  rw [List.map_id']
  rfl
theorem open_S (b : Bool) : cName b ++ ("(" : Str) = S (opn b) := by cases b <;> decide +kernel
theorem plus_S : (" + " : Str) = S cPlus := by decide +kernel
theorem end_S : (")" : Str) = S cEnd := by decide +kernel
theorem opn_len (b : Bool) : (opn b).length ≤ 5 := by cases b <;> decide
section
variable {P : Program} {w : World} {K : PySem.W.Frag} {mg : Str → Option Value} {base : Heap} {pS pC : Addr}
/-! ### _law_text -/
def spText (n : Nat) : Sp := fun vs H Q _ => ∃ (a : Addr) (t : T) (m : Nat), vs = [.ref a] ∧ TreeAt H t a ∧ m < n ∧ Dp m t ∧ t.ok ∧ t.text.length ≤ 100000 ∧ ∀ H', Same H H' → Q (tv t.text) H'
theorem sc_text : FnScope ["_law_told", "_law_part"] ["_law_told"] (defScope st__law_text) := ⟨rfl, rfl, rfl, by decide +kernel, rfl, by decide +kernel, by decide +kernel⟩
theorem ok_text1 {n : Nat} {f : Addr} {fd : FuncData} (F : Fun K "_law_text" "_law_text" st__law_text f fd) (L : Lx mg) (c_text : CalX P w K mg base (n + 1) "_law_text" (spText n)) :
    FnOk P w K mg base CX0 (n + 2) f fd ["_law_told"] (spText (n + 1)) := by
  refine F.ok sc_text (fun vs H Q E h => ?_) (fun cdv A outer s H vs Q E hr h => ?_)
  · obtain ⟨a, t, m, rfl, _⟩ := h
    rfl
  obtain ⟨a, t, m, rfl, ht, hm, hd, hk, hlen, q⟩ := h
  have nd := sc_text.nd
  refine ⟨_, (pss_cons (ps_if (pt_cmpR op_in_seq (pe_ix ix_tup (pv 0) pe_int (fun _ _ => rfl)) (pe_tup (pa_cons pe_str (pa_cons pe_str pa_nil))) rfl) (pss_one (ps_ret (pe_callTy call_str_any (by rfl) L.str (by decide +kernel) (pa_cons (pe_ix ix_tup (pv 0) pe_int (fun _ _ => rfl)) pa_nil)))) pss_nil)
      (pss_cons (ps_if (pt_cmpR op_eq (pe_ix ix_tup (pv 0) pe_int (fun _ _ => rfl)) pe_str (nomark _)) (pss_one (ps_ret (pe_op op_add_str (pe_op op_add_str (C8.pe_c c_text hr (by omega) rfl (pa_cons (pe_ix ix_tup (pv 0) pe_int (fun _ _ => rfl)) pa_nil)) pe_str) (pe_callTy call_str_int (by rfl) L.str (by decide +kernel) (pa_cons (pe_ix ix_tup (pv 0) pe_int (fun _ _ => rfl)) pa_nil))))) pss_nil)
      (pss_one (ps_ret (pe_op op_add_str (pe_op op_add_str (pe_op op_add_str (pe_ix ix_tup (pv 0) pe_int (fun _ _ => rfl)) pe_str) (pe_join pe_str (pe_lc (own := [("_law_part", 1)]) (g := gName 1) (tt := tYes) rfl nd (pi_tup (pe_slice sl_tup (pv 0) (po_some pe_int) po_none)) (blkOk_by (N := ["_law_told", "_law_part"]) (sc := defScope st__law_text) (by decide +kernel)) (fun _ _ _ _ _ => (pg_name (i := 1) nd rfl (Or.inl rfl))) (fun _ _ _ _ _ => pts_nil) (fun _ _ _ _ _ => (C8.pe_c c_text hr (by omega) rfl (pa_cons (pv 1) pa_nil)))))) pe_str))))), ?_⟩
  cases ht with
  | @num a k h =>
    rw [T.ok] at hk
    refine ⟨_, rfl, a, _, _, _, rfl, rfl, SqT.of h, rfl, (by show 2 ≤ sizeLine; decide), fun p1 n1 => ⟨p1, _, rfl, .inr (SqT.of upd_same), rfl, rfl, _, rfl, ?_⟩⟩
    rw [ifF, in_leaf.1 _ (by decide +kernel)]
    have s1 : Same H (upd H p1 (.tup [.str "number", .str "name"])) := same_new n1 _
    have h1 := s1 a _ h
    refine iteT ⟨_, rfl, a, _, _, _, rfl, rfl, SqT.of h1, rfl, .inl ⟨_, rfl, log_small hk, ?_⟩⟩
    have e := q _ s1
    rw [tv_S, show (T.num k).text = D k by simp [T.text, T.tok], ← S_D] at e
    exact e
  | @nam a s0 h =>
    refine ⟨_, rfl, a, _, _, _, rfl, rfl, SqT.of h, rfl, (by show 2 ≤ sizeLine; decide), fun p1 n1 => ⟨p1, _, rfl, .inr (SqT.of upd_same), rfl, rfl, _, rfl, ?_⟩⟩
    rw [ifF, in_leaf.1 _ (by decide +kernel)]
    have s1 : Same H (upd H p1 (.tup [.str "number", .str "name"])) := same_new n1 _
    have h1 := s1 a _ h
    refine iteT ⟨_, rfl, a, _, _, _, rfl, rfl, SqT.of h1, rfl, .inr ⟨_, rfl, ?_⟩⟩
    have e := q _ s1
    rw [show (T.nam s0).text = s0 by simp [T.text, T.tok]] at e
    exact e
  | @plus a c t k h r =>
    rw [T.ok] at hk
    rw [T.text_plus, List.length_append, List.length_append] at hlen
    rw [T.text_plus] at q
    cases hd with
    | @plus m _ _ hd =>
    refine ⟨_, rfl, a, _, _, _, rfl, rfl, SqT.of h, rfl, (by show 2 ≤ sizeLine; decide), fun p1 n1 => ⟨p1, _, rfl, .inr (SqT.of upd_same), rfl, rfl, _, rfl, ?_⟩⟩
    rw [ifF, in_leaf.2 _ (by decide +kernel)]
    have s1 : Same H (upd H p1 (.tup [.str "number", .str "name"])) := same_new n1 _
    have h1 := s1 a _ h
    refine iteF ⟨_, rfl, a, _, _, _, rfl, rfl, SqT.of h1, rfl, rfl, _, rfl, ?_⟩
    rw [eq_self]
    refine iteT ⟨_, rfl, a, _, _, _, rfl, rfl, SqT.of h1, rfl, c, t, m, rfl, r.same s1, by omega, hd, hk.1, by omega, fun H2 s2 => ?_⟩
    have h2 := s2 a _ h1
    refine ⟨_, _, rfl, rfl, ?_, _, rfl, a, _, _, _, rfl, rfl, SqT.of h2, rfl, _, rfl, log_small hk.2, _, _, rfl, rfl, ?_, ?_⟩
    · rw [len_S]
      have : (" + " : Str).length = 3 := by decide +kernel
      rw [this]
      have : (100000 : Nat) + 3 ≤ sizeLine := by decide
      omega
    · rw [plus_S, S_D, S_app, len_S, len_S, List.length_append]
      have : (100000 : Nat) ≤ sizeLine := by decide
      omega
    · have e := q _ (s1.trans s2)
      rw [plus_S, S_D, S_app, S_app]
      exact e
  | @node a b ts cs h l r =>
    rw [T.ok] at hk
    rw [T.text_node, List.length_append, List.length_append] at hlen
    rw [T.text_node] at q
    cases hd with
    | @node m _ _ hl20 hd =>
    refine ⟨_, rfl, a, _, _, _, rfl, rfl, SqT.of h, at_hd _ _, (by show 2 ≤ sizeLine; decide), fun p1 n1 => ⟨p1, _, rfl, .inr (SqT.of upd_same), rfl, rfl, _, rfl, ?_⟩⟩
    rw [ifF, in_leaf.2 _ (by cases b <;> decide +kernel)]
    have s1 : Same H (upd H p1 (.tup [.str "number", .str "name"])) := same_new n1 _
    have h1 := s1 a _ h
    refine iteF ⟨_, rfl, a, _, _, _, rfl, rfl, SqT.of h1, at_hd _ _, rfl, _, rfl, ?_⟩
    rw [is_plus.1 _ (by cases b <;> decide +kernel)]
    refine iteF ⟨_, rfl, a, _, _, _, rfl, rfl, SqT.of h1, at_hd _ _, _, _, rfl, rfl, (by cases b <;> decide +kernel), ?_⟩
    refine ⟨⟨_, rfl⟩, _, rfl, _, rfl, a, _, rfl, SqT.of h1, (cut_tl _ _).2, fun p2 n2 => ?_⟩
    rw [(cut_tl _ _).1] at *
    have s2 := s1.trans (same_new n2 (.tup (cs.map V.ref)))
    have hp2 : upd (upd H p1 (.tup [.str "number", .str "name"])) p2 (.tup (cs.map V.ref)) p2 = some (.tup (cs.map V.ref)) := upd_same
    generalize upd (upd H p1 (.tup [.str "number", .str "name"])) p2 (.tup (cs.map V.ref)) = H2 at s2 hp2
    have ka : KidsAt H2 ts cs := KidsAt.same ⟨l, r⟩ s2
    refine ⟨p2, rfl, ⟨_, SqT.of hp2⟩, fun D nD => lc_tup (K := K) (a := p2) (xs := cs.map V.ref) (fun i H' => Same H2 H' ∧ H' D = some (.lst ((ts.take i).map fun t => tv t.text))) ⟨same_new nD _, upd_same⟩ (fun i H' _ p => SqT.of (p.1 _ _ hp2)) ?kid ?fin⟩
    case kid =>
      rintro i x H3 hi ⟨s3, hD⟩
      obtain ⟨t, c, ht, htm, rfl, hta⟩ := ka.at hi
      have tl := joinL_len cSep _ _ (List.mem_map_of_mem (f := T.text) htm)
      refine ⟨rfl, ⟨_, rfl, c, t, m, rfl, hta.same s3, by omega, hd t htm, hk.2 t htm, by omega, fun H4 s4 => ⟨_, s4 _ _ hD, big (by rw [List.length_map, List.length_take]; omega), same_mut (s3.trans s4) nD, ?_⟩⟩⟩
      rw [upd_same, List.take_succ, ht, List.map_append]
      rfl
    case fin =>
      rintro H3 ⟨s3, hD⟩
      rw [List.length_map, ← l, List.take_length] at hD
      have sum_le : ∀ l : List T, (∀ t ∈ l, t.text.length ≤ 100000) → ((l.map fun t => S t.text).map (·.length)).sum ≤ l.length * 100000 := fun l => by
        induction l with
        | nil => intro _; exact Nat.le_refl _
        | cons a l ih =>
          intro h
          have i1 := ih fun t ht => h t (List.mem_cons_of_mem _ ht)
          have i2 := h a List.mem_cons_self
          rw [List.map_cons, List.map_cons, List.sum_cons, List.length_cons, len_S]
          omega
      have sl := sum_le ts fun t ht => by
        have tl := joinL_len cSep _ _ (List.mem_map_of_mem (f := T.text) ht)
        omega
      have e2 : (", " : Str).length = 2 := by decide +kernel
      refine ⟨_, D, ts.map fun t => S t.text, rfl, rfl, .inl (SqL.of (by rw [hD, List.map_map]; rfl)), ?_, ?_⟩
      · rw [e2, List.length_map]
        omega
      · have ej : Txt.join (", " : Str) (ts.map fun t => S t.text) = S (TL.joinL cSep (ts.map T.text)) := by
          rw [← join_sep, List.map_map]
          rfl
        rw [ej, open_S]
        have m5 : (100000 : Nat) ≤ sizeLine := by decide
        refine ⟨_, _, rfl, rfl, ?_, ?_⟩
        · rw [len_S, len_S]; omega
        rw [S_app]
        refine ⟨_, _, rfl, rfl, ?_, ?_⟩
        · rw [end_S, len_S, len_S, List.length_append]; omega
        · have e := q _ (s2.trans s3)
          rw [end_S, S_app]
          exact e
end
end Pg
/-! Lw5 -/
set_option Elab.async false
set_option linter.all false
set_option maxRecDepth 100000
set_option maxHeartbeats 4000000
namespace Mr
open PySem
/-- levels in the place of names -/
def T.sub (σ : Cs → Option T) : T → T
  | .num k => .num k
  | .nam s => (σ s).getD (.nam s)
  | .plus t k => .plus (t.sub σ) k
  | .node b ts => .node b (ts.map fun t => t.sub σ)
end Mr
namespace Pg
open PySem L2 Mr
theorem is_name_no : (∀ k : Str, k ∈ [("number" : Str), "plus", "max", "imax"] → decide (V.str k = V.str ("name" : Str)) = false) ∧ (∀ k : Str, k ∈ [("name" : Str), "plus", "max", "imax"] → decide (V.str k = V.str ("number" : Str)) = false) := ⟨is_plus.2.1, is_plus.2.2.1⟩
/-- the dict at d has the trees of σ -/
def OthAt (H : Hp) (kvs : List (Key × V)) (sb : Cs → Option T) : Prop := ∀ s, (sb s = none ∧ valV kvs (Sum.inr (S s)) = none) ∨ ∃ u c, sb s = some u ∧ valV kvs (Sum.inr (S s)) = some (.ref c) ∧ TreeAt H u c
theorem OthAt.same {H H' : Hp} {kvs : List (Key × V)} {sb : Cs → Option T} (h : OthAt H kvs sb) (s : Same H H') : OthAt H' kvs sb := fun x => by
  rcases h x with g | ⟨u, c, g1, g2, g3⟩
  · exact .inl g
  · exact .inr ⟨u, c, g1, g2, g3.same s⟩
theorem KidsAt.mut {H : Hp} {ts : List T} {cs : List Addr} {D : Addr} {l : List V} {o : HO} (h : KidsAt H ts cs) (e : H D = some (.lst l)) : KidsAt (upd H D o) ts cs :=
  ⟨h.1, fun i t c e1 e2 => (h.2 i t c e1 e2).mono fun a xs g => by rw [upd_ne (fun z => by rw [z, e] at g; cases g)]; exact g⟩
theorem KidsAt.push {H : Hp} {ts : List T} {cs : List Addr} {t : T} {c : Addr} (h : KidsAt H ts cs) (g : TreeAt H t c) : KidsAt H (ts ++ [t]) (cs ++ [c]) := by
  refine ⟨by rw [List.length_append, List.length_append, h.1]; rfl, fun i t' c' e1 e2 => ?_⟩
  by_cases lt : i < ts.length
  · rw [List.getElem?_append_left lt] at e1
    rw [List.getElem?_append_left (h.1 ▸ lt)] at e2
    exact h.2 i t' c' e1 e2
  · have hl := h.1
    rw [List.getElem?_append_right (by omega)] at e1 e2
    rw [← hl] at e2
    match hh : i - ts.length with
    | 0 => rw [hh] at e1 e2; cases e1; cases e2; exact g
    | j + 1 => rw [hh] at e1; cases e1
section
variable {P : Program} {w : World} {K : PySem.W.Frag} {mg : Str → Option Value} {base : Heap} {pS pC : Addr}
/-! ### _law_with -/
def spWith (n : Nat) : Sp := fun vs H Q _ => ∃ (a d : Addr) (t : T) (m : Nat) (kvs : List (Key × V)) (sb : Cs → Option T), vs = [.ref a, .ref d] ∧ TreeAt H t a ∧ m < n ∧ Dp m t ∧ H d = some (.dK kvs) ∧ OthAt H kvs sb ∧ ∀ H' p, Same H H' → TreeAt H' (t.sub sb) p → Q (.ref p) H'
theorem sc_with : FnScope ["_law_told", "_law_others", "_law_part"] ["_law_told", "_law_others"] (defScope st__law_with) := ⟨rfl, rfl, rfl, by decide +kernel, rfl, by decide +kernel, by decide +kernel⟩
theorem ok_with1 {n : Nat} {f : Addr} {fd : FuncData} (F : Fun K "_law_with" "_law_with" st__law_with f fd) (L : Lx mg) (c_with : CalX P w K mg base (n + 1) "_law_with" (spWith n)) :
    FnOk P w K mg base CX0 (n + 2) f fd ["_law_told", "_law_others"] (spWith (n + 1)) := by
  refine F.ok sc_with (fun vs H Q E h => ?_) (fun cdv A outer s H vs Q E hr h => ?_)
  · obtain ⟨a, d, t, m, kvs, sb, rfl, _⟩ := h
    rfl
  obtain ⟨a, d, t, m, kvs, sb, rfl, ht, hm, hdp, hd, ho, q⟩ := h
  have nd := sc_with.nd
  have hu := hu_of hr
  refine ⟨_, (pss_cons (ps_if (pt_cmpR op_eq (pe_ix ix_tup (pv 0) pe_int (fun _ _ => rfl)) pe_str (nomark _)) (pss_one (ps_ret (pe_dget2 hu (pv 1) (pe_ix ix_tup (pv 0) pe_int (fun _ _ => rfl)) (pv 0) ⟨rfl, rfl, rfl, rfl⟩))) pss_nil)
      (pss_cons (ps_if (pt_cmpR op_eq (pe_ix ix_tup (pv 0) pe_int (fun _ _ => rfl)) pe_str (nomark _)) (pss_one (ps_ret (pv 0))) pss_nil)
      (pss_cons (ps_if (pt_cmpR op_eq (pe_ix ix_tup (pv 0) pe_int (fun _ _ => rfl)) pe_str (nomark _)) (pss_one (ps_ret (pe_tup (pa_cons pe_str (pa_cons (C8.pe_c c_with hr (by omega) rfl (pa_cons (pe_ix ix_tup (pv 0) pe_int (fun _ _ => rfl)) (pa_cons (pv 1) pa_nil))) (pa_cons (pe_ix ix_tup (pv 0) pe_int (fun _ _ => rfl)) pa_nil)))))) pss_nil)
      (pss_one (ps_ret (pe_op op_catT (pe_tup (pa_cons (pe_ix ix_tup (pv 0) pe_int (fun _ _ => rfl)) pa_nil)) (pe_callTy call_tuple_of (by rfl) L.tup (by decide +kernel) (pa_cons (pe_lc (own := [("_law_part", 2)]) (g := gName 2) (tt := tYes) rfl nd (pi_tup (pe_slice sl_tup (pv 0) (po_some pe_int) po_none)) (blkOk_by (N := ["_law_told", "_law_others", "_law_part"]) (sc := defScope st__law_with) (by decide +kernel)) (fun _ _ _ _ _ => (pg_name (i := 2) nd rfl (Or.inl rfl))) (fun _ _ _ _ _ => pts_nil) (fun _ _ _ _ _ => (C8.pe_c c_with hr (by omega) rfl (pa_cons (pv 2) (pa_cons (pv 1) pa_nil))))) pa_nil)))))))), ?_⟩
  cases ht with
  | @num a k h =>
    refine ⟨_, rfl, a, _, _, _, rfl, rfl, SqT.of h, rfl, rfl, _, rfl, ?_⟩
    rw [is_name_no.1 _ (by decide +kernel)]
    refine iteF ⟨_, rfl, a, _, _, _, rfl, rfl, SqT.of h, rfl, rfl, _, rfl, ?_⟩
    rw [eq_self]
    exact iteT ⟨_, rfl, q H a (fun _ _ e => e) (by rw [T.sub]; exact .num h)⟩
  | @nam a s0 h =>
    refine ⟨_, rfl, a, _, _, _, rfl, rfl, SqT.of h, rfl, rfl, _, rfl, ?_⟩
    rw [eq_self]
    refine iteT ⟨_, rfl, d, rfl, .inl ⟨kvs, .inl hd⟩, _, rfl, a, _, _, _, rfl, rfl, SqT.of h, rfl, _, rfl, _, DGet.k (k := Sum.inr (S s0)) hd, ?_⟩
    rcases ho s0 with ⟨g1, g2⟩ | ⟨u, c, g1, g2, g3⟩
    · rw [g2]
      refine q H a (fun _ _ e => e) ?_
      rw [T.sub, g1]
      exact .nam h
    · rw [g2]
      refine q H c (fun _ _ e => e) ?_
      rw [T.sub, g1]
      exact g3
  | @plus a c t k h r =>
    cases hdp with
    | @plus m _ _ hdp =>
    refine ⟨_, rfl, a, _, _, _, rfl, rfl, SqT.of h, rfl, rfl, _, rfl, ?_⟩
    rw [is_name_no.1 _ (by decide +kernel)]
    refine iteF ⟨_, rfl, a, _, _, _, rfl, rfl, SqT.of h, rfl, rfl, _, rfl, ?_⟩
    rw [is_name_no.2 _ (by decide +kernel)]
    refine iteF ⟨_, rfl, a, _, _, _, rfl, rfl, SqT.of h, rfl, rfl, _, rfl, ?_⟩
    rw [eq_self]
    refine iteT ⟨_, rfl, a, _, _, _, rfl, rfl, SqT.of h, rfl, _, rfl, c, d, t, m, kvs, sb, rfl, r, by omega, hdp, hd, ho, fun H2 p2 s2 h2 => ?_⟩
    refine ⟨_, rfl, a, _, _, _, rfl, rfl, SqT.of (s2 _ _ h), rfl, (by show 3 ≤ sizeLine; decide), fun p np => q _ p (s2.trans (same_new np _)) ?_⟩
    rw [T.sub]
    exact .plus upd_same (h2.same (same_new np _))
  | @node a b ts cs h l r =>
    cases hdp with
    | @node m _ _ hl20 hdp =>
    refine ⟨_, rfl, a, _, _, _, rfl, rfl, SqT.of h, at_hd _ _, rfl, _, rfl, ?_⟩
    rw [is_name_no.1 _ (by cases b <;> decide +kernel)]
    refine iteF ⟨_, rfl, a, _, _, _, rfl, rfl, SqT.of h, at_hd _ _, rfl, _, rfl, ?_⟩
    rw [is_name_no.2 _ (by cases b <;> decide +kernel)]
    refine iteF ⟨_, rfl, a, _, _, _, rfl, rfl, SqT.of h, at_hd _ _, rfl, _, rfl, ?_⟩
    rw [is_plus.1 _ (by cases b <;> decide +kernel)]
    refine iteF ⟨_, rfl, a, _, _, _, rfl, rfl, SqT.of h, at_hd _ _, (by show 1 ≤ sizeLine; decide), fun p1 n1 => ?_⟩
    have s1 : Same H (upd H p1 (.tup [.str (cName b)])) := same_new n1 _
    have hp1 : upd H p1 (.tup [.str (cName b)]) p1 = some (.tup [.str (cName b)]) := upd_same
    generalize upd H p1 (.tup [.str (cName b)]) = H1 at s1 hp1
    refine ⟨_, rfl, _, rfl, a, _, rfl, SqT.of (s1 _ _ h), (cut_tl _ _).2, fun p2 n2 => ?_⟩
    rw [(cut_tl _ _).1] at *
    have s2 := s1.trans (same_new n2 (.tup (cs.map V.ref)))
    have hp1' := same_new n2 (.tup (cs.map V.ref)) _ _ hp1
    have hp2 : upd H1 p2 (.tup (cs.map V.ref)) p2 = some (.tup (cs.map V.ref)) := upd_same
    generalize upd H1 p2 (.tup (cs.map V.ref)) = H2 at s2 hp2 hp1'
    have ka : KidsAt H2 ts cs := KidsAt.same ⟨l, r⟩ s2
    refine ⟨p2, rfl, ⟨_, SqT.of hp2⟩, fun D nD => lc_tup (K := K) (a := p2) (xs := cs.map V.ref) (fun i H' => Same H2 H' ∧ ∃ ds : List Addr, H' D = some (.lst (ds.map V.ref)) ∧ KidsAt H' ((ts.take i).map fun t => t.sub sb) ds) ⟨same_new nD _, [], upd_same, rfl, fun i t c e => by cases e⟩ (fun i H' _ p => SqT.of (p.1 _ _ hp2)) ?kid ?fin⟩
    case kid =>
      rintro i x H3 hi ⟨s3, ds, hD, kd⟩
      obtain ⟨t, c, ht, htm, rfl, hta⟩ := ka.at hi
      have ilt := (List.getElem?_eq_some_iff.mp ht).1
      refine ⟨rfl, ⟨_, rfl, _, rfl, c, d, t, m, kvs, sb, rfl, hta.same s3, by omega, hdp t htm, s3 _ _ (s2 _ _ hd), (ho.same s2).same s3, fun H4 p4 s4 h4 => ⟨_, s4 _ _ hD, big (by
        have := kd.1
        rw [List.length_map, List.length_take] at this
        rw [List.length_map]; omega), same_mut (s3.trans s4) nD, ds ++ [p4], ?_, ?_⟩⟩⟩
      · rw [upd_same, List.map_append]
        rfl
      · rw [List.take_succ, ht, List.map_append]
        exact KidsAt.push ((kd.same s4).mut (s4 _ _ hD)) (h4.mono fun a xs g => by rw [upd_ne (fun z => by rw [z, s4 _ _ hD] at g; cases g)]; exact g)
    case fin =>
      rintro H3 ⟨s3, ds, hD, kd⟩
      rw [List.length_map, ← l, List.take_length] at kd
      have kl := kd.1
      rw [List.length_map] at kl
      refine ⟨D, _, rfl, .inl ⟨SqL.of hD, fun p3 n3 => ?_⟩⟩
      have s4 : Same H3 (upd H3 p3 (.tup (ds.map V.ref))) := same_new n3 _
      have hp3 : upd H3 p3 (.tup (ds.map V.ref)) p3 = some (.tup (ds.map V.ref)) := upd_same
      have kd' := kd.same s4
      generalize upd H3 p3 (.tup (ds.map V.ref)) = H4 at s4 hp3 kd'
      have hp14 := s4 _ _ (s3 _ _ hp1')
      refine ⟨p1, p3, _, _, rfl, rfl, SqT.of hp14, SqT.of hp3, by simp, ?_, ?_, ?_⟩
      · rw [List.length_map]
        show 1 + ds.length ≤ sizeLine
        have : (100000 : Nat) ≤ sizeLine := by decide
        omega
      · intro e0
        have e0 : ds = [] := List.map_eq_nil_iff.mp e0
        subst e0
        refine q H4 p1 ((s2.trans s3).trans s4) ?_
        rw [T.sub]
        exact .node (cs := []) hp14 kd'.1 kd'.2
      · intro _ p np
        refine q _ p (((s2.trans s3).trans s4).trans (same_new np _)) ?_
        rw [T.sub]
        have kd2 := kd'.same (same_new np (.tup ([V.str (cName b)] ++ ds.map V.ref)))
        exact .node upd_same kd2.1 kd2.2
end
end Pg
/-! Lw6 -/
set_option Elab.async false
set_option linter.all false
set_option maxRecDepth 100000
set_option maxHeartbeats 4000000
namespace Pg
open PySem L2 Mr
theorem num_name_no : ∀ k : Str, k ∈ [("number" : Str), "plus", "max", "imax"] → decide (V.str k = V.str ("name" : Str)) = false := is_plus.2.1
theorem int_nat (k : Nat) : ((k : Nat) : Int) = (k : Int) := rfl
/-- the dict at d has the numbers of f for the names of t -/
def WAt (H : Hp) (d : Addr) (f : Cs → Int) (t : T) : Prop := ∃ kvs, H d = some (.dK kvs) ∧ ∀ s, Stp.nam s ∈ t.stp → valV kvs (Sum.inr (S s)) = some (.int (f s))
theorem WAt.same {H H' : Hp} {d : Addr} {f : Cs → Int} {t : T} (h : WAt H d f t) (s : Same H H') : WAt H' d f t := let ⟨kvs, h1, h2⟩ := h; ⟨kvs, s _ _ h1, h2⟩
theorem WAt.kid {H : Hp} {d : Addr} {f : Cs → Int} {b : Bool} {ts : List T} {t : T} (h : WAt H d f (.node b ts)) (m : t ∈ ts) : WAt H d f t := let ⟨kvs, h1, h2⟩ := h
  ⟨kvs, h1, fun s hs => h2 s (by rw [T.stp]; exact List.mem_append_left _ (List.mem_flatten.mpr ⟨_, List.mem_map_of_mem m, hs⟩))⟩
section
variable {P : Program} {w : World} {K : PySem.W.Frag} {mg : Str → Option Value} {base : Heap} {pS pC : Addr}
/-! ### _law_worth -/
def spVal (n : Nat) : Sp := fun vs H Q _ => ∃ (a d : Addr) (t : T) (m : Nat) (f : Cs → Int), vs = [.ref a, .ref d] ∧ TreeAt H t a ∧ m < n ∧ Dp m t ∧ t.ok ∧ WAt H d f t ∧ ∀ H', Same H H' → Q (.int (t.val f)) H'
theorem sc_val : FnScope ["_law_told", "_law_numbers_here", "_law_found", "_law_part", "_law_one"] ["_law_told", "_law_numbers_here"] (defScope st__law_worth) := ⟨rfl, rfl, rfl, by decide +kernel, rfl, by decide +kernel, by decide +kernel⟩
theorem ok_val1 {n : Nat} {f0 : Addr} {fd : FuncData} (F : Fun K "_law_worth" "_law_worth" st__law_worth f0 fd) (L : Lx mg) (c_parts : CalX P w K mg base 1 "_law_parts" spParts) (c_worth : CalX P w K mg base (n + 1) "_law_worth" (spVal n)) :
    FnOk P w K mg base CX0 (n + 2) f0 fd ["_law_told", "_law_numbers_here"] (spVal (n + 1)) := by
  refine F.ok sc_val (fun vs H Q E h => ?_) (fun cdv A outer s H vs Q E hr h => ?_)
  · obtain ⟨a, d, t, m, f, rfl, _⟩ := h
    rfl
  obtain ⟨a, d, t, m, f, rfl, ht, hm, hdp, hk, hw, q⟩ := h
  have nd := sc_val.nd
  have hu := hu_of hr
  refine ⟨_, (pss_cons (ps_if (pt_cmpR op_eq (pe_ix ix_tup (pv 0) pe_int (fun _ _ => rfl)) pe_str (nomark _)) (pss_one (ps_ret (pe_ix ix_tup (pv 0) pe_int (fun _ _ => rfl)))) pss_nil)
      (pss_cons (ps_if (pt_cmpR op_eq (pe_ix ix_tup (pv 0) pe_int (fun _ _ => rfl)) pe_str (nomark _)) (pss_one (ps_ret (pe_dget hu (pv 1) (pe_ix ix_tup (pv 0) pe_int (fun _ _ => rfl)) (fun _ _ => rfl)))) pss_nil)
      (pss_cons (ps_setLc (i := 2) (own := [("_law_part", 3)]) (g := gName 3) (tt := tYes) rfl nd rfl rfl (sw_true rfl rfl rfl (by decide +kernel)) (pi_list (C8.pe_c c_parts hr (by omega) rfl (pa_cons (pv 0) pa_nil))) (blkOk_by (N := ["_law_told", "_law_numbers_here", "_law_found", "_law_part", "_law_one"]) (sc := defScope st__law_worth) (by decide +kernel)) (fun _ _ _ _ _ => (pg_name (i := 3) nd rfl (Or.inl rfl))) (fun _ _ _ _ _ => pts_nil) (fun _ _ _ _ _ => (C8.pe_c c_worth hr (by omega) rfl (pa_cons (pv 3) (pa_cons (pv 1) pa_nil)))))
      (pss_cons (ps_if (pt_cmpR op_eq (pe_ix ix_tup (pv 0) pe_int (fun _ _ => rfl)) pe_str (nomark _)) (pss_one (ps_ret (pe_op op_add (pe_ix ix_list (pv 2) pe_int (fun _ _ => rfl)) (pe_ix ix_tup (pv 0) pe_int (fun _ _ => rfl))))) pss_nil)
      (pss_cons (ps_if (PW.pt (pw_and (pt_cmpR op_eq (pe_ix ix_tup (pv 0) pe_int (fun _ _ => rfl)) pe_str (nomark _)) (pw_and1 (pt_cmpR op_eq (pe_ix ix_list (pv 2) pe_int (fun _ _ => rfl)) pe_int (nomark _))))) (pss_one (ps_ret pe_int)) pss_nil)
      (pss_one (ps_ret (pe_callB (cr_max rfl) (by rfl) L.max (by decide +kernel) (pa_cons (pe_lc (own := [("_law_one", 4)]) (g := gName 4) (tt := tYes) rfl nd (pi_list (pv 2)) (blkOk_by (N := ["_law_told", "_law_numbers_here", "_law_found", "_law_part", "_law_one"]) (sc := defScope st__law_worth) (by decide +kernel)) (fun _ _ _ _ _ => (pg_name (i := 4) nd rfl (Or.inl rfl))) (fun _ _ _ _ _ => pts_nil) (fun _ _ _ _ _ => (pe_callTy call_int1 (by rfl) L.int (by decide +kernel) (pa_cons (pv 4) pa_nil)))) pa_nil))))))))), ?_⟩
  cases ht with
  | @num a k h =>
    refine ⟨_, rfl, a, _, _, _, rfl, rfl, SqT.of h, rfl, rfl, _, rfl, ?_⟩
    rw [eq_self]
    exact iteT ⟨_, rfl, a, _, _, _, rfl, rfl, SqT.of h, rfl, by have e := q H (fun _ _ e => e); rw [T.val] at e; exact e⟩
  | @nam a s0 h =>
    refine ⟨_, rfl, a, _, _, _, rfl, rfl, SqT.of h, rfl, rfl, _, rfl, ?_⟩
    rw [is_name_no.2 _ (by decide +kernel)]
    refine iteF ⟨_, rfl, a, _, _, _, rfl, rfl, SqT.of h, rfl, rfl, _, rfl, ?_⟩
    rw [eq_self]
    obtain ⟨kvs, hd, hv⟩ := hw
    have hv := hv s0 (by rw [T.stp]; exact List.mem_singleton.mpr rfl)
    have hg := DGet.k (k := Sum.inr (S s0)) hd
    rw [hv] at hg
    exact iteT ⟨_, rfl, _, rfl, a, _, _, _, rfl, rfl, SqT.of h, rfl, d, _, rfl, hg, by have e := q H (fun _ _ e => e); rw [T.val] at e; exact e⟩
  | @plus a c t k h r =>
    rw [T.ok] at hk
    cases hdp with
    | @plus m _ _ hdp =>
    refine ⟨_, rfl, a, _, _, _, rfl, rfl, SqT.of h, rfl, rfl, _, rfl, ?_⟩
    rw [is_name_no.2 _ (by decide +kernel)]
    refine iteF ⟨_, rfl, a, _, _, _, rfl, rfl, SqT.of h, rfl, rfl, _, rfl, ?_⟩
    rw [is_name_no.1 _ (by decide +kernel)]
    have hl20 : [t].length ≤ 20 := by show 1 ≤ 20; decide
    have kid : ∀ t' ∈ [t], Dp m t' ∧ t'.ok ∧ WAt H d f t' := fun t' h' => by
      rcases List.mem_singleton.mp h' with rfl
      obtain ⟨kvs, w1, w2⟩ := hw
      exact ⟨hdp, hk.1, kvs, w1, fun s hs => w2 s (by rw [T.stp]; exact List.mem_append_left _ hs)⟩
    refine iteF ⟨_, rfl, a, _, rfl, .plus h r, fun H1 p1 cs1 s1 np1 hp1 ka0 => ⟨p1, rfl, ⟨_, SqL.of hp1⟩, fun D nD => lc_list (K := K) (a := p1) (xs := cs1.map V.ref) (fun i H' => Same H1 H' ∧ H' D = some (.lst (([t].take i).map fun t => V.int (t.val f)))) ⟨same_new nD _, upd_same⟩ (fun i H' _ p => SqL.of (p.1 _ _ hp1)) ?kid ?fin⟩⟩
    case kid =>
      have ka : KidsAt H1 [t] cs1 := ka0.same s1
      rintro i x H3 hi ⟨s3, hD⟩
      obtain ⟨t, c, ht, htm, rfl, hta⟩ := ka.at hi
      have ilt := (List.getElem?_eq_some_iff.mp ht).1
      obtain ⟨g1, g2, g3⟩ := kid t htm
      refine ⟨rfl, ⟨_, rfl, _, rfl, c, d, t, m, f, rfl, hta.same s3, by omega, g1, g2, (g3.same s1).same s3, fun H4 s4 => ⟨_, s4 _ _ hD, big (by rw [List.length_map, List.length_take]; omega), same_mut (s3.trans s4) nD, ?_⟩⟩⟩
      rw [upd_same, List.take_succ, ht, List.map_append]
      rfl
    case fin =>
      rintro H3 ⟨s3, hD⟩
      have ka : KidsAt H1 [t] cs1 := ka0.same s1
      rw [List.length_map, ← ka.1, List.take_length] at hD
      refine ⟨_, rfl, a, _, _, _, rfl, rfl, SqT.of (s3 _ _ (s1 _ _ h)), rfl, rfl, _, rfl, ?_⟩
      rw [eq_self]
      refine iteT ⟨_, rfl, D, _, _, _, rfl, rfl, SqL.of hD, rfl, _, rfl, a, _, _, _, rfl, rfl, SqT.of (s3 _ _ (s1 _ _ h)), rfl, _, _, rfl, rfl, ?_⟩
      have e := q H3 (s1.trans s3)
      rw [T.val] at e
      exact e
  | @node a b ts cs h l r =>
    rw [T.ok] at hk
    cases hdp with
    | @node m _ _ hl20 hdp =>
    refine ⟨_, rfl, a, _, _, _, rfl, rfl, SqT.of h, at_hd _ _, rfl, _, rfl, ?_⟩
    rw [is_name_no.2 _ (by cases b <;> decide +kernel)]
    refine iteF ⟨_, rfl, a, _, _, _, rfl, rfl, SqT.of h, at_hd _ _, rfl, _, rfl, ?_⟩
    rw [is_name_no.1 _ (by cases b <;> decide +kernel)]
    have kid : ∀ t' ∈ ts, Dp m t' ∧ t'.ok ∧ WAt H d f t' := fun t' h' => ⟨hdp t' h', hk.2 t' h', hw.kid h'⟩
    refine iteF ⟨_, rfl, a, _, rfl, .node h l r, fun H1 p1 cs1 s1 np1 hp1 ka0 => ⟨p1, rfl, ⟨_, SqL.of hp1⟩, fun D nD => lc_list (K := K) (a := p1) (xs := cs1.map V.ref) (fun i H' => Same H1 H' ∧ H' D = some (.lst ((ts.take i).map fun t => V.int (t.val f)))) ⟨same_new nD _, upd_same⟩ (fun i H' _ p => SqL.of (p.1 _ _ hp1)) ?kid ?fin⟩⟩
    case kid =>
      have ka : KidsAt H1 ts cs1 := ka0.same s1
      rintro i x H3 hi ⟨s3, hD⟩
      obtain ⟨t, c, ht, htm, rfl, hta⟩ := ka.at hi
      have ilt := (List.getElem?_eq_some_iff.mp ht).1
      obtain ⟨g1, g2, g3⟩ := kid t htm
      refine ⟨rfl, ⟨_, rfl, _, rfl, c, d, t, m, f, rfl, hta.same s3, by omega, g1, g2, (g3.same s1).same s3, fun H4 s4 => ⟨_, s4 _ _ hD, big (by rw [List.length_map, List.length_take]; omega), same_mut (s3.trans s4) nD, ?_⟩⟩⟩
      rw [upd_same, List.take_succ, ht, List.map_append]
      rfl
    case fin =>
      rintro H3 ⟨s3, hD⟩
      have ka : KidsAt H1 ts cs1 := ka0.same s1
      rw [List.length_map, ← ka.1, List.take_length] at hD
      have h3 := s3 _ _ (s1 _ _ h)
      refine ⟨_, rfl, a, _, _, _, rfl, rfl, SqT.of h3, at_hd _ _, rfl, _, rfl, ?_⟩
      rw [is_plus.1 _ (by cases b <;> decide +kernel)]
      refine iteF ⟨_, rfl, a, _, _, _, rfl, rfl, SqT.of h3, at_hd _ _, rfl, _, rfl, ?_⟩
      have e : ∀ H', Same H H' → Q (.int (callV b (ts.map fun t => t.val f))) H' := fun H' s' => by
        have e := q H' s'
        rw [T.val] at e
        exact e
      have hD2 : H3 D = some (.lst ((ts.map fun t => t.val f).map V.int)) := by rw [hD, List.map_map]; rfl
      have hlen : (ts.map fun t => t.val f).length = ts.length := List.length_map _
      have hk1 := hk.1
      rw [← hlen] at hk1
      generalize (ts.map fun t => t.val f) = ns at hD2 e hlen hk1
      cases b with
      | true =>
        rw [show decide (V.str (cName true) = V.str ("imax" : Str)) = false by decide +kernel]
        have h2 : (2 : Int) ≤ (ns.length : Int) := of_decide_eq_true hk1
        refine iteF (iteF ⟨_, rfl, D, rfl, ⟨_, SqL.of hD2⟩, fun D2 nD2 => lc_list (K := K) (a := D) (xs := ns.map V.int) (fun i H' => Same H3 H' ∧ H' D2 = some (.lst ((ns.take i).map V.int))) ⟨same_new nD2 _, upd_same⟩ (fun i H' _ p => SqL.of (p.1 _ _ hD2)) ?kid2 ?fin2⟩)
        case kid2 =>
          rintro i x H5 hi ⟨s5, hD5⟩
          obtain ⟨x, hx, rfl⟩ : ∃ y, ns[i]? = some y ∧ x = .int y := by
            rw [List.getElem?_map] at hi
            cases e : ns[i]? with
            | none => rw [e] at hi; cases hi
            | some y => rw [e] at hi; exact ⟨y, rfl, (Option.some.inj hi).symm⟩
          refine ⟨rfl, _, rfl, .inl ⟨_, rfl, _, hD5, big (by rw [List.length_map, List.length_take]; omega), same_mut s5 nD2, ?_⟩⟩
          rw [upd_same, List.take_succ, hx, List.map_append]
          rfl
        case fin2 =>
          rintro H5 ⟨s5, hD5⟩
          rw [List.length_map, List.take_length] at hD5
          refine ⟨D2, ns, rfl, SqL.of hD5, by omega, fun m h1 h2 => ?_⟩
          have e2 := e H5 ((s1.trans s3).trans s5)
          rw [callV_true, maxL_of h1 h2] at e2
          exact e2
      | false =>
        rw [show decide (V.str (cName false) = V.str ("imax" : Str)) = true by decide +kernel]
        have h2 : (ns.length : Int) = 2 := of_decide_eq_true hk1
        obtain ⟨x, y, rfl⟩ : ∃ x y, ns = [x, y] := by
          match ns, h2 with
          | [x, y], _ => exact ⟨x, y, rfl⟩
        refine iteT ⟨_, rfl, D, _, _, _, rfl, rfl, SqL.of hD2, rfl, rfl, _, rfl, ?_⟩
        rw [int_eq]
        by_cases c : y = 0
        · rw [decide_eq_true c]
          refine iteT ?_
          have e2 := e H3 (s1.trans s3)
          rw [show [x, y] = [x] ++ [y] from rfl, callV_false, if_pos c] at e2
          exact e2
        · rw [decide_eq_false c]
          refine iteF ⟨_, rfl, D, rfl, ⟨_, SqL.of hD2⟩, fun D2 nD2 => lc_list (K := K) (a := D) (xs := [x, y].map V.int) (fun i H' => Same H3 H' ∧ H' D2 = some (.lst (([x, y].take i).map V.int))) ⟨same_new nD2 _, upd_same⟩ (fun i H' _ p => SqL.of (p.1 _ _ hD2)) ?kid3 ?fin3⟩
          case kid3 =>
            rintro i v0 H5 hi ⟨s5, hD5⟩
            obtain ⟨z, hz, rfl⟩ : ∃ y0, [x, y][i]? = some y0 ∧ v0 = .int y0 := by
              rw [List.getElem?_map] at hi
              cases e : [x, y][i]? with
              | none => rw [e] at hi; cases hi
              | some y0 => rw [e] at hi; exact ⟨y0, rfl, (Option.some.inj hi).symm⟩
            refine ⟨rfl, _, rfl, .inl ⟨_, rfl, _, hD5, big (by rw [List.length_map, List.length_take]; omega), same_mut s5 nD2, ?_⟩⟩
            rw [upd_same, List.take_succ, hz, List.map_append]
            rfl
          case fin3 =>
            rintro H5 ⟨s5, hD5⟩
            rw [List.length_map, List.take_length] at hD5
            refine ⟨D2, [x, y], rfl, SqL.of hD5, by show 0 < 2; decide, fun m h1 h2 => ?_⟩
            have e2 := e H5 ((s1.trans s3).trans s5)
            rw [show [x, y] = [x] ++ [y] from rfl, callV_false, if_neg c] at e2
            rw [show [x] ++ [y] = [x, y] from rfl, maxL_of h1 h2] at e2
            exact e2
end
end Pg
/-! Lw7 -/
set_option Elab.async false
set_option linter.all false
set_option maxRecDepth 100000
set_option maxHeartbeats 4000000
namespace Pg
open PySem L2 Mr
/-! ### d.update(e) -/
def rUpdate : V → List V → Hp → VK → Prop := fun x vs H Q => ∃ (d o : Addr) (ks ms : List (Key × V)), x = .ref d ∧ vs = [.ref o] ∧ d ≠ o ∧ H d = some (.dK ks) ∧ H o = some (.dK ms) ∧ ks.length + ms.length ≤ sizeLine ∧ Q .non (upd H d (.dK (mergeK ks ms)))
theorem mt_update {X : Cx} : MtM X "dict.update" rUpdate := by
  intro pins s σ H x vs v us Q I rx rv h
  obtain ⟨d, o, ks, ms, rfl, rfl, hdo, hd, ho, hz, q⟩ := h
  cases rx
  obtain ⟨u, rfl, ru⟩ := rv.one
  cases ru
  obtain ⟨z, hs, vs, rel, dd⟩ := dk_of I.hok hd
  obtain ⟨z2, hs2, vs2, rel2, dd2⟩ := dk_of I.hok ho
  refine call_meetsIn PySem.F.slot_dict_update dd.typeIs PySem.F.entry_dict_update (PySem.F.args_dict_update_2 _ _) (meets_dict_update (mixKind X.prog X.w) d o hdo hs2) ⟨vs, vs2, dd, dd2, by rw [← rel.length, ← rel2.length]; exact hz, fun h' dd' _ sb => ?_⟩
  have he : ∃ q, h'.get? d = some q := let ⟨q, _, _, hq, _⟩ := dd'; ⟨q, hq⟩
  exact ⟨.non, _, d_write (t' := s.toks) I (by rw [hd]; exact True.intro) sb he (dk_new (Nat.le_trans (length_mergeK ms ks) hz) hs (KV.merge rel2 rel) dd'), rfl, q⟩
/-! ### dicts that are written from lists of names -/
theorem valV_names (F : Cs → V) (s0 : Cs) : ∀ l : List Cs, valV (l.map fun s => ((Sum.inr (S s), F s) : Key × V)) (Sum.inr (S s0)) = if s0 ∈ l then some (F s0) else none
  | [] => by simp [valV]
  | a :: l => by
    rw [List.map_cons]
    by_cases e : a = s0
    · rw [valV_pos (by rw [e]), if_pos (by rw [e]; exact List.mem_cons_self), e]
    · rw [valV_neg (fun z => e (S_inj.mp (Sum.inr.inj z))), valV_names F s0 l]
      by_cases m : s0 ∈ l
      · rw [if_pos m, if_pos (List.mem_cons_of_mem _ m)]
      · rw [if_neg m, if_neg]
        intro z
        rcases List.mem_cons.mp z with z | z
        · exact e z.symm
        · exact m z
theorem names_cong {F G : Cs → V} {l : List Cs} (h : ∀ s ∈ l, F s = G s) : (l.map fun s => ((Sum.inr (S s), F s) : Key × V)) = l.map fun s => ((Sum.inr (S s), G s) : Key × V) :=
  List.map_congr_left fun s hs => by rw [h s hs]
/-- a new name at the end -/
theorem put_name {F : Cs → V} {l : List Cs} {s0 : Cs} {v : V} (h : s0 ∉ l) : putK (l.map fun s => ((Sum.inr (S s), F s) : Key × V)) (Sum.inr (S s0)) v = (l ++ [s0]).map fun s => ((Sum.inr (S s), if s = s0 then v else F s) : Key × V) := by
  rw [putK_new _ (by rw [valV_names, if_neg h]), List.map_append]
  congr 1
  · exact names_cong fun s hs => by rw [if_neg (fun z => h (by rw [← z]; exact hs))]
  · simp
theorem not_take {l : List Cs} (nd : l.Nodup) {i : Nat} {y : Cs} (hy : l[i]? = some y) : y ∉ l.take i := fun hm => by
  obtain ⟨j, hj, e⟩ := List.getElem_of_mem hm
  rw [List.getElem_take] at e
  rw [List.length_take] at hj
  have hi := (List.getElem?_eq_some_iff.mp hy)
  have := (List.getElem_inj (h₀ := by omega) (h₁ := hi.1) nd).mp (e.trans hi.2.symm)
  omega
theorem at_name {ns : List Cs} {i : Nat} {x : V} (hi : (ns.map tv)[i]? = some x) : ∃ t, ns[i]? = some t ∧ x = tv t := by
  rw [List.getElem?_map] at hi
  cases e : ns[i]? with
  | none => rw [e] at hi; cases hi
  | some t => rw [e] at hi; exact ⟨t, rfl, (Option.some.inj hi).symm⟩
section
variable {P : Program} {w : World} {K : PySem.W.Frag} {mg : Str → Option Value} {base : Heap} {pS pC : Addr}
/-! ### _law_numbers -/
def numK (ns : List Cs) (g : Cs → Int) : List (Key × V) := ns.map fun s => ((Sum.inr (S s), V.int (g s)) : Key × V)
def spNumbers (K : PySem.W.Frag) : Sp := fun vs H Q _ => ∃ (b a : Addr) (ns : List Cs) (most : Nat), vs = [.ref b, .ref a, .int most] ∧ BoxAt H b ∧ a ≠ b ∧ SqL K H a (ns.map tv) ∧ ns.Nodup ∧ ns.length ≤ 9 ∧ most ≤ 98 ∧
  ∀ H' p (g : Cs → Int), Bx H H' b → H p = none → H' p = some (.dK (numK ns g)) → Q (.ref p) H'
theorem sc_numbers : FnScope ["_law_box_here", "_law_names", "_law_most", "_law_found", "_law_name"] ["_law_box_here", "_law_names", "_law_most"] (defScope st__law_numbers) := ⟨rfl, rfl, rfl, by decide +kernel, rfl, by decide +kernel, by decide +kernel⟩
theorem ok_numbers {f : Addr} {fd : FuncData} (F : Fun K "_law_numbers" "_law_numbers" st__law_numbers f fd) (L : Lx mg) (c_take : CalX P w K mg base 1 "_law_take" spTake) (c_pick : CalX P w K mg base 2 "_law_pick" (spPick K)) :
    FnOk P w K mg base CX0 3 f fd ["_law_box_here", "_law_names", "_law_most"] (spNumbers K) := by
  refine F.ok sc_numbers (fun vs H Q E h => ?_) (fun cdv A outer s H vs Q E hr h => ?_)
  · obtain ⟨b, a, ns, most, rfl, _⟩ := h
    rfl
  obtain ⟨b, a, ns, most, rfl, hb, hne, hS, hnd, hl, hm, q⟩ := h
  have nd := sc_numbers.nd
  have hu := hu_of hr
  refine ⟨_, (pss_cons (ps_set (i := 3) nd rfl (.inl rfl) pe_dnewK)
      (pss_cons (ps_for PassesOwn.never rfl (pi_list (pv 1)) (pg_name (i := 4) nd rfl (Or.inl rfl)) (pss_one (ps_dput hu (pv 3) (pv 4) (C8.pe_c c_pick hr (by decide) rfl (pa_cons (pv 0) (pa_cons (pe_lst (pa_cons pe_int (pa_cons pe_int (pa_cons pe_int (pa_cons (C8.pe_c c_take hr (by decide) rfl (pa_cons (pv 0) (pa_cons (pe_op op_add (pv 2) pe_int) pa_nil))) (pa_cons (C8.pe_c c_take hr (by decide) rfl (pa_cons (pv 0) (pa_cons (pe_op op_add (pv 2) pe_int) pa_nil))) pa_nil)))))) pa_nil))) rfl)))
      (pss_one (ps_ret (pv 3))))), ?_⟩
  refine fun p1 n1 => ?_
  have b1 : p1 ≠ b := hb.ne n1
  have bx0 : Bx H (upd H p1 (.dK [])) b := (Bx.refl hb).mut n1 b1
  refine ⟨_, rfl, a, rfl, ⟨_, seqL_upd bx0 hne hS⟩, for_list (K := K) (a := a) (xs := ns.map tv) (fun i σ H' => ∃ (g : Cs → Int) (u : Option V), σ = [some (.ref b), some (.ref a), some (.int most), some (.ref p1), u] ∧ Bx H H' b ∧ H' p1 = some (.dK (numK (ns.take i) g)))
    ⟨fun _ => 0, none, rfl, bx0, by rw [upd_same]; rfl⟩ (fun i σ H' _ ⟨g, u, _, bx, _⟩ => seqL_upd bx hne hS) ?_ ?_⟩
  · rintro i x σ H' hi ⟨g, u, rfl, bx, hp⟩
    obtain ⟨y, hy, rfl⟩ := at_name hi
    refine ⟨_, rfl, _, rfl, _, rfl, _, _, rfl, rfl, b, _, rfl, bx.box, by omega, by omega, fun r1 d1 t1 c1 r10 r11 => ?_⟩
    have bx1 := bx.trans (Bx.draw (d := d1) (s := t1) (c := c1))
    have hp1 : upd H' b (boxV d1 t1 c1) p1 = some (.dK (numK (ns.take i) g)) := by rw [upd_ne b1]; exact hp
    generalize upd H' b (boxV d1 t1 c1) = H1 at bx1 hp1
    refine ⟨_, rfl, _, rfl, _, _, rfl, rfl, b, _, rfl, bx1.box, by omega, by omega, fun r2 d2 t2 c2 r20 r21 => ?_⟩
    have bx2 := bx1.trans (Bx.draw (d := d2) (s := t2) (c := c2))
    have hp2 : upd H1 b (boxV d2 t2 c2) p1 = some (.dK (numK (ns.take i) g)) := by rw [upd_ne b1]; exact hp1
    generalize upd H1 b (boxV d2 t2 c2) = H2 at bx2 hp2
    refine ⟨(by show 5 ≤ sizeLine; decide), fun p3 n3 => ?_⟩
    have b3 : p3 ≠ b := bx2.box.ne n3
    refine ⟨b, p3, _, rfl, bx2.box.same (same_new n3 _), b3, SqL.of upd_same, (by show 0 < 5; decide), (by show 5 < 1000000; decide), fun x d3 t3 c3 hx => ?_⟩
    obtain ⟨k, rfl⟩ : ∃ k : Int, x = .int k := by
      rcases List.mem_cons.mp hx with rfl | hx
      · exact ⟨_, rfl⟩
      rcases List.mem_cons.mp hx with rfl | hx
      · exact ⟨_, rfl⟩
      rcases List.mem_cons.mp hx with rfl | hx
      · exact ⟨_, rfl⟩
      rcases List.mem_cons.mp hx with rfl | hx
      · exact ⟨_, rfl⟩
      rcases List.mem_cons.mp hx with rfl | hx
      · exact ⟨_, rfl⟩
      · exact absurd hx List.not_mem_nil
    have bx3 := (bx2.same (same_new n3 (.lst [.int 0, .int 0, .int 1, .int r1, .int r2]))).trans (Bx.draw (d := d3) (s := t3) (c := c3))
    have hp3 : upd (upd H2 p3 (.lst [.int 0, .int 0, .int 1, .int r1, .int r2])) b (boxV d3 t3 c3) p1 = some (.dK (numK (ns.take i) g)) := by rw [upd_ne b1]; exact same_new n3 _ _ _ hp2
    refine ⟨_, rfl, _, rfl, p1, _, rfl, DPut.k (k := Sum.inr (S y)) hp3 (big (by unfold numK; rw [List.length_map, List.length_take]; omega)), fun s => if s = y then k else g s, _, rfl, bx3.mut n1 b1, ?_⟩
    rw [upd_same, List.take_succ, hy]
    unfold numK
    rw [put_name (not_take hnd hy)]
    refine congrArg some (congrArg HO.dK ?_)
    exact names_cong fun s _ => by by_cases e : s = y <;> simp [e]
  · rintro σ H' ⟨g, u, rfl, bx, hp⟩
    rw [List.length_map, List.take_length] at hp
    exact ⟨_, rfl, q H' p1 g bx n1 hp⟩
end
end Pg
/-! Lm -/
set_option Elab.async false
set_option linter.all false
set_option maxRecDepth 100000
set_option maxHeartbeats 4000000
namespace Pg
open PySem L2 Mr
/-! ### what comes of levels put in the place of names -/
theorem sign_no : isName cMax = false ∧ isName cImax = false ∧ isName cPlus = false ∧ isName cSep = false ∧ isName cEnd = false := by decide +kernel
theorem opn_no (b : Bool) : isName (opn b) = false := by cases b <;> decide +kernel
theorem num_no {k : Nat} (h : k < 100) : isName (D k) = false := by
  have e := num_ok h
  unfold numFacts at e
  simp only [Bool.and_eq_true, Bool.not_eq_true'] at e
  exact e.1.1.2
theorem num_len {k : Nat} (h : k < 100) : (D k).length ≤ 2 := by
  have e := num_ok h
  unfold numFacts at e
  simp only [Bool.and_eq_true, Bool.not_eq_true', decide_eq_true_eq] at e
  exact e.2
theorem name_len {s : Cs} (h : isName s = true) : s.length ≤ 4 := by
  unfold isName at h
  simp only [Bool.and_eq_true, decide_eq_true_eq] at h
  exact h.2.1
theorem names_ok : ∀ t : T, t.ok → ∀ s, Stp.nam s ∈ t.stp → isName s = true
  | .num k, _, s, m => by rw [T.stp] at m; cases List.mem_singleton.mp m
  | .nam x, h, s, m => by
    rw [T.stp] at m
    rw [T.ok] at h
    cases List.mem_singleton.mp m
    exact h
  | .plus t k, h, s, m => by
    rw [T.stp] at m
    rw [T.ok] at h
    rcases List.mem_append.mp m with m | m
    · exact names_ok t h.1 s m
    · cases List.mem_singleton.mp m
  | .node b ts, h, s, m => by
    rw [T.stp] at m
    rw [T.ok] at h
    rcases List.mem_append.mp m with m | m
    · obtain ⟨l, hl, hs⟩ := List.mem_flatten.mp m
      obtain ⟨t, ht, rfl⟩ := List.mem_map.mp hl
      exact names_ok t (h.2 t ht) s hs
    · cases List.mem_singleton.mp m
theorem glue_map (f : Cs → Cs) (h : f cSep = cSep) : ∀ l : List (List Cs), (glue l).map f = glue (l.map (List.map f))
  | [] => rfl
  | [a] => rfl
  | a :: b :: r => by
    have ih := glue_map f h (b :: r)
    show (a ++ cSep :: glue (b :: r)).map f = a.map f ++ cSep :: glue ((b :: r).map (List.map f))
    rw [List.map_append, List.map_cons, h, ih]
theorem repl_no {ss : List Stp} {sub : Cs → Option Cs} (hs : ∀ s, Stp.nam s ∈ ss → isName s = true) {t : Cs} (h : isName t = false) : repl ss sub t = t := by
  unfold repl
  rw [if_neg]
  intro m
  rw [hs t m] at h
  cases h
theorem tok_sub (sg : Cs → Option T) (ss : List Stp) (hs : ∀ s, Stp.nam s ∈ ss → isName s = true) : ∀ t : T, t.ok → (∀ s, Stp.nam s ∈ t.stp → Stp.nam s ∈ ss) → (t.tok.map (repl ss fun s => (sg s).map T.text)).flatten = (t.sub sg).text
  | .num k, h, m => by
    rw [T.ok] at h
    rw [T.tok, T.sub]
    show (repl ss _ (D k) :: []).flatten = _
    rw [repl_no hs (num_no h)]
    simp [T.text, T.tok]
  | .nam s, h, m => by
    rw [T.tok, T.sub]
    show (repl ss _ s :: []).flatten = _
    unfold repl
    rw [if_pos (m s (by rw [T.stp]; exact List.mem_singleton.mpr rfl))]
    cases e : sg s with
    | none => simp [T.text, T.tok, e]
    | some u => simp [e]
  | .plus t k, h, m => by
    rw [T.ok] at h
    have ih := tok_sub sg ss hs t h.1 fun s hm => m s (by rw [T.stp]; exact List.mem_append_left _ hm)
    rw [T.tok, T.sub, T.text_plus, List.map_append, List.flatten_append, ih]
    show _ ++ (repl ss _ cPlus :: repl ss _ (D k) :: []).flatten = _
    rw [repl_no hs sign_no.2.2.1, repl_no hs (num_no h.2)]
    simp
  | .node b ts, h, m => by
    rw [T.ok] at h
    rw [T.tok, T.sub, T.text_node, List.map_cons, List.map_append, glue_map _ (repl_no hs sign_no.2.2.2.1), repl_no hs (opn_no b)]
    show (opn b :: (_ ++ repl ss _ cEnd :: [])).flatten = _
    rw [repl_no hs sign_no.2.2.2.2, List.flatten_cons, List.flatten_append, ← joinL_glue, List.map_map, List.map_map, List.map_map]
    have e : (ts.map ((List.flatten ∘ List.map (repl ss fun s => (sg s).map T.text)) ∘ fun t => t.tok)) = ts.map (T.text ∘ fun t => t.sub sg) :=
      List.map_congr_left fun t ht => tok_sub sg ss hs t (h.2 t ht) fun s hm => m s (by rw [T.stp]; exact List.mem_append_left _ (List.mem_flatten.mpr ⟨_, List.mem_map_of_mem ht, hm⟩))
    rw [e]
    simp
theorem ok_sub (sg : Cs → Option T) (hg : ∀ s u, sg s = some u → u.ok) : ∀ t : T, t.ok → (t.sub sg).ok
  | .num k, h => by rw [T.sub]; exact h
  | .nam s, h => by
    rw [T.sub]
    cases e : sg s with
    | none => exact h
    | some u => exact hg s u e
  | .plus t k, h => by
    rw [T.ok] at h
    rw [T.sub, T.ok]
    exact ⟨ok_sub sg hg t h.1, h.2⟩
  | .node b ts, h => by
    rw [T.ok] at h
    rw [T.sub, T.ok]
    refine ⟨by rw [List.length_map]; exact h.1, fun t ht => ?_⟩
    obtain ⟨u, hu, rfl⟩ := List.mem_map.mp ht
    exact ok_sub sg hg u (h.2 u hu)
theorem val_sub (sg : Cs → Option T) (f : Cs → Int) : ∀ t : T, (t.sub sg).val f = t.val fun s => match sg s with | some u => u.val f | none => f s
  | .num k => by rw [T.sub, T.val, T.val]
  | .nam s => by
    rw [T.sub]
    cases e : sg s with
    | none => show (T.nam s).val f = _; rw [T.val, T.val, e]
    | some u => show u.val f = _; rw [T.val, e]
  | .plus t k => by rw [T.sub, T.val, T.val, val_sub sg f t]
  | .node b ts => by
    rw [T.sub, T.val, T.val, List.map_map]
    exact congrArg _ (List.map_congr_left fun t ht => val_sub sg f t)
theorem Dp.mono {n : Nat} {t : T} (h : Dp n t) : ∀ m, n ≤ m → Dp m t := by
  induction h with
  | num => intro m _; exact .num
  | nam => intro m _; exact .nam
  | @plus n k t r ih =>
    intro m hm
    obtain ⟨m, rfl⟩ : ∃ k, m = k + 1 := ⟨m - 1, by omega⟩
    exact .plus (ih m (by omega))
  | @node n b ts l r ih =>
    intro m hm
    obtain ⟨m, rfl⟩ : ∃ k, m = k + 1 := ⟨m - 1, by omega⟩
    exact .node l fun t ht => ih t ht m (by omega)
theorem Dp.sub {sg : Cs → Option T} {e : Nat} (hg : ∀ s u, sg s = some u → Dp e u) {n : Nat} {t : T} (h : Dp n t) : Dp (n + e) (t.sub sg) := by
  induction h with
  | num => rw [T.sub]; exact .num
  | @nam n s =>
    rw [T.sub]
    cases q : sg s with
    | none => exact .nam
    | some u => exact (hg s u q).mono _ (by omega)
  | @plus n k t r ih =>
    rw [T.sub, show n + 1 + e = (n + e) + 1 by omega]
    exact .plus ih
  | @node n b ts l r ih =>
    rw [T.sub, show n + 1 + e = (n + e) + 1 by omega]
    refine .node (by rw [List.length_map]; exact l) fun t ht => ?_
    obtain ⟨u, hu, rfl⟩ := List.mem_map.mp ht
    exact ih u hu
theorem Lv.dp {ns : List Cs} {m d : Nat} {t : T} (h : Lv ns m d t) : Dp d t := by
  induction h with
  | num h => exact .num
  | nam h => exact .nam
  | plus r h ih => exact .plus ih
  | @two d b t u r s ih1 ih2 =>
    refine .node (by show 2 ≤ 20; decide) fun x hx => ?_
    rcases List.mem_cons.mp hx with rfl | hx
    · exact ih1
    · rcases List.mem_singleton.mp hx with rfl
      exact ih2
  | three r q h ih1 ih2 =>
    refine .node (by show 3 ≤ 20; decide) fun x hx => ?_
    rcases List.mem_cons.mp hx with rfl | hx
    · exact ih1
    rcases List.mem_cons.mp hx with rfl | hx
    · exact ih2
    · rcases List.mem_singleton.mp hx with rfl
      exact .nam
def Over (ns : List Cs) (t : T) : Prop := ∀ s, Stp.nam s ∈ t.stp → s ∈ ns
theorem Lv.over {ns : List Cs} {m d : Nat} {t : T} (h : Lv ns m d t) : Over ns t := by
  induction h with
  | num h => intro s m; rw [T.stp] at m; cases List.mem_singleton.mp m
  | nam h =>
    intro s m
    rw [T.stp] at m
    cases List.mem_singleton.mp m
    exact h
  | plus r h ih =>
    intro s m
    rw [T.stp] at m
    rcases List.mem_append.mp m with m | m
    · exact ih s m
    · cases List.mem_singleton.mp m
  | @two d b t u r q ih1 ih2 =>
    intro s m
    rw [T.stp] at m
    simp only [List.map_cons, List.map_nil, List.flatten_cons, List.flatten_nil, List.append_nil, List.mem_append] at m
    rcases m with (m | m) | m
    · exact ih1 s m
    · exact ih2 s m
    · cases List.mem_singleton.mp m
  | three r q h ih1 ih2 =>
    intro s m
    rw [T.stp] at m
    simp only [List.map_cons, List.map_nil, List.flatten_cons, List.flatten_nil, List.append_nil, List.mem_append] at m
    rcases m with (m | m | m) | m
    · exact ih1 s m
    · exact ih2 s m
    · rw [T.stp] at m
      cases List.mem_singleton.mp m
      exact h
    · cases List.mem_singleton.mp m
theorem over_sub (sg : Cs → Option T) {ns : List Cs} (hg : ∀ s u, sg s = some u → Over ns u) : ∀ t : T, Over ns t → Over ns (t.sub sg)
  | .num k, h => by rw [T.sub]; exact h
  | .nam s, h => by
    rw [T.sub]
    cases e : sg s with
    | none => exact h
    | some u => exact hg s u e
  | .plus t k, h => by
    rw [T.sub]
    intro s m
    rw [T.stp] at m
    rcases List.mem_append.mp m with m | m
    · exact over_sub sg hg t (fun s m => h s (by rw [T.stp]; exact List.mem_append_left _ m)) s m
    · cases List.mem_singleton.mp m
  | .node b ts, h => by
    rw [T.sub]
    intro s m
    rw [T.stp] at m
    rcases List.mem_append.mp m with m | m
    · obtain ⟨l, hl, hs⟩ := List.mem_flatten.mp m
      rw [List.map_map] at hl
      obtain ⟨t, ht, rfl⟩ := List.mem_map.mp hl
      exact over_sub sg hg t (fun s m => h s (by rw [T.stp]; exact List.mem_append_left _ (List.mem_flatten.mpr ⟨_, List.mem_map_of_mem ht, m⟩))) s hs
    · cases List.mem_singleton.mp m
theorem sum_le2 {α : Type} (f g : α → Nat) : ∀ l : List α, (∀ x ∈ l, f x ≤ g x) → (l.map f).sum ≤ (l.map g).sum
  | [], _ => Nat.le_refl _
  | a :: l, h => by
    have h1 := h a List.mem_cons_self
    have h2 := sum_le2 f g l fun x hx => h x (List.mem_cons_of_mem _ hx)
    rw [List.map_cons, List.map_cons, List.sum_cons, List.sum_cons]
    omega
theorem joinL_sum : ∀ l : List Cs, (TL.joinL cSep l).length ≤ (l.map fun t => t.length + 2).sum
  | [] => Nat.le_refl _
  | [a] => by simp [TL.joinL]
  | a :: b :: r => by
    have ih := joinL_sum (b :: r)
    show (a ++ (cSep ++ TL.joinL cSep (b :: r))).length ≤ _
    rw [List.length_append, List.length_append, List.map_cons, List.sum_cons]
    have : cSep.length = 2 := rfl
    omega
theorem sum_mul (f : T → Nat) : ∀ l : List T, (l.map fun t => 9 * f t).sum = 9 * (l.map f).sum
  | [] => rfl
  | a :: l => by
    rw [List.map_cons, List.map_cons, List.sum_cons, List.sum_cons, sum_mul f l]
    omega
theorem text_len : ∀ t : T, t.ok → t.text.length + 2 ≤ 9 * t.stp.length
  | .num k, h => by
    rw [T.ok] at h
    have := num_len h
    have e : (T.num k).text = D k := by simp [T.text, T.tok]
    rw [e, T.stp]
    show _ ≤ 9 * 1
    omega
  | .nam s, h => by
    rw [T.ok] at h
    have := name_len h
    have e : (T.nam s).text = s := by simp [T.text, T.tok]
    rw [e, T.stp]
    show _ ≤ 9 * 1
    omega
  | .plus t k, h => by
    rw [T.ok] at h
    have h1 := num_len h.2
    have ih := text_len t h.1
    have h3 : cPlus.length = 3 := rfl
    rw [T.text_plus, T.stp, List.length_append, List.length_append, List.length_append]
    show _ ≤ 9 * (_ + 1)
    omega
  | .node b ts, h => by
    rw [T.ok] at h
    rw [T.text_node, T.stp, List.length_append, List.length_append, List.length_append, List.length_flatten, List.map_map]
    have h1 := joinL_sum (ts.map T.text)
    rw [List.map_map] at h1
    have h2 := sum_le2 ((fun t : Cs => t.length + 2) ∘ T.text) (fun t => 9 * t.stp.length) ts fun t ht => text_len t (h.2 t ht)
    rw [sum_mul] at h2
    have h3 := opn_len b
    have h4 : cEnd.length = 1 := rfl
    have h5 : (ts.map (List.length ∘ fun t => t.stp)).sum = (ts.map fun t => t.stp.length).sum := rfl
    rw [h5]
    show _ ≤ 9 * (_ + 1)
    omega
theorem two_pos (d : Nat) : 1 ≤ 2 ^ d := Nat.one_le_two_pow
theorem Lv.len {ns : List Cs} {m d : Nat} {t : T} (sg : Cs → Option T) (hg : ∀ s u, sg s = some u → u.stp.length ≤ 4) (h : Lv ns m d t) : (t.sub sg).stp.length + 5 ≤ 9 * 2 ^ d := by
  have nm : ∀ s, ((T.nam s).sub sg).stp.length ≤ 4 := fun s => by
    rw [T.sub]
    cases e : sg s with
    | none => show (T.nam s).stp.length ≤ 4; rw [T.stp]; show 1 ≤ 4; decide
    | some u => exact hg s u e
  induction h with
  | @num d k h => rw [T.sub, T.stp]; have := two_pos d; show 1 + 5 ≤ _; omega
  | @nam d s h => have := two_pos d; have := nm s; omega
  | @plus d k t r h ih =>
    rw [T.sub, T.stp, List.length_append, Nat.pow_succ]
    show _ + 1 + 5 ≤ _
    have := two_pos d
    omega
  | @two d b t u r s ih1 ih2 =>
    rw [T.sub, T.stp, List.length_append, Nat.pow_succ]
    simp only [List.map_cons, List.map_nil, List.flatten_cons, List.flatten_nil, List.append_nil, List.length_append]
    show _ + 1 + 5 ≤ _
    omega
  | @three d t u s r q h ih1 ih2 =>
    rw [T.sub, T.stp, List.length_append, Nat.pow_succ]
    simp only [List.map_cons, List.map_nil, List.flatten_cons, List.flatten_nil, List.append_nil, List.length_append]
    show _ + 1 + 5 ≤ _
    have := nm s
    omega
theorem Lv.len1 {ns : List Cs} {m d : Nat} {t : T} (h : Lv ns m d t) : t.stp.length + 2 ≤ 3 * 2 ^ d := by
  induction h with
  | @num d k h => rw [T.stp]; have := two_pos d; show 1 + 2 ≤ _; omega
  | @nam d s h => rw [T.stp]; have := two_pos d; show 1 + 2 ≤ _; omega
  | @plus d k t r h ih =>
    rw [T.stp, List.length_append, Nat.pow_succ]
    show _ + 1 + 2 ≤ _
    have := two_pos d
    omega
  | @two d b t u r s ih1 ih2 =>
    rw [T.stp, List.length_append, Nat.pow_succ]
    simp only [List.map_cons, List.map_nil, List.flatten_cons, List.flatten_nil, List.append_nil, List.length_append]
    show _ + 1 + 2 ≤ _
    omega
  | @three d t u s r q h ih1 ih2 =>
    rw [T.stp, List.length_append, Nat.pow_succ]
    simp only [List.map_cons, List.map_nil, List.flatten_cons, List.flatten_nil, List.append_nil, List.length_append, T.stp]
    show _ + 1 + 2 ≤ _
    have : [Stp.nam s].length = 1 := rfl
    omega
end Pg
/-! Lw8 -/
set_option Elab.async false
set_option linter.all false
set_option maxRecDepth 100000
set_option maxHeartbeats 4000000
namespace Pg
open PySem L2 Mr
/-- a list that the box is not -/
def SqB (K : PySem.W.Frag) (H : Hp) (b a : Addr) (xs : List V) : Prop := (a ≠ b ∧ SqL K H a xs) ∨ ∀ H', SqL K H' a xs
theorem SqB.mk {K : PySem.W.Frag} {H H' : Hp} {b a : Addr} {xs : List V} (h : SqL K H a xs) (s : Same H H') (n : H b = none) : SqB K H' b a xs := by
  rcases h with (e | ⟨o, e⟩) | c
  · exact .inl ⟨(fun z => by rw [z, n] at e; cases e), .inl (.inl (s _ _ e))⟩
  · exact .inl ⟨(fun z => by rw [z, n] at e; cases e), .inl (.inr ⟨o, s _ _ e⟩)⟩
  · exact .inr fun _ => .inr c
theorem SqB.bx {K : PySem.W.Frag} {H H' : Hp} {b a : Addr} {xs : List V} (h : SqB K H b a xs) (x : Bx H H' b) : SqB K H' b a xs := by
  rcases h with ⟨n, h⟩ | h
  · exact .inl ⟨n, seqL_upd x n h⟩
  · exact .inr h
theorem SqB.get {K : PySem.W.Frag} {H : Hp} {b a : Addr} {xs : List V} (h : SqB K H b a xs) : SqL K H a xs := h.elim (·.2) (· H)
/-- pairs (key, value) in tuples -/
def PairsAt (H : Hp) (ps : List Addr) (kvs : List (Key × V)) : Prop := ps.length = kvs.length ∧ ∀ (i : Nat) p kv, ps[i]? = some p → kvs[i]? = some kv → H p = some (.tup [kV kv.1, kv.2])
theorem PairsAt.same {H H' : Hp} {ps : List Addr} {kvs : List (Key × V)} (h : PairsAt H ps kvs) (s : Same H H') : PairsAt H' ps kvs := ⟨h.1, fun i p kv e1 e2 => s _ _ (h.2 i p kv e1 e2)⟩
theorem PairsAt.mut {H : Hp} {ps : List Addr} {kvs : List (Key × V)} {D : Addr} {l : List V} {o : HO} (h : PairsAt H ps kvs) (e : H D = some (.lst l)) : PairsAt (upd H D o) ps kvs :=
  ⟨h.1, fun i p kv e1 e2 => by have g := h.2 i p kv e1 e2; rw [upd_ne (fun z => by rw [z, e] at g; cases g)]; exact g⟩
theorem PairsAt.push {H : Hp} {ps : List Addr} {kvs : List (Key × V)} {p : Addr} {kv : Key × V} (h : PairsAt H ps kvs) (g : H p = some (.tup [kV kv.1, kv.2])) : PairsAt H (ps ++ [p]) (kvs ++ [kv]) := by
  refine ⟨by rw [List.length_append, List.length_append, h.1]; rfl, fun i p' kv' e1 e2 => ?_⟩
  by_cases lt : i < ps.length
  · rw [List.getElem?_append_left lt] at e1
    rw [List.getElem?_append_left (h.1 ▸ lt)] at e2
    exact h.2 i p' kv' e1 e2
  · have hl := h.1
    rw [List.getElem?_append_right (by omega)] at e1 e2
    rw [← hl] at e2
    match hh : i - ps.length with
    | 0 => rw [hh] at e1 e2; cases e1; cases e2; exact g
    | j + 1 => rw [hh] at e1; cases e1
theorem paired_of {α β : Type} {F : α → β → Prop} : ∀ {ps : List α} {qs : List β}, ps.length = qs.length → (∀ (i : Nat) p q, ps[i]? = some p → qs[i]? = some q → F p q) → Paired F ps qs
  | [], [], _, _ => .nil
  | [], _ :: _, h, _ => by cases h
  | _ :: _, [], h, _ => by cases h
  | a :: ps, b :: qs, h, f => .cons (f 0 a b rfl rfl) (paired_of (Nat.succ.inj h) fun i p q e1 e2 => f (i + 1) p q e1 e2)
theorem PairsAt.paired {K : PySem.W.Frag} {H : Hp} {ps : List Addr} {kvs : List (Key × V)} (h : PairsAt H ps kvs) : Paired (fun p kv => SqT K H p [kV kv.1, kv.2]) ps kvs := paired_of h.1 fun i p kv e1 e2 => SqT.of (h.2 i p kv e1 e2)
theorem fold_put (F : Cs → V) : ∀ (l pre : List Cs), (pre ++ l).Nodup → (l.map fun s => ((Sum.inr (S s), F s) : Key × V)).foldl (fun acc kv => putK acc kv.1 kv.2) (pre.map fun s => ((Sum.inr (S s), F s) : Key × V)) = (pre ++ l).map fun s => ((Sum.inr (S s), F s) : Key × V)
  | [], pre, _ => by rw [List.append_nil]; rfl
  | a :: l, pre, nd => by
    have na : a ∉ pre := fun h => by
      have := List.nodup_append.mp nd
      exact this.2.2 a h a List.mem_cons_self rfl
    rw [List.map_cons, List.foldl_cons]
    show (l.map _).foldl _ (putK (pre.map _) (Sum.inr (S a)) (F a)) = _
    rw [put_name na, names_cong (G := F) (fun s hs => by by_cases e : s = a <;> simp [e]), fold_put F l (pre ++ [a]) (by rw [List.append_assoc]; exact nd), List.append_assoc]
    rfl
theorem merge_names {F : Cs → V} {l : List Cs} (nd : l.Nodup) : mergeK [] (l.map fun s => ((Sum.inr (S s), F s) : Key × V)) = l.map fun s => ((Sum.inr (S s), F s) : Key × V) := by
  have := fold_put F l [] (by rw [List.nil_append]; exact nd)
  rw [List.nil_append] at this
  exact this
theorem Lv.mono {ns : List Cs} {m d : Nat} {t : T} (h : Lv ns m d t) : ∀ e, d ≤ e → Lv ns m e t := by
  induction h with
  | num h => intro e _; exact .num h
  | nam h => intro e _; exact .nam h
  | plus r h ih =>
    intro e he
    obtain ⟨e, rfl⟩ : ∃ k, e = k + 1 := ⟨e - 1, by omega⟩
    exact .plus (ih e (by omega)) h
  | two r s ih1 ih2 =>
    intro e he
    obtain ⟨e, rfl⟩ : ∃ k, e = k + 1 := ⟨e - 1, by omega⟩
    exact .two (ih1 e (by omega)) (ih2 e (by omega))
  | three r q h ih1 ih2 =>
    intro e he
    obtain ⟨e, rfl⟩ : ∃ k, e = k + 1 := ⟨e - 1, by omega⟩
    exact .three (ih1 e (by omega)) (ih2 e (by omega)) h
def cQ : Cs := [113]
theorem q_facts : cQ ∉ names9 ∧ tv cQ = .str "q" := by decide +kernel
theorem with_q {nm : List Cs} (nd : nm.Nodup) (h : ∀ s ∈ nm, isName s = true ∧ s ∈ names9) : (nm ++ [cQ]).Nodup ∧ (nm ++ [cQ]).map tv = nm.map tv ++ [.str "q"] := by
  refine ⟨List.nodup_append.mpr ⟨nd, by simp, fun a ha b hb e => ?_⟩, by rw [List.map_append, ← q_facts.2]; rfl⟩
  rcases List.mem_singleton.mp hb with rfl
  exact q_facts.1 (e ▸ (h a ha).2)
/-- what the law's dict of levels holds: the trees u at the places c, for the names l -/
structure Oth (H : Hp) (pO : Addr) (nm l : List Cs) (u : Cs → T) (c : Cs → Addr) : Prop where
  nd : l.Nodup
  lv : ∀ s ∈ l, Lv nm 9 1 (u s)
  tr : ∀ s ∈ l, TreeAt H (u s) (c s)
def othK (l : List Cs) (c : Cs → Addr) : List (Key × V) := l.map fun s => ((Sum.inr (S s), V.ref (c s)) : Key × V)
def sgOf (l : List Cs) (u : Cs → T) : Cs → Option T := fun s => if s ∈ l then some (u s) else none
theorem sg_some {l : List Cs} {u : Cs → T} {s : Cs} {t : T} (h : sgOf l u s = some t) : s ∈ l ∧ t = u s := by
  unfold sgOf at h
  by_cases m : s ∈ l
  · rw [if_pos m] at h; exact ⟨m, (Option.some.inj h).symm⟩
  · rw [if_neg m] at h; cases h
theorem Oth.at {H : Hp} {pO : Addr} {nm l : List Cs} {u : Cs → T} {c : Cs → Addr} (h : Oth H pO nm l u c) : OthAt H (othK l c) (sgOf l u) := fun s => by
  unfold othK sgOf
  rw [valV_names]
  by_cases m : s ∈ l
  · exact .inr ⟨u s, c s, by rw [if_pos m], by rw [if_pos m], h.tr s m⟩
  · exact .inl ⟨by rw [if_neg m], by rw [if_neg m]⟩
theorem Oth.mono {H H' : Hp} {pO : Addr} {nm l : List Cs} {u : Cs → T} {c : Cs → Addr} (h : Oth H pO nm l u c) (k : ∀ a xs, H a = some (.tup xs) → H' a = some (.tup xs)) : Oth H' pO nm l u c := ⟨h.nd, h.lv, fun s m => (h.tr s m).mono k⟩
end Pg
namespace Pg
open PySem L2 Mr
theorem PairsAt.mut2 {H : Hp} {ps : List Addr} {kvs : List (Key × V)} {D : Addr} {o o' : HO} (h : PairsAt H ps kvs) (e : H D = some o') (n : ∀ xs, o' ≠ .tup xs) : PairsAt (upd H D o) ps kvs :=
  ⟨h.1, fun i p kv e1 e2 => by have g := h.2 i p kv e1 e2; rw [upd_ne (fun z => by rw [z, e] at g; exact n _ (Option.some.inj g))]; exact g⟩
theorem paired_imp {α β : Type} {F G : α → β → Prop} (f : ∀ a b, F a b → G a b) : ∀ {ps : List α} {qs : List β}, Paired F ps qs → Paired G ps qs
  | _, _, .nil => .nil
  | _, _, .cons h t => .cons (f _ _ h) (paired_imp f t)
theorem oth_ix {l : List Cs} {c : Cs → Addr} {n : Nat} {k : Key} {v : V} (h : (othK l c)[n]? = some (k, v)) : ∃ s, l[n]? = some s ∧ k = Sum.inr (S s) ∧ v = .ref (c s) := by
  unfold othK at h
  rw [List.getElem?_map] at h
  cases e : l[n]? with
  | none => rw [e] at h; cases h
  | some s =>
    rw [e] at h
    have := Option.some.inj h
    exact ⟨s, rfl, (congrArg Prod.fst this).symm, (congrArg Prod.snd this).symm⟩
theorem small_text {ns : List Cs} {d : Nat} {t : T} (h : Lv ns 9 d t) (hd : d ≤ 2) (ok : t.ok) : t.stp.length ≤ 10 ∧ t.text.length ≤ 100 := by
  have h1 := h.len1
  have h2 := text_len t ok
  have h3 : 2 ^ d ≤ 4 := by
    have : d = 0 ∨ d = 1 ∨ d = 2 := by omega
    rcases this with rfl | rfl | rfl <;> decide
  omega
def txK (l : List Cs) (F : Cs → V) : List (Key × V) := l.map fun s => ((Sum.inr (S s), F s) : Key × V)
theorem txK_len {l : List Cs} {F : Cs → V} : (txK l F).length = l.length := List.length_map _
theorem txK_take {l : List Cs} {F : Cs → V} {n : Nat} {s : Cs} (h : l[n]? = some s) : (txK l F).take (n + 1) = (txK l F).take n ++ [(Sum.inr (S s), F s)] := by
  rw [List.take_succ]
  unfold txK
  rw [List.getElem?_map, h]
  rfl
theorem txK_merge {l : List Cs} {F : Cs → V} (nd : l.Nodup) : mergeK [] (txK l F) = txK l F := merge_names nd
theorem txK_val (l : List Cs) (F : Cs → V) (s : Cs) : valV (txK l F) (Sum.inr (S s)) = if s ∈ l then some (F s) else none := valV_names F s l
end Pg
namespace Pg
open PySem L2 Mr
theorem sub_none : ∀ t : T, t.sub (fun _ => none) = t
  | .num k => by rw [T.sub]
  | .nam s => by rw [T.sub]; rfl
  | .plus t k => by rw [T.sub, sub_none t]
  | .node b ts => by
    rw [T.sub]
    have e : (ts.map fun t => t.sub fun _ => none) = ts.map id := List.map_congr_left fun t ht => sub_none t
    rw [e, List.map_id]
end Pg
namespace Pg
open PySem L2 Mr
theorem txK_over (W : Cs → V) (s : Cs) : ∀ (l : List Cs) (ks : List (Key × V)), valV (mergeK ks (txK l W)) (Sum.inr (S s)) = if s ∈ l then some (W s) else valV ks (Sum.inr (S s))
  | [], ks => by rw [if_neg List.not_mem_nil]; rfl
  | a :: l, ks => by
    show valV (mergeK (putK ks (Sum.inr (S a)) (W a)) (txK l W)) (Sum.inr (S s)) = _
    rw [txK_over W s l, valV_put]
    by_cases m : s ∈ l
    · rw [if_pos m, if_pos (List.mem_cons_of_mem _ m)]
    · rw [if_neg m]
      by_cases e : s = a
      · rw [if_pos (by rw [e]), if_pos (by rw [e]; exact List.mem_cons_self), e]
      · rw [if_neg (fun z => e (S_inj.mp (Sum.inr.inj z))), if_neg]
        intro z
        rcases List.mem_cons.mp z with z | z
        · exact e z
        · exact m z
end Pg
namespace Pg
open PySem L2 Mr
def fsub (l : List Cs) (u : Cs → T) (g : Cs → Int) : Cs → Int := fun s => if s ∈ l then (u s).val g else g s
theorem val_fsub (l : List Cs) (u : Cs → T) (g : Cs → Int) (t : T) : (t.sub (sgOf l u)).val g = t.val (fsub l u g) := by
  rw [val_sub]
  congr 1
  funext s
  unfold fsub sgOf
  by_cases m : s ∈ l
  · rw [if_pos m, if_pos m]
  · rw [if_neg m, if_neg m]
end Pg
namespace Pg
open PySem L2 Mr
def trEnd : T := .node true [.nam [117], .nam [118]]
def sgEnd : Cs → Option T := fun s => if s = [117] then some (.nam [118]) else if s = [118] then some (.nam [117]) else none
def kvEnd : List (Key × V) := [(Sum.inr ("u" : Str), .str "v"), (Sum.inr ("v" : Str), .str "u")]
theorem nam_text (s : Cs) : (T.nam s).text = s := by simp [T.text, T.tok]
theorem end_text : trEnd.text = [109, 97, 120, 40, 117, 44, 32, 118, 41] := by
  unfold trEnd
  rw [T.text_node, List.map_cons, List.map_cons, List.map_nil, nam_text, nam_text]
  rfl
theorem end_sub : (trEnd.sub sgEnd).text = [109, 97, 120, 40, 118, 44, 32, 117, 41] := by
  unfold trEnd
  rw [T.sub, List.map_cons, List.map_cons, List.map_nil, T.sub, T.sub]
  show (T.node true [.nam [118], .nam [117]]).text = _
  rw [T.text_node, List.map_cons, List.map_cons, List.map_nil, nam_text, nam_text]
  rfl
theorem end_str : V.str ("max(u, v)" : Str) = tv [109, 97, 120, 40, 117, 44, 32, 118, 41] ∧ tv [109, 97, 120, 40, 118, 44, 32, 117, 41] = V.str ("max(v, u)" : Str) := by decide +kernel
theorem end_ok : trEnd.ok := by
  unfold trEnd
  rw [T.ok]
  refine ⟨rfl, fun t ht => ?_⟩
  rcases List.mem_cons.mp ht with rfl | ht
  · rw [T.ok]; decide +kernel
  · rcases List.mem_singleton.mp ht with rfl
    rw [T.ok]; decide +kernel
theorem end_stp : trEnd.stp = [.nam [117], .nam [118], .call true 2] := by
  unfold trEnd
  rw [T.stp, List.map_cons, List.map_cons, List.map_nil, T.stp, T.stp]
  rfl
theorem end_val1 : valV (mergeK [] kvEnd) (Sum.inr (S [117])) = some (tv [118]) ∧ valV (mergeK [] kvEnd) (Sum.inr (S [118])) = some (tv [117]) := by decide +kernel
theorem end_val : ∀ s, Stp.nam s ∈ trEnd.stp → valV (mergeK [] kvEnd) (Sum.inr (S s)) = ((sgEnd s).map T.text).map tv := fun s m => by
  rw [end_stp] at m
  rcases List.mem_cons.mp m with m | m
  · cases m
    rw [end_val1.1]
    show _ = some (tv (T.nam [118]).text)
    rw [nam_text]
  rcases List.mem_cons.mp m with m | m
  · cases m
    rw [end_val1.2]
    show _ = some (tv (T.nam [117]).text)
    rw [nam_text]
  · cases List.mem_singleton.mp m
theorem end_small : ∀ s t, (sgEnd s).map T.text = some t → t.length ≤ 1000 ∧ ∃ ss', stepsOf t = some ss' := fun s t e => by
  have ok : ∀ u, sgEnd s = some u → u.ok ∧ u.text.length ≤ 1000 := fun u e => by
    unfold sgEnd at e
    by_cases c : s = [117]
    · rw [if_pos c] at e
      cases e
      rw [T.ok, nam_text]
      exact ⟨by decide +kernel, by decide⟩
    · rw [if_neg c] at e
      by_cases c2 : s = [118]
      · rw [if_pos c2] at e
        cases e
        rw [T.ok, nam_text]
        exact ⟨by decide +kernel, by decide⟩
      · rw [if_neg c2] at e
        cases e
  cases e2 : sgEnd s with
  | none => rw [e2] at e; cases e
  | some u =>
    rw [e2] at e
    cases e
    exact ⟨(ok u e2).2, _, T.steps _ (ok u e2).1⟩
end Pg
/-! Lw9 -/
set_option Elab.async false
set_option linter.all false
set_option maxRecDepth 100000
set_option maxHeartbeats 8000000
namespace Pg
open PySem L2 Mr
section
variable {P : Program} {w : World} {K : PySem.W.Frag} {mg : Str → Option Value} {base : Heap} {pS pC : Addr}
def spLaw (K : PySem.W.Frag) : Sp := fun vs H Q _ => ∃ (a : Addr) (ns : List Int), vs = [.ref a] ∧ SqL K H a (ns.map V.int) ∧ ns.length ≤ 63 ∧ ∀ H', Q (.bl true) H'
theorem sc_law : FnScope ["_law_script", "_law_k", "_law_box_here", "_law_turn", "_law_names", "_law_told", "_law_others", "_law_name", "_law_texts", "_law_kept", "_law_text_here", "_law_due", "_law_numbers_here", "_law_inner"] ["_law_script"] (defScope st_law) := ⟨rfl, rfl, rfl, by decide +kernel, rfl, by decide +kernel, by decide +kernel⟩
theorem ok_law {f : Addr} {fd : FuncData} (F : Fun K "law" "law" st_law f fd) (L : Lx mg) (c_box : CalX P w K mg base 1 "_law_box" (spBox K)) (c_take : CalX P w K mg base 1 "_law_take" spTake) (c_named_some : CalX P w K mg base 3 "_law_named_some" (spSome K))
    (c_level : CalX P w K mg base 6 "_law_level" (spLevel K 3)) (c_text : CalX P w K mg base 5 "_law_text" (spText 4)) (c_with : CalX P w K mg base 4 "_law_with" (spWith 3)) (c_worth : CalX P w K mg base 5 "_law_worth" (spVal 4))
    (c_numbers : CalX P w K mg base 3 "_law_numbers" (spNumbers K)) (c_put_for : CalX P w K mg base 6 "put_for" (spPut K)) (c_value : CalX P w K mg base 5 "value" (spValue K)) :
    FnOk P w K mg base CX0 7 f fd ["_law_script"] (spLaw K) := by
  refine F.ok sc_law (fun vs H Q E h => ?_) (fun cdv A outer s H vs Q E hr h => ?_)
  · obtain ⟨a, ns, rfl, _⟩ := h
    rfl
  obtain ⟨a, ns, rfl, hS, h63, q⟩ := h
  have nd := sc_law.nd
  have hu := hu_of hr
  have hl := Nat.lt_of_succ_lt hu
  refine ⟨_, (pss_cons (ps_for PassesOwn.never rfl (pi_range1 rfl L.range (pa_cons (pe_callB (call_max2 rfl) (by rfl) L.max (by decide +kernel) (pa_cons pe_int (pa_cons (pe_callB (call_min2 rfl) (by rfl) L.min (by decide +kernel) (pa_cons pe_int (pa_cons (pe_callB call_len_seq (by rfl) L.len PySem.boot_len (pa_cons (pv 0) pa_nil)) pa_nil))) pa_nil))) pa_nil)) (pg_name (i := 1) nd rfl (Or.inl rfl)) (pss_cons (ps_set (i := 2) nd rfl (.inl rfl) (C8.pe_c c_box hr (by decide) rfl (pa_cons (pv 0) (pa_cons (pv 1) (pa_cons pe_int pa_nil)))))
      (pss_one (ps_for PassesOwn.never rfl (pi_range1 rfl L.range (pa_cons pe_int pa_nil)) (pg_name (i := 3) nd rfl (Or.inl rfl)) (pss_cons (ps_set (i := 4) nd rfl (.inl rfl) (C8.pe_c c_named_some hr (by decide) rfl (pa_cons (pv 2) (pa_cons pe_int pa_nil))))
      (pss_cons (ps_asg (pe_tup (pa_cons (C8.pe_c c_level hr (by decide) rfl (pa_cons (pv 2) (pa_cons (pv 4) (pa_cons pe_int (pa_cons pe_int (pa_cons pe_bl pa_nil)))))) (pa_cons pe_dnewK pa_nil))) (pg_tup (n := 2) rfl (pgs_cons (pg_name (i := 5) nd rfl (Or.inl rfl)) (pgs_cons (pg_name (i := 6) nd rfl (Or.inr rfl)) pgs_nil))))
      (pss_cons (ps_for PassesOwn.never rfl (pi_list (pe_op op_cat (pv 4) (pe_lst (pa_cons pe_str pa_nil)))) (pg_name (i := 7) nd rfl (Or.inl rfl)) (pss_one (ps_if (pt_cmpR op_gt (C8.pe_c c_take hr (by decide) rfl (pa_cons (pv 2) (pa_cons pe_int pa_nil))) pe_int (nomark _)) (pss_one (ps_dput hu (pv 6) (pv 7) (C8.pe_c c_level hr (by decide) rfl (pa_cons (pv 2) (pa_cons (pv 4) (pa_cons (C8.pe_c c_take hr (by decide) rfl (pa_cons (pv 2) (pa_cons pe_int pa_nil))) (pa_cons pe_int (pa_cons pe_bl pa_nil)))))) rfl)) pss_nil)))
      (pss_cons (ps_set (i := 8) nd rfl (.inl rfl) (pe_callTy (call_dictP rfl) (by rfl) L.dict (by decide +kernel) (pa_cons (pe_lock (pe_lc (own := [("_law_name", 7)]) (g := gName 7) (tt := tYes) rfl nd (pi_keys (pv 6)) (blkOk_by (N := ["_law_script", "_law_k", "_law_box_here", "_law_turn", "_law_names", "_law_told", "_law_others", "_law_name", "_law_texts", "_law_kept", "_law_text_here", "_law_due", "_law_numbers_here", "_law_inner"]) (sc := defScope st_law) (by decide +kernel)) (fun _ _ _ _ _ => (pg_name (i := 7) nd rfl (Or.inl rfl))) (fun _ _ _ _ _ => pts_nil) (fun _ _ _ _ _ => (pe_tup (pa_cons (pv 7) (pa_cons (C8.pe_c c_text hr (by decide) rfl (pa_cons (pe_dget hu (pv 6) (pv 7) (fun _ _ => rfl)) pa_nil)) pa_nil)))))) pa_nil)))
      (pss_cons (ps_par (i := 9) (j := 10) (by rfl) nd rfl rfl (by decide) rfl rfl (pa_cons (pe_callTy (call_dictP rfl) (by rfl) L.dict (by decide +kernel) (pa_cons (LiI.pe_listItems rfl (pv 8) (by rfl) L.list (by decide +kernel)) pa_nil)) (pa_cons (C8.pe_c c_text hr (by decide) rfl (pa_cons (pv 5) pa_nil)) pa_nil)) (by rfl))
      (pss_cons (ps_set (i := 11) nd rfl (.inl rfl) (C8.pe_c c_text hr (by decide) rfl (pa_cons (C8.pe_c c_with hr (by decide) rfl (pa_cons (pv 5) (pa_cons (pv 6) pa_nil))) pa_nil)))
      (pss_cons (ps_if (PW.pt (pw_or (pt_cmpR op_ne (C8.pe_c c_put_for hr (by decide) rfl (pa_cons (pv 10) (pa_cons (pv 8) pa_nil))) (pv 11) (nomark _)) (pw_or (pt_cmpR (op_ne_dictA hl) (pv 8) (pv 9) (nomark _)) (pw_or1 (pt_cmpR op_ne (C8.pe_c c_put_for hr (by decide) rfl (pa_cons (pv 10) (pa_cons pe_dnewK pa_nil))) (pv 10) (nomark _)))))) (pss_one (ps_ret pe_bl)) pss_nil)
      (pss_cons (ps_set (i := 12) nd rfl (.inr rfl) (C8.pe_c c_numbers hr (by decide) rfl (pa_cons (pv 2) (pa_cons (pv 4) (pa_cons pe_int pa_nil)))))
      (pss_cons (ps_set (i := 13) nd rfl (.inl rfl) (pe_callTy (call_dictP rfl) (by rfl) L.dict (by decide +kernel) (pa_cons (pe_lc (own := [("_law_name", 7)]) (g := gName 7) (tt := tYes) rfl nd (pi_list (pv 4)) (blkOk_by (N := ["_law_script", "_law_k", "_law_box_here", "_law_turn", "_law_names", "_law_told", "_law_others", "_law_name", "_law_texts", "_law_kept", "_law_text_here", "_law_due", "_law_numbers_here", "_law_inner"]) (sc := defScope st_law) (by decide +kernel)) (fun _ _ _ _ _ => (pg_name (i := 7) nd rfl (Or.inl rfl))) (fun _ _ _ _ _ => pts_nil) (fun _ _ _ _ _ => (pe_tup (pa_cons (pv 7) (pa_cons (pe_dget hu (pv 12) (pv 7) (fun _ _ => rfl)) pa_nil))))) pa_nil)))
      (pss_cons (ps_expr (pe_bm PySem.F.plainAttrs_dict PySem.F.slot_dict_update PySem.F.type_dict_update mt_update (pv 13) (pa_cons (pe_callTy (call_dictP rfl) (by rfl) L.dict (by decide +kernel) (pa_cons (pe_lock (pe_lc (own := [("_law_name", 7)]) (g := gName 7) (tt := tYes) rfl nd (pi_keys (pv 6)) (blkOk_by (N := ["_law_script", "_law_k", "_law_box_here", "_law_turn", "_law_names", "_law_told", "_law_others", "_law_name", "_law_texts", "_law_kept", "_law_text_here", "_law_due", "_law_numbers_here", "_law_inner"]) (sc := defScope st_law) (by decide +kernel)) (fun _ _ _ _ _ => (pg_name (i := 7) nd rfl (Or.inl rfl))) (fun _ _ _ _ _ => pts_nil) (fun _ _ _ _ _ => (pe_tup (pa_cons (pv 7) (pa_cons (C8.pe_c c_worth hr (by decide) rfl (pa_cons (pe_dget hu (pv 6) (pv 7) (fun _ _ => rfl)) (pa_cons (pv 12) pa_nil))) pa_nil)))))) pa_nil)) pa_nil)))
      (pss_one (ps_if (pt_cmpR op_ne (C8.pe_c c_value hr (by decide) rfl (pa_cons (C8.pe_c c_put_for hr (by decide) rfl (pa_cons (pv 10) (pa_cons (pv 8) pa_nil))) (pa_cons (pv 12) pa_nil))) (C8.pe_c c_worth hr (by decide) rfl (pa_cons (pv 5) (pa_cons (pv 13) pa_nil))) (nomark _)) (pss_one (ps_ret pe_bl)) pss_nil))))))))))))))))
      (pss_one (ps_ret (pe_cmpR op_eq (C8.pe_c c_put_for hr (by decide) rfl (pa_cons pe_str (pa_cons (pe_disp (pps_cons pe_str pe_str (pps_cons pe_str pe_str pps_nil)) (by rfl) (by rfl) (fun z => by cases z) (by decide)) pa_nil))) pe_str (nomark _))))), ?_⟩
  have hm : ∀ l : Nat, (1 : Int) ≤ (if (if (l : Int) < 3 then (l : Int) else 3) > 1 then (if (l : Int) < 3 then (l : Int) else 3) else 1) ∧ (if (if (l : Int) < 3 then (l : Int) else 3) > 1 then (if (l : Int) < 3 then (l : Int) else 3) else 1) ≤ 3 := fun l => by
    split <;> split <;> omega
  have hm1 := hm (ns.map V.int).length
  refine ⟨_, rfl, a, _, rfl, .inl hS, _, _, rfl, _, _, rfl, _, rfl, ?_, ?_, for_range (fun i σ H' => ∃ u1 u2 u3 u4 u5 u6 u7 u8 u9 u10 u11 u12 u13, σ = [some (.ref a), u1, u2, u3, u4, u5, u6, u7, u8, u9, u10, u11, u12, u13] ∧ SqL K H' a (ns.map V.int)) ⟨_, _, _, _, _, _, _, _, _, _, _, _, _, rfl, hS⟩ ?turn ?last⟩
  · exact Int.le_trans (by decide) hm1.1
  · exact Int.lt_of_le_of_lt hm1.2 (by decide)
  case turn =>
    rintro i σ H1 hi ⟨u1, u2, u3, u4, u5, u6, u7, u8, u9, u10, u11, u12, u13, rfl, hS1⟩
    have hi3 : i < 3 := Nat.lt_of_lt_of_le hi (Int.toNat_le.mpr hm1.2)
    refine ⟨_, rfl, _, rfl, a, ns, 0 + (i : Int), 5, rfl, hS1, by omega, by omega, by decide, by decide, fun H2 b s2 nb hb => ?_⟩
    have hSB : SqB K H2 b a (ns.map V.int) := .mk hS1 s2 nb
    refine ⟨_, rfl, by decide, by decide, for_range (n := 10) (fun j σ H' => ∃ u3 u4 u5 u6 u7 u8 u9 u10 u11 u12 u13, σ = [some (.ref a), some (.int (0 + (i : Int))), some (.ref b), u3, u4, u5, u6, u7, u8, u9, u10, u11, u12, u13] ∧ BoxAt H' b ∧ SqB K H' b a (ns.map V.int)) ⟨_, _, _, _, _, _, _, _, _, _, _, rfl, hb, hSB⟩ ?one ?all⟩
    case all =>
      rintro σ H' ⟨u3, u4, u5, u6, u7, u8, u9, u10, u11, u12, u13, rfl, hb, hSB⟩
      exact ⟨_, _, _, _, _, _, _, _, _, _, _, _, _, rfl, hSB.get⟩
    case one =>
      rintro j σ H3 hj ⟨u3, u4, u5, u6, u7, u8, u9, u10, u11, u12, u13, rfl, hb, hSB⟩
      refine ⟨_, rfl, b, 3, rfl, hb, by decide, by decide, fun H4 pN nm bx4 npN nbN hN lenN ndN allN => ?_⟩
      refine ⟨_, rfl, _, rfl, b, pN, nm, 2, 9, rfl, bx4.box, nbN, SqL.of hN, by omega, by omega, by decide, by decide, fun H5 pT t bx5 hT lvT => ?_⟩
      refine fun pO nO => ⟨(by show 2 ≤ sizeLine; decide), fun pp np => ?_⟩
      refine ⟨pp, _, rfl, SqT.of upd_same, rfl, _, _, rfl, _, _, rfl, rfl, ?_⟩
      have bO : pO ≠ b := bx5.box.ne nO
      have bx6 : Bx H5 (upd H5 pO (.dK [])) b := (Bx.refl bx5.box).mut nO bO
      have hN6 : upd H5 pO (.dK []) pN = some (.lst (nm.map tv)) := same_new nO _ _ _ (bx5.keep pN _ nbN hN)
      have hT6 : TreeAt (upd H5 pO (.dK [])) t pT := hT.same (same_new nO _)
      have hO6 : upd H5 pO (.dK []) pO = some (.dK []) := upd_same
      have hSB5 : SqB K H5 b a (ns.map V.int) := (hSB.bx bx4).bx bx5
      refine ⟨_, rfl, (by show 1 ≤ sizeLine; decide), fun pq nq => ?_⟩
      generalize hg6 : upd H5 pO (.dK []) = H6 at bx6 hN6 hT6 hO6 np nq ⊢
      have s7 : Same H6 (upd (upd H6 pp (.tup [.ref pT, .ref pO])) pq (.lst [.str "q"])) := (same_new np _).trans (same_new nq _)
      have hq7 : upd (upd H6 pp (.tup [.ref pT, .ref pO])) pq (.lst [.str "q"]) pq = some (.lst [.str "q"]) := upd_same
      generalize upd (upd H6 pp (.tup [.ref pT, .ref pO])) pq (.lst [.str "q"]) = H7 at s7 hq7
      obtain ⟨ndq, eq⟩ := with_q ndN allN
      refine ⟨pN, pq, _, _, rfl, rfl, s7 _ _ hN6, hq7, (by rw [List.length_map]; show nm.length + 1 ≤ sizeLine; rw [lenN]; decide), fun pl npl => ?_⟩
      rw [← eq]
      have s8 : Same H6 (upd H7 pl (.lst ((nm ++ [cQ]).map tv))) := s7.trans (same_new npl _)
      have hl8 : upd H7 pl (.lst ((nm ++ [cQ]).map tv)) pl = some (.lst ((nm ++ [cQ]).map tv)) := upd_same
      have npl6 : H6 pl = none := by
        cases e : H6 pl with
        | none => rfl
        | some o => rw [s7 _ _ e] at npl; cases npl
      have blN : pl ≠ b := bx6.box.ne npl6
      have lO : pl ≠ pO := fun z => by rw [z, hO6] at npl6; cases npl6
      generalize upd H7 pl (.lst ((nm ++ [cQ]).map tv)) = H8 at s8 hl8
      refine ⟨pl, rfl, ⟨_, SqL.of hl8⟩, for_list (K := K) (a := pl) (xs := (nm ++ [cQ]).map tv) (fun n σ H' => ∃ (u7 : Option V) (l : List Cs) (u : Cs → T) (c : Cs → Addr), σ = [some (.ref a), some (.int (0 + (i : Int))), some (.ref b), some (.int (0 + (j : Int))), some (.ref pN), some (.ref pT), some (.ref pO), u7, u8, u9, u10, u11, u12, u13] ∧
          Bx H5 H' b ∧ H' pl = some (.lst ((nm ++ [cQ]).map tv)) ∧ H' pO = some (.dK (othK l c)) ∧ Oth H' pO nm l u c ∧ (∀ s ∈ l, s ∈ (nm ++ [cQ]).take n) ∧ l.length ≤ n)
        ⟨_, [], fun _ => .num 0, fun _ => 0, rfl, bx6.same s8, hl8, s8 _ _ hO6, ⟨List.nodup_nil, fun s m => absurd m List.not_mem_nil, fun s m => absurd m List.not_mem_nil⟩, (fun s m => absurd m List.not_mem_nil), Nat.le_refl _⟩ (fun n σ H' _ ⟨_, _, _, _, _, _, h, _⟩ => SqL.of h) ?draw ?drawn⟩
      case draw =>
        rintro n x σ H9 hi9 ⟨u7, l, u, c, rfl, bx9, hl9, hO9, oth, sub9, len9⟩
        obtain ⟨y, hy, rfl⟩ := at_name hi9
        refine ⟨_, rfl, b, 3, rfl, bx9.box, by decide, by decide, fun r d1 t1 c1 r0 r1 => ⟨_, _, rfl, rfl, _, rfl, ?_⟩⟩
        have bd1 : Bx H9 (upd H9 b (boxV d1 t1 c1)) b := Bx.draw
        generalize upd H9 b (boxV d1 t1 c1) = H10 at bd1
        have bx10 := bx9.trans bd1
        have tk : ∀ s ∈ l, s ∈ (nm ++ [cQ]).take (n + 1) := fun s m => by
          rw [List.take_succ]
          exact List.mem_append_left _ (sub9 s m)
        refine ite2 (fun _ => ?_) (fun _ => ?_)
        · refine ⟨_, rfl, _, rfl, _, rfl, b, 2, rfl, bx10.box, by decide, by decide, fun r2 d2 t2 c2 r20 r21 => ?_⟩
          have bd2 : Bx H10 (upd H10 b (boxV d2 t2 c2)) b := Bx.draw
          generalize upd H10 b (boxV d2 t2 c2) = H11 at bd2
          have bx11 := bx10.trans bd2
          refine ⟨b, pN, nm, r2.toNat, 9, (by rw [Int.toNat_of_nonneg r20]; rfl), bx11.box, nbN, SqL.of (bx11.keep pN _ nbN (bx5.keep pN _ nbN hN)), by omega, by omega, by omega, by decide, fun H12 p t2 bd3 ht lv => ?_⟩
          have bd := (bd1.trans bd2).trans bd3
          have hO12 := bd.keep pO _ bO hO9
          have yl : y ∉ l := fun m => not_take ndq hy (sub9 y m)
          refine ⟨_, rfl, _, rfl, pO, _, rfl, DPut.k (k := Sum.inr (S y)) hO12 (big (by unfold othK; rw [List.length_map]; have hn := (List.getElem?_eq_some_iff.mp hy).1; rw [List.length_append, lenN] at hn; have : [cQ].length = 1 := rfl; omega)), ?_⟩
          refine ⟨_, l ++ [y], fun s => if s = y then t2 else u s, fun s => if s = y then p else c s, rfl, (bx11.trans bd3).mut nO bO, ?_, ?_, ?_, ?_, (by rw [List.length_append]; have : [y].length = 1 := rfl; omega)⟩
          · rw [upd_ne lO]; exact bd.keep pl _ blN hl9
          · rw [upd_same]
            unfold othK
            rw [put_name yl]
            refine congrArg some (congrArg HO.dK ?_)
            exact names_cong fun s _ => by by_cases e : s = y <;> simp [e]
          · have km : ∀ a xs, H9 a = some (.tup xs) → upd H12 pO (.dK (putK (othK l c) (Sum.inr (S y)) (V.ref p))) a = some (.tup xs) := fun a xs e => by
              have e2 := bd.tup bx9.box e
              rw [upd_ne (fun z => by rw [z, hO12] at e2; cases e2)]
              exact e2
            refine ⟨List.nodup_append.mpr ⟨oth.nd, by simp, fun a ha b hb e => yl (by rcases List.mem_singleton.mp hb with rfl; rw [← e]; exact ha)⟩, fun s m => ?_, fun s m => ?_⟩
            · by_cases e : s = y
              · show Lv nm 9 1 (if s = y then t2 else u s)
                rw [if_pos e]; exact lv.mono 1 (by omega)
              · show Lv nm 9 1 (if s = y then t2 else u s)
                rw [if_neg e]
                rcases List.mem_append.mp m with m | m
                · exact oth.lv s m
                · exact absurd (List.mem_singleton.mp m) e
            · by_cases e : s = y
              · show TreeAt _ (if s = y then t2 else u s) (if s = y then p else c s)
                rw [if_pos e, if_pos e]
                exact ht.mono fun a xs e => by rw [upd_ne (fun z => by rw [z, hO12] at e; cases e)]; exact e
              · show TreeAt _ (if s = y then t2 else u s) (if s = y then p else c s)
                rw [if_neg e, if_neg e]
                rcases List.mem_append.mp m with m | m
                · exact (oth.tr s m).mono km
                · exact absurd (List.mem_singleton.mp m) e
          · intro s m
            rcases List.mem_append.mp m with m | m
            · exact tk s m
            · rcases List.mem_singleton.mp m with rfl
              rw [List.take_succ, hy]
              exact List.mem_append_right _ (by simp)
        · exact ⟨_, l, u, c, rfl, bx10, bd1.keep pl _ blN hl9, bd1.keep pO _ bO hO9, oth.mono (fun a xs e => bd1.tup bx9.box e), tk, Nat.le_succ_of_le len9⟩
      case drawn =>
        rintro σ H9 ⟨u7, l, u, c, rfl, bx9, hl9, hO9, oth, sub9, len9⟩
        have hu1 : ∀ s ∈ l, (u s).ok ∧ (u s).text.length ≤ 100 ∧ (u s).stp.length ≤ 4 := fun s m => by
          have lv := oth.lv s m
          have ok := lv.ok (by decide) (fun s m => (allN s m).1)
          have h1 := lv.len1
          exact ⟨ok, (small_text lv (by decide) ok).2, by omega⟩
        have okT : t.ok := lvT.ok (by decide) (fun s m => (allN s m).1)
        have smT := small_text lvT (Nat.le_refl _) okT
        have l4 : l.length ≤ 4 := by
          rw [List.length_map, List.length_append, lenN] at len9
          exact len9
        -- the texts
        refine ⟨pO, _, hO9, trivial, fun od => ⟨_, rfl, pO, od, rfl, .inl ⟨othK l c, upd_same, fun D nD => lc_it walk_keys (fun n H' => Same (upd H9 pO (.frz od (.dK (othK l c)))) H' ∧ ∃ ps : List Addr, H' D = some (.lst (ps.map V.ref)) ∧ PairsAt H' ps ((txK l fun s => tv (u s).text).take n))
          ⟨same_new nD _, [], upd_same, rfl, fun i p kv e1 e2 => by cases e1⟩ (fun n H' _ p => p.1 _ _ upd_same) ?t1 ?t1d⟩⟩⟩
        case t1 =>
          rintro n x H10 H10' hn ⟨s10, ps, hD, pa⟩ ⟨rfl, kk, vv, hk, rfl⟩
          obtain ⟨s0, hs0, rfl, rfl⟩ := oth_ix hk
          have m0 : s0 ∈ l := List.mem_of_getElem? hs0
          have hf := s10 _ _ (upd_same (H := H9) (a := pO) (o := .frz od (.dK (othK l c))))
          have hv : valV (othK l c) (Sum.inr (S s0)) = some (.ref (c s0)) := by unfold othK; rw [valV_names, if_pos m0]
          have km : ∀ a xs, H9 a = some (.tup xs) → H10' a = some (.tup xs) := fun a xs e => s10 _ _ (by rw [upd_ne (fun z => by rw [z, hO9] at e; cases e)]; exact e)
          refine ⟨rfl, ⟨_, rfl, _, rfl, _, rfl, pO, .ref (c s0), rfl, .inl ⟨othK l c, Sum.inr (S s0), .inr ⟨od, hf⟩, rfl, hv.symm⟩, ?_⟩⟩
          refine ⟨c s0, u s0, 1, rfl, (oth.tr s0 m0).mono km, by decide, (oth.lv s0 m0).dp, (hu1 s0 m0).1, Nat.le_trans (hu1 s0 m0).2.1 (by decide), fun H11 s11 => ⟨(by show 2 ≤ sizeLine; decide), fun pt npt => ?_⟩⟩
          have s12 : Same H10' (upd H11 pt (.tup [kV (Sum.inr (S s0)), tv (u s0).text])) := s11.trans (same_new npt _)
          have hpt : upd H11 pt (.tup [kV (Sum.inr (S s0)), tv (u s0).text]) pt = some (.tup [kV (Sum.inr (S s0)), tv (u s0).text]) := upd_same
          generalize upd H11 pt (.tup [kV (Sum.inr (S s0)), tv (u s0).text]) = H12 at s12 hpt
          have hD12 := s12 _ _ hD
          have hn4 : n < l.length := (List.getElem?_eq_some_iff.mp hs0).1
          refine ⟨_, hD12, big (by rw [List.length_map, pa.1, List.length_take, txK_len]; omega), same_mut (s10.trans s12) nD, ps ++ [pt], by rw [upd_same, List.map_append]; rfl, ?_⟩
          rw [txK_take hs0]
          exact (PairsAt.push (kv := (Sum.inr (S s0), tv (u s0).text)) (pa.same s12) hpt).mut hD12
        case t1d =>
          rintro H10 ⟨s10, ps, hD, pa⟩
          have hf := s10 _ _ (upd_same (H := H9) (a := pO) (o := .frz od (.dK (othK l c))))
          refine ⟨hf, ?_⟩
          have s9 : Same H9 (upd H10 pO (.dK (othK l c))) := lock_same hO9 fun x o ne e => s10 x o (by rw [upd_ne ne]; exact e)
          have pa2 := pa.mut2 (o := .dK (othK l c)) hf (fun xs z => by cases z)
          rw [List.take_of_length_le (by unfold othK; rw [txK_len, List.length_map]; exact Nat.le_refl _)] at pa2
          have DO : D ≠ pO := fun z => by rw [z, upd_same] at nD; cases nD
          have hD2 : upd H10 pO (.dK (othK l c)) D = some (.lst (ps.map V.ref)) := by rw [upd_ne DO]; exact hD
          have hO10 : upd H10 pO (.dK (othK l c)) pO = some (.dK (othK l c)) := upd_same
          generalize upd H10 pO (.dK (othK l c)) = H11 at s9 pa2 hD2 hO10 ⊢
          refine ⟨D, ps, txK l fun s => tv (u s).text, rfl, SqL.of hD2, pa2.paired, fun pX nX => ?_⟩
          rw [txK_merge oth.nd]
          have s12 : Same H9 (upd H11 pX (.dK (txK l fun s => tv (u s).text))) := s9.trans (same_new nX _)
          have hX12 : upd H11 pX (.dK (txK l fun s => tv (u s).text)) pX = some (.dK (txK l fun s => tv (u s).text)) := upd_same
          generalize upd H11 pX (.dK (txK l fun s => tv (u s).text)) = H12 at s12 hX12
          -- the copy, the text of the level
          refine ⟨_, rfl, pX, txK l fun s => tv (u s).text, rfl, hX12, fun H13 pI ts keep npI nts ndI hpI prs => ?_⟩
          have s13 : Same H12 H13 := keep
          refine ⟨pI, ts, txK l fun s => tv (u s).text, rfl, SqL.of hpI, paired_imp (fun p kv e => SqT.of e) prs, fun pK nK => ?_⟩
          rw [txK_merge oth.nd]
          have s14 : Same H9 (upd H13 pK (.dK (txK l fun s => tv (u s).text))) := (s12.trans s13).trans (same_new nK _)
          have hX14 := same_new nK (.dK (txK l fun s => tv (u s).text)) _ _ (s13 _ _ hX12)
          have hK14 : upd H13 pK (.dK (txK l fun s => tv (u s).text)) pK = some (.dK (txK l fun s => tv (u s).text)) := upd_same
          generalize upd H13 pK (.dK (txK l fun s => tv (u s).text)) = H14 at s14 hX14 hK14
          have hT9 : TreeAt H9 t pT := hT.bx bx9 bx5.box
          refine ⟨_, rfl, pT, t, 2, rfl, hT9.same s14, by decide, lvT.dp, okT, Nat.le_trans smT.2 (by decide), fun H15 s15 => ⟨_, _, rfl, ?_⟩⟩
          -- what is due
          have s15' := s14.trans s15
          refine ⟨_, rfl, _, rfl, pT, pO, t, 2, othK l c, sgOf l u, rfl, hT9.same s15', by decide, lvT.dp, s15' _ _ hO9, oth.at.same s15', fun H16 p16 s16 ht16 => ?_⟩
          have hsg : ∀ s v, sgOf l u s = some v → s ∈ l ∧ v = u s := fun s v e => sg_some e
          have okS : (t.sub (sgOf l u)).ok := ok_sub _ (fun s v e => by obtain ⟨m, rfl⟩ := hsg s v e; exact (hu1 s m).1) t okT
          have dpS : Dp 3 (t.sub (sgOf l u)) := Dp.sub (e := 1) (fun s v e => by obtain ⟨m, rfl⟩ := hsg s v e; exact (oth.lv s m).dp) lvT.dp
          have lnS := lvT.len (sgOf l u) (fun s v e => by obtain ⟨m, rfl⟩ := hsg s v e; exact (hu1 s m).2.2)
          have l31 : (t.sub (sgOf l u)).stp.length ≤ 31 := by
            have : 9 * 2 ^ 2 = 36 := rfl
            omega
          have txS := text_len _ okS
          refine ⟨p16, t.sub (sgOf l u), 3, rfl, ht16, by decide, dpS, okS, by omega, fun H17 s17 => ?_⟩
          have s17' := (s15'.trans s16).trans s17
          have hX17 := s17 _ _ (s16 _ _ (s15 _ _ hX14))
          have hK17 := s17 _ _ (s16 _ _ (s15 _ _ hK14))
          -- put_for
          have hval : ∀ s, Stp.nam s ∈ t.stp → valV (txK l fun s => tv (u s).text) (Sum.inr (S s)) = ((sgOf l u s).map T.text).map tv := fun s _ => by
            rw [txK_val]
            unfold sgOf
            by_cases m : s ∈ l
            · rw [if_pos m, if_pos m]; rfl
            · rw [if_neg m, if_neg m]; rfl
          have hsub : ∀ s v, (sgOf l u s).map T.text = some v → v.length ≤ 1000 ∧ ∃ ss', stepsOf v = some ss' := fun s v e => by
            cases e2 : sgOf l u s with
            | none => rw [e2] at e; cases e
            | some v2 =>
              rw [e2] at e
              cases e
              obtain ⟨m, rfl⟩ := hsg s v2 e2
              exact ⟨Nat.le_trans (hu1 s m).2.1 (by decide), _, T.steps _ (hu1 s m).1⟩
          have hrep := tok_sub (sgOf l u) t.stp (names_ok t okT) t okT fun s m => m
          have tT1 : t.text.length ≤ 1000 := Nat.le_trans smT.2 (by decide)
          have tT2 : t.stp.length < 64 := by omega
          refine ⟨_, rfl, _, rfl, t.text, t.tok, t.stp, pX, txK l fun s => tv (u s).text, fun s => (sgOf l u s).map T.text, rfl, tT1, T.toks_text t okT, T.steps t okT, tT2, hX17, hval, hsub, fun H18 s18 => ?_⟩
          rw [hrep]
          refine ⟨_, rfl, rfl, _, rfl, ?_⟩
          rw [eq_self]
          have hX18 := s18 _ _ hX17
          have hK18 := s18 _ _ hK17
          refine iteF ⟨_, rfl, _, rfl, pX, pK, _, _, rfl, rfl, hX18, hK18, rfl, fun p hp => ?_, _, rfl, ?_⟩
          · obtain ⟨s, hs, rfl⟩ := List.mem_map.mp hp
            exact ⟨by rw [txK_val, if_pos hs], rfl⟩
          refine iteF ⟨_, rfl, fun pE nE => ⟨t.text, t.tok, t.stp, pE, [], fun _ => none, rfl, tT1, T.toks_text t okT, T.steps t okT, tT2, upd_same, fun s _ => rfl, (fun s v e => by cases e), fun H19 s19 => ?_⟩⟩
          have hrep0 := tok_sub (fun _ => none) t.stp (names_ok t okT) t okT fun s m => m
          have hrep1 : (t.tok.map (repl t.stp fun _ => none)).flatten = t.text := by
            rw [sub_none] at hrep0
            exact hrep0
          rw [hrep1]
          refine ⟨_, rfl, rfl, _, rfl, ?_⟩
          rw [eq_self]
          have s19' : Same H9 H19 := (s17'.trans s18).trans ((same_new nE _).trans s19)
          have hX19 := ((same_new nE (.dK [])).trans s19) _ _ hX18
          refine iteF ?_
          -- numbers
          have bx19 : Bx H5 H19 b := bx9.same s19'
          have hN19 : H19 pN = some (.lst (nm.map tv)) := bx19.keep pN _ nbN (bx5.keep pN _ nbN hN)
          refine ⟨_, rfl, _, rfl, b, pN, nm, 12, rfl, bx19.box, nbN, SqL.of hN19, ndN, by omega, by decide, fun H20 pM g bx20 npM hM20 => ?_⟩
          have bx20' := bx19.trans bx20
          have hN20 := bx20.keep pN _ nbN hN19
          have bM : pM ≠ b := fun z => by
            obtain ⟨d0, t0, c0, e0⟩ := bx19.box
            rw [z, e0] at npM
            cases npM
          -- the names' own numbers
          refine ⟨_, rfl, pN, rfl, ⟨_, SqL.of hN20⟩, fun D nD => lc_list (K := K) (a := pN) (xs := nm.map tv) (fun n H' => Same H20 H' ∧ ∃ ps : List Addr, H' D = some (.lst (ps.map V.ref)) ∧ PairsAt H' ps ((txK nm fun s => V.int (g s)).take n))
            ⟨same_new nD _, [], upd_same, rfl, fun i p kv e1 e2 => by cases e1⟩ (fun n H' _ p => SqL.of (p.1 _ _ hN20)) ?g1 ?g1d⟩
          case g1 =>
            rintro n x H21 hn ⟨s21, ps, hD, pa⟩
            obtain ⟨y, hy, rfl⟩ := at_name hn
            have m0 : y ∈ nm := List.mem_of_getElem? hy
            have hv : valV (numK nm g) (Sum.inr (S y)) = some (.int (g y)) := by unfold numK; rw [valV_names, if_pos m0]
            have hg := DGet.k (k := Sum.inr (S y)) (s21 _ _ hM20)
            rw [hv] at hg
            refine ⟨rfl, ⟨_, rfl, _, rfl, _, rfl, pM, .int (g y), rfl, hg, (by show 2 ≤ sizeLine; decide), fun pt npt => ?_⟩⟩
            have s22 : Same H21 (upd H21 pt (.tup [tv y, .int (g y)])) := same_new npt _
            have hpt : upd H21 pt (.tup [tv y, .int (g y)]) pt = some (.tup [tv y, .int (g y)]) := upd_same
            generalize upd H21 pt (.tup [tv y, .int (g y)]) = H22 at s22 hpt
            have hn4 : n < nm.length := (List.getElem?_eq_some_iff.mp hy).1
            refine ⟨_, s22 _ _ hD, big (by rw [List.length_map, pa.1, List.length_take, txK_len]; omega), same_mut (s21.trans s22) nD, ps ++ [pt], by rw [upd_same, List.map_append]; rfl, ?_⟩
            rw [txK_take hy]
            exact (PairsAt.push (kv := (Sum.inr (S y), .int (g y))) (pa.same s22) hpt).mut (s22 _ _ hD)
          case g1d =>
            rintro H21 ⟨s21, ps, hD, pa⟩
            rw [List.take_of_length_le (by rw [txK_len, List.length_map]; exact Nat.le_refl _)] at pa
            refine ⟨D, ps, txK nm fun s => V.int (g s), rfl, SqL.of hD, pa.paired, fun pY nY => ?_⟩
            rw [txK_merge ndN]
            have s22 : Same H20 (upd H21 pY (.dK (txK nm fun s => V.int (g s)))) := s21.trans (same_new nY _)
            have hY22 : upd H21 pY (.dK (txK nm fun s => V.int (g s))) pY = some (.dK (txK nm fun s => V.int (g s))) := upd_same
            have nY20 : H20 pY = none := by
              cases e : H20 pY with
              | none => rfl
              | some o => rw [s21 _ _ e] at nY; cases nY
            generalize upd H21 pY (.dK (txK nm fun s => V.int (g s))) = H22 at s22 hY22
            -- the levels' values
            have hO22 : H22 pO = some (.dK (othK l c)) := s22 _ _ (bx20.keep pO _ bO (s19' _ _ hO9))
            have oth22 : Oth H22 pO nm l u c := oth.mono fun a xs e => s22 _ _ (bx20.tup bx19.box (s19' _ _ e))
            have hM22 := s22 _ _ hM20
            have MO : pM ≠ pO := fun z => by rw [z, s19' _ _ hO9] at npM; cases npM
            have YO : pY ≠ pO := fun z => by rw [z, bx20.keep pO _ bO (s19' _ _ hO9)] at nY20; cases nY20
            have YX : pY ≠ pX := fun z => by
              have bX : pX ≠ b := fun z2 => by
                obtain ⟨d0, t0, c0, e0⟩ := bx19.box
                rw [z2, e0] at hX19
                cases hX19
              rw [z, bx20.keep pX _ bX hX19] at nY20
              cases nY20
            have YM : pY ≠ pM := fun z => by rw [z, hM20] at nY20; cases nY20
            refine ⟨_, rfl, .inr (.inr (.inl ⟨rfl, .inl ⟨_, hY22⟩⟩)), ?_⟩
            have hX22 : H22 pX = some (.dK (txK l fun s => tv (u s).text)) := by
              have bX : pX ≠ b := fun z2 => by
                obtain ⟨d0, t0, c0, e0⟩ := bx19.box
                rw [z2, e0] at hX19
                cases hX19
              exact s22 _ _ (bx20.keep pX _ bX hX19)
            have hT22 : TreeAt H22 t pT := (hT.bx ((bx20'.same s22)) bx5.box)
            refine ⟨pO, _, hO22, trivial, fun od => ⟨_, rfl, pO, od, rfl, .inl ⟨othK l c, upd_same, fun D2 nD2 => lc_it walk_keys (fun n H' => Same (upd H22 pO (.frz od (.dK (othK l c)))) H' ∧ ∃ ps : List Addr, H' D2 = some (.lst (ps.map V.ref)) ∧ PairsAt H' ps ((txK l fun s => V.int ((u s).val g)).take n))
              ⟨same_new nD2 _, [], upd_same, rfl, fun i p kv e1 e2 => by cases e1⟩ (fun n H' _ p => p.1 _ _ upd_same) ?w1 ?w1d⟩⟩⟩
            case w1 =>
              rintro n x H23 H23' hn ⟨s23, ps2, hD2, pa2⟩ ⟨rfl, kk, vv, hk, rfl⟩
              obtain ⟨s0, hs0, rfl, rfl⟩ := oth_ix hk
              have m0 : s0 ∈ l := List.mem_of_getElem? hs0
              have hf := s23 _ _ (upd_same (H := H22) (a := pO) (o := .frz od (.dK (othK l c))))
              have hv : valV (othK l c) (Sum.inr (S s0)) = some (.ref (c s0)) := by unfold othK; rw [valV_names, if_pos m0]
              have km : ∀ a xs, H22 a = some (.tup xs) → H23' a = some (.tup xs) := fun a xs e => s23 _ _ (by rw [upd_ne (fun z => by rw [z, hO22] at e; cases e)]; exact e)
              have hM23 : H23' pM = some (.dK (numK nm g)) := s23 _ _ (by rw [upd_ne MO]; exact hM22)
              refine ⟨rfl, ⟨_, rfl, _, rfl, _, rfl, pO, .ref (c s0), rfl, .inl ⟨othK l c, Sum.inr (S s0), .inr ⟨od, hf⟩, rfl, hv.symm⟩, ?_⟩⟩
              refine ⟨_, rfl, c s0, pM, u s0, 1, g, rfl, (oth22.tr s0 m0).mono km, by decide, (oth.lv s0 m0).dp, (hu1 s0 m0).1, ⟨_, hM23, fun s hs => ?_⟩, fun H24 s24 => ⟨(by show 2 ≤ sizeLine; decide), fun pt npt => ?_⟩⟩
              · unfold numK
                rw [valV_names, if_pos ((oth.lv s0 m0).over s hs)]
              have s25 : Same H23' (upd H24 pt (.tup [kV (Sum.inr (S s0)), .int ((u s0).val g)])) := s24.trans (same_new npt _)
              have hpt : upd H24 pt (.tup [kV (Sum.inr (S s0)), .int ((u s0).val g)]) pt = some (.tup [kV (Sum.inr (S s0)), .int ((u s0).val g)]) := upd_same
              generalize upd H24 pt (.tup [kV (Sum.inr (S s0)), .int ((u s0).val g)]) = H25 at s25 hpt
              have hn4 : n < l.length := (List.getElem?_eq_some_iff.mp hs0).1
              refine ⟨_, s25 _ _ hD2, big (by rw [List.length_map, pa2.1, List.length_take, txK_len]; omega), same_mut (s23.trans s25) nD2, ps2 ++ [pt], by rw [upd_same, List.map_append]; rfl, ?_⟩
              rw [txK_take hs0]
              exact (PairsAt.push (kv := (Sum.inr (S s0), .int ((u s0).val g))) (pa2.same s25) hpt).mut (s25 _ _ hD2)
            case w1d =>
              rintro H23 ⟨s23, ps2, hD2, pa2⟩
              have hf := s23 _ _ (upd_same (H := H22) (a := pO) (o := .frz od (.dK (othK l c))))
              refine ⟨hf, ?_⟩
              have s24 : Same H22 (upd H23 pO (.dK (othK l c))) := lock_same hO22 fun x o ne e => s23 x o (by rw [upd_ne ne]; exact e)
              have pa3 := pa2.mut2 (o := .dK (othK l c)) hf (fun xs z => by cases z)
              rw [List.take_of_length_le (by unfold othK; rw [txK_len, List.length_map]; exact Nat.le_refl _)] at pa3
              have DO : D2 ≠ pO := fun z => by rw [z, upd_same] at nD2; cases nD2
              have hD3 : upd H23 pO (.dK (othK l c)) D2 = some (.lst (ps2.map V.ref)) := by rw [upd_ne DO]; exact hD2
              generalize upd H23 pO (.dK (othK l c)) = H24 at s24 pa3 hD3 ⊢
              refine ⟨D2, ps2, txK l fun s => V.int ((u s).val g), rfl, SqL.of hD3, pa3.paired, fun pV nV => ?_⟩
              rw [txK_merge oth.nd]
              have s25 : Same H22 (upd H24 pV (.dK (txK l fun s => V.int ((u s).val g)))) := s24.trans (same_new nV _)
              have hV25 : upd H24 pV (.dK (txK l fun s => V.int ((u s).val g))) pV = some (.dK (txK l fun s => V.int ((u s).val g))) := upd_same
              have VY : pY ≠ pV := fun z => by rw [← z, s24 _ _ hY22] at nV; cases nV
              generalize upd H24 pV (.dK (txK l fun s => V.int ((u s).val g))) = H25 at s25 hV25
              refine ⟨pY, pV, _, _, rfl, rfl, VY, s25 _ _ hY22, hV25, (by rw [txK_len, txK_len]; have h5 : (100000 : Nat) ≤ sizeLine := (by decide); omega), ?_⟩
              -- after the update
              generalize hKV : mergeK (txK nm fun s => V.int (g s)) (txK l fun s => V.int ((u s).val g)) = KV
              have hY26 : upd H25 pY (.dK KV) pY = some (.dK KV) := upd_same
              have hX26 : upd H25 pY (.dK KV) pX = some (.dK (txK l fun s => tv (u s).text)) := by rw [upd_ne YX.symm]; exact s25 _ _ hX22
              have hM26 : upd H25 pY (.dK KV) pM = some (.dK (numK nm g)) := by rw [upd_ne YM.symm]; exact s25 _ _ hM22
              have hT26 : TreeAt (upd H25 pY (.dK KV)) t pT := (hT22.same s25).mono fun a xs e => by rw [upd_ne (fun z => by rw [z, s25 _ _ hY22] at e; cases e)]; exact e
              have bY : pY ≠ b := fun z => by
                obtain ⟨d0, t0, c0, e0⟩ := bx20.box
                rw [z, e0] at nY20
                cases nY20
              have bx26 : Bx H20 (upd H25 pY (.dK KV)) b := ((Bx.refl bx20.box).same (s22.trans s25)).mut nY20 bY
              generalize upd H25 pY (.dK KV) = H26 at hY26 hX26 hM26 hT26 bx26
              refine ⟨_, rfl, _, rfl, t.text, t.tok, t.stp, pX, txK l fun s => tv (u s).text, fun s => (sgOf l u s).map T.text, rfl, tT1, T.toks_text t okT, T.steps t okT, tT2, hX26, hval, hsub, fun H27 s27 => ?_⟩
              rw [hrep]
              have ovS : Over nm (t.sub (sgOf l u)) := over_sub _ (fun s v e => by obtain ⟨m, rfl⟩ := hsg s v e; exact (oth.lv s m).over) t lvT.over
              have hrun := T.wrun g (t.sub (sgOf l u)) okS []
              rw [List.nil_append] at hrun
              refine ⟨_, rfl, (t.sub (sgOf l u)).text, (t.sub (sgOf l u)).stp, pM, g, (t.sub (sgOf l u)).val g, rfl, by omega, T.steps _ okS, by omega, ⟨_, .inl (s27 _ _ hM26), fun s hs => by unfold numK; rw [valV_names, if_pos (ovS s hs)]⟩, hrun, fun H28 s28 => ?_⟩
              have s28' := s27.trans s28
              refine ⟨_, rfl, _, rfl, pT, pY, t, 2, fsub l u g, rfl, hT26.same s28', by decide, lvT.dp, okT, ⟨KV, s28' _ _ hY26, fun s hs => ?_⟩, fun H29 s29 => ?_⟩
              · rw [← hKV, txK_over, txK_val]
                unfold fsub
                by_cases m : s ∈ l
                · rw [if_pos m, if_pos m]
                · rw [if_neg m, if_neg m, if_pos (lvT.over s hs)]
              rw [val_fsub]
              refine ⟨rfl, _, rfl, ?_⟩
              rw [eq_self]
              have bx29 := (bx20'.trans bx26).same (s28'.trans s29)
              exact iteF ⟨_, _, _, _, _, _, _, _, _, _, _, rfl, bx29.box, hSB5.bx bx29⟩
  case last =>
    rintro σ H1 ⟨u1, u2, u3, u4, u5, u6, u7, u8, u9, u10, u11, u12, u13, rfl, hS1⟩
    refine fun p np => ⟨upd_same, kvEnd, rfl, by decide, ?_⟩
    have hp : upd (upd H1 p (.dK [])) p (.dK (mergeK [] kvEnd)) p = some (.dK (mergeK [] kvEnd)) := upd_same
    have hrep := tok_sub sgEnd trEnd.stp (names_ok trEnd end_ok) trEnd end_ok fun s m => m
    rw [end_sub] at hrep
    refine ⟨trEnd.text, trEnd.tok, trEnd.stp, p, mergeK [] kvEnd, fun s => (sgEnd s).map T.text, ?_, ?_, T.toks_text _ end_ok, T.steps _ end_ok, ?_, hp, end_val, end_small, fun H2 s2 => ?_⟩
    · rw [end_text, end_str.1]; rfl
    · rw [end_text]; decide
    · rw [end_stp]; decide
    · rw [hrep]
      refine ⟨rfl, ?_⟩
      rw [end_str.2, eq_self]
      exact q H2
end
end Pg
/-! Z -/
set_option Elab.async false
set_option linter.all false
set_option maxRecDepth 100000
set_option maxHeartbeats 8000000
namespace Pg
open PySem L2 Mr
theorem signs_vals {t1 t2 t3 t4 t5 : Nat} : Vals (signs.map fun g => V.str (S g)) (#[Value.str "max(" t1, Value.str "imax(" t2, Value.str " + " t3, Value.str ", " t4, Value.str ")" t5] : Array Value).toList := by
  have e : (signs.map fun g => V.str (S g)) = [.str "max(", .str "imax(", .str " + ", .str ", ", .str ")"] := by decide +kernel
  rw [e]
  exact .cons ⟨_, rfl⟩ (.cons ⟨_, rfl⟩ (.cons ⟨_, rfl⟩ (.cons ⟨_, rfl⟩ (.cons ⟨_, rfl⟩ .nil))))
theorem vac {P : Program} {w : World} {K : PySem.W.Frag} {mg : Str → Option Value} {base : Heap} {k : Nat} {f : Addr} {fd : FuncData} {ps : List Str} {sp : Sp} (no : ∀ vs H Q E, ¬ sp vs H Q E) : FnOk P w K mg base CX0 k f fd ps sp :=
  ⟨fun vs H Q E h => absurd h (no vs H Q E), fun A outer s H args us vs Q E _ _ _ _ h => absurd h (no vs H Q E)⟩
theorem no_level {K : PySem.W.Frag} {vs H Q E} (h : spLevel K 0 vs H Q E) : False := by
  obtain ⟨b, a, ns, deep, most, _, _, _, _, _, _, h, _⟩ := h
  omega
theorem no_text {vs H Q E} (h : spText 0 vs H Q E) : False := by
  obtain ⟨a, t, m, _, _, h, _⟩ := h
  omega
theorem no_with {vs H Q E} (h : spWith 0 vs H Q E) : False := by
  obtain ⟨a, d, t, m, kvs, sb, _, _, h, _⟩ := h
  omega
theorem no_val {vs H Q E} (h : spVal 0 vs H Q E) : False := by
  obtain ⟨a, d, t, m, f, _, _, h, _⟩ := h
  omega
theorem all_mk {l : PySem.W.OpenLaw} {w : World} {K : PySem.W.Frag} {h : Heap} {mg : Str → Option Value} {fa fS fC f1 f2 f3 f4 f5 f6 f7 f8 f9 f10 f11 f12 f13 f14 f15 f16 f17 f18 f19 f20 f21 f22 f23 f24 f25 : Addr} (X : K.In h) (G : h.Ns mainGlobals mg) (hfa : mg "law" = some (.ref fa))
    {od1 an1 od2 an2 od3 an3 od4 an4 od5 an5 od6 an6 od7 an7 od8 an8 od9 an9 od10 an10 od11 an11 od12 an12 od13 an13 od14 an14 od15 an15 od16 an16 od17 an17 od18 an18 od19 an19 od20 an20 od21 an21 od22 an22 od23 an23 od24 an24 od25 an25 : Option Addr} {sl1 sl2 sl3 sl4 sl5 sl6 sl7 sl8 sl9 sl10 sl11 sl12 sl13 sl14 sl15 sl16 sl17 sl18 sl19 sl20 sl21 sl22 sl23 sl24 sl25 : Array (Option Value)} {oc1 kV1 dc1 pm1 cd1 ct1 oc2 kV2 dc2 pm2 cd2 ct2 oc3 kV3 dc3 pm3 cd3 ct3 oc4 kV4 dc4 pm4 cd4 ct4 oc5 kV5 dc5 pm5 cd5 ct5 oc6 kV6 dc6 pm6 cd6 ct6 oc7 kV7 dc7 pm7 cd7 ct7 oc8 kV8 dc8 pm8 cd8 ct8 oc9 kV9 dc9 pm9 cd9 ct9 oc10 kV10 dc10 pm10 cd10 ct10 oc11 kV11 dc11 pm11 cd11 ct11 oc12 kV12 dc12 pm12 cd12 ct12 oc13 kV13 dc13 pm13 cd13 ct13 oc14 kV14 dc14 pm14 cd14 ct14 oc15 kV15 dc15 pm15 cd15 ct15 oc16 kV16 dc16 pm16 cd16 ct16 oc17 kV17 dc17 pm17 cd17 ct17 oc18 kV18 dc18 pm18 cd18 ct18 oc19 kV19 dc19 pm19 cd19 ct19 oc20 kV20 dc20 pm20 cd20 ct20 oc21 kV21 dc21 pm21 cd21 ct21 oc22 kV22 dc22 pm22 cd22 ct22 oc23 kV23 dc23 pm23 cd23 ct23 oc24 kV24 dc24 pm24 cd24 ct24 oc25 kV25 dc25 pm25 cd25 ct25 : Value}
    {t1 t2 t3 t4 t5 nS nD : Nat} {es : Array DictEntry}
    (a1 : PySem.W.nsIn K mainGlobals "is_name" = some (some (.ref f1))) (l1 : K.lookup f1 = some ⟨oc1, od1, .func (PySem.W.fnOf "is_name" "is_name" (defArgs st_is_name) (defBody st_is_name) (defScope st_is_name) .none kV1 dc1 pm1 an1 cd1 ct1), sl1⟩) (c1 : PySem.W.codeIn K cd1 "is_name" = true) (k1 : PySem.W.keepIn K (.ref f1) = true)
    (a2 : PySem.W.nsIn K mainGlobals "is_numeral" = some (some (.ref f2))) (l2 : K.lookup f2 = some ⟨oc2, od2, .func (PySem.W.fnOf "is_numeral" "is_numeral" (defArgs st_is_numeral) (defBody st_is_numeral) (defScope st_is_numeral) .none kV2 dc2 pm2 an2 cd2 ct2), sl2⟩) (c2 : PySem.W.codeIn K cd2 "is_numeral" = true) (k2 : PySem.W.keepIn K (.ref f2) = true)
    (a3 : PySem.W.nsIn K mainGlobals "_is_full" = some (some (.ref f3))) (l3 : K.lookup f3 = some ⟨oc3, od3, .func (PySem.W.fnOf "_is_full" "_is_full" (defArgs st__is_full) (defBody st__is_full) (defScope st__is_full) .none kV3 dc3 pm3 an3 cd3 ct3), sl3⟩) (c3 : PySem.W.codeIn K cd3 "_is_full" = true) (k3 : PySem.W.keepIn K (.ref f3) = true)
    (a4 : PySem.W.nsIn K mainGlobals "_leaf" = some (some (.ref f4))) (l4 : K.lookup f4 = some ⟨oc4, od4, .func (PySem.W.fnOf "_leaf" "_leaf" (defArgs st__leaf) (defBody st__leaf) (defScope st__leaf) .none kV4 dc4 pm4 an4 cd4 ct4), sl4⟩) (c4 : PySem.W.codeIn K cd4 "_leaf" = true) (k4 : PySem.W.keepIn K (.ref f4) = true)
    (a5 : PySem.W.nsIn K mainGlobals "_token_at" = some (some (.ref f5))) (l5 : K.lookup f5 = some ⟨oc5, od5, .func (PySem.W.fnOf "_token_at" "_token_at" (defArgs st__token_at) (defBody st__token_at) (defScope st__token_at) .none kV5 dc5 pm5 an5 cd5 ct5), sl5⟩) (c5 : PySem.W.codeIn K cd5 "_token_at" = true) (k5 : PySem.W.keepIn K (.ref f5) = true)
    (a6 : PySem.W.nsIn K mainGlobals "tokens_of" = some (some (.ref f6))) (l6 : K.lookup f6 = some ⟨oc6, od6, .func (PySem.W.fnOf "tokens_of" "tokens_of" (defArgs st_tokens_of) (defBody st_tokens_of) (defScope st_tokens_of) .none kV6 dc6 pm6 an6 cd6 ct6), sl6⟩) (c6 : PySem.W.codeIn K cd6 "tokens_of" = true) (k6 : PySem.W.keepIn K (.ref f6) = true)
    (a7 : PySem.W.nsIn K mainGlobals "steps_of" = some (some (.ref f7))) (l7 : K.lookup f7 = some ⟨oc7, od7, .func (PySem.W.fnOf "steps_of" "steps_of" (defArgs st_steps_of) (defBody st_steps_of) (defScope st_steps_of) .none kV7 dc7 pm7 an7 cd7 ct7), sl7⟩) (c7 : PySem.W.codeIn K cd7 "steps_of" = true) (k7 : PySem.W.keepIn K (.ref f7) = true)
    (a8 : PySem.W.nsIn K mainGlobals "read_level" = some (some (.ref f8))) (l8 : K.lookup f8 = some ⟨oc8, od8, .func (PySem.W.fnOf "read_level" "read_level" (defArgs st_read_level) (defBody st_read_level) (defScope st_read_level) .none kV8 dc8 pm8 an8 cd8 ct8), sl8⟩) (c8 : PySem.W.codeIn K cd8 "read_level" = true) (k8 : PySem.W.keepIn K (.ref f8) = true)
    (a9 : PySem.W.nsIn K mainGlobals "names_in" = some (some (.ref f9))) (l9 : K.lookup f9 = some ⟨oc9, od9, .func (PySem.W.fnOf "names_in" "names_in" (defArgs st_names_in) (defBody st_names_in) (defScope st_names_in) .none kV9 dc9 pm9 an9 cd9 ct9), sl9⟩) (c9 : PySem.W.codeIn K cd9 "names_in" = true) (k9 : PySem.W.keepIn K (.ref f9) = true)
    (a10 : PySem.W.nsIn K mainGlobals "worth" = some (some (.ref f10))) (l10 : K.lookup f10 = some ⟨oc10, od10, .func (PySem.W.fnOf "worth" "worth" (defArgs st_worth) (defBody st_worth) (defScope st_worth) .none kV10 dc10 pm10 an10 cd10 ct10), sl10⟩) (c10 : PySem.W.codeIn K cd10 "worth" = true) (k10 : PySem.W.keepIn K (.ref f10) = true)
    (a11 : PySem.W.nsIn K mainGlobals "names_of" = some (some (.ref f11))) (l11 : K.lookup f11 = some ⟨oc11, od11, .func (PySem.W.fnOf "names_of" "names_of" (defArgs st_names_of) (defBody st_names_of) (defScope st_names_of) .none kV11 dc11 pm11 an11 cd11 ct11), sl11⟩) (c11 : PySem.W.codeIn K cd11 "names_of" = true) (k11 : PySem.W.keepIn K (.ref f11) = true)
    (a12 : PySem.W.nsIn K mainGlobals "value" = some (some (.ref f12))) (l12 : K.lookup f12 = some ⟨oc12, od12, .func (PySem.W.fnOf "value" "value" (defArgs st_value) (defBody st_value) (defScope st_value) .none kV12 dc12 pm12 an12 cd12 ct12), sl12⟩) (c12 : PySem.W.codeIn K cd12 "value" = true) (k12 : PySem.W.keepIn K (.ref f12) = true)
    (a13 : PySem.W.nsIn K mainGlobals "put_for" = some (some (.ref f13))) (l13 : K.lookup f13 = some ⟨oc13, od13, .func (PySem.W.fnOf "put_for" "put_for" (defArgs st_put_for) (defBody st_put_for) (defScope st_put_for) .none kV13 dc13 pm13 an13 cd13 ct13), sl13⟩) (c13 : PySem.W.codeIn K cd13 "put_for" = true) (k13 : PySem.W.keepIn K (.ref f13) = true)
    (a14 : PySem.W.nsIn K mainGlobals "_law_box" = some (some (.ref f14))) (l14 : K.lookup f14 = some ⟨oc14, od14, .func (PySem.W.fnOf "_law_box" "_law_box" (defArgs st__law_box) (defBody st__law_box) (defScope st__law_box) .none kV14 dc14 pm14 an14 cd14 ct14), sl14⟩) (c14 : PySem.W.codeIn K cd14 "_law_box" = true) (k14 : PySem.W.keepIn K (.ref f14) = true)
    (a15 : PySem.W.nsIn K mainGlobals "_law_take" = some (some (.ref f15))) (l15 : K.lookup f15 = some ⟨oc15, od15, .func (PySem.W.fnOf "_law_take" "_law_take" (defArgs st__law_take) (defBody st__law_take) (defScope st__law_take) .none kV15 dc15 pm15 an15 cd15 ct15), sl15⟩) (c15 : PySem.W.codeIn K cd15 "_law_take" = true) (k15 : PySem.W.keepIn K (.ref f15) = true)
    (a16 : PySem.W.nsIn K mainGlobals "_law_pick" = some (some (.ref f16))) (l16 : K.lookup f16 = some ⟨oc16, od16, .func (PySem.W.fnOf "_law_pick" "_law_pick" (defArgs st__law_pick) (defBody st__law_pick) (defScope st__law_pick) .none kV16 dc16 pm16 an16 cd16 ct16), sl16⟩) (c16 : PySem.W.codeIn K cd16 "_law_pick" = true) (k16 : PySem.W.keepIn K (.ref f16) = true)
    (a17 : PySem.W.nsIn K mainGlobals "_law_mixed" = some (some (.ref f17))) (l17 : K.lookup f17 = some ⟨oc17, od17, .func (PySem.W.fnOf "_law_mixed" "_law_mixed" (defArgs st__law_mixed) (defBody st__law_mixed) (defScope st__law_mixed) .none kV17 dc17 pm17 an17 cd17 ct17), sl17⟩) (c17 : PySem.W.codeIn K cd17 "_law_mixed" = true) (k17 : PySem.W.keepIn K (.ref f17) = true)
    (a18 : PySem.W.nsIn K mainGlobals "_law_level" = some (some (.ref f18))) (l18 : K.lookup f18 = some ⟨oc18, od18, .func (PySem.W.fnOf "_law_level" "_law_level" (defArgs st__law_level) (defBody st__law_level) (defScope st__law_level) .none kV18 dc18 pm18 an18 cd18 ct18), sl18⟩) (c18 : PySem.W.codeIn K cd18 "_law_level" = true) (k18 : PySem.W.keepIn K (.ref f18) = true)
    (a19 : PySem.W.nsIn K mainGlobals "_law_parts" = some (some (.ref f19))) (l19 : K.lookup f19 = some ⟨oc19, od19, .func (PySem.W.fnOf "_law_parts" "_law_parts" (defArgs st__law_parts) (defBody st__law_parts) (defScope st__law_parts) .none kV19 dc19 pm19 an19 cd19 ct19), sl19⟩) (c19 : PySem.W.codeIn K cd19 "_law_parts" = true) (k19 : PySem.W.keepIn K (.ref f19) = true)
    (a20 : PySem.W.nsIn K mainGlobals "_law_text" = some (some (.ref f20))) (l20 : K.lookup f20 = some ⟨oc20, od20, .func (PySem.W.fnOf "_law_text" "_law_text" (defArgs st__law_text) (defBody st__law_text) (defScope st__law_text) .none kV20 dc20 pm20 an20 cd20 ct20), sl20⟩) (c20 : PySem.W.codeIn K cd20 "_law_text" = true) (k20 : PySem.W.keepIn K (.ref f20) = true)
    (a21 : PySem.W.nsIn K mainGlobals "_law_worth" = some (some (.ref f21))) (l21 : K.lookup f21 = some ⟨oc21, od21, .func (PySem.W.fnOf "_law_worth" "_law_worth" (defArgs st__law_worth) (defBody st__law_worth) (defScope st__law_worth) .none kV21 dc21 pm21 an21 cd21 ct21), sl21⟩) (c21 : PySem.W.codeIn K cd21 "_law_worth" = true) (k21 : PySem.W.keepIn K (.ref f21) = true)
    (a22 : PySem.W.nsIn K mainGlobals "_law_numbers" = some (some (.ref f22))) (l22 : K.lookup f22 = some ⟨oc22, od22, .func (PySem.W.fnOf "_law_numbers" "_law_numbers" (defArgs st__law_numbers) (defBody st__law_numbers) (defScope st__law_numbers) .none kV22 dc22 pm22 an22 cd22 ct22), sl22⟩) (c22 : PySem.W.codeIn K cd22 "_law_numbers" = true) (k22 : PySem.W.keepIn K (.ref f22) = true)
    (a23 : PySem.W.nsIn K mainGlobals "_law_named_some" = some (some (.ref f23))) (l23 : K.lookup f23 = some ⟨oc23, od23, .func (PySem.W.fnOf "_law_named_some" "_law_named_some" (defArgs st__law_named_some) (defBody st__law_named_some) (defScope st__law_named_some) .none kV23 dc23 pm23 an23 cd23 ct23), sl23⟩) (c23 : PySem.W.codeIn K cd23 "_law_named_some" = true) (k23 : PySem.W.keepIn K (.ref f23) = true)
    (a24 : PySem.W.nsIn K mainGlobals "_law_with" = some (some (.ref f24))) (l24 : K.lookup f24 = some ⟨oc24, od24, .func (PySem.W.fnOf "_law_with" "_law_with" (defArgs st__law_with) (defBody st__law_with) (defScope st__law_with) .none kV24 dc24 pm24 an24 cd24 ct24), sl24⟩) (c24 : PySem.W.codeIn K cd24 "_law_with" = true) (k24 : PySem.W.keepIn K (.ref f24) = true)
    (a25 : PySem.W.nsIn K mainGlobals "law" = some (some (.ref f25))) (l25 : K.lookup f25 = some ⟨oc25, od25, .func (PySem.W.fnOf "law" "law" (defArgs st_law) (defBody st_law) (defScope st_law) .none kV25 dc25 pm25 an25 cd25 ct25), sl25⟩) (c25 : PySem.W.codeIn K cd25 "law" = true) (k25 : PySem.W.keepIn K (.ref f25) = true)
    (z1 : PySem.W.nsIn K mainGlobals "abs" = some none)
    (z2 : PySem.W.nsIn K mainGlobals "int" = some none)
    (z3 : PySem.W.nsIn K mainGlobals "len" = some none)
    (z4 : PySem.W.nsIn K mainGlobals "list" = some none)
    (z5 : PySem.W.nsIn K mainGlobals "range" = some none)
    (z6 : PySem.W.nsIn K mainGlobals "str" = some none)
    (z7 : PySem.W.nsIn K mainGlobals "tuple" = some none)
    (z8 : PySem.W.nsIn K mainGlobals "dict" = some none)
    (z9 : PySem.W.nsIn K mainGlobals "max" = some none)
    (z10 : PySem.W.nsIn K mainGlobals "min" = some none)
    (z11 : PySem.W.nsIn K mainGlobals "isinstance" = some none)
    (z12 : PySem.W.nsIn K mainGlobals "sorted" = some none)
    (aS : PySem.W.nsIn K mainGlobals "SIGNS" = some (some (.ref fS))) (lS : K.lookup fS = some ⟨.type "tuple", none, .seq #[.str "max(" t1, .str "imax(" t2, .str " + " t3, .str ", " t4, .str ")" t5] nS, #[]⟩)
    (aC : PySem.W.nsIn K mainGlobals "CALLS" = some (some (.ref fC))) (lC : K.lookup fC = some ⟨.type "dict", none, .dict es nD, #[]⟩) (kC : PySem.W.KeysLit w.params es.toList) (nC : (fC == sysModules) = false)
    (pC : Paired (fun (kv : Str × V) (e : DictEntry) => (∃ t, e.key = .str kv.1 t) ∧ RelV kv.2 e.val) [("max(", .str "max"), ("imax(", .str "imax")] es.toList) :
    ∃ fd : FuncData, (∀ (s : Shared) (v : Value), BindsTo s fd ⟨[v], []⟩ [("_law_script", v)]) ∧ ∀ base : Heap, K.In base → base.Ns mainGlobals mg → FnOk l.prog w K mg base CX0 7 fa fd ["_law_script"] (spLaw K) := by
  have e := hfa.symm.trans (PySem.W.mg_of X G a25)
  cases e
  have F1 := fun_mk (st := st_is_name) l1 c1 k1
  have b1 := F1.binds (ps := ["thing"]) fun _ _ _ _ _ _ us hl => match us, hl with | [_], _ => rfl
  have m1 := PySem.W.mg_of X G a1
  have F2 := fun_mk (st := st_is_numeral) l2 c2 k2
  have b2 := F2.binds (ps := ["word"]) fun _ _ _ _ _ _ us hl => match us, hl with | [_], _ => rfl
  have m2 := PySem.W.mg_of X G a2
  have F3 := fun_mk (st := st__is_full) l3 c3 k3
  have b3 := F3.binds (ps := ["call", "count"]) fun _ _ _ _ _ _ us hl => match us, hl with | [_, _], _ => rfl
  have m3 := PySem.W.mg_of X G a3
  have F4 := fun_mk (st := st__leaf) l4 c4 k4
  have b4 := F4.binds (ps := ["token", "wanted"]) fun _ _ _ _ _ _ us hl => match us, hl with | [_, _], _ => rfl
  have m4 := PySem.W.mg_of X G a4
  have F5 := fun_mk (st := st__token_at) l5 c5 k5
  have b5 := F5.binds (ps := ["text", "at"]) fun _ _ _ _ _ _ us hl => match us, hl with | [_, _], _ => rfl
  have m5 := PySem.W.mg_of X G a5
  have F6 := fun_mk (st := st_tokens_of) l6 c6 k6
  have b6 := F6.binds (ps := ["text"]) fun _ _ _ _ _ _ us hl => match us, hl with | [_], _ => rfl
  have m6 := PySem.W.mg_of X G a6
  have F7 := fun_mk (st := st_steps_of) l7 c7 k7
  have b7 := F7.binds (ps := ["thing"]) fun _ _ _ _ _ _ us hl => match us, hl with | [_], _ => rfl
  have m7 := PySem.W.mg_of X G a7
  have F8 := fun_mk (st := st_read_level) l8 c8 k8
  have b8 := F8.binds (ps := ["level"]) fun _ _ _ _ _ _ us hl => match us, hl with | [_], _ => rfl
  have m8 := PySem.W.mg_of X G a8
  have F9 := fun_mk (st := st_names_in) l9 c9 k9
  have b9 := F9.binds (ps := ["steps"]) fun _ _ _ _ _ _ us hl => match us, hl with | [_], _ => rfl
  have m9 := PySem.W.mg_of X G a9
  have F10 := fun_mk (st := st_worth) l10 c10 k10
  have b10 := F10.binds (ps := ["steps", "numbers"]) fun _ _ _ _ _ _ us hl => match us, hl with | [_, _], _ => rfl
  have m10 := PySem.W.mg_of X G a10
  have F11 := fun_mk (st := st_names_of) l11 c11 k11
  have b11 := F11.binds (ps := ["level"]) fun _ _ _ _ _ _ us hl => match us, hl with | [_], _ => rfl
  have m11 := PySem.W.mg_of X G a11
  have F12 := fun_mk (st := st_value) l12 c12 k12
  have b12 := F12.binds (ps := ["level", "numbers"]) fun _ _ _ _ _ _ us hl => match us, hl with | [_, _], _ => rfl
  have m12 := PySem.W.mg_of X G a12
  have F13 := fun_mk (st := st_put_for) l13 c13 k13
  have b13 := F13.binds (ps := ["level", "others"]) fun _ _ _ _ _ _ us hl => match us, hl with | [_, _], _ => rfl
  have m13 := PySem.W.mg_of X G a13
  have F14 := fun_mk (st := st__law_box) l14 c14 k14
  have b14 := F14.binds (ps := ["_law_script", "_law_k", "_law_own"]) fun _ _ _ _ _ _ us hl => match us, hl with | [_, _, _], _ => rfl
  have m14 := PySem.W.mg_of X G a14
  have F15 := fun_mk (st := st__law_take) l15 c15 k15
  have b15 := F15.binds (ps := ["_law_box_here", "_law_many"]) fun _ _ _ _ _ _ us hl => match us, hl with | [_, _], _ => rfl
  have m15 := PySem.W.mg_of X G a15
  have F16 := fun_mk (st := st__law_pick) l16 c16 k16
  have b16 := F16.binds (ps := ["_law_box_here", "_law_items"]) fun _ _ _ _ _ _ us hl => match us, hl with | [_, _], _ => rfl
  have m16 := PySem.W.mg_of X G a16
  have F17 := fun_mk (st := st__law_mixed) l17 c17 k17
  have b17 := F17.binds (ps := ["_law_box_here", "_law_items"]) fun _ _ _ _ _ _ us hl => match us, hl with | [_, _], _ => rfl
  have m17 := PySem.W.mg_of X G a17
  have F18 := fun_mk (st := st__law_level) l18 c18 k18
  have b18 := F18.binds (ps := ["_law_box_here", "_law_names", "_law_deep", "_law_most", "_law_is_plain"]) fun _ _ _ _ _ _ us hl => match us, hl with | [_, _, _, _, _], _ => rfl
  have m18 := PySem.W.mg_of X G a18
  have F19 := fun_mk (st := st__law_parts) l19 c19 k19
  have b19 := F19.binds (ps := ["_law_told"]) fun _ _ _ _ _ _ us hl => match us, hl with | [_], _ => rfl
  have m19 := PySem.W.mg_of X G a19
  have F20 := fun_mk (st := st__law_text) l20 c20 k20
  have b20 := F20.binds (ps := ["_law_told"]) fun _ _ _ _ _ _ us hl => match us, hl with | [_], _ => rfl
  have m20 := PySem.W.mg_of X G a20
  have F21 := fun_mk (st := st__law_worth) l21 c21 k21
  have b21 := F21.binds (ps := ["_law_told", "_law_numbers_here"]) fun _ _ _ _ _ _ us hl => match us, hl with | [_, _], _ => rfl
  have m21 := PySem.W.mg_of X G a21
  have F22 := fun_mk (st := st__law_numbers) l22 c22 k22
  have b22 := F22.binds (ps := ["_law_box_here", "_law_names", "_law_most"]) fun _ _ _ _ _ _ us hl => match us, hl with | [_, _, _], _ => rfl
  have m22 := PySem.W.mg_of X G a22
  have F23 := fun_mk (st := st__law_named_some) l23 c23 k23
  have b23 := F23.binds (ps := ["_law_box_here", "_law_many"]) fun _ _ _ _ _ _ us hl => match us, hl with | [_, _], _ => rfl
  have m23 := PySem.W.mg_of X G a23
  have F24 := fun_mk (st := st__law_with) l24 c24 k24
  have b24 := F24.binds (ps := ["_law_told", "_law_others"]) fun _ _ _ _ _ _ us hl => match us, hl with | [_, _], _ => rfl
  have m24 := PySem.W.mg_of X G a24
  have F25 := fun_mk (st := st_law) l25 c25 k25
  have y1 := PySem.W.mg_none_of X G z1
  have y2 := PySem.W.mg_none_of X G z2
  have y3 := PySem.W.mg_none_of X G z3
  have y4 := PySem.W.mg_none_of X G z4
  have y5 := PySem.W.mg_none_of X G z5
  have y6 := PySem.W.mg_none_of X G z6
  have y7 := PySem.W.mg_none_of X G z7
  have y8 := PySem.W.mg_none_of X G z8
  have y9 := PySem.W.mg_none_of X G z9
  have y10 := PySem.W.mg_none_of X G z10
  have y11 := PySem.W.mg_none_of X G z11
  have y12 := PySem.W.mg_none_of X G z12
  have L : Lx mg := ⟨y1, y2, y3, y4, y5, y6, y7, y8, y9, y10⟩
  have T : Tx K w mg fS fC := ⟨y11, y6, y3, y2, y7, y12, y9, PySem.W.mg_of X G aS, fun H => .inr ⟨_, _, _, lS, rfl, rfl, by show 5 ≤ sizeLine; decide, signs_vals⟩, PySem.W.mg_of X G aC, ⟨_, _, lC, kC, nC, pC⟩⟩
  refine ⟨PySem.W.fnOf "law" "law" (defArgs st_law) (defBody st_law) (defScope st_law) .none kV25 dc25 pm25 an25 cd25 ct25, fun s v => .of_eq rfl, fun base _ _ => ?_⟩
  have G1 := ok_is_name (P := l.prog) (w := w) (base := base) F1 T
  have G2 := ok_is_num (P := l.prog) (w := w) (base := base) F2 T
  have G3 := ok_full (mg := mg) (P := l.prog) (w := w) (base := base) F3 
  have G4 := ok_leaf (P := l.prog) (w := w) (base := base) F4 T G1 b1 k1 m1 G2 b2 k2 m2
  have G5 := ok_tokAt (P := l.prog) (w := w) (base := base) F5 T
  have G6 := ok_toks (P := l.prog) (w := w) (base := base) F6 T G5 b5 k5 m5
  have G7 := ok_steps (P := l.prog) (w := w) (base := base) F7 T G6 b6 k6 m6 G4 b4 k4 m4 G3 b3 k3 m3
  have G8 := ok_read (P := l.prog) (w := w) (base := base) F8 G7 b7 k7 m7
  have G9 := ok_names (P := l.prog) (w := w) (base := base) F9 T
  have G10 := ok_worth (P := l.prog) (w := w) (base := base) F10 T
  have G11 := ok_namesOf (P := l.prog) (w := w) (base := base) F11 G9 b9 k9 m9 G8 b8 k8 m8
  have G12 := ok_value (P := l.prog) (w := w) (base := base) F12 G9 b9 k9 m9 G8 b8 k8 m8 G10 b10 k10 m10
  have G13 := ok_put (P := l.prog) (w := w) (base := base) F13 G11 b11 k11 m11 G8 b8 k8 m8 G6 b6 k6 m6
  have G14 := ok_box (P := l.prog) (w := w) (base := base) F14 L
  have G15 := ok_take (P := l.prog) (w := w) (base := base) F15 L
  have G16 := ok_pick (P := l.prog) (w := w) (base := base) F16 L G15 b15 k15 m15
  have G17 := ok_mixed (P := l.prog) (w := w) (base := base) F17 L G15 b15 k15 m15
  have G23 := ok_some (P := l.prog) (w := w) (base := base) F23 G17 b17 k17 m17
  have G19 := ok_parts (P := l.prog) (w := w) (base := base) F19 L
  have G22 := ok_numbers (P := l.prog) (w := w) (base := base) F22 L (cal_mk G15 m15 k15 b15) (cal_mk G16 m16 k16 b16)
  have R18_1 := ok_level1 (P := l.prog) (w := w) (base := base) (n := 0) F18 (cal_mk G15 m15 k15 b15) (cal_mk G16 m16 k16 b16) (cal_mk (vac (P := l.prog) (w := w) (K := K) (mg := mg) (base := base) (k := 3) (ps := ["_law_box_here", "_law_names", "_law_deep", "_law_most", "_law_is_plain"]) (sp := spLevel K 0) fun vs H Q E h => no_level h) m18 k18 b18)
  have R18_2 := ok_level1 (P := l.prog) (w := w) (base := base) (n := 1) F18 (cal_mk G15 m15 k15 b15) (cal_mk G16 m16 k16 b16) (cal_mk R18_1 m18 k18 b18)
  have R18_3 := ok_level1 (P := l.prog) (w := w) (base := base) (n := 2) F18 (cal_mk G15 m15 k15 b15) (cal_mk G16 m16 k16 b16) (cal_mk R18_2 m18 k18 b18)
  have R20_1 := ok_text1 (P := l.prog) (w := w) (base := base) (n := 0) F20 L (cal_mk (vac (P := l.prog) (w := w) (K := K) (mg := mg) (base := base) (k := 1) (ps := ["_law_told"]) (sp := spText 0) fun vs H Q E h => no_text h) m20 k20 b20)
  have R20_2 := ok_text1 (P := l.prog) (w := w) (base := base) (n := 1) F20 L (cal_mk R20_1 m20 k20 b20)
  have R20_3 := ok_text1 (P := l.prog) (w := w) (base := base) (n := 2) F20 L (cal_mk R20_2 m20 k20 b20)
  have R20_4 := ok_text1 (P := l.prog) (w := w) (base := base) (n := 3) F20 L (cal_mk R20_3 m20 k20 b20)
  have R24_1 := ok_with1 (P := l.prog) (w := w) (base := base) (n := 0) F24 L (cal_mk (vac (P := l.prog) (w := w) (K := K) (mg := mg) (base := base) (k := 1) (ps := ["_law_told", "_law_others"]) (sp := spWith 0) fun vs H Q E h => no_with h) m24 k24 b24)
  have R24_2 := ok_with1 (P := l.prog) (w := w) (base := base) (n := 1) F24 L (cal_mk R24_1 m24 k24 b24)
  have R24_3 := ok_with1 (P := l.prog) (w := w) (base := base) (n := 2) F24 L (cal_mk R24_2 m24 k24 b24)
  have R21_1 := ok_val1 (P := l.prog) (w := w) (base := base) (n := 0) F21 L (cal_mk G19 m19 k19 b19) (cal_mk (vac (P := l.prog) (w := w) (K := K) (mg := mg) (base := base) (k := 1) (ps := ["_law_told", "_law_numbers_here"]) (sp := spVal 0) fun vs H Q E h => no_val h) m21 k21 b21)
  have R21_2 := ok_val1 (P := l.prog) (w := w) (base := base) (n := 1) F21 L (cal_mk G19 m19 k19 b19) (cal_mk R21_1 m21 k21 b21)
  have R21_3 := ok_val1 (P := l.prog) (w := w) (base := base) (n := 2) F21 L (cal_mk G19 m19 k19 b19) (cal_mk R21_2 m21 k21 b21)
  have R21_4 := ok_val1 (P := l.prog) (w := w) (base := base) (n := 3) F21 L (cal_mk G19 m19 k19 b19) (cal_mk R21_3 m21 k21 b21)
  exact ok_law F25 L (cal_mk G14 m14 k14 b14) (cal_mk G15 m15 k15 b15) (cal_mk G23 m23 k23 b23) (cal_mk R18_3 m18 k18 b18) (cal_mk R20_4 m20 k20 b20) (cal_mk R24_3 m24 k24 b24) (cal_mk R21_4 m21 k21 b21) (cal_mk G22 m22 k22 b22) (cal_mk G13 m13 k13 b13) (cal_mk G12 m12 k12 b12)
end Pg
set_option Elab.async false
open PySem PySem.W PyProof.Rows
set_option maxHeartbeats 0
open_top hd05 for PySem.Challenge.rw_everylevel_k05_levels_in_the_place_of_na
set_option Elab.async false
set_option maxRecDepth 100000
open PySem PySem.W PyProof.Rows
set_option maxHeartbeats 0
theorem PySem.Challenge.cw_everylevel_k05_levels_in_the_place_of_na_holds : PySem.Challenge.rw_everylevel_k05_levels_in_the_place_of_na.Holds :=
  hd05 (by
    k_fill
    refine L2.walk_ofK (n := 63) (k := 7) (x := "_law_script") (l := PySem.Challenge.rw_everylevel_k05_levels_in_the_place_of_na) (CX := L2.CX0) (sp := Pg.spLaw) rfl (by decide) rfl ⟨rfl, by decide, by decide⟩ (fun w h Y => PySem.W.kIn_of Y) ?F (fun K H a ns hl _ hS => ⟨a, ns, rfl, hS, hl, fun _ => rfl⟩) (fun _ _ _ _ z => z)
    case F =>
      intro w mg fa h KX G hmg
      refine' Pg.all_mk KX G hmg ?a1 ?l1 ?c1 ?k1 ?a2 ?l2 ?c2 ?k2 ?a3 ?l3 ?c3 ?k3 ?a4 ?l4 ?c4 ?k4 ?a5 ?l5 ?c5 ?k5 ?a6 ?l6 ?c6 ?k6 ?a7 ?l7 ?c7 ?k7 ?a8 ?l8 ?c8 ?k8 ?a9 ?l9 ?c9 ?k9 ?a10 ?l10 ?c10 ?k10 ?a11 ?l11 ?c11 ?k11 ?a12 ?l12 ?c12 ?k12 ?a13 ?l13 ?c13 ?k13 ?a14 ?l14 ?c14 ?k14 ?a15 ?l15 ?c15 ?k15 ?a16 ?l16 ?c16 ?k16 ?a17 ?l17 ?c17 ?k17 ?a18 ?l18 ?c18 ?k18 ?a19 ?l19 ?c19 ?k19 ?a20 ?l20 ?c20 ?k20 ?a21 ?l21 ?c21 ?k21 ?a22 ?l22 ?c22 ?k22 ?a23 ?l23 ?c23 ?k23 ?a24 ?l24 ?c24 ?k24 ?a25 ?l25 ?c25 ?k25 ?z1 ?z2 ?z3 ?z4 ?z5 ?z6 ?z7 ?z8 ?z9 ?z10 ?z11 ?z12 ?aS ?lS ?aC ?lC ?kC ?nC ?pC
      (case a1 => k_is)
      (case l1 => k_is)
      (case c1 => k_is)
      (case k1 => k_is)
      (case a2 => k_is)
      (case l2 => k_is)
      (case c2 => k_is)
      (case k2 => k_is)
      (case a3 => k_is)
      (case l3 => k_is)
      (case c3 => k_is)
      (case k3 => k_is)
      (case a4 => k_is)
      (case l4 => k_is)
      (case c4 => k_is)
      (case k4 => k_is)
      (case a5 => k_is)
      (case l5 => k_is)
      (case c5 => k_is)
      (case k5 => k_is)
      (case a6 => k_is)
      (case l6 => k_is)
      (case c6 => k_is)
      (case k6 => k_is)
      (case a7 => k_is)
      (case l7 => k_is)
      (case c7 => k_is)
      (case k7 => k_is)
      (case a8 => k_is)
      (case l8 => k_is)
      (case c8 => k_is)
      (case k8 => k_is)
      (case a9 => k_is)
      (case l9 => k_is)
      (case c9 => k_is)
      (case k9 => k_is)
      (case a10 => k_is)
      (case l10 => k_is)
      (case c10 => k_is)
      (case k10 => k_is)
      (case a11 => k_is)
      (case l11 => k_is)
      (case c11 => k_is)
      (case k11 => k_is)
      (case a12 => k_is)
      (case l12 => k_is)
      (case c12 => k_is)
      (case k12 => k_is)
      (case a13 => k_is)
      (case l13 => k_is)
      (case c13 => k_is)
      (case k13 => k_is)
      (case a14 => k_is)
      (case l14 => k_is)
      (case c14 => k_is)
      (case k14 => k_is)
      (case a15 => k_is)
      (case l15 => k_is)
      (case c15 => k_is)
      (case k15 => k_is)
      (case a16 => k_is)
      (case l16 => k_is)
      (case c16 => k_is)
      (case k16 => k_is)
      (case a17 => k_is)
      (case l17 => k_is)
      (case c17 => k_is)
      (case k17 => k_is)
      (case a18 => k_is)
      (case l18 => k_is)
      (case c18 => k_is)
      (case k18 => k_is)
      (case a19 => k_is)
      (case l19 => k_is)
      (case c19 => k_is)
      (case k19 => k_is)
      (case a20 => k_is)
      (case l20 => k_is)
      (case c20 => k_is)
      (case k20 => k_is)
      (case a21 => k_is)
      (case l21 => k_is)
      (case c21 => k_is)
      (case k21 => k_is)
      (case a22 => k_is)
      (case l22 => k_is)
      (case c22 => k_is)
      (case k22 => k_is)
      (case a23 => k_is)
      (case l23 => k_is)
      (case c23 => k_is)
      (case k23 => k_is)
      (case a24 => k_is)
      (case l24 => k_is)
      (case c24 => k_is)
      (case k24 => k_is)
      (case a25 => k_is)
      (case l25 => k_is)
      (case c25 => k_is)
      (case k25 => k_is)
      (case z1 => k_is)
      (case z2 => k_is)
      (case z3 => k_is)
      (case z4 => k_is)
      (case z5 => k_is)
      (case z6 => k_is)
      (case z7 => k_is)
      (case z8 => k_is)
      (case z9 => k_is)
      (case z10 => k_is)
      (case z11 => k_is)
      (case z12 => k_is)
      (case aS => k_is)
      (case lS => k_is)
      (case aC => k_is)
      (case lC => k_is)
      (case kC => exact ⟨⟨_, _, rfl, rfl⟩, ⟨_, _, rfl, rfl⟩, trivial⟩)
      (case nC => rfl)
      (case pC => exact .cons ⟨⟨_, rfl⟩, ⟨_, rfl⟩⟩ (.cons ⟨⟨_, rfl⟩, ⟨_, rfl⟩⟩ .nil)))
