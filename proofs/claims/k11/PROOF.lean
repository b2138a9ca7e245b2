import PyProof.Rows.All
import Wide.All
import OpenK.AllK
import Wide.FinOn
import PySem.Challenge.RW_ringlaps_k11_house_alone
import HandS.ForMost
import HandS.Star
import HandS.Defaults
import HandS.MakeKw
import HandS.Style
import HandS.Zip0
import HandS.Zip
import KE.KDictZip
import HandS.Steps
import HandS.ListItems
import HandS.Codes
import HandS.Conv
import HandS.Dict
import HandS.DictComp
import HandS.More
import HandS.Small
import HandS.MakeKwOnly
import HandS.ForDict
import HandS.Walk
import HandS.Wide
import HandS.Flow
import HandS.IsInst
import HandS.Sort
import HandS.SortKw
import HandS.Iter
import KE.KEqSeq
import KE.KUnpackStar
import KE.KDictSum
import HandS.ExcInit
import HandS.ExcInitHot
import HandS.ExcCtx
import HandS.HotCalls
import HandS.ExcOwn
import HandS.SetFor
import HandS.ExcValue
import KE.KExcIs
set_option Elab.async false
set_option linter.all false
set_option maxRecDepth 100000
set_option maxHeartbeats 4000000
namespace Z
open PySem PySem.Spec PyProof.Rows L2
def topS (i : Nat) : Stmt := PySem.Challenge.pw_ringlaps_k11_house_alone.main.body.getD i (.Pass ⟨0, 0, 0, 0⟩)
abbrev s__law_tape : Stmt := topS 6
theorem sc__law_tape : FnScope ["script", "cells", "cell"] ["script"] (defScope s__law_tape) := ⟨rfl, rfl, rfl, by decide +kernel, rfl, by decide +kernel, by decide +kernel⟩
abbrev s__law_pick : Stmt := topS 7
theorem sc__law_pick : FnScope ["tape", "size", "cells", "cell", "k", "number", "used", "mixed"] ["tape", "size"] (defScope s__law_pick) := ⟨rfl, rfl, rfl, by decide +kernel, rfl, by decide +kernel, by decide +kernel⟩
abbrev s__law_same : Stmt := topS 12
theorem sc__law_same : FnScope ["actual", "due", "k"] ["actual", "due"] (defScope s__law_same) := ⟨rfl, rfl, rfl, by decide +kernel, rfl, by decide +kernel, by decide +kernel⟩
abbrev s__law_size : Stmt := topS 8
theorem sc__law_size : FnScope ["tape", "count", "kind", "least"] ["tape", "count"] (defScope s__law_size) := ⟨rfl, rfl, rfl, by decide +kernel, rfl, by decide +kernel, by decide +kernel⟩
abbrev s_far : Stmt := topS 1
theorem sc_far : FnScope ["size", "start", "end"] ["size", "start", "end"] (defScope s_far) := ⟨rfl, rfl, rfl, by decide +kernel, rfl, by decide +kernel, by decide +kernel⟩
abbrev s_between : Stmt := topS 2
theorem sc_between : FnScope ["size", "start", "place", "end"] ["size", "start", "place", "end"] (defScope s_between) := ⟨rfl, rfl, rfl, by decide +kernel, rfl, by decide +kernel, by decide +kernel⟩
abbrev s_House__init : Stmt := inClass (topS 4) 0
theorem sc_House__init : FnScope ["self", "size", "place", "next_house", "before"] ["self", "size", "place", "next_house", "before"] (defScope s_House__init) := ⟨rfl, rfl, rfl, by decide +kernel, rfl, by decide +kernel, by decide +kernel⟩
abbrev s_House__tell_letter : Stmt := inClass (topS 4) 1
theorem sc_House__tell_letter : FnScope ["self"] ["self"] (defScope s_House__tell_letter) := ⟨rfl, rfl, rfl, by decide +kernel, rfl, by decide +kernel, by decide +kernel⟩
abbrev s_House__ask_letter : Stmt := inClass (topS 4) 2
theorem sc_House__ask_letter : FnScope ["self"] ["self"] (defScope s_House__ask_letter) := ⟨rfl, rfl, rfl, by decide +kernel, rfl, by decide +kernel, by decide +kernel⟩
abbrev s_House__answer_to : Stmt := inClass (topS 4) 4
theorem sc_House__answer_to : FnScope ["self", "sender"] ["self", "sender"] (defScope s_House__answer_to) := ⟨rfl, rfl, rfl, by decide +kernel, rfl, by decide +kernel, by decide +kernel⟩
abbrev s_House__hear_tell : Stmt := inClass (topS 4) 5
theorem sc_House__hear_tell : FnScope ["self", "sender"] ["self", "sender"] (defScope s_House__hear_tell) := ⟨rfl, rfl, rfl, by decide +kernel, rfl, by decide +kernel, by decide +kernel⟩
abbrev s_House__hear_answer : Stmt := inClass (topS 4) 6
theorem sc_House__hear_answer : FnScope ["self", "sender", "named"] ["self", "sender", "named"] (defScope s_House__hear_answer) := ⟨rfl, rfl, rfl, by decide +kernel, rfl, by decide +kernel, by decide +kernel⟩
abbrev s_House__hear : Stmt := inClass (topS 4) 3
theorem sc_House__hear : FnScope ["self", "letter", "word", "sender"] ["self", "letter"] (defScope s_House__hear) := ⟨rfl, rfl, rfl, by decide +kernel, rfl, by decide +kernel, by decide +kernel⟩
abbrev s__law_places : Stmt := topS 9
theorem sc__law_places : FnScope ["tape", "size", "count", "places", "k", "place", "other"] ["tape", "size", "count"] (defScope s__law_places) := ⟨rfl, rfl, rfl, by decide +kernel, rfl, by decide +kernel, by decide +kernel⟩
abbrev s__law_far : Stmt := topS 10
theorem sc__law_far : FnScope ["size", "start", "end", "steps"] ["size", "start", "end"] (defScope s__law_far) := ⟨rfl, rfl, rfl, by decide +kernel, rfl, by decide +kernel, by decide +kernel⟩
abbrev s__law_between : Stmt := topS 11
theorem sc__law_between : FnScope ["size", "start", "place", "end"] ["size", "start", "place", "end"] (defScope s__law_between) := ⟨rfl, rfl, rfl, by decide +kernel, rfl, by decide +kernel, by decide +kernel⟩
abbrev s__law_letter : Stmt := topS 13
theorem sc__law_letter : FnScope ["tape", "places", "cell", "sender", "named", "kind"] ["tape", "places", "cell"] (defScope s__law_letter) := ⟨rfl, rfl, rfl, by decide +kernel, rfl, by decide +kernel, by decide +kernel⟩
abbrev s__law_hears : Stmt := topS 14
theorem sc__law_hears : FnScope ["size", "cell", "letter", "sender"] ["size", "cell", "letter"] (defScope s__law_hears) := ⟨rfl, rfl, rfl, by decide +kernel, rfl, by decide +kernel, by decide +kernel⟩
abbrev s__law_is : Stmt := topS 15
theorem sc__law_is : FnScope ["house", "size", "cell"] ["house", "size", "cell"] (defScope s__law_is) := ⟨rfl, rfl, rfl, by decide +kernel, rfl, by decide +kernel, by decide +kernel⟩
abbrev s_law : Stmt := topS 16
theorem sc_law : FnScope ["script", "tape", "turns", "count", "size", "places", "cells", "houses", "k", "cell", "at", "letter", "m", "due"] ["script"] (defScope s_law) := ⟨rfl, rfl, rfl, by decide +kernel, rfl, by decide +kernel, by decide +kernel⟩
/-! what is asked of the error in hand: (a, oe) is pinned, its dict at d -/
structure ErrC (K : PySem.W.Frag) (D : Addr) : Prop where
  cl : (PySem.W.clsIn K D).isSome = true
  ga : PySem.W.findIn K (.ref D) "__getattribute__" = some (some (.builtin "BaseException.__getattribute__"))
  gg : PySem.W.findIn K (.ref D) "__getattr__" = some none
  ex : PySem.W.subIn K (.ref D) (.type "BaseException") = some true
  hd : PySem.W.hasDictIn K D = true
  ca : PySem.W.findIn K (.ref D) "__class__" = some (some (.builtin "object.__class__"))
  cn : PySem.W.specialIn K (.builtin "object.__class__") "__get__" = some (some (.builtin "getset_descriptor.__get__"))
  ct : PySem.W.takesIn K (.builtin "object.__class__") = some true
  mo : PySem.W.mroIn K D (.type "object") = some true
structure T0 (K : PySem.W.Frag) (mg : Str → Option Value) where
  m_abs : mg "abs" = none
  m_bool : mg "bool" = none
  m_dict : mg "dict" = none
  m_int : mg "int" = none
  m_isinstance : mg "isinstance" = none
  m_len : mg "len" = none
  m_list : mg "list" = none
  m_max : mg "max" = none
  m_range : mg "range" = none
  m_sorted : mg "sorted" = none
  m_str : mg "str" = none
  m_tuple : mg "tuple" = none
  a__law_tape : Addr
  fd__law_tape : FuncData
  F__law_tape : Fun K "_law_tape" "_law_tape" s__law_tape a__law_tape fd__law_tape
  b__law_tape : Binds K fd__law_tape ["script"] []
  g__law_tape : mg "_law_tape" = some (.ref a__law_tape)
  a__law_pick : Addr
  fd__law_pick : FuncData
  F__law_pick : Fun K "_law_pick" "_law_pick" s__law_pick a__law_pick fd__law_pick
  b__law_pick : Binds K fd__law_pick ["tape", "size"] []
  g__law_pick : mg "_law_pick" = some (.ref a__law_pick)
  a__law_same : Addr
  fd__law_same : FuncData
  F__law_same : Fun K "_law_same" "_law_same" s__law_same a__law_same fd__law_same
  b__law_same : Binds K fd__law_same ["actual", "due"] []
  g__law_same : mg "_law_same" = some (.ref a__law_same)
  a__law_size : Addr
  fd__law_size : FuncData
  F__law_size : Fun K "_law_size" "_law_size" s__law_size a__law_size fd__law_size
  b__law_size : Binds K fd__law_size ["tape", "count"] []
  g__law_size : mg "_law_size" = some (.ref a__law_size)
  a_far : Addr
  fd_far : FuncData
  F_far : Fun K "far" "far" s_far a_far fd_far
  b_far : Binds K fd_far ["size", "start", "end"] []
  g_far : mg "far" = some (.ref a_far)
  a_between : Addr
  fd_between : FuncData
  F_between : Fun K "between" "between" s_between a_between fd_between
  b_between : Binds K fd_between ["size", "start", "place", "end"] []
  g_between : mg "between" = some (.ref a_between)
  a_House__init : Addr
  fd_House__init : FuncData
  F_House__init : FunD K "__init__" "House.__init__" (defArgs s_House__init) (defBody s_House__init) (defScope s_House__init) [.non] [] a_House__init fd_House__init
  b_House__init : Binds K fd_House__init ["self", "size", "place", "next_house", "before"] []
  bd_House__init : List Value
  bv_House__init : Vals [.non] bd_House__init
  b1_House__init : Binds K fd_House__init ["self", "size", "place", "next_house", "before"] bd_House__init
  kg_House__init : List Value → List Value → List Value
  kb_House__init : KBn K fd_House__init ["self", "size", "place", "next_house", "before"] 4 ["before"] kg_House__init (fun vs zs => vs ++ zs)
  a_House__tell_letter : Addr
  fd_House__tell_letter : FuncData
  F_House__tell_letter : Fun K "tell_letter" "House.tell_letter" s_House__tell_letter a_House__tell_letter fd_House__tell_letter
  b_House__tell_letter : Binds K fd_House__tell_letter ["self"] []
  a_House__ask_letter : Addr
  fd_House__ask_letter : FuncData
  F_House__ask_letter : Fun K "ask_letter" "House.ask_letter" s_House__ask_letter a_House__ask_letter fd_House__ask_letter
  b_House__ask_letter : Binds K fd_House__ask_letter ["self"] []
  a_House__answer_to : Addr
  fd_House__answer_to : FuncData
  F_House__answer_to : Fun K "_answer_to" "House._answer_to" s_House__answer_to a_House__answer_to fd_House__answer_to
  b_House__answer_to : Binds K fd_House__answer_to ["self", "sender"] []
  a_House__hear_tell : Addr
  fd_House__hear_tell : FuncData
  F_House__hear_tell : Fun K "_hear_tell" "House._hear_tell" s_House__hear_tell a_House__hear_tell fd_House__hear_tell
  b_House__hear_tell : Binds K fd_House__hear_tell ["self", "sender"] []
  a_House__hear_answer : Addr
  fd_House__hear_answer : FuncData
  F_House__hear_answer : Fun K "_hear_answer" "House._hear_answer" s_House__hear_answer a_House__hear_answer fd_House__hear_answer
  b_House__hear_answer : Binds K fd_House__hear_answer ["self", "sender", "named"] []
  a_House__hear : Addr
  fd_House__hear : FuncData
  F_House__hear : Fun K "hear" "House.hear" s_House__hear a_House__hear fd_House__hear
  b_House__hear : Binds K fd_House__hear ["self", "letter"] []
  a__law_places : Addr
  fd__law_places : FuncData
  F__law_places : Fun K "_law_places" "_law_places" s__law_places a__law_places fd__law_places
  b__law_places : Binds K fd__law_places ["tape", "size", "count"] []
  g__law_places : mg "_law_places" = some (.ref a__law_places)
  a__law_far : Addr
  fd__law_far : FuncData
  F__law_far : Fun K "_law_far" "_law_far" s__law_far a__law_far fd__law_far
  b__law_far : Binds K fd__law_far ["size", "start", "end"] []
  g__law_far : mg "_law_far" = some (.ref a__law_far)
  a__law_between : Addr
  fd__law_between : FuncData
  F__law_between : Fun K "_law_between" "_law_between" s__law_between a__law_between fd__law_between
  b__law_between : Binds K fd__law_between ["size", "start", "place", "end"] []
  g__law_between : mg "_law_between" = some (.ref a__law_between)
  a__law_letter : Addr
  fd__law_letter : FuncData
  F__law_letter : Fun K "_law_letter" "_law_letter" s__law_letter a__law_letter fd__law_letter
  b__law_letter : Binds K fd__law_letter ["tape", "places", "cell"] []
  g__law_letter : mg "_law_letter" = some (.ref a__law_letter)
  a__law_hears : Addr
  fd__law_hears : FuncData
  F__law_hears : Fun K "_law_hears" "_law_hears" s__law_hears a__law_hears fd__law_hears
  b__law_hears : Binds K fd__law_hears ["size", "cell", "letter"] []
  g__law_hears : mg "_law_hears" = some (.ref a__law_hears)
  a__law_is : Addr
  fd__law_is : FuncData
  F__law_is : Fun K "_law_is" "_law_is" s__law_is a__law_is fd__law_is
  b__law_is : Binds K fd__law_is ["house", "size", "cell"] []
  g__law_is : mg "_law_is" = some (.ref a__law_is)
  a_law : Addr
  fd_law : FuncData
  F_law : Fun K "law" "law" s_law a_law fd_law
  b_law : Binds K fd_law ["script"] []
  g_law : mg "law" = some (.ref a_law)
  C_House : Addr
  mc_House : mg "House" = some (.ref C_House)
  cl_House : Cls K C_House
  na_House_size : NoAttr K C_House "size"
  na_House_place : NoAttr K C_House "place"
  na_House_next_house : NoAttr K C_House "next_house"
  na_House_before : NoAttr K C_House "before"
  mk_House : Mk K C_House a_House__init
  me_House__tell_letter : Meth K C_House "tell_letter" a_House__tell_letter
  me_House__ask_letter : Meth K C_House "ask_letter" a_House__ask_letter
  me_House__answer_to : Meth K C_House "_answer_to" a_House__answer_to
  me_House__hear_tell : Meth K C_House "_hear_tell" a_House__hear_tell
  me_House__hear_answer : Meth K C_House "_hear_answer" a_House__hear_answer
  me_House__hear : Meth K C_House "hear" a_House__hear
namespace T0
variable {K : PySem.W.Frag} {mg : Str → Option Value} (T : T0 K mg)
theorem k__law_tape : PySem.W.keepIn K (.ref T.a__law_tape) = true := T.F__law_tape.kp
theorem k__law_pick : PySem.W.keepIn K (.ref T.a__law_pick) = true := T.F__law_pick.kp
theorem k__law_same : PySem.W.keepIn K (.ref T.a__law_same) = true := T.F__law_same.kp
theorem k__law_size : PySem.W.keepIn K (.ref T.a__law_size) = true := T.F__law_size.kp
theorem k_far : PySem.W.keepIn K (.ref T.a_far) = true := T.F_far.kp
theorem k_between : PySem.W.keepIn K (.ref T.a_between) = true := T.F_between.kp
theorem k_House__init : PySem.W.keepIn K (.ref T.a_House__init) = true := T.F_House__init.kp
theorem k_House__tell_letter : PySem.W.keepIn K (.ref T.a_House__tell_letter) = true := T.F_House__tell_letter.kp
theorem k_House__ask_letter : PySem.W.keepIn K (.ref T.a_House__ask_letter) = true := T.F_House__ask_letter.kp
theorem k_House__answer_to : PySem.W.keepIn K (.ref T.a_House__answer_to) = true := T.F_House__answer_to.kp
theorem k_House__hear_tell : PySem.W.keepIn K (.ref T.a_House__hear_tell) = true := T.F_House__hear_tell.kp
theorem k_House__hear_answer : PySem.W.keepIn K (.ref T.a_House__hear_answer) = true := T.F_House__hear_answer.kp
theorem k_House__hear : PySem.W.keepIn K (.ref T.a_House__hear) = true := T.F_House__hear.kp
theorem k__law_places : PySem.W.keepIn K (.ref T.a__law_places) = true := T.F__law_places.kp
theorem k__law_far : PySem.W.keepIn K (.ref T.a__law_far) = true := T.F__law_far.kp
theorem k__law_between : PySem.W.keepIn K (.ref T.a__law_between) = true := T.F__law_between.kp
theorem k__law_letter : PySem.W.keepIn K (.ref T.a__law_letter) = true := T.F__law_letter.kp
theorem k__law_hears : PySem.W.keepIn K (.ref T.a__law_hears) = true := T.F__law_hears.kp
theorem k__law_is : PySem.W.keepIn K (.ref T.a__law_is) = true := T.F__law_is.kp
theorem k_law : PySem.W.keepIn K (.ref T.a_law) = true := T.F_law.kp
end T0
theorem un1 {k : Nat} {A : Around} (r : Room k A) : A.units + 1 < cLine := by have := r.un; omega
theorem iteT' {b : Bool} {A B : Prop} (h : b = true) (a : A) : if b = true then A else B := by rw [if_pos h]; exact a
theorem iteF' {b : Bool} {A B : Prop} (h : b = false) (a : B) : if b = true then A else B := by rw [if_neg (by rw [h]; exact Bool.false_ne_true)]; exact a
theorem small1000' {n : Nat} (h : n ≤ 100000) : n < sizeLine := Nat.lt_of_le_of_lt h (by decide)
theorem upd_self {H : Hp} {t : Addr} {o : HO} (h : H t = Option.some o) : H = upd H t o := by
  funext b
  unfold upd
  split
  · rename_i e
    rw [e, h]
  · rfl
theorem at_ints {cs : List Int} {a : Nat} (h : a < cs.length) : atI (cs.map V.int) (a : Int) = Option.some (.int (cs[a])) := by
  refine atI_nat ?_
  rw [List.getElem?_map, List.getElem?_eq_getElem h]
  rfl
theorem at_getD {cs : List Int} {a : Nat} (h : a < cs.length) : atI (cs.map V.int) (a : Int) = Option.some (.int (cs.getD a 0)) := by
  refine atI_nat ?_
  rw [List.getElem?_map, List.getElem?_eq_getElem h, List.getD_eq_getElem?_getD, List.getElem?_eq_getElem h]
  rfl
theorem fmod_range (x : Int) {n : Int} (h : 0 < n) : 0 ≤ x.fmod n ∧ x.fmod n < n := ⟨Int.fmod_nonneg_of_pos x h, Int.fmod_lt_of_pos x h⟩
theorem mod_small (x : Int) {m : Int} (h : 0 < m) (h2 : m ≤ 9223372036854775808) : -(2 ^ 64) < x.fmod m ∧ x.fmod m < 2 ^ 64 := by
  have h3 := Int.fmod_nonneg_of_pos x h
  have h4 := Int.fmod_lt_of_pos x h
  constructor <;> omega
theorem cdivn (x : Int) {n : Int} (h : 0 < n) (h2 : n ≤ 1000000001) : CDivN x n := ⟨by omega, by omega⟩
theorem cdivw (x : Int) {n : Int} (h : 0 < n) (h2 : n ≤ 4000000000) : CDivW x n := wide_div (b := 63) h (by omega) (by decide) (by decide)
local macro_rules | `(tactic| walk_at "side") => `(tactic| first
  | with_reducible assumption
  | decide
  | ((with_reducible apply mod_small) <;> decide)
  | exact Or.inl ⟨by decide, by decide⟩
  | (apply Or.inl; (with_reducible apply mod_small) <;> decide)
  | exact Or.inr ⟨by decide, by decide⟩
  | ((with_reducible apply cdivn) <;> first | decide | omega)
  | ((with_reducible apply cdivw) <;> first | decide | omega)
  | (dsimp only; first | decide | omega)
  | exact ⟨by dsimp only; first | decide | omega, by dsimp only; first | decide | omega⟩)
local macro_rules | `(tactic| walk_at "go1") => `(tactic| first
  | refine ⟨_, rfl, ?_⟩
  | refine ⟨_, _, rfl, rfl, ?_⟩
  | refine Or.inl ⟨_, rfl, ?_⟩
  | refine ⟨_, _, _, _, rfl, rfl, (by first | assumption | exact SqL.of (by assumption) | exact upd_same | exact SqL.of upd_same), (by rfl), ?_⟩
  | refine ⟨rfl, ?_⟩
  | refine ⟨(show (_ : Prop) from by walk_at "side"), ?_⟩)
local macro_rules | `(tactic| walk_at "go") => `(tactic| repeat (walk_at "go1"))
section
variable {X : Cx} {K : PySem.W.Frag}
theorem ix_listK (h : X.K = K := by rfl) : IxR X (rIxL K) := by subst h; exact ix_list
theorem ix_tupK (h : X.K = K := by rfl) : IxR X (rIxT K) := by subst h; exact ix_tup
theorem ix_seqK (h : X.K = K := by rfl) : IxR X (rIx K) := by subst h; exact ix_seq
theorem sl_listK (h : X.K = K := by rfl) : SlR X (rSlL K) := by subst h; exact sl_list
theorem sl_tupK (h : X.K = K := by rfl) : SlR X (rSlT K) := by subst h; exact sl_tup
theorem op_in_seqK (h : X.K = K := by rfl) : OpR X (compareOp .In) (rIn K false) := by subst h; exact op_in_seq
theorem op_notIn_seqK (h : X.K = K := by rfl) : OpR X (compareOp .NotIn) (rIn K true) := by subst h; exact op_notIn_seq
def rLen (K : PySem.W.Frag) : List V → Hp → VK → Prop := fun xs H Q => ∃ p ys, xs = [.ref p] ∧ (SqL K H p ys ∨ SqT K H p ys) ∧ Q (.int ys.length) H
theorem call_lenK (h : X.K = K := by rfl) : CallR X (.builtin "len") (rLen K) := by subst h; exact call_len_seq
def rListOf (K : PySem.W.Frag) : List V → Hp → VK → Prop := fun xs H Q => ∃ p ys, xs = [.ref p] ∧ (SqL K H p ys ∨ SqT K H p ys) ∧ ∀ l, H l = none → Q (.ref l) (upd H l (.lst ys))
theorem call_list_ofK (h : X.K = K := by rfl) : CallR X (.type "list") (rListOf K) := by subst h; exact call_list_of
def rTupleOf (K : PySem.W.Frag) : List V → Hp → VK → Prop := fun xs H Q => ∃ p ys, xs = [.ref p] ∧ ((SqL K H p ys ∧ ∀ l, H l = none → Q (.ref l) (upd H l (.tup ys))) ∨ (SqT K H p ys ∧ Q (.ref p) H))
theorem call_tuple_ofK (h : X.K = K := by rfl) : CallR X (.type "tuple") (rTupleOf K) := by subst h; exact call_tuple_of
theorem call_isinstK (h : X.K = K := by rfl) : CallR X (.builtin "isinstance") (rIsi K) := by subst h; exact call_isi
theorem cr_sortedK (h : X.K = K := by rfl) : CallR X (.builtin "sorted") (rSorted K) := by subst h; exact cr_sorted
theorem call_sumK (hc : X.calm = true := by rfl) (h : X.K = K := by rfl) : CallR X (.builtin "sum") (rSum K) := by subst h; exact cr_sum hc
end
section
variable {σ : L2.St} {H : Hp} {ta tb tc : TE} {x y z : V}
theorem val_I0 {g : Int → Int → V} {i j : Int} (ha : Val ta σ H (.int i)) (hb : Val tb σ H (.int j)) : Val (tOp (rI0 g) ta tb) σ H (g i j) := fun _ q => ha _ (hb _ ⟨i, j, rfl, rfl, q⟩)
theorem val_I {C : Int → Int → Prop} {g : Int → Int → V} {i j : Int} (ha : Val ta σ H (.int i)) (hb : Val tb σ H (.int j)) (hc : C i j) : Val (tOp (rI C g) ta tb) σ H (g i j) := fun _ q => ha _ (hb _ ⟨i, j, rfl, rfl, hc, q⟩)
theorem val_eq (ha : Val ta σ H x) (hb : Val tb σ H y) (hs : scal x y = true) : Val (tOp rEq ta tb) σ H (.bl (decide (x = y))) := fun _ q => ha _ (hb _ ⟨hs, q⟩)
theorem val_ne (ha : Val ta σ H x) (hb : Val tb σ H y) (hs : scal x y = true) : Val (tOp rNe ta tb) σ H (.bl (!decide (x = y))) := fun _ q => ha _ (hb _ ⟨hs, q⟩)
theorem val_chain {g : Int → Int → Bool} {g' : Int → Int → Bool} {i j k : Int} (ha : Val ta σ H (.int i)) (hb : Val tb σ H (.int j)) (hc : Val tc σ H (.int k)) :
    Val (tChain (rI0 fun i j => .bl (g i j)) (rI0 fun i j => .bl (g' i j)) ta tb tc) σ H (.bl (g i j && g' j k)) := fun Q q => ha _ (hb _ ⟨i, j, rfl, rfl, _, rfl, by
  cases e : g i j with
  | true =>
    refine iteT (hc _ ⟨j, k, rfl, rfl, ?_⟩)
    rw [e] at q
    exact q
  | false =>
    rw [e] at q
    exact iteF q⟩)
theorem val_ixL {K : PySem.W.Frag} {p : Addr} {xs : List V} {i : Int} (ha : Val ta σ H (.ref p)) (hb : Val tb σ H (.int i)) (h : SqL K H p xs) (h2 : atI xs i = Option.some x) : Val (tOp (rIxL K) ta tb) σ H x := fun _ q => ha _ (hb _ ⟨p, xs, i, x, rfl, rfl, h, h2, q⟩)
theorem val_ixT {K : PySem.W.Frag} {p : Addr} {xs : List V} {i : Int} (ha : Val ta σ H (.ref p)) (hb : Val tb σ H (.int i)) (h : SqT K H p xs) (h2 : atI xs i = Option.some x) : Val (tOp (rIxT K) ta tb) σ H x := fun _ q => ha _ (hb _ ⟨p, xs, i, x, rfl, rfl, h, h2, q⟩)
theorem val_andV {a b : Bool} (ha : Val ta σ H (.bl a)) (hb : a = true → Val tb σ H (.bl b)) : Val (tAndV ta tb) σ H (.bl (a && b)) := fun Q q => ha _ ⟨a, rfl, by
  cases a with
  | true => exact iteT (hb rfl _ q)
  | false => exact iteF q⟩
theorem val_orV {a b : Bool} (ha : Val ta σ H (.bl a)) (hb : a = false → Val tb σ H (.bl b)) : Val (tOrV ta tb) σ H (.bl (a || b)) := fun Q q => ha _ ⟨a, rfl, by
  cases a with
  | true => exact iteT q
  | false => exact iteF (hb rfl _ q)⟩
theorem val_notV {a : Bool} (ha : Val ta σ H (.bl a)) : Val (tNotV ta) σ H (.bl (!a)) := fun _ q => ha _ ⟨a, rfl, q⟩
def ValA (ta : TA) (σ : L2.St) (H : Hp) (vs : List V) : Prop := ∀ Q : List V → Hp → Prop, Q vs H → ta σ H Q
theorem valA_nil : ValA tNil σ H [] := fun _ q => q
theorem valA_cons {tr : TA} {vs : List V} (h : Val ta σ H x) (hr : ValA tr σ H vs) : ValA (tCons ta tr) σ H (x :: vs) := fun _ q => h _ (hr _ q)
theorem go_lst {tr : TA} {vs : List V} {Q : VK} (h : ValA tr σ H vs) (hz : vs.length ≤ 100000) (q : ∀ p, H p = none → Q (.ref p) (upd H p (.lst vs))) : tLst tr σ H Q := h _ ⟨Nat.le_trans hz (by decide), q⟩
theorem go_tup {tr : TA} {vs : List V} {Q : VK} (h : ValA tr σ H vs) (hz : vs.length ≤ 100000) (q : ∀ p, H p = none → Q (.ref p) (upd H p (.tup vs))) : tTup tr σ H Q := h _ ⟨Nat.le_trans hz (by decide), q⟩
theorem val_call {tr : TA} {vs : List V} {sp : Sp} {dvs : List V} {E : XK} (h : ValA tr σ H vs) (hs : ∀ Q : VK, Q x H → sp (vs ++ dvs) H Q E) : Val (tCall sp dvs E tr) σ H x := fun _ q => h _ (hs _ q)
theorem val_cb {tr : TA} {vs : List V} {r : List V → Hp → VK → Prop} (h : ValA tr σ H vs) (hs : ∀ Q : VK, Q x H → r vs H Q) : Val (tCB r tr) σ H x := fun _ q => h _ (hs _ q)
variable {D : Ends} {tz tu tw : TS} {i : Nat} {tt tv : TT}
theorem o_asg (h : ta σ H fun v H' => tz D (σ.set i (some v)) H') : tSeq (tAsg ta (gName i)) tz D σ H := h
theorem o_ret (h : ta σ H D.rt) : tRet ta D σ H := h
theorem o_drop (h : ta σ H fun _ H' => tz D σ H') : tSeq (tDrop ta) tz D σ H := h
theorem v_asg (h : Val ta σ H x) (k : tz D (σ.set i (some x)) H) : tSeq (tAsg ta (gName i)) tz D σ H := h _ k
theorem v_asg1 (h : Val ta σ H x) (k : D.nx (σ.set i (some x)) H) : tAsg ta (gName i) D σ H := h _ k
theorem lc_yes {A B : Hp → Prop} (h : A H) : tYes σ H (fun b H3 => if b = true then A H3 else B H3) := by show (if true = true then A H else B H); exact iteT h
theorem g_name {v : V} {Q : L2.St → Hp → Prop} (h : Q (σ.set i (some v)) H) : gName i v σ H Q := h
theorem v_ret (h : Val ta σ H x) (k : D.rt x H) : tRet ta D σ H := h _ k
theorem v_if {b : Bool} (h : Ans tt σ H b) (h1 : b = true → tu { D with nx := tz D } σ H) (h2 : b = false → tw { D with nx := tz D } σ H) : tSeq (tIfS tt tu tw) tz D σ H := h _ (by
  cases b with
  | true => exact iteT (h1 rfl)
  | false => exact iteF (h2 rfl))
theorem v_if1 {b : Bool} (h : Ans tt σ H b) (h1 : b = true → tu D σ H) (h2 : b = false → tw D σ H) : tIfS tt tu tw D σ H := h _ (by
  cases b with
  | true => exact iteT (h1 rfl)
  | false => exact iteF (h2 rfl))
/-- an if without else: the rest once more where the test says no -/
theorem v_when {b : Bool} (h : Ans tt σ H b) (h1 : b = true → tu { D with nx := tz D } σ H) (h2 : b = false → tz D σ H) : tSeq (tIfS tt tu tNext) tz D σ H := v_if h h1 h2
theorem ans_t {b : Bool} (h : Val ta σ H (.bl b)) : Ans (tTest ta) σ H b := fun _ q => h _ ⟨b, rfl, q⟩
theorem ans_b {b : Bool} (h : Val ta σ H (.bl b)) : Ans (tB ta) σ H b := fun _ q => h _ ⟨b, rfl, q⟩
theorem ans_a {a b : Bool} (h : Ans tt σ H a) (h2 : a = true → Ans tv σ H b) : Ans (tAnd tt tv) σ H (a && b) := fun _ q => h _ (by
  cases a with
  | true => exact iteT (h2 rfl _ q)
  | false => exact iteF q)
theorem ans_o {a b : Bool} (h : Ans tt σ H a) (h2 : a = false → Ans tv σ H b) : Ans (tOr tt tv) σ H (a || b) := fun _ q => h _ (by
  cases a with
  | true => exact iteT q
  | false => exact iteF (h2 rfl _ q))
theorem ans_n {a : Bool} (h : Ans tt σ H a) : Ans (tNot tt) σ H (!a) := fun _ q => h _ q
theorem Val.to (h : Val ta σ H x) (e : x = y) : Val ta σ H y := e ▸ h
theorem Val.go {Q : VK} (h : Val ta σ H x) (q : Q x H) : ta σ H Q := h Q q
end
local macro_rules | `(tactic| walk_at "sql") => `(tactic| first
  | with_reducible assumption
  | exact SqL.of (by assumption)
  | exact SqL.of upd_same)
local macro_rules | `(tactic| walk_at "sqt") => `(tactic| first
  | with_reducible assumption
  | exact SqT.of (by assumption)
  | exact SqT.of upd_same)
local macro_rules | `(tactic| walk_at "at") => `(tactic| first
  | with_reducible assumption
  | exact at_getD (by omega)
  | exact at_ints (by assumption)
  | rfl)
local macro_rules | `(tactic| walk_at "val") => `(tactic| first
  | with_reducible assumption
  | with_reducible exact val_c
  | ((with_reducible apply val_var); rfl)
  | ((with_reducible apply val_I0); (· walk_at "val"); (· walk_at "val"))
  | ((with_reducible apply val_I); (· walk_at "val"); (· walk_at "val"); (· walk_at "side"))
  | ((with_reducible apply val_eq); (· walk_at "val"); (· walk_at "val"); (· rfl))
  | ((with_reducible apply val_ne); (· walk_at "val"); (· walk_at "val"); (· rfl))
  | ((with_reducible apply val_chain); (· walk_at "val"); (· walk_at "val"); (· walk_at "val"))
  | ((with_reducible apply val_andV); (· walk_at "val"); (· intro _; walk_at "val"))
  | ((with_reducible apply val_orV); (· walk_at "val"); (· intro _; walk_at "val"))
  | ((with_reducible apply val_notV); (· walk_at "val"))
  | ((with_reducible apply val_ixL); (· walk_at "val"); (· walk_at "val"); (· walk_at "sql"); (· walk_at "at"))
  | ((with_reducible apply val_ixT); (· walk_at "val"); (· walk_at "val"); (· walk_at "sqt"); (· walk_at "at"))
  | with_reducible exact valA_nil
  | ((with_reducible apply valA_cons); (· walk_at "val"); (· walk_at "val"))
  | ((with_reducible apply val_cb); (· walk_at "val"); (· intro _ q; exact Or.inl ⟨_, rfl, q⟩))
  | ((with_reducible apply val_call); (· walk_at "val"); (· intro _ q; walk_at "sp")))
local macro_rules | `(tactic| walk_at "ans") => `(tactic| first
  | ((with_reducible apply ans_t); (· walk_at "val"))
  | ((with_reducible apply ans_b); (· walk_at "val"))
  | ((with_reducible apply ans_a); (· walk_at "ans"); (· intro _; walk_at "ans"))
  | ((with_reducible apply ans_o); (· walk_at "ans"); (· intro _; walk_at "ans"))
  | ((with_reducible apply ans_n); (· walk_at "ans")))
local macro_rules | `(tactic| walk_at "len") => `(tactic| first
  | (simp only [List.length_cons, List.length_nil, List.length_map, List.length_append]; omega)
  | assumption)
theorem Same.fresh {H H' : Hp} {p : Addr} {o : HO} (e : Same H H') (h : H p = Option.none) : Same H (upd H' p o) := fun a u ha => by
  rw [upd_ne (ne_of_none ha h)]
  exact e a u ha
theorem take_map_succ {xs : List Int} {j : Nat} {x : Int} (h : xs[j]? = Option.some x) : ((xs.take j).map V.int) ++ [.int x] = (xs.take (j + 1)).map V.int := by
  rw [List.take_add_one, h, List.map_append]
  rfl
theorem lenL {n : Nat} (h : n ≤ 100000) : n ≤ sizeLine := Nat.le_trans h (by decide)
theorem dec_int (i j : Int) : decide (V.int i = V.int j) = decide (i = j) := decide_eq_decide.mpr ⟨V.int.inj, congrArg V.int⟩
local macro_rules | `(tactic| walk_at "nf") => `(tactic| ((try refine g_name ?_); dsimp only [List.set_cons_zero, List.set_cons_succ]))
theorem lk0 {a : Str} {v : V} {r : List (Str × V)} : ((a, v) :: r).lookup a = Option.some v := by rw [List.lookup_cons_self]
theorem lk1 {a b : Str} {v : V} {r : List (Str × V)} (h : (a == b) = false) : ((b, v) :: r).lookup a = r.lookup a := by rw [List.lookup_cons, h]
theorem pf0 {a : Str} {v u : V} {r : List (Str × V)} : putF a v ((a, u) :: r) = (a, v) :: r := by
  unfold putF
  rw [if_pos rfl]
theorem pf1 {a b : Str} {v u : V} {r : List (Str × V)} (h : ¬ b = a) : putF a v ((b, u) :: r) = (b, u) :: putF a v r := by
  rw [putF, if_neg h]
theorem pfN {a : Str} {v : V} : putF a v [] = [(a, v)] := rfl
local macro_rules | `(tactic| walk_at "lk") => `(tactic| (repeat (rw [lk1 (by decide +kernel)])); first | exact lk0 | rfl)
local macro_rules | `(tactic| walk_at "pf") => `(tactic| repeat (first | rw [pfN] | rw [pf0] | rw [pf1 (by decide +kernel)]))
/-! ### the tape of drawn numbers -/
/-- all that was tracked stays, but what stands at t -/
def Kp (t : Addr) (H H' : Hp) : Prop := ∀ b o, b ≠ t → H b = some o → H' b = some o
theorem Kp.refl (t : Addr) (H : Hp) : Kp t H H := fun _ _ _ h => h
theorem Kp.trans {t : Addr} {H H1 H2 : Hp} (a : Kp t H H1) (b : Kp t H1 H2) : Kp t H H2 := fun c o n h => b c o n (a c o n h)
theorem Kp.of_same {t : Addr} {H H' : Hp} (a : Same H H') : Kp t H H' := fun c o _ h => a c o h
theorem Kp.put {t : Addr} {H : Hp} {o : HO} : Kp t H (upd H t o) := fun b u n h => by rw [upd_ne n]; exact h
theorem same_upd {H : Hp} {p : Addr} {o : HO} (h : H p = none) : Same H (upd H p o) := fun b x e => by
  rw [upd_ne (ne_of_none e h)]
  exact e
theorem Kp.new {t : Addr} {H H' : Hp} {p : Addr} {o : HO} (a : Kp t H H') (h : H' p = none) : Kp t H (upd H' p o) := a.trans (.of_same (same_upd h))
def Tape (H : Hp) (t c : Addr) : Prop := ∃ (cs : List Int) (a : Nat) (b k r : Int), H t = some (.lst [.ref c, .int a, .int b, .int k, .int r]) ∧ H c = some (.lst (cs.map V.int)) ∧ c ≠ t ∧ a < cs.length
theorem Tape.same {H H' : Hp} {t c : Addr} (h : Tape H t c) (s : Same H H') : Tape H' t c := by
  obtain ⟨cs, a, b, k, r, h1, h2, h3, h4⟩ := h
  exact ⟨cs, a, b, k, r, s _ _ h1, s _ _ h2, h3, h4⟩
theorem Tape.off {H : Hp} {t c m : Addr} (h : Tape H t c) (n : H m = none) : m ≠ t ∧ m ≠ c := by
  obtain ⟨cs, a, b, k, r, h1, h2, h3, h4⟩ := h
  exact ⟨fun e => ne_of_none h1 n e.symm, fun e => ne_of_none h2 n e.symm⟩
theorem Tape.put {H : Hp} {t c m : Addr} {o : HO} (h : Tape H t c) (n : m ≠ t ∧ m ≠ c) : Tape (upd H m o) t c := by
  obtain ⟨cs, a, b, k, r, h1, h2, h3, h4⟩ := h
  exact ⟨cs, a, b, k, r, by rw [upd_ne n.1.symm]; exact h1, by rw [upd_ne n.2.symm]; exact h2, h3, h4⟩
theorem Tape.set {H : Hp} {t c : Addr} {cs : List Int} {a : Nat} {b k r : Int} (h2 : H c = Option.some (.lst (cs.map V.int))) (h3 : c ≠ t) (h4 : a < cs.length) : Tape (upd H t (.lst [.ref c, .int a, .int b, .int k, .int r])) t c :=
  ⟨cs, a, b, k, r, upd_same, by rw [upd_ne h3]; exact h2, h3, h4⟩
theorem ix5 (a b c d e : V) : ixN [a, b, c, d, e].length 0 = Option.some 0 ∧ ixN [a, b, c, d, e].length 1 = Option.some 1 ∧ ixN [a, b, c, d, e].length 2 = Option.some 2 ∧ ixN [a, b, c, d, e].length 3 = Option.some 3 ∧ ixN [a, b, c, d, e].length 4 = Option.some 4 := ⟨rfl, rfl, rfl, rfl, rfl⟩
theorem sz5 (a b c d e : V) : [a, b, c, d, e].length ≤ sizeLine := by show 5 ≤ sizeLine; decide
section
variable {P : Program} {w : World} {K : PySem.W.Frag} {mg : Str → Option Value} {base : Heap}
def sp__law_tape (K : PySem.W.Frag) : Sp := fun vs H Q _ => ∃ (a : Addr) (ns : List Int), vs = [.ref a] ∧ SqL K H a (ns.map V.int) ∧ ns.length ≤ 1000 ∧ ∀ H' t c, Same H H' → H t = none → Tape H' t c → Q (.ref t) H'
theorem T0.ok__law_tape (T : T0 K mg) : FnOk P w K mg base CX0 1 T.a__law_tape T.fd__law_tape ["script"] (sp__law_tape K) := by
  refine T.F__law_tape.ok sc__law_tape (fun vs H Q E h => ?_) (fun cdv A outer s H vs Q E hr h => ?_)
  · obtain ⟨a, ns, rfl, _⟩ := h
    rfl
  · obtain ⟨a, ns, rfl, hS, hlen, q⟩ := h
    refine ⟨_, (pss_cons (ps_setLc (i := 1) (own := [("cell", 2)]) (g := gName 2) (by rfl) sc__law_tape.nd rfl rfl (sw_true rfl rfl rfl (by decide +kernel)) (pi_list (pv 0)) (blkOk_by (own := [("cell", 2)]) (N := ["script", "cells", "cell"]) (sc := defScope s__law_tape) (by decide +kernel)) (fun _ _ _ _ _ => pg_name (i := 2) sc__law_tape.nd rfl (Or.inl rfl)) (fun _ _ _ _ _ => pts_nil) (fun _ _ _ _ _ => (pe_callB call_abs (by rfl) T.m_abs (by decide +kernel) (pa_cons (pe_callTy call_int1 (by rfl) T.m_int (by decide +kernel) (pa_cons (pv 2) pa_nil)) pa_nil))))
        (C8.pss_cut (ps_if (pt_cmpR op_eq (pe_callB (call_lenK (K := K)) (by rfl) T.m_len PySem.boot_len (pa_cons (pv 1) pa_nil)) pe_int (nomark _)) (pss_one (ps_set (i := 1) sc__law_tape.nd rfl (Or.inl rfl) (pe_lst (pa_cons pe_int pa_nil)))) pss_nil)
        (pss_one (ps_ret (pe_lst (pa_cons (pv 1) (pa_cons pe_int (pa_cons (pe_ix (ix_listK (K := K)) (pv 1) pe_int (fun _ _ => rfl)) (pa_cons pe_int (pa_cons pe_int pa_nil)))))))))), ?_⟩
    -- cells = [..]
    refine ⟨.ref a, rfl, a, rfl, ⟨_, hS⟩, fun D hD => lc_list (K := K) (a := a) (xs := ns.map V.int) (fun i H' => Same H H' ∧ ∃ ms : List Int, ms.length = i ∧ H' D = some (.lst (ms.map V.int))) ⟨same_upd hD, [], rfl, upd_same⟩ (fun i H' _ p => p.1.seq hS) (fun i x H' hx p => ?_) (fun H1 p => ?_)⟩
    · obtain ⟨sm, ms, e1, e2⟩ := p
      rw [List.getElem?_map] at hx
      obtain ⟨n, hn, rfl⟩ := Option.map_eq_some_iff.mp hx
      refine ⟨rfl, ?_⟩
      refine ⟨_, rfl, .inl ⟨_, rfl, _, rfl, ms.map V.int, e2, ?_, ?_⟩⟩
      · have hi : i < ns.length := (List.getElem?_eq_some_iff.mp hn).1
        rw [List.length_map]
        exact small1000' (by omega)
      · refine ⟨fun b o h => ?_, ms ++ [if n < 0 then -n else n], ?_, ?_⟩
        · rw [upd_ne (ne_of_none h hD)]
          exact sm b o h
        · rw [List.length_append, e1]
          rfl
        · rw [upd_same, List.map_append]
          rfl
    · obtain ⟨sm, ms, e1, e2⟩ := p
      rw [List.length_map] at e1
      -- if len(cells) == 0
      refine ⟨fun σ' H' => ∃ (c : Addr) (cs : List Int) (x2 : Option V), σ' = [some (.ref a), some (.ref c), x2] ∧ Same H H' ∧ H c = none ∧ H' c = some (.lst (cs.map V.int)) ∧ 0 < cs.length, ?_, fun σ' H' hM => ?_⟩
      · refine ⟨.ref D, rfl, D, ms.map V.int, rfl, .inl (SqL.of e2), rfl, _, rfl, ite2 (fun e => ?_) (fun e => ?_)⟩
        · refine ⟨by decide, fun p np => ?_⟩
          refine ⟨p, [0], none, rfl, ?_, ?_, upd_same, by decide⟩
          · exact sm.trans (same_upd np)
          · exact sm.free np
        · have h0 : ((ms.map V.int).length : Int) ≠ 0 := fun z => e (decide_eq_true (congrArg V.int z))
          rw [List.length_map] at h0
          exact ⟨D, ms, none, rfl, sm, hD, e2, by omega⟩
      · obtain ⟨c, cs, x2, rfl, sm2, nc, e3, hp⟩ := hM
        refine ⟨.ref c, rfl, .ref c, rfl, c, cs.map V.int, 0, .int (cs[0]), rfl, rfl, SqL.of e3, at_ints hp, sz5 _ _ _ _ _, fun t nt => ?_⟩
        refine q _ t c (sm2.trans (same_upd nt)) (sm2.free nt) (Tape.set (a := 0) e3 (ne_of_none e3 nt) hp)
def sp__law_pick (K : PySem.W.Frag) : Sp := fun vs H Q _ => ∃ (t c : Addr) (n : Int), vs = [.ref t, .int n] ∧ Tape H t c ∧ 0 < n ∧ n ≤ 4000000000 ∧ ∀ x H', 0 ≤ x → x < n → Kp t H H' → Tape H' t c → Q (.int x) H'
theorem T0.ok__law_pick (T : T0 K mg) : FnOk P w K mg base CX0 1 T.a__law_pick T.fd__law_pick ["tape", "size"] (sp__law_pick K) := by
  refine T.F__law_pick.ok sc__law_pick (fun vs H Q E h => ?_) (fun cdv A outer s H vs Q E hr h => ?_)
  · obtain ⟨t, c, n, rfl, _⟩ := h
    rfl
  · obtain ⟨t, c, n, rfl, ⟨cs, a, b, k, r, hT, hC, nct, ha⟩, hn0, hn1, q⟩ := h
    refine ⟨_, (pss_cons (ps_set (i := 2) sc__law_pick.nd rfl (Or.inl rfl) (pe_ix (ix_listK (K := K)) (pv 0) pe_int (fun _ _ => rfl)))
        (pss_cons (ps_set (i := 3) sc__law_pick.nd rfl (Or.inl rfl) (pe_ix (ix_listK (K := K)) (pv 2) (pe_ix (ix_listK (K := K)) (pv 0) pe_int (fun _ _ => rfl)) (fun _ _ => rfl)))
        (pss_cons (ps_set (i := 4) sc__law_pick.nd rfl (Or.inl rfl) (pe_op op_add (pe_ix (ix_listK (K := K)) (pv 0) pe_int (fun _ _ => rfl)) (pe_op op_mul pe_int (pe_ix (ix_listK (K := K)) (pv 0) pe_int (fun _ _ => rfl)))))
        (C8.pss_cut (ps_if (PW.pt (pw_and (pt_cmpR op_ge (pv 3) (pe_op op_pow pe_int pe_int) (nomark _)) (pw_and1 (pt_cmpR op_eq (pe_ix (ix_listK (K := K)) (pv 0) pe_int (fun _ _ => rfl)) pe_int (nomark _))))) (pss_cons (ps_set (i := 5) sc__law_pick.nd rfl (Or.inl rfl) (pe_op op_modN (pe_callTy call_int1 (by rfl) T.m_int (by decide +kernel) (pa_cons (pe_ix (ix_listK (K := K)) (pv 0) pe_int (fun _ _ => rfl)) pa_nil)) (pv 1)))
        (pss_cons (ps_asg ((pe_op op_fdivW (pe_ix (ix_listK (K := K)) (pv 0) pe_int (fun _ _ => rfl)) (pv 1))) (pg_sub (pv 0) pe_int set_list))
        (pss_one (ps_set (i := 6) sc__law_pick.nd rfl (Or.inl rfl) (pe_cmpR op_eq (pe_ix (ix_listK (K := K)) (pv 0) pe_int (fun _ _ => rfl)) pe_int (nomark _)))))) (pss_cons (ps_set (i := 7) sc__law_pick.nd rfl (Or.inl rfl) (pe_op op_modN (pe_callTy call_int1 (by rfl) T.m_int (by decide +kernel) (pa_cons (pe_op op_add (pe_op op_add (pv 3) (pe_op op_mul pe_int (pv 4))) pe_int) pa_nil)) pe_int))
        (pss_cons (ps_set (i := 7) sc__law_pick.nd rfl (Or.inl rfl) (pe_op op_modN (pe_callTy call_int1 (by rfl) T.m_int (by decide +kernel) (pa_cons (pe_op op_mul (pv 7) (pe_op op_add (pv 7) pe_int)) pa_nil)) pe_int))
        (pss_cons (ps_set (i := 7) sc__law_pick.nd rfl (Or.inl rfl) (pe_op op_modN (pe_callTy call_int1 (by rfl) T.m_int (by decide +kernel) (pa_cons (pe_op op_add (pe_op op_mul (pv 7) (pe_op op_add (pv 7) pe_int)) (pe_op op_mul pe_int (pv 4))) pa_nil)) pe_int))
        (pss_cons (ps_set (i := 5) sc__law_pick.nd rfl (Or.inl rfl) (pe_op op_modN (pe_callTy call_int1 (by rfl) T.m_int (by decide +kernel) (pa_cons (pe_op op_fdivN (pv 7) pe_int) pa_nil)) (pv 1)))
        (pss_one (ps_set (i := 6) sc__law_pick.nd rfl (Or.inl rfl) (pe_cmpR op_eq (pe_op op_modN (pe_callTy call_int1 (by rfl) T.m_int (by decide +kernel) (pa_cons (pv 4) pa_nil)) pe_int) pe_int (nomark _)))))))))
        (pss_cons (ps_asg (pe_op op_add (pe_ix (ix_listK (K := K)) (pv 0) pe_int (fun _ _ => rfl)) pe_int) (pg_sub (pv 0) pe_int set_list))
        (C8.pss_cut (ps_if (pt_val (pv 6)) (pss_cons (ps_asg pe_int (pg_sub (pv 0) pe_int set_list))
        (pss_cons (ps_asg (pe_op op_add (pe_ix (ix_listK (K := K)) (pv 0) pe_int (fun _ _ => rfl)) pe_int) (pg_sub (pv 0) pe_int set_list))
        (C8.pss_cut (ps_if (pt_cmpR op_eq (pe_ix (ix_listK (K := K)) (pv 0) pe_int (fun _ _ => rfl)) (pe_callB (call_lenK (K := K)) (by rfl) T.m_len PySem.boot_len (pa_cons (pv 2) pa_nil)) (nomark _)) (pss_cons (ps_asg pe_int (pg_sub (pv 0) pe_int set_list))
        (pss_one (ps_asg (pe_op op_add (pe_ix (ix_listK (K := K)) (pv 0) pe_int (fun _ _ => rfl)) pe_int) (pg_sub (pv 0) pe_int set_list)))) pss_nil)
        (pss_one (ps_asg (pe_ix (ix_listK (K := K)) (pv 2) (pe_ix (ix_listK (K := K)) (pv 0) pe_int (fun _ _ => rfl)) (fun _ _ => rfl)) (pg_sub (pv 0) pe_int set_list)))))) pss_nil)
        (pss_one (ps_ret (pv 5))))))))), ?_⟩
    have st : SqL K H t [.ref c, .int a, .int b, .int k, .int r] := SqL.of hT
    have sc : SqL K H c (cs.map V.int) := SqL.of hC
    -- cells = tape[0]; cell = cells[tape[1]]
    refine ⟨.ref t, rfl, t, _, 0, .ref c, rfl, rfl, st, rfl, ?_⟩
    refine ⟨.ref c, rfl, .ref t, rfl, t, _, 1, .int a, rfl, rfl, st, rfl, c, _, a, .int (cs[a]), rfl, rfl, sc, at_ints ha, ?_⟩
    -- k = tape[3] + 61 * tape[4]
    refine ⟨.ref t, rfl, t, _, 3, .int k, rfl, rfl, st, rfl, .ref t, rfl, t, _, 4, .int r, rfl, rfl, st, rfl, 61, r, rfl, rfl, .inl (by decide), _, _, rfl, rfl, ?_⟩
    refine ⟨fun σ' H' => ∃ (x : Int) (u : Bool) (b' : Int) (y : Option V), σ' = [some (.ref t), some (.int n), some (.ref c), some (.int cs[a]), some (.int (k + 61 * r)), some (.int x), some (.bl u), y] ∧ 0 ≤ x ∧ x < n ∧ H' = upd H t (.lst [.ref c, .int a, .int b', .int k, .int r]), ?_, fun σ' H' hM => ?_⟩
    · -- if cell >= 10 ** 18 and tape[4] == 0
      have hn : n ≠ 0 := by omega
      have fm : ∀ x : Int, 0 ≤ x.fmod n ∧ x.fmod n < n := fun x => fmod_range x hn0
      refine ⟨.int cs[a], rfl, 10, 18, rfl, rfl, ⟨by decide, by decide, by decide⟩, _, _, rfl, rfl, _, rfl, ite2 (fun _ => ?A) (fun _ => ?no1)⟩
      case' A => refine ⟨.ref t, rfl, t, _, 4, .int r, rfl, rfl, st, rfl, rfl, _, rfl, ite2 (fun _ => ?yes) (fun _ => ?no2)⟩
      case yes =>
        walk_at "go"
        exact ⟨_, _, _, none, rfl, (fm _).1, (fm _).2, rfl⟩
      case no1 | no2 =>
        walk_at "go"
        exact ⟨_, _, b, _, rfl, (fm _).1, (fm _).2, upd_self hT⟩
    · obtain ⟨x, u, b', y, rfl, hx0, hx1, rfl⟩ := hM
      have sc' : ∀ xs, SqL K (upd H t (.lst xs)) c (cs.map V.int) := fun xs => SqL.of ((upd_ne nct).trans hC)
      -- tape[3] = tape[3] + 1
      walk_at "go"
      rw [upd_upd]
      refine ⟨fun σ' H' => ∃ (a' : Nat) (b2 k2 r2 : Int), a' < cs.length ∧ σ' = [some (.ref t), some (.int n), some (.ref c), some (.int cs[a]), some (.int (k + 61 * r)), some (.int x), some (.bl u), y] ∧ H' = upd H t (.lst [.ref c, .int a', .int b2, .int k2, .int r2]), ?_, fun σ' H' hM => ?_⟩
      · refine ⟨_, rfl, _, rfl, ?_⟩
        cases u with
        | false => exact iteF ⟨a, b', k + 1, r, ha, rfl, rfl⟩
        | true =>
          refine iteT ?_
          -- tape[3] = 0; tape[1] = tape[1] + 1
          walk_at "go"
          rw [upd_upd]
          walk_at "go"
          rw [upd_upd]
          refine ⟨fun σ' H' => ∃ (a' : Nat) (r2 : Int), a' < cs.length ∧ σ' = [some (.ref t), some (.int n), some (.ref c), some (.int cs[a]), some (.int (k + 61 * r)), some (.int x), some (.bl true), y] ∧ H' = upd H t (.lst [.ref c, .int a', .int b', .int 0, .int r2]), ?_, fun σ' H' hM => ?_⟩
          · -- if tape[1] == len(cells)
            refine ⟨_, rfl, t, _, 1, .int (a + 1), rfl, rfl, SqL.of upd_same, rfl, ?_⟩
            refine ⟨_, rfl, c, _, rfl, .inl (sc' _), rfl, _, rfl, ite2 (fun e => ?_) (fun e => ?_)⟩
            · walk_at "go"
              rw [upd_upd]
              walk_at "go"
              rw [upd_upd]
              exact ⟨0, r + 1, by omega, rfl, rfl⟩
            · rw [List.length_map] at e
              refine ⟨a + 1, r, ?_, rfl, rfl⟩
              have h0 : ((a : Int) + 1) ≠ (cs.length : Int) := fun z => e (decide_eq_true (congrArg V.int z))
              omega
          · obtain ⟨a', r2, ha2, rfl, rfl⟩ := hM
            -- tape[2] = cells[tape[1]]
            refine ⟨_, rfl, _, rfl, t, _, 1, .int a', rfl, rfl, SqL.of upd_same, rfl, c, _, a', .int cs[a'], rfl, rfl, sc' _, at_ints ha2, ?_⟩
            walk_at "go"
            exact ⟨a', _, _, _, ha2, rfl, upd_upd⟩
      · obtain ⟨a', b2, k2, r2, ha2, rfl, rfl⟩ := hM
        exact ⟨_, rfl, q _ _ hx0 hx1 .put (Tape.set hC nct ha2)⟩
local macro_rules | `(tactic| walk_at "kp") => `(tactic| first
  | exact Kp.refl _ _
  | assumption
  | (refine Kp.trans ?_ (by assumption); walk_at "kp"))
local macro_rules | `(tactic| walk_at "pick") => `(tactic|
  refine ⟨_, _, _, rfl, (by assumption), (by first | decide | omega), (by first | decide | omega), fun x H' h0 h1 kp hT => ?_⟩)
/-! ### _law_same -/
theorem op_isB {X : Cx} : OpR X (compareOp .Is) (fun x y H Q => ∃ b, y = .bl b ∧ Q (.bl (decide (x = .bl b))) H) := by
  intro pins s σ H x y v u Q I rx ry h
  obtain ⟨b, rfl, q⟩ := h
  cases (show u = Value.bool b from ry)
  cases x with
  | bl c =>
    cases (show v = Value.bool c from rx)
    refine is_bool (fin_bl I q ?_)
    cases b <;> cases c <;> rfl
  | non => cases rx; exact wpAny_is_plain rfl (fin_bl I q rfl)
  | int _ => obtain ⟨t, rfl⟩ := rx; exact wpAny_is_plain rfl (fin_bl I q rfl)
  | str _ => obtain ⟨t, rfl⟩ := rx; exact wpAny_is_plain rfl (fin_bl I q rfl)
  | byt _ => obtain ⟨t, rfl⟩ := rx; exact wpAny_is_plain rfl (fin_bl I q rfl)
  | flt _ => obtain ⟨t, rfl⟩ := rx; exact wpAny_is_plain rfl (fin_bl I q rfl)
  | ref _ => cases rx; exact wpAny_is_plain rfl (fin_bl I q rfl)
  | ty _ => cases rx; exact wpAny_is_plain rfl (fin_bl I q rfl)
def atomV : V → Bool
  | .non => true
  | .bl _ => true
  | .int _ => true
  | .str _ => true
  | _ => false
/-- the same data, of at most this depth -/
inductive Sm (K : PySem.W.Frag) : Nat → Hp → V → V → Prop
  | atom {d : Nat} {H : Hp} {x : V} : atomV x = true → Sm K (d + 1) H x x
  | lst {d : Nat} {H : Hp} {a b : Addr} {xs ys : List V} : SqL K H a xs → SqL K H b ys → xs.length = ys.length → ys.length ≤ 100000 → (∀ (i : Nat) x y, xs[i]? = some x → ys[i]? = some y → Sm K d H x y) → Sm K (d + 1) H (.ref a) (.ref b)
  | tup {d : Nat} {H : Hp} {a b : Addr} {xs ys : List V} : SqT K H a xs → SqT K H b ys → xs.length = ys.length → ys.length ≤ 100000 → (∀ (i : Nat) x y, xs[i]? = some x → ys[i]? = some y → Sm K d H x y) → Sm K (d + 1) H (.ref a) (.ref b)
  | dic {d : Nat} {H : Hp} {a b : Addr} {xs ys : List (Key × V)} : H a = some (.dK xs) → H b = some (.dK ys) → xs.length = ys.length → ys.length ≤ 100000 → (∀ (i : Nat) x y, xs[i]? = some x → ys[i]? = some y → x.1 = y.1) →
      (∀ (i : Nat) x y, xs[i]? = some x → ys[i]? = some y → Sm K (d + 1) H x.2 y.2) → Sm K (d + 4) H (.ref a) (.ref b)
theorem same_t {K : PySem.W.Frag} {H H' : Hp} {a : Addr} {xs : List V} (e : Same H H') (h : SqT K H a xs) : SqT K H' a xs := by
  rcases h with (h | ⟨o, h⟩) | h
  · exact .inl (.inl (e _ _ h))
  · exact .inl (.inr ⟨o, e _ _ h⟩)
  · exact .inr h
theorem Sm.same {K : PySem.W.Frag} {d : Nat} {H : Hp} {x y : V} (h : Sm K d H x y) : ∀ {H' : Hp}, Same H H' → Sm K d H' x y := by
  induction h with
  | atom h => exact fun _ => .atom h
  | lst h1 h2 h3 h4 _ ih => exact fun s => .lst (s.seq h1) (s.seq h2) h3 h4 fun i x y e1 e2 => ih i x y e1 e2 s
  | tup h1 h2 h3 h4 _ ih => exact fun s => .tup (same_t s h1) (same_t s h2) h3 h4 fun i x y e1 e2 => ih i x y e1 e2 s
  | dic h1 h2 h3 h4 h5 _ ih => exact fun s => .dic (s _ _ h1) (s _ _ h2) h3 h4 h5 fun i x y e1 e2 => ih i x y e1 e2 s
theorem Sm.succ {K : PySem.W.Frag} {d : Nat} {H : Hp} {x y : V} (h : Sm K d H x y) : Sm K (d + 1) H x y := by
  induction h with
  | atom h => exact .atom h
  | lst h1 h2 h3 h4 _ ih => exact .lst h1 h2 h3 h4 ih
  | tup h1 h2 h3 h4 _ ih => exact .tup h1 h2 h3 h4 ih
  | dic h1 h2 h3 h4 h5 _ ih => exact .dic h1 h2 h3 h4 h5 ih
theorem Sm.int {K : PySem.W.Frag} {d : Nat} {H : Hp} {i j : Int} (h : i = j) : Sm K (d + 1) H (.int i) (.int j) := by subst h; exact .atom rfl
theorem Sm.bl {K : PySem.W.Frag} {d : Nat} {H : Hp} {i j : Bool} (h : i = j) : Sm K (d + 1) H (.bl i) (.bl j) := by subst h; exact .atom rfl
theorem tyx_l {K : PySem.W.Frag} {H : Hp} {a : Addr} {xs : List V} (h : SqL K H a xs) : TyX K H (.ref a) (.type "list") := by
  rcases h with (h | ⟨o, h⟩) | ⟨o, its, n, h1, h2, _⟩
  · exact .base (.lst h)
  · exact .base (.frz h)
  · exact .kList h1 h2
theorem tyx_t {K : PySem.W.Frag} {H : Hp} {a : Addr} {xs : List V} (h : SqT K H a xs) : TyX K H (.ref a) (.type "tuple") := by
  rcases h with (h | ⟨o, h⟩) | ⟨o, its, n, h1, h2, _⟩
  · exact .base (.tup h)
  · exact .fTuple h
  · exact .kTuple h1 h2
theorem pair_ix {R : V → V → Prop} : ∀ {xs ys : List V}, Paired R xs ys → ∀ (i : Nat) x y, xs[i]? = some x → ys[i]? = some y → R x y
  | _, _, .nil, i, x, y, h, _ => by simp at h
  | _, _, .cons r _, 0, x, y, h, g => by
    cases h
    cases g
    exact r
  | _, _, .cons _ t, i + 1, x, y, h, g => pair_ix t i x y h g
theorem Sm.lstP {K : PySem.W.Frag} {d : Nat} {H : Hp} {a b : Addr} {xs ys : List V} (h1 : SqL K H a xs) (h2 : SqL K H b ys) (h3 : ys.length ≤ 100000) (p : Paired (Sm K d H) xs ys) : Sm K (d + 1) H (.ref a) (.ref b) :=
  .lst h1 h2 p.length h3 (pair_ix p)
theorem Sm.tupP {K : PySem.W.Frag} {d : Nat} {H : Hp} {a b : Addr} {xs ys : List V} (h1 : SqT K H a xs) (h2 : SqT K H b ys) (h3 : ys.length ≤ 100000) (p : Paired (Sm K d H) xs ys) : Sm K (d + 1) H (.ref a) (.ref b) :=
  .tup h1 h2 p.length h3 (pair_ix p)
def sp__law_same (d : Nat) (K : PySem.W.Frag) : Sp := fun vs H Q _ => ∃ x y, vs = [x, y] ∧ Sm K d H x y ∧ ∀ H', Same H H' → Q (.bl true) H'
theorem fnok_never {CX : CXT} {k : Nat} {f : Addr} {fd : FuncData} {ps : List Str} {sp : Sp} (h : ∀ vs H Q E, ¬ sp vs H Q E) : FnOk P w K mg base CX k f fd ps sp where
  len := fun vs H Q E z => (h vs H Q E z).elim
  run := fun A outer s H args us vs Q E hr h0 hb hv z => (h vs H Q E z).elim
theorem T0.ok__law_same_succ (T : T0 K mg) {d : Nat} (G : FnOk P w K mg base CX0 d T.a__law_same T.fd__law_same ["actual", "due"] (sp__law_same d K)) : FnOk P w K mg base CX0 (d + 1) T.a__law_same T.fd__law_same ["actual", "due"] (sp__law_same (d + 1) K) := by
  refine T.F__law_same.ok sc__law_same (fun vs H Q E h => ?_) (fun cdv A outer s H vs Q E hr h => ?_)
  · obtain ⟨x, y, rfl, _⟩ := h
    rfl
  · obtain ⟨x, y, rfl, hS, q⟩ := h
    refine ⟨_, (pss_cons (ps_if (pt_cmpR op_isN (pv 1) pe_non (nomark _)) (pss_one (ps_ret (pe_cmpR op_isN (pv 0) pe_non (nomark _)))) pss_nil)
        (pss_cons (ps_if (pt_cmpR op_isB (pv 1) pe_bl (nomark _)) (pss_one (ps_ret (pe_cmpR op_isB (pv 0) pe_bl (nomark _)))) pss_nil)
        (pss_cons (ps_if (pt_cmpR op_isB (pv 1) pe_bl (nomark _)) (pss_one (ps_ret (pe_cmpR op_isB (pv 0) pe_bl (nomark _)))) pss_nil)
        (pss_cons (ps_if (pt_val (pe_callB (call_isinstK (K := K)) (by rfl) T.m_isinstance (by decide +kernel) (pa_cons (pv 1) (pa_cons (pe_bltn (v := .ty "int") (by rfl) T.m_int (by decide +kernel) rfl) pa_nil)))) (pss_one (ps_ret (pe_and (pe_callB (call_isinstK (K := K)) (by rfl) T.m_isinstance (by decide +kernel) (pa_cons (pv 0) (pa_cons (pe_bltn (v := .ty "int") (by rfl) T.m_int (by decide +kernel) rfl) pa_nil))) (pe_and (pe_not (pe_callB (call_isinstK (K := K)) (by rfl) T.m_isinstance (by decide +kernel) (pa_cons (pv 0) (pa_cons (pe_bltn (v := .ty "bool") (by rfl) T.m_bool (by decide +kernel) rfl) pa_nil)))) (pe_one (pe_cmpR op_eq (pv 0) (pv 1) (nomark _))))))) pss_nil)
        (pss_cons (ps_if (pt_val (pe_callB (call_isinstK (K := K)) (by rfl) T.m_isinstance (by decide +kernel) (pa_cons (pv 1) (pa_cons (pe_bltn (v := .ty "str") (by rfl) T.m_str (by decide +kernel) rfl) pa_nil)))) (pss_one (ps_ret (pe_and (pe_callB (call_isinstK (K := K)) (by rfl) T.m_isinstance (by decide +kernel) (pa_cons (pv 0) (pa_cons (pe_bltn (v := .ty "str") (by rfl) T.m_str (by decide +kernel) rfl) pa_nil))) (pe_one (pe_cmpR op_eq (pv 0) (pv 1) (nomark _)))))) pss_nil)
        (pss_cons (ps_if (pt_val (pe_callB (call_isinstK (K := K)) (by rfl) T.m_isinstance (by decide +kernel) (pa_cons (pv 1) (pa_cons (pe_bltn (v := .ty "dict") (by rfl) T.m_dict (by decide +kernel) rfl) pa_nil)))) (pss_one (ps_ret (pe_and (pe_callB (call_isinstK (K := K)) (by rfl) T.m_isinstance (by decide +kernel) (pa_cons (pv 0) (pa_cons (pe_bltn (v := .ty "dict") (by rfl) T.m_dict (by decide +kernel) rfl) pa_nil))) (pe_one (pe_call G hr (by rfl) T.g__law_same T.k__law_same T.b__law_same .nil pass0 (pa_cons (LiI.pe_listItems rfl (pv 0) (by rfl) T.m_list (by decide +kernel)) (pa_cons (LiI.pe_listItems rfl (pv 1) (by rfl) T.m_list (by decide +kernel)) pa_nil))))))) pss_nil)
        (C8.pss_cut (ps_if (PW.pt (pw_and (pt_val (pe_callB (call_isinstK (K := K)) (by rfl) T.m_isinstance (by decide +kernel) (pa_cons (pv 1) (pa_cons (pe_bltn (v := .ty "tuple") (by rfl) T.m_tuple (by decide +kernel) rfl) pa_nil)))) (pw_and1 (pt_not (pt_val (pe_callB (call_isinstK (K := K)) (by rfl) T.m_isinstance (by decide +kernel) (pa_cons (pv 0) (pa_cons (pe_bltn (v := .ty "tuple") (by rfl) T.m_tuple (by decide +kernel) rfl) pa_nil)))))))) (pss_one (ps_ret pe_bl)) pss_nil)
        (C8.pss_cut (ps_if (PW.pt (pw_and (pt_val (pe_callB (call_isinstK (K := K)) (by rfl) T.m_isinstance (by decide +kernel) (pa_cons (pv 1) (pa_cons (pe_bltn (v := .ty "list") (by rfl) T.m_list (by decide +kernel) rfl) pa_nil)))) (pw_and1 (pt_not (pt_val (pe_callB (call_isinstK (K := K)) (by rfl) T.m_isinstance (by decide +kernel) (pa_cons (pv 0) (pa_cons (pe_bltn (v := .ty "list") (by rfl) T.m_list (by decide +kernel) rfl) pa_nil)))))))) (pss_one (ps_ret pe_bl)) pss_nil)
        (pss_cons (ps_if (pt_cmpR op_ne (pe_callB (call_lenK (K := K)) (by rfl) T.m_len PySem.boot_len (pa_cons (pv 0) pa_nil)) (pe_callB (call_lenK (K := K)) (by rfl) T.m_len PySem.boot_len (pa_cons (pv 1) pa_nil)) (nomark _)) (pss_one (ps_ret pe_bl)) pss_nil)
        (pss_cons (ps_for PassesOwn.never rfl (pi_range1 (by rfl) T.m_range (pa_cons (pe_callB (call_lenK (K := K)) (by rfl) T.m_len PySem.boot_len (pa_cons (pv 1) pa_nil)) pa_nil)) (pg_name (i := 2) sc__law_same.nd rfl (Or.inl rfl)) (pss_one (ps_if (pt_not (pt_val (pe_call G hr (by rfl) T.g__law_same T.k__law_same T.b__law_same .nil pass0 (pa_cons (pe_ix ix_seq (pv 0) (pv 2) (fun _ _ => rfl)) (pa_cons (pe_ix ix_seq (pv 1) (pv 2) (fun _ _ => rfl)) pa_nil))))) (pss_one (ps_ret pe_bl)) pss_nil)))
        (pss_one (ps_ret pe_bl)))))))))))), ?_⟩
    refine ⟨_, rfl, rfl, _, rfl, ite2 (fun e => ?_) (fun e => ?_)⟩
    · have e := of_decide_eq_true e
      subst e
      cases hS with
      | atom _ => exact ⟨_, rfl, rfl, q _ (.refl _)⟩
    refine ⟨_, rfl, _, rfl, _, rfl, ite2 (fun e => ?_) (fun e => ?_)⟩
    · have e := of_decide_eq_true e
      subst e
      cases hS with
      | atom _ => exact ⟨_, rfl, _, rfl, q _ (.refl _)⟩
    refine ⟨_, rfl, _, rfl, _, rfl, ite2 (fun e => ?_) (fun e => ?_)⟩
    · have e := of_decide_eq_true e
      subst e
      cases hS with
      | atom _ => exact ⟨_, rfl, _, rfl, q _ (.refl _)⟩
    rename_i hn ht
    have hS' : (x = y ∧ atomV x = true) ∨ (∃ (T : String) (a b : Addr) (xs ys : List V), x = .ref a ∧ y = .ref b ∧ (T = "list" ∧ SqL K H a xs ∧ SqL K H b ys ∨ T = "tuple" ∧ SqT K H a xs ∧ SqT K H b ys) ∧ xs.length = ys.length ∧ ys.length ≤ 100000 ∧ ∀ (i : Nat) x y, xs[i]? = some x → ys[i]? = some y → Sm K d H x y) ∨
        (∃ (e : Nat) (a b : Addr) (xs ys : List (Key × V)), d = e + 3 ∧ x = .ref a ∧ y = .ref b ∧ H a = some (.dK xs) ∧ H b = some (.dK ys) ∧ xs.length = ys.length ∧ ys.length ≤ 100000 ∧ (∀ (i : Nat) x y, xs[i]? = some x → ys[i]? = some y → x.1 = y.1) ∧
          ∀ (i : Nat) x y, xs[i]? = some x → ys[i]? = some y → Sm K (e + 1) H x.2 y.2) := by
      cases hS with
      | atom h => exact .inl ⟨rfl, h⟩
      | lst h1 h2 h3 h4 h5 => exact .inr (.inl ⟨"list", _, _, _, _, rfl, rfl, .inl ⟨rfl, h1, h2⟩, h3, h4, h5⟩)
      | tup h1 h2 h3 h4 h5 => exact .inr (.inl ⟨"tuple", _, _, _, _, rfl, rfl, .inr ⟨rfl, h1, h2⟩, h3, h4, h5⟩)
      | dic h1 h2 h3 h4 h5 h6 => exact .inr (.inr ⟨_, _, _, _, _, rfl, rfl, rfl, h1, h2, h3, h4, h5, h6⟩)
    rcases hS' with ⟨rfl, hx⟩ | ⟨t, a, b, xs, ys, rfl, rfl, hk, hl, hz, hi⟩ | ⟨c, a, b, xs, ys, rfl, rfl, rfl, h1, h2, hl, hz, hk, hi⟩
    · cases x with
      | non => exact absurd (decide_eq_true rfl) hn
      | bl b => cases b with
        | true => exact absurd (decide_eq_true rfl) ht
        | false => exact absurd (decide_eq_true rfl) e
      | int i =>
        refine ⟨_, rfl, _, _, _, _, true, rfl, .ty "int", .base (.int _), kit_ty (by decide +kernel), _, rfl, iteT ?_⟩
        refine ⟨_, rfl, _, _, _, _, true, rfl, .ty "int", .base (.int _), kit_ty (by decide +kernel), _, rfl, iteT ?_⟩
        refine ⟨_, rfl, _, _, _, _, false, rfl, .ty "bool", .base (.int _), kit_ty (by decide +kernel), _, rfl, _, rfl, iteT ?_⟩
        refine ⟨_, rfl, _, rfl, rfl, ?_⟩
        rw [decide_eq_true rfl]
        exact q _ (.refl _)
      | str i =>
        refine ⟨_, rfl, _, _, _, _, false, rfl, .ty "int", .base (.str _), kit_ty (by decide +kernel), _, rfl, iteF ?_⟩
        refine ⟨_, rfl, _, _, _, _, true, rfl, .ty "str", .base (.str _), kit_ty (by decide +kernel), _, rfl, iteT ?_⟩
        refine ⟨_, rfl, _, _, _, _, true, rfl, .ty "str", .base (.str _), kit_ty (by decide +kernel), _, rfl, iteT ?_⟩
        refine ⟨_, rfl, _, rfl, rfl, ?_⟩
        rw [decide_eq_true rfl]
        exact q _ (.refl _)
      | _ => cases hx
    · have tb : TyX K H (.ref b) (.type t) := by
        rcases hk with ⟨rfl, _, h⟩ | ⟨rfl, _, h⟩
        · exact tyx_l h
        · exact tyx_t h
      have ta : TyX K H (.ref a) (.type t) := by
        rcases hk with ⟨rfl, h, _⟩ | ⟨rfl, h, _⟩
        · exact tyx_l h
        · exact tyx_t h
      have tt : t = "list" ∨ t = "tuple" := hk.imp (fun h => h.1) (fun h => h.1)
      refine ⟨_, rfl, _, _, _, _, false, rfl, .ty "int", tb, kit_ty (by rcases tt with rfl | rfl <;> decide +kernel), _, rfl, iteF ?_⟩
      refine ⟨_, rfl, _, _, _, _, false, rfl, .ty "str", tb, kit_ty (by rcases tt with rfl | rfl <;> decide +kernel), _, rfl, iteF ?_⟩
      refine ⟨_, rfl, _, _, _, _, false, rfl, .ty "dict", tb, kit_ty (by rcases tt with rfl | rfl <;> decide +kernel), _, rfl, iteF ?_⟩
      refine ⟨fun σ' H' => σ' = [some (.ref a), some (.ref b), none] ∧ H = H', ?_, ?_⟩
      · rcases tt with rfl | rfl
        · refine ⟨_, rfl, _, _, _, _, false, rfl, .ty "tuple", tb, kit_ty (by decide +kernel), _, rfl, iteF (iteF ⟨rfl, rfl⟩)⟩
        · refine ⟨_, rfl, _, _, _, _, true, rfl, .ty "tuple", tb, kit_ty (by decide +kernel), _, rfl, iteT ?_⟩
          refine ⟨_, rfl, _, _, _, _, true, rfl, .ty "tuple", ta, kit_ty (by decide +kernel), _, rfl, iteF ⟨rfl, rfl⟩⟩
      rintro _ _ ⟨rfl, rfl⟩
      refine ⟨fun σ' H' => σ' = [some (.ref a), some (.ref b), none] ∧ H = H', ?_, ?_⟩
      · rcases tt with rfl | rfl
        · refine ⟨_, rfl, _, _, _, _, true, rfl, .ty "list", tb, kit_ty (by decide +kernel), _, rfl, iteT ?_⟩
          refine ⟨_, rfl, _, _, _, _, true, rfl, .ty "list", ta, kit_ty (by decide +kernel), _, rfl, iteF ⟨rfl, rfl⟩⟩
        · refine ⟨_, rfl, _, _, _, _, false, rfl, .ty "list", tb, kit_ty (by decide +kernel), _, rfl, iteF (iteF ⟨rfl, rfl⟩)⟩
      rintro _ _ ⟨rfl, rfl⟩
      have la : SqL K H a xs ∨ SqT K H a xs := hk.imp (fun h => h.2.1) (fun h => h.2.1)
      have lb : SqL K H b ys ∨ SqT K H b ys := hk.imp (fun h => h.2.2) (fun h => h.2.2)
      refine ⟨_, rfl, a, xs, rfl, la, _, rfl, b, ys, rfl, lb, rfl, _, rfl, ?_⟩
      rw [hl, decide_eq_true rfl]
      refine iteF ?_
      -- for k in range(len(due))
      refine ⟨_, rfl, b, ys, rfl, lb, (ys.length : Int), rfl, by omega, by omega, ?_⟩
      rw [Int.toNat_natCast]
      refine for_range (lo := 0) (n := ys.length) (fun _ σ' H' => (∃ o, σ' = [some (.ref a), some (.ref b), o]) ∧ Same H H') ⟨⟨none, rfl⟩, .refl _⟩ (fun i σ' H' hlt p => ?_) (fun σ' H' p => ?_)
      · obtain ⟨⟨o, rfl⟩, sm⟩ := p
        obtain ⟨u, hu⟩ : ∃ u, xs[i]? = some u := ⟨_, List.getElem?_eq_getElem (by omega)⟩
        obtain ⟨v, hv⟩ : ∃ v, ys[i]? = some v := ⟨_, List.getElem?_eq_getElem (by omega)⟩
        rw [Int.zero_add]
        have sa : ∀ Q : VK, Q u H' → rIx K (.ref a) (.int (i : Int)) H' Q := fun Q h => by
          rcases la with l | l
          · exact .inl ⟨a, xs, i, u, rfl, rfl, sm.seq l, atI_nat hu, h⟩
          · exact .inr (.inl ⟨a, xs, i, u, rfl, rfl, same_t sm l, atI_nat hu, h⟩)
        have sb : ∀ Q : VK, Q v H' → rIx K (.ref b) (.int (i : Int)) H' Q := fun Q h => by
          rcases lb with l | l
          · exact .inl ⟨b, ys, i, v, rfl, rfl, sm.seq l, atI_nat hv, h⟩
          · exact .inr (.inl ⟨b, ys, i, v, rfl, rfl, same_t sm l, atI_nat hv, h⟩)
        refine ⟨_, rfl, _, rfl, sa _ ⟨_, rfl, _, rfl, sb _ ⟨u, v, rfl, (hi i u v hu hv).same sm, fun H2 s2 => ⟨true, rfl, iteF ?_⟩⟩⟩⟩
        exact ⟨⟨_, rfl⟩, sm.trans s2⟩
      · obtain ⟨⟨o, rfl⟩, sm⟩ := p
        exact q _ sm
    · have tb : TyX K H (.ref b) (.type "dict") := .base (.dK h2)
      have ta : TyX K H (.ref a) (.type "dict") := .base (.dK h1)
      refine ⟨_, rfl, _, _, _, _, false, rfl, .ty "int", tb, kit_ty (by decide +kernel), _, rfl, iteF ?_⟩
      refine ⟨_, rfl, _, _, _, _, false, rfl, .ty "str", tb, kit_ty (by decide +kernel), _, rfl, iteF ?_⟩
      refine ⟨_, rfl, _, _, _, _, true, rfl, .ty "dict", tb, kit_ty (by decide +kernel), _, rfl, iteT ?_⟩
      refine ⟨_, rfl, _, _, _, _, true, rfl, .ty "dict", ta, kit_ty (by decide +kernel), _, rfl, iteT ?_⟩
      refine ⟨_, rfl, a, xs, rfl, h1, fun H2 p1 t1 s2 n1 nt1 np1 e1 pr1 => ?_⟩
      refine ⟨_, rfl, b, ys, rfl, s2 _ _ h2, fun H3 p2 t2 s3 n2 nt2 np2 e2 pr2 => ?_⟩
      have l1 : t1.length = xs.length := pr1.length
      have l2 : t2.length = ys.length := pr2.length
      refine ⟨_, _, rfl, .lst (SqL.of (s3 _ _ e1)) (SqL.of e2) (by rw [List.length_map, List.length_map]; omega) (by rw [List.length_map]; omega) (fun i u v hu hv => ?_), fun H4 s4 => q _ (Same.trans (Same.trans s2 s3) s4)⟩
      rw [List.getElem?_map] at hu hv
      obtain ⟨u1, hu1, rfl⟩ := Option.map_eq_some_iff.mp hu
      obtain ⟨v1, hv1, rfl⟩ := Option.map_eq_some_iff.mp hv
      obtain ⟨x1, hx1, r1⟩ := paired_get pr1 hu1
      obtain ⟨x2, hx2, r2⟩ := paired_get pr2 hv1
      refine .tup (SqT.of (s3 _ _ r1)) (SqT.of r2) rfl (by show 2 ≤ 100000; decide) (fun j y z hy hz => ?_)
      have e12 := hk i x1 x2 hx1 hx2
      match j with
      | 0 =>
        cases hy
        cases hz
        rw [e12]
        exact .atom (by cases x2.1 <;> rfl)
      | 1 =>
        cases hy
        cases hz
        exact (hi i x1 x2 hx1 hx2).same (Same.trans s2 s3)
      | j + 2 => cases hy
theorem T0.ok__law_same (T : T0 K mg) : ∀ d : Nat, FnOk P w K mg base CX0 d T.a__law_same T.fd__law_same ["actual", "due"] (sp__law_same d K)
  | 0 => fnok_never fun vs H Q E h => by
    obtain ⟨x, y, _, h, _⟩ := h
    cases h
  | d + 1 => T.ok__law_same_succ (T.ok__law_same d)
def sp__law_size (K : PySem.W.Frag) : Sp := fun vs H Q _ => ∃ (t c : Addr) (n : Int), vs = [.ref t, .int n] ∧ Tape H t c ∧ n ≤ 100 ∧ ∀ x H', 1 ≤ x → n ≤ x → x ≤ 1000000000 → Kp t H H' → Tape H' t c → Q (.int x) H'
theorem T0.ok__law_size (T : T0 K mg) : FnOk P w K mg base CX0 2 T.a__law_size T.fd__law_size ["tape", "count"] (sp__law_size K) := by
  refine T.F__law_size.ok sc__law_size (fun vs H Q E h => ?_) (fun cdv A outer s H vs Q E hr h => ?_)
  · obtain ⟨t, c, n, rfl, _⟩ := h
    rfl
  · obtain ⟨t, c, n, rfl, hT, hn, q⟩ := h
    refine ⟨_, (pss_cons (ps_set (i := 2) sc__law_size.nd rfl (Or.inl rfl) (pe_call T.ok__law_pick hr (by rfl) T.g__law_pick T.k__law_pick T.b__law_pick .nil pass0 (pa_cons (pv 0) (pa_cons pe_int pa_nil))))
        (pss_cons (ps_set (i := 3) sc__law_size.nd rfl (Or.inl rfl) (pe_callB (call_max2 rfl) (by rfl) T.m_max (by decide +kernel) (pa_cons pe_int (pa_cons (pv 1) pa_nil))))
        (pss_cons (ps_if (pt_cmpR op_eq (pv 2) pe_int (nomark _)) (pss_one (ps_ret (pv 3))) pss_nil)
        (pss_cons (ps_if (pt_cmpR op_eq (pv 2) pe_int (nomark _)) (pss_one (ps_ret (pe_op op_add (pv 3) (pe_call T.ok__law_pick hr (by rfl) T.g__law_pick T.k__law_pick T.b__law_pick .nil pass0 (pa_cons (pv 0) (pa_cons pe_int pa_nil)))))) pss_nil)
        (pss_cons (ps_if (pt_cmpR op_eq (pv 2) pe_int (nomark _)) (pss_one (ps_ret (pe_op op_add (pv 3) (pe_call T.ok__law_pick hr (by rfl) T.g__law_pick T.k__law_pick T.b__law_pick .nil pass0 (pa_cons (pv 0) (pa_cons pe_int pa_nil)))))) pss_nil)
        (pss_one (ps_ret (pe_op op_add (pe_op op_add (pv 3) pe_int) (pe_call T.ok__law_pick hr (by rfl) T.g__law_pick T.k__law_pick T.b__law_pick .nil pass0 (pa_cons (pv 0) (pa_cons pe_int pa_nil))))))))))), ?_⟩
    refine ⟨_, rfl, ?_⟩
    walk_at "pick"
    rename_i x H1 h0 h1 kp hT1
    refine ⟨.int n, rfl, 1, n, rfl, ?_⟩
    have l1 : 1 ≤ (if n > 1 then n else (1 : Int)) ∧ n ≤ (if n > 1 then n else (1 : Int)) ∧ (if n > 1 then n else (1 : Int)) ≤ 100 := by split <;> omega
    revert l1
    generalize (if n > 1 then n else (1 : Int)) = l
    intro l1
    refine ⟨_, rfl, rfl, _, rfl, ite2 (fun _ => ?_) (fun _ => ?_)⟩
    · exact ⟨_, rfl, q _ _ (by omega) (by omega) (by omega) (by walk_at "kp") hT1⟩
    refine ⟨_, rfl, rfl, _, rfl, ite2 (fun _ => ?_) (fun _ => ?_)⟩
    · refine ⟨_, rfl, _, rfl, ?_⟩
      walk_at "pick"
      exact ⟨_, _, rfl, rfl, q _ _ (by omega) (by omega) (by omega) (by walk_at "kp") (by assumption)⟩
    refine ⟨_, rfl, rfl, _, rfl, ite2 (fun _ => ?_) (fun _ => ?_)⟩
    · refine ⟨_, rfl, _, rfl, ?_⟩
      walk_at "pick"
      exact ⟨_, _, rfl, rfl, q _ _ (by omega) (by omega) (by omega) (by walk_at "kp") (by assumption)⟩
    · refine ⟨_, rfl, _, _, rfl, rfl, _, rfl, ?_⟩
      walk_at "pick"
      exact ⟨_, _, rfl, rfl, q _ _ (by omega) (by omega) (by omega) (by walk_at "kp") (by assumption)⟩
/-! ### far -/
def farL (n a b : Int) : Int := (b - a - 1).fmod n + 1
def sp_far (K : PySem.W.Frag) : Sp := fun vs H Q _ => ∃ n a b : Int, vs = [.int n, .int a, .int b] ∧ 0 < n ∧ Q (.int (farL n a b)) H
theorem T0.ok_far (T : T0 K mg) : FnOk P w K mg base CX0 1 T.a_far T.fd_far ["size", "start", "end"] (sp_far K) := by
  refine T.F_far.ok sc_far (fun vs H Q E h => ?_) (fun cdv A outer s H vs Q E hr h => ?_)
  · obtain ⟨n, a, b, rfl, _⟩ := h
    rfl
  · obtain ⟨n, a, b, rfl, hn, q⟩ := h
    refine ⟨_, (pss_one (ps_ret (pe_op op_add (pe_op op_modN (pe_op op_sub (pe_op op_sub (pv 2) (pv 1)) pe_int) (pv 0)) pe_int))), ?_⟩
    exact ⟨_, rfl, _, rfl, _, _, rfl, rfl, _, _, rfl, rfl, _, rfl, _, _, rfl, rfl, by omega, _, _, rfl, rfl, q⟩
theorem far_range (a b : Int) {n : Int} (h : 0 < n) : 1 ≤ farL n a b ∧ farL n a b ≤ n := by
  have := fmod_range (b - a - 1) h
  unfold farL
  omega
theorem far_emod (a b : Int) {n : Int} (h : 0 < n) : farL n a b = (b - a - 1) % n + 1 := by
  unfold farL
  rw [Int.fmod_eq_emod_of_nonneg _ (by omega)]
theorem far_eq (a b : Int) {n : Int} (h : 0 < n) : farL n a b = if (b - a).fmod n = 0 then n else (b - a).fmod n := by
  rw [far_emod a b h, Int.fmod_eq_emod_of_nonneg _ (by omega)]
  have e := Int.emod_add_mul_ediv (b - a) n
  have h0 := Int.emod_nonneg (b - a) (by omega : n ≠ 0)
  have h1 := Int.emod_lt_of_pos (b - a) h
  by_cases z : (b - a) % n = 0
  · rw [if_pos z]
    rw [z] at e
    rw [show b - a - 1 = (n - 1) + n * ((b - a) / n - 1) by rw [Int.mul_sub]; omega, Int.add_mul_emod_self_left, Int.emod_eq_of_lt (by omega) (by omega)]
    omega
  · rw [if_neg z]
    rw [show b - a - 1 = ((b - a) % n - 1) + n * ((b - a) / n) by omega, Int.add_mul_emod_self_left, Int.emod_eq_of_lt (by omega) (by omega)]
    omega
def sp_between (K : PySem.W.Frag) : Sp := fun vs H Q _ => ∃ n a p b : Int, vs = [.int n, .int a, .int p, .int b] ∧ 0 < n ∧ Q (.bl (decide (farL n a p < farL n a b))) H
theorem T0.ok_between (T : T0 K mg) : FnOk P w K mg base CX0 2 T.a_between T.fd_between ["size", "start", "place", "end"] (sp_between K) := by
  refine T.F_between.ok sc_between (fun vs H Q E h => ?_) (fun cdv A outer s H vs Q E hr h => ?_)
  · obtain ⟨n, a, p, b, rfl, _⟩ := h
    rfl
  · obtain ⟨n, a, p, b, rfl, hn, q⟩ := h
    refine ⟨_, (pss_one (ps_ret (pe_cmpR op_lt (pe_call T.ok_far hr (by rfl) T.g_far T.k_far T.b_far .nil pass0 (pa_cons (pv 0) (pa_cons (pv 1) (pa_cons (pv 2) pa_nil)))) (pe_call T.ok_far hr (by rfl) T.g_far T.k_far T.b_far .nil pass0 (pa_cons (pv 0) (pa_cons (pv 1) (pa_cons (pv 3) pa_nil)))) (nomark _)))), ?_⟩
    exact ⟨_, rfl, _, rfl, _, rfl, _, _, _, rfl, hn, _, rfl, _, rfl, _, rfl, _, _, _, rfl, hn, _, _, rfl, rfl, q⟩
--CUT
/-! ### a house -/
def hf (n p x : Int) (b : V) : List (Str × V) := [("size", .int n), ("place", .int p), ("next_house", .int x), ("before", b)]
theorem hf_size {n p x : Int} {b : V} : (hf n p x b).lookup ("size" : Str) = some (.int n) := by unfold hf; walk_at "lk"
theorem hf_place {n p x : Int} {b : V} : (hf n p x b).lookup ("place" : Str) = some (.int p) := by unfold hf; walk_at "lk"
theorem hf_next {n p x : Int} {b : V} : (hf n p x b).lookup ("next_house" : Str) = some (.int x) := by unfold hf; walk_at "lk"
theorem hf_before {n p x : Int} {b : V} : (hf n p x b).lookup ("before" : Str) = some b := by unfold hf; walk_at "lk"
def HouseAt (C : Addr) (H : Hp) (a : Addr) (n p x : Int) (b : V) : Prop := ∃ dx, H a = some (.ins C dx (hf n p x b))
def sp_House__init (C : Addr) : Sp := fun vs H Q _ => ∃ (h dx : Addr) (n p x : Int) (b : V), vs = [.ref h, .int n, .int p, .int x, b] ∧ H h = some (.ins C dx []) ∧ ∀ H', HouseAt C H' h n p x b → Kp h H H' → Q .non H'
theorem T0.ok_House__init (T : T0 K mg) : FnOk P w K mg base CX0 1 T.a_House__init T.fd_House__init ["self", "size", "place", "next_house", "before"] (sp_House__init T.C_House) := by
  refine T.F_House__init.ok sc_House__init (fun vs H Q E h => ?_) (fun cdv A outer s H vs Q E hr h => ?_)
  · obtain ⟨h, dx, n, p, x, b, rfl, _⟩ := h
    rfl
  · obtain ⟨h, dx, n, p, x, b, rfl, hh, q⟩ := h
    refine ⟨_, (pss_cons (ps_fld (pv 0) (pv 1) rfl)
        (pss_cons (ps_fld (pv 0) (pv 2) rfl)
        (pss_cons (ps_fld (pv 0) (pv 3) rfl)
        (pss_one (ps_fld (pv 0) (pv 4) rfl))))), ?_⟩
    refine ⟨_, rfl, _, rfl, h, _, dx, [], rfl, hh, T.cl_House, T.na_House_size, (by show 0 < 1000; decide), ?_⟩
    refine ⟨_, rfl, _, rfl, h, _, dx, _, rfl, upd_same, T.cl_House, T.na_House_place, (by show 1 < 1000; decide), ?_⟩
    refine ⟨_, rfl, _, rfl, h, _, dx, _, rfl, upd_same, T.cl_House, T.na_House_next_house, (by show 2 < 1000; decide), ?_⟩
    refine ⟨_, rfl, _, rfl, h, _, dx, _, rfl, upd_same, T.cl_House, T.na_House_before, (by show 3 < 1000; decide), ?_⟩
    refine q _ ⟨dx, ?_⟩ (fun b' o ne e => ?_)
    · rw [upd_same]
      have e : putF "before" b (putF "next_house" (.int x) (putF "place" (.int p) (putF "size" (.int n) []))) = hf n p x b := by
        walk_at "pf"
        rfl
      exact congrArg (fun z => some (HO.ins _ _ z)) e
    · rw [upd_ne ne, upd_ne ne, upd_ne ne, upd_ne ne]
      exact e
def sp_letter (C : Addr) (z : Str) : Sp := fun vs H Q _ => ∃ (h : Addr) (n p x : Int) (b : V), vs = [.ref h] ∧ HouseAt C H h n p x b ∧ ∀ l, H l = none → Q (.ref l) (upd H l (.tup [.str z, .int x, .int p]))
theorem T0.ok_House__tell_letter (T : T0 K mg) : FnOk P w K mg base CX0 1 T.a_House__tell_letter T.fd_House__tell_letter ["self"] (sp_letter T.C_House "tell") := by
  refine T.F_House__tell_letter.ok sc_House__tell_letter (fun vs H Q E h => ?_) (fun cdv A outer s H vs Q E hr h => ?_)
  · obtain ⟨h, n, p, x, b, rfl, _⟩ := h
    rfl
  · obtain ⟨h, n, p, x, b, rfl, ⟨dx, hh⟩, q⟩ := h
    refine ⟨_, (pss_one (ps_ret (pe_tup (pa_cons pe_str (pa_cons (show PE _ _ (tFld K _ _) from pe_fld (pv 0) rfl) (pa_cons (show PE _ _ (tFld K _ _) from pe_fld (pv 0) rfl) pa_nil)))))), ?_⟩
    refine ⟨_, rfl, h, _, dx, _, _, rfl, hh, T.cl_House, T.na_House_next_house, hf_next, ?_⟩
    refine ⟨_, rfl, h, _, dx, _, _, rfl, hh, T.cl_House, T.na_House_place, hf_place, lenL (by show 3 ≤ 100000; decide), q⟩
theorem T0.ok_House__ask_letter (T : T0 K mg) : FnOk P w K mg base CX0 1 T.a_House__ask_letter T.fd_House__ask_letter ["self"] (sp_letter T.C_House "ask") := by
  refine T.F_House__ask_letter.ok sc_House__ask_letter (fun vs H Q E h => ?_) (fun cdv A outer s H vs Q E hr h => ?_)
  · obtain ⟨h, n, p, x, b, rfl, _⟩ := h
    rfl
  · obtain ⟨h, n, p, x, b, rfl, ⟨dx, hh⟩, q⟩ := h
    refine ⟨_, (pss_one (ps_ret (pe_tup (pa_cons pe_str (pa_cons (show PE _ _ (tFld K _ _) from pe_fld (pv 0) rfl) (pa_cons (show PE _ _ (tFld K _ _) from pe_fld (pv 0) rfl) pa_nil)))))), ?_⟩
    refine ⟨_, rfl, h, _, dx, _, _, rfl, hh, T.cl_House, T.na_House_next_house, hf_next, ?_⟩
    refine ⟨_, rfl, h, _, dx, _, _, rfl, hh, T.cl_House, T.na_House_place, hf_place, lenL (by show 3 ≤ 100000; decide), q⟩
/-- what a house without a before, or with one, answers -/
def okB (b : V) : Prop := b = .non ∨ ∃ z : Int, b = .int z
def sp_House__answer_to (C : Addr) : Sp := fun vs H Q _ => ∃ (h : Addr) (n p x u : Int) (b : V), vs = [.ref h, .int u] ∧ HouseAt C H h n p x b ∧ (b = .non → Q .non H) ∧ (∀ z : Int, b = .int z → ∀ l, H l = none → Q (.ref l) (upd H l (.tup [.str "answer", .int u, .int p, .int z]))) ∧ okB b
theorem T0.ok_House__answer_to (T : T0 K mg) : FnOk P w K mg base CX0 1 T.a_House__answer_to T.fd_House__answer_to ["self", "sender"] (sp_House__answer_to T.C_House) := by
  refine T.F_House__answer_to.ok sc_House__answer_to (fun vs H Q E h => ?_) (fun cdv A outer s H vs Q E hr h => ?_)
  · obtain ⟨h, n, p, x, u, b, rfl, _⟩ := h
    rfl
  · obtain ⟨h, n, p, x, u, b, rfl, ⟨dx, hh⟩, q0, q1, ob⟩ := h
    refine ⟨_, (pss_cons (ps_if (pt_cmpR op_isN (show PE _ _ (tFld K _ _) from pe_fld (pv 0) rfl) pe_non (nomark _)) (pss_one (ps_ret pe_non)) pss_nil)
        (pss_one (ps_ret (pe_tup (pa_cons pe_str (pa_cons (pv 1) (pa_cons (show PE _ _ (tFld K _ _) from pe_fld (pv 0) rfl) (pa_cons (show PE _ _ (tFld K _ _) from pe_fld (pv 0) rfl) pa_nil)))))))), ?_⟩
    refine ⟨_, rfl, h, _, dx, _, _, rfl, hh, T.cl_House, T.na_House_before, hf_before, rfl, _, rfl, ite2 (fun e => ?_) (fun e => ?_)⟩
    · exact q0 (of_decide_eq_true e)
    · rcases ob with rfl | ⟨z, rfl⟩
      · exact absurd (decide_eq_true rfl) e
      · refine ⟨_, rfl, _, rfl, h, _, dx, _, _, rfl, hh, T.cl_House, T.na_House_place, hf_place, ?_⟩
        exact ⟨_, rfl, h, _, dx, _, _, rfl, hh, T.cl_House, T.na_House_before, hf_before, lenL (by show 4 ≤ 100000; decide), q1 z rfl⟩
def hTell (n p u : Int) (b : V) : V := match b with
  | .int z => if farL n z u < farL n z p then .int u else .int z
  | _ => .int u
def hAns (n p x u m : Int) : Int := if x = u ∧ farL n p m < farL n p u then m else x
theorem hf_pb {n p x : Int} {b c : V} : putF "before" c (hf n p x b) = hf n p x c := by
  unfold hf
  walk_at "pf"
theorem hf_pn {n p x y : Int} {b : V} : putF "next_house" (.int y) (hf n p x b) = hf n p y b := by
  unfold hf
  walk_at "pf"
def sp_House__hear_tell (C : Addr) : Sp := fun vs H Q _ => ∃ (h : Addr) (n p x u : Int) (b : V), vs = [.ref h, .int u] ∧ HouseAt C H h n p x b ∧ okB b ∧ 0 < n ∧ ∀ H', HouseAt C H' h n p x (hTell n p u b) → Kp h H H' → Q .non H'
theorem T0.ok_House__hear_tell (T : T0 K mg) : FnOk P w K mg base CX0 3 T.a_House__hear_tell T.fd_House__hear_tell ["self", "sender"] (sp_House__hear_tell T.C_House) := by
  refine T.F_House__hear_tell.ok sc_House__hear_tell (fun vs H Q E h => ?_) (fun cdv A outer s H vs Q E hr h => ?_)
  · obtain ⟨h, n, p, x, u, b, rfl, _⟩ := h
    rfl
  · obtain ⟨h, n, p, x, u, b, rfl, ⟨dx, hh⟩, ob, hn, q⟩ := h
    refine ⟨_, (pss_one (ps_if (PW.pt (pw_or (pt_cmpR op_isN (show PE _ _ (tFld K _ _) from pe_fld (pv 0) rfl) pe_non (nomark _)) (pw_or1 (pt_val (pe_call T.ok_between hr (by rfl) T.g_between T.k_between T.b_between .nil pass0 (pa_cons (show PE _ _ (tFld K _ _) from pe_fld (pv 0) rfl) (pa_cons (show PE _ _ (tFld K _ _) from pe_fld (pv 0) rfl) (pa_cons (pv 1) (pa_cons (show PE _ _ (tFld K _ _) from pe_fld (pv 0) rfl) pa_nil))))))))) (pss_one (ps_fld (pv 0) (pv 1) rfl)) pss_nil)), ?_⟩
    have set : ∀ Q' : L2.St → Hp → Prop, (∀ H', HouseAt T.C_House H' h n p x (.int u) → Kp h H H' → Q' [some (.ref h), some (.int u)] H') → sFld K (tVar 0) (tVar 1) "before" { nx := Q', rt := Q } [some (.ref h), some (.int u)] H := fun Q' k =>
      ⟨_, rfl, _, rfl, h, _, dx, _, rfl, hh, T.cl_House, T.na_House_before, (by show 4 < 1000; decide), k _ ⟨dx, by rw [upd_same, hf_pb]⟩ .put⟩
    refine ⟨_, rfl, h, _, dx, _, _, rfl, hh, T.cl_House, T.na_House_before, hf_before, rfl, _, rfl, ite2 (fun e => ?_) (fun e => ?_)⟩
    · have e := of_decide_eq_true e
      subst e
      exact iteT (set _ fun H' h1 h2 => q H' h1 h2)
    · rcases ob with rfl | ⟨z, rfl⟩
      · exact absurd (decide_eq_true rfl) e
      · refine ⟨_, rfl, h, _, dx, _, _, rfl, hh, T.cl_House, T.na_House_size, hf_size, _, rfl, h, _, dx, _, _, rfl, hh, T.cl_House, T.na_House_before, hf_before, ?_⟩
        refine ⟨_, rfl, _, rfl, h, _, dx, _, _, rfl, hh, T.cl_House, T.na_House_place, hf_place, n, z, u, p, rfl, hn, _, rfl, ite2 (fun f => ?_) (fun f => ?_)⟩
        · refine set _ fun H' h1 h2 => q H' ?_ h2
          have f := of_decide_eq_true f
          rw [show hTell n p u (.int z) = .int u from if_pos f]
          exact h1
        · have f : ¬ (farL n z u < farL n z p) := fun g => f (decide_eq_true g)
          refine q H ?_ (.refl _ _)
          rw [show hTell n p u (.int z) = .int z from if_neg f]
          exact ⟨dx, hh⟩
def sp_House__hear_answer (C : Addr) : Sp := fun vs H Q _ => ∃ (h : Addr) (n p x u m : Int) (b : V), vs = [.ref h, .int u, .int m] ∧ HouseAt C H h n p x b ∧ 0 < n ∧ ∀ H', HouseAt C H' h n p (hAns n p x u m) b → Kp h H H' → Q .non H'
theorem T0.ok_House__hear_answer (T : T0 K mg) : FnOk P w K mg base CX0 3 T.a_House__hear_answer T.fd_House__hear_answer ["self", "sender", "named"] (sp_House__hear_answer T.C_House) := by
  refine T.F_House__hear_answer.ok sc_House__hear_answer (fun vs H Q E h => ?_) (fun cdv A outer s H vs Q E hr h => ?_)
  · obtain ⟨h, n, p, x, u, m, b, rfl, _⟩ := h
    rfl
  · obtain ⟨h, n, p, x, u, m, b, rfl, ⟨dx, hh⟩, hn, q⟩ := h
    refine ⟨_, (pss_one (ps_if (PW.pt (pw_and (pt_cmpR op_eq (show PE _ _ (tFld K _ _) from pe_fld (pv 0) rfl) (pv 1) (nomark _)) (pw_and1 (pt_val (pe_call T.ok_between hr (by rfl) T.g_between T.k_between T.b_between .nil pass0 (pa_cons (show PE _ _ (tFld K _ _) from pe_fld (pv 0) rfl) (pa_cons (show PE _ _ (tFld K _ _) from pe_fld (pv 0) rfl) (pa_cons (pv 2) (pa_cons (pv 1) pa_nil))))))))) (pss_one (ps_fld (pv 0) (pv 2) rfl)) pss_nil)), ?_⟩
    refine ⟨_, rfl, h, _, dx, _, _, rfl, hh, T.cl_House, T.na_House_next_house, hf_next, _, rfl, rfl, _, rfl, ite2 (fun e => ?_) (fun e => ?_)⟩
    · have e := V.int.inj (of_decide_eq_true e)
      refine ⟨_, rfl, h, _, dx, _, _, rfl, hh, T.cl_House, T.na_House_size, hf_size, _, rfl, h, _, dx, _, _, rfl, hh, T.cl_House, T.na_House_place, hf_place, ?_⟩
      refine ⟨_, rfl, _, rfl, n, p, m, u, rfl, hn, _, rfl, ite2 (fun f => ?_) (fun f => ?_)⟩
      · have f := of_decide_eq_true f
        have g : hAns n p x u m = m := if_pos ⟨e, f⟩
        rw [g] at q
        exact ⟨_, rfl, _, rfl, h, _, dx, _, rfl, hh, T.cl_House, T.na_House_next_house, (by show 4 < 1000; decide), q _ ⟨dx, by rw [upd_same, hf_pn]⟩ .put⟩
      · have f : ¬ (farL n p m < farL n p u) := fun g => f (decide_eq_true g)
        have g : hAns n p x u m = x := if_neg (fun z => f z.2)
        rw [g] at q
        exact q H ⟨dx, hh⟩ (.refl _ _)
    · have e : ¬ x = u := fun g => e (decide_eq_true (congrArg V.int g))
      have g : hAns n p x u m = x := if_neg (fun z => e z.1)
      rw [g] at q
      exact q H ⟨dx, hh⟩ (.refl _ _)
/-- a letter as a row of values -/
inductive Let where
  | tell (r u : Int) | ask (r u : Int) | answer (r u m : Int)
def Let.vals : Let → List V
  | .tell r u => [.str "tell", .int r, .int u]
  | .ask r u => [.str "ask", .int r, .int u]
  | .answer r u m => [.str "answer", .int r, .int u, .int m]
/-- the before, the next behind the letter, and the answer -/
def hB (n p : Int) (b : V) : Let → V
  | .tell _ u => hTell n p u b
  | _ => b
def hN (n p x : Int) : Let → Int
  | .answer _ u m => hAns n p x u m
  | _ => x
def hA (p : Int) (b : V) : Let → Option (List V)
  | .ask _ u => match b with
    | .int z => some [.str "answer", .int u, .int p, .int z]
    | _ => none
  | _ => none
def sp_House__hear (K : PySem.W.Frag) (C : Addr) : Sp := fun vs H Q _ => ∃ (h l : Addr) (n p x : Int) (b : V) (L : Let), vs = [.ref h, .ref l] ∧ HouseAt C H h n p x b ∧ okB b ∧ 0 < n ∧ SqT K H l L.vals ∧
  ∀ v H', HouseAt C H' h n p (hN n p x L) (hB n p b L) → Kp h H H' → (match hA p b L with | none => v = .non | some ys => ∃ a, v = .ref a ∧ H' a = some (.tup ys)) → Q v H'
theorem T0.ok_House__hear (T : T0 K mg) : FnOk P w K mg base CX0 4 T.a_House__hear T.fd_House__hear ["self", "letter"] (sp_House__hear K T.C_House) := by
  refine T.F_House__hear.ok sc_House__hear (fun vs H Q E h => ?_) (fun cdv A outer s H vs Q E hr h => ?_)
  · obtain ⟨h, l, n, p, x, b, L, rfl, _⟩ := h
    rfl
  · obtain ⟨h, l, n, p, x, b, L, rfl, hh, ob, hn, hl, q⟩ := h
    refine ⟨_, (pss_cons (ps_set (i := 2) sc_House__hear.nd rfl (Or.inl rfl) (pe_ix (ix_tupK (K := K)) (pv 1) pe_int (fun _ _ => rfl)))
        (pss_cons (ps_set (i := 3) sc_House__hear.nd rfl (Or.inl rfl) (pe_ix (ix_tupK (K := K)) (pv 1) pe_int (fun _ _ => rfl)))
        (pss_cons (ps_if (pt_cmpR op_eq (pv 2) pe_str (nomark _)) (pss_one (ps_ret (pe_meth (pv 0) T.cl_House T.me_House__answer_to T.ok_House__answer_to (hr.mono (by decide)) T.b_House__answer_to .nil pass0 (pa_cons (pv 3) pa_nil)))) pss_nil)
        (pss_cons (ps_if (pt_cmpR op_eq (pv 2) pe_str (nomark _)) (pss_one (ps_expr (pe_meth (pv 0) T.cl_House T.me_House__hear_tell T.ok_House__hear_tell hr T.b_House__hear_tell .nil pass0 (pa_cons (pv 3) pa_nil)))) (pss_one (ps_expr (pe_meth (pv 0) T.cl_House T.me_House__hear_answer T.ok_House__hear_answer hr T.b_House__hear_answer .nil pass0 (pa_cons (pv 3) (pa_cons (pe_ix (ix_tupK (K := K)) (pv 1) pe_int (fun _ _ => rfl)) pa_nil))))))
        (pss_one (ps_ret pe_non)))))), ?_⟩
    cases L with
    | tell r u =>
      refine ⟨_, rfl, l, _, 0, .str "tell", rfl, rfl, hl, rfl, _, rfl, l, _, 2, .int u, rfl, rfl, hl, rfl, ?_⟩
      refine ⟨_, rfl, rfl, _, rfl, ?_⟩
      rw [show decide (V.str "tell" = V.str "ask") = false by decide +kernel]
      refine iteF ⟨_, rfl, rfl, _, rfl, ?_⟩
      rw [show decide (V.str "tell" = V.str "tell") = true by decide +kernel]
      obtain ⟨dx, hh'⟩ := hh
      refine iteT ⟨_, rfl, h, dx, _, rfl, hh', ?_, _, rfl, h, n, p, x, u, b, rfl, ⟨dx, hh'⟩, ob, hn, fun H' h1 h2 => ?_⟩
      · unfold hf; walk_at "lk"
      · exact q .non H' h1 h2 rfl
    | ask r u =>
      refine ⟨_, rfl, l, _, 0, .str "ask", rfl, rfl, hl, rfl, _, rfl, l, _, 2, .int u, rfl, rfl, hl, rfl, ?_⟩
      refine ⟨_, rfl, rfl, _, rfl, ?_⟩
      rw [show decide (V.str "ask" = V.str "ask") = true by decide +kernel]
      obtain ⟨dx, hh'⟩ := hh
      refine iteT ⟨_, rfl, h, dx, _, rfl, hh', ?_, _, rfl, h, n, p, x, u, b, rfl, ⟨dx, hh'⟩, fun e => ?_, fun z e l' nl => ?_, ob⟩
      · unfold hf; walk_at "lk"
      · subst e
        exact q .non H ⟨dx, hh'⟩ (.refl _ _) rfl
      · subst e
        refine q (.ref l') _ ⟨dx, ?_⟩ (Kp.of_same (same_upd nl)) ⟨l', rfl, upd_same⟩
        rw [upd_ne (ne_of_none hh' nl)]
        exact hh'
    | answer r u m =>
      refine ⟨_, rfl, l, _, 0, .str "answer", rfl, rfl, hl, rfl, _, rfl, l, _, 2, .int u, rfl, rfl, hl, rfl, ?_⟩
      refine ⟨_, rfl, rfl, _, rfl, ?_⟩
      rw [show decide (V.str "answer" = V.str "ask") = false by decide +kernel]
      refine iteF ⟨_, rfl, rfl, _, rfl, ?_⟩
      rw [show decide (V.str "answer" = V.str "tell") = false by decide +kernel]
      obtain ⟨dx, hh'⟩ := hh
      refine iteF ⟨_, rfl, h, dx, _, rfl, hh', ?_, _, rfl, _, rfl, l, _, 3, .int m, rfl, rfl, hl, rfl, h, n, p, x, u, m, b, rfl, ⟨dx, hh'⟩, hn, fun H' h1 h2 => ?_⟩
      · unfold hf; walk_at "lk"
      · exact q .non H' h1 h2 rfl
--CUT
def sp__law_places (K : PySem.W.Frag) : Sp := fun vs H Q _ => ∃ (t c : Addr) (n m : Int), vs = [.ref t, .int n, .int m] ∧ Tape H t c ∧ 0 ≤ m ∧ m ≤ n ∧ m ≤ 60 ∧ n ≤ 1000000000 ∧ ∀ p (ms : List Int) H', H p = none → H' p = some (.lst (ms.map V.int)) → (ms.length : Int) = m → Kp t H H' → Tape H' t c → Q (.ref p) H'
theorem T0.ok__law_places (T : T0 K mg) : FnOk P w K mg base CX0 2 T.a__law_places T.fd__law_places ["tape", "size", "count"] (sp__law_places K) := by
  refine T.F__law_places.ok sc__law_places (fun vs H Q E h => ?_) (fun cdv A outer s H vs Q E hr h => ?_)
  · obtain ⟨t, c, n, m, rfl, _⟩ := h
    rfl
  · obtain ⟨t, c, n, m, rfl, hT, hm0, hmn, hm6, hn9, q⟩ := h
    refine ⟨_, (pss_cons (ps_set (i := 3) sc__law_places.nd rfl (Or.inl rfl) (pe_lst pa_nil))
        (pss_cons (ps_for PassesOwn.never rfl (pi_range1 (by rfl) T.m_range (pa_cons (pv 2) pa_nil)) (pg_name (i := 4) sc__law_places.nd rfl (Or.inl rfl)) (pss_cons (ps_set (i := 5) sc__law_places.nd rfl (Or.inl rfl) (pe_call T.ok__law_pick hr (by rfl) T.g__law_pick T.k__law_pick T.b__law_pick .nil pass0 (pa_cons (pv 0) (pa_cons (pe_op op_sub (pv 1) (pv 4)) pa_nil))))
        (pss_cons (ps_for PassesOwn.never rfl (pi_list (pe_callB (cr_sortedK (K := K)) (by rfl) T.m_sorted (by decide +kernel) (pa_cons (pv 3) pa_nil))) (pg_name (i := 6) sc__law_places.nd rfl (Or.inl rfl)) (pss_one (ps_if (pt_cmpR op_le (pv 6) (pv 5) (nomark _)) (pss_one (ps_set (i := 5) sc__law_places.nd rfl (Or.inl rfl) (pe_op op_add (pv 5) pe_int))) pss_nil)))
        (pss_one (ps_expr (pe_bm PySem.F.plainAttrs_list PySem.F.slot_list_append PySem.F.type_list_append mt_append (pv 3) (pa_cons (pv 5) pa_nil)))))))
        (pss_one (ps_ret (pv 3))))), ?_⟩
    refine ⟨Nat.zero_le _, fun p np => ?_⟩
    have off := hT.off np
    refine ⟨_, rfl, m, rfl, by omega, by omega, ?_⟩
    refine for_range (lo := 0) (n := m.toNat) (fun i σ' H' => ∃ (o1 o2 o3 : Option V) (ms : List Int), σ' = [some (.ref t), some (.int n), some (.int m), some (.ref p), o1, o2, o3] ∧ ms.length = i ∧ H' p = some (.lst (ms.map V.int)) ∧ Kp t H H' ∧ Tape H' t c)
      ⟨none, none, none, [], rfl, rfl, upd_same, Kp.of_same (same_upd np), hT.put off⟩ (fun i σ' H' hi pv => ?_) (fun σ' H' pv => ?_)
    · obtain ⟨o1, o2, o3, ms, rfl, hl, hp, kp, hT1⟩ := pv
      rw [Int.zero_add]
      refine ⟨_, rfl, _, rfl, _, rfl, _, _, rfl, rfl, ?_⟩
      refine ⟨t, c, n - i, rfl, hT1, by omega, by omega, fun x H2 x0 x1 kp2 hT2 => ?_⟩
      have hp2 := kp2 _ _ off.1 hp
      refine ⟨_, rfl, p, ms, rfl, SqL.of hp2, by omega, fun ss l _ _ nl => ?_⟩
      have hp3 : upd H2 l (.lst (ss.map V.int)) p = some (.lst (ms.map V.int)) := by rw [upd_ne (ne_of_none hp2 nl)]; exact hp2
      have kp3 : Kp t H (upd H2 l (.lst (ss.map V.int))) := (kp.trans kp2).new nl
      have hT3 : Tape (upd H2 l (.lst (ss.map V.int))) t c := hT2.put (hT2.off nl)
      have hl3 : upd H2 l (.lst (ss.map V.int)) l = some (.lst (ss.map V.int)) := upd_same
      generalize upd H2 l (.lst (ss.map V.int)) = H3 at hp3 kp3 hT3 hl3
      refine ⟨l, rfl, ⟨_, SqL.of hl3⟩, for_list (K := K) (a := l) (xs := ss.map V.int) (fun j σ2 H4 => ∃ (o3 : Option V) (y : Int), σ2 = [some (.ref t), some (.int n), some (.int m), some (.ref p), some (.int i), some (.int y), o3] ∧ H3 = H4) ⟨_, x, rfl, rfl⟩ (fun j σ2 H4 _ pv => by obtain ⟨_, _, _, rfl⟩ := pv; exact SqL.of hl3) (fun j v σ2 H4 hv pv => ?_) (fun σ2 H4 pv => ?_)⟩
      · obtain ⟨o3, y, rfl, rfl⟩ := pv
        rw [List.getElem?_map] at hv
        obtain ⟨z, _, rfl⟩ := Option.map_eq_some_iff.mp hv
        refine ⟨_, rfl, _, rfl, _, _, rfl, rfl, _, rfl, ite2 (fun _ => ?_) (fun _ => ?_)⟩
        · exact ⟨_, rfl, _, _, rfl, rfl, _, _, rfl, rfl⟩
        · exact ⟨_, _, rfl, rfl⟩
      · obtain ⟨o3, y, rfl, rfl⟩ := pv
        refine ⟨_, rfl, .inl ⟨rfl, _, SqL.of hp3⟩, _, rfl, p, _, _, rfl, rfl, hp3, small1000' (by rw [List.length_map]; omega), _, _, _, ms ++ [y], rfl, by rw [List.length_append, hl]; rfl, ?_, ?_, hT3.put off⟩
        · rw [upd_same, List.map_append]
          rfl
        · intro b o nb e
          have nbp : b ≠ p := ne_of_none e np
          rw [upd_ne nbp]
          exact kp3 b o nb e
    · obtain ⟨o1, o2, o3, ms, rfl, hl, hp, kp, hT1⟩ := pv
      exact ⟨_, rfl, q p ms _ np hp (by omega) kp hT1⟩
def sp__law_far (K : PySem.W.Frag) : Sp := fun vs H Q _ => ∃ n a b : Int, vs = [.int n, .int a, .int b] ∧ 0 < n ∧ Q (.int (farL n a b)) H
theorem T0.ok__law_far (T : T0 K mg) : FnOk P w K mg base CX0 1 T.a__law_far T.fd__law_far ["size", "start", "end"] (sp__law_far K) := by
  refine T.F__law_far.ok sc__law_far (fun vs H Q E h => ?_) (fun cdv A outer s H vs Q E hr h => ?_)
  · obtain ⟨n, a, b, rfl, _⟩ := h
    rfl
  · obtain ⟨n, a, b, rfl, hn, q⟩ := h
    refine ⟨_, (pss_cons (ps_set (i := 3) sc__law_far.nd rfl (Or.inl rfl) (pe_op op_modN (pe_callTy call_int1 (by rfl) T.m_int (by decide +kernel) (pa_cons (pe_op op_sub (pv 2) (pv 1)) pa_nil)) (pv 0)))
        (pss_cons (ps_if (pt_cmpR op_eq (pv 3) pe_int (nomark _)) (pss_one (ps_ret (pv 0))) pss_nil)
        (pss_one (ps_ret (pv 3))))), ?_⟩
    rw [far_eq a b hn] at q
    refine ⟨_, rfl, _, rfl, _, _, rfl, rfl, .inl ⟨_, rfl, _, rfl, _, _, rfl, rfl, by omega, ?_⟩⟩
    refine ⟨_, rfl, rfl, _, rfl, ite2 (fun e => ?_) (fun e => ?_)⟩
    · rw [if_pos (V.int.inj (of_decide_eq_true e))] at q
      exact ⟨_, rfl, q⟩
    · rw [if_neg (fun z => e (decide_eq_true (congrArg V.int z)))] at q
      exact ⟨_, rfl, q⟩
def sp__law_between (K : PySem.W.Frag) : Sp := fun vs H Q _ => ∃ n a p b : Int, vs = [.int n, .int a, .int p, .int b] ∧ 0 < n ∧ Q (.bl (decide (farL n a p < farL n a b))) H
theorem T0.ok__law_between (T : T0 K mg) : FnOk P w K mg base CX0 2 T.a__law_between T.fd__law_between ["size", "start", "place", "end"] (sp__law_between K) := by
  refine T.F__law_between.ok sc__law_between (fun vs H Q E h => ?_) (fun cdv A outer s H vs Q E hr h => ?_)
  · obtain ⟨n, a, p, b, rfl, _⟩ := h
    rfl
  · obtain ⟨n, a, p, b, rfl, hn, q⟩ := h
    refine ⟨_, (pss_cons (ps_if (PW.pt (pw_or (pt_cmpR op_eq (pv 2) (pv 1) (nomark _)) (pw_or1 (pt_cmpR op_eq (pv 2) (pv 3) (nomark _))))) (pss_one (ps_ret pe_bl)) pss_nil)
        (pss_one (ps_ret (pe_cmpR op_lt (pe_call T.ok__law_far hr (by rfl) T.g__law_far T.k__law_far T.b__law_far .nil pass0 (pa_cons (pv 0) (pa_cons (pv 1) (pa_cons (pv 2) pa_nil)))) (pe_call T.ok__law_far hr (by rfl) T.g__law_far T.k__law_far T.b__law_far .nil pass0 (pa_cons (pv 0) (pa_cons (pv 1) (pa_cons (pv 3) pa_nil)))) (nomark _))))), ?_⟩
    refine v_when (by walk_at "ans") (fun e => ?_) (fun e => ?_)
    · rw [dec_int, dec_int] at e
      have e : p = a ∨ p = b := by simpa using e
      have f : ¬ (farL n a p < farL n a b) := by
        rcases e with rfl | rfl
        · have h1 := far_range p b hn
          rw [far_eq p p hn, Int.sub_self, Int.zero_fmod, if_pos rfl]
          omega
        · omega
      rw [decide_eq_false f] at q
      exact q
    · exact ⟨_, rfl, _, rfl, _, rfl, n, a, p, rfl, hn, _, rfl, _, rfl, _, rfl, n, a, b, rfl, hn, _, _, rfl, rfl, q⟩
def CellAt (H : Hp) (a : Addr) (p x : Int) (b : V) : Prop := H a = some (.lst [.int p, .int x, b])
def sp__law_letter (K : PySem.W.Frag) : Sp := fun vs H Q _ => ∃ (t c pl cl : Addr) (ms : List Int) (p x : Int) (b : V), vs = [.ref t, .ref pl, .ref cl] ∧ Tape H t c ∧ pl ≠ t ∧ cl ≠ t ∧ H pl = some (.lst (ms.map V.int)) ∧ 0 < ms.length ∧ ms.length ≤ 1000 ∧ CellAt H cl p x b ∧
  ∀ l (L : Let) H', H l = none → H' l = some (.tup L.vals) → Kp t H H' → Tape H' t c → Q (.ref l) H'
theorem T0.ok__law_letter (T : T0 K mg) : FnOk P w K mg base CX0 2 T.a__law_letter T.fd__law_letter ["tape", "places", "cell"] (sp__law_letter K) := by
  refine T.F__law_letter.ok sc__law_letter (fun vs H Q E h => ?_) (fun cdv A outer s H vs Q E hr h => ?_)
  · obtain ⟨t, c, pl, cl, ms, p, x, b, rfl, _⟩ := h
    rfl
  · obtain ⟨t, c, pl, cl, ms, p, x, b, rfl, hT, n1, n2, hp, l0, l1, hc, q⟩ := h
    refine ⟨_, (pss_cons (ps_set (i := 3) sc__law_letter.nd rfl (Or.inl rfl) (pe_ix (ix_listK (K := K)) (pv 1) (pe_call T.ok__law_pick hr (by rfl) T.g__law_pick T.k__law_pick T.b__law_pick .nil pass0 (pa_cons (pv 0) (pa_cons (pe_callB (call_lenK (K := K)) (by rfl) T.m_len PySem.boot_len (pa_cons (pv 1) pa_nil)) pa_nil))) (fun _ _ => rfl)))
        (pss_cons (ps_set (i := 4) sc__law_letter.nd rfl (Or.inl rfl) (pe_ix (ix_listK (K := K)) (pv 1) (pe_call T.ok__law_pick hr (by rfl) T.g__law_pick T.k__law_pick T.b__law_pick .nil pass0 (pa_cons (pv 0) (pa_cons (pe_callB (call_lenK (K := K)) (by rfl) T.m_len PySem.boot_len (pa_cons (pv 1) pa_nil)) pa_nil))) (fun _ _ => rfl)))
        (C8.pss_cut (ps_if (pt_cmpR op_eq (pe_call T.ok__law_pick hr (by rfl) T.g__law_pick T.k__law_pick T.b__law_pick .nil pass0 (pa_cons (pv 0) (pa_cons pe_int pa_nil))) pe_int (nomark _)) (pss_one (ps_set (i := 3) sc__law_letter.nd rfl (Or.inl rfl) (pe_ix (ix_listK (K := K)) (pv 2) pe_int (fun _ _ => rfl)))) pss_nil)
        (pss_cons (ps_set (i := 5) sc__law_letter.nd rfl (Or.inl rfl) (pe_call T.ok__law_pick hr (by rfl) T.g__law_pick T.k__law_pick T.b__law_pick .nil pass0 (pa_cons (pv 0) (pa_cons pe_int pa_nil))))
        (pss_cons (ps_if (pt_cmpR op_eq (pv 5) pe_int (nomark _)) (pss_one (ps_ret (pe_tup (pa_cons pe_str (pa_cons (pe_ix (ix_listK (K := K)) (pv 2) pe_int (fun _ _ => rfl)) (pa_cons (pv 3) pa_nil)))))) pss_nil)
        (pss_cons (ps_if (pt_cmpR op_eq (pv 5) pe_int (nomark _)) (pss_one (ps_ret (pe_tup (pa_cons pe_str (pa_cons (pe_ix (ix_listK (K := K)) (pv 2) pe_int (fun _ _ => rfl)) (pa_cons (pv 3) pa_nil)))))) pss_nil)
        (pss_one (ps_ret (pe_tup (pa_cons pe_str (pa_cons (pe_ix (ix_listK (K := K)) (pv 2) pe_int (fun _ _ => rfl)) (pa_cons (pv 3) (pa_cons (pv 4) pa_nil))))))))))))), ?_⟩
    have draw : ∀ (H1 : Hp), Kp t H H1 → Tape H1 t c → ∀ Q' : VK, (∀ (z : Int) H2, Kp t H H2 → Tape H2 t c → Q' (.int z) H2) →
        (sp__law_pick K) ([.ref t, .int ((ms.map V.int).length : Int)] ++ []) H1 (fun y H2 => rIxL K (.ref pl) y H2 Q') E0 := fun H1 k1 t1 Q' k => by
      refine ⟨t, c, _, rfl, t1, by rw [List.length_map]; omega, by rw [List.length_map]; omega, fun z H2 z0 z1 k2 t2 => ?_⟩
      rw [List.length_map] at z1
      have e : z = ((z.toNat : Nat) : Int) := by omega
      refine ⟨pl, _, z, .int (ms.getD z.toNat 0), rfl, rfl, SqL.of (k2 _ _ n1 (k1 _ _ n1 hp)), ?_, k _ H2 (k1.trans k2) t2⟩
      rw [e]
      exact at_getD (by omega)
    refine ⟨_, rfl, _, rfl, _, rfl, pl, _, rfl, .inl (SqL.of hp), draw H (.refl _ _) hT _ fun z1 H1 k1 t1 => ?_⟩
    refine ⟨_, rfl, _, rfl, _, rfl, pl, _, rfl, .inl (SqL.of (k1 _ _ n1 hp)), draw H1 k1 t1 _ fun z2 H2 k2 t2 => ?_⟩
    refine ⟨fun σ' H' => ∃ z1, σ' = [some (.ref t), some (.ref pl), some (.ref cl), some (.int z1), some (.int z2), none] ∧ Kp t H H' ∧ Tape H' t c, ?_, ?_⟩
    · refine ⟨_, rfl, t, c, 2, rfl, t2, by decide, by decide, fun d H3 _ _ k3 t3 => ?_⟩
      have k3 := k2.trans k3
      refine ⟨rfl, _, rfl, ite2 (fun _ => ?_) (fun _ => ?_)⟩
      · exact ⟨_, rfl, cl, _, 1, .int x, rfl, rfl, SqL.of (k3 _ _ n2 hc), rfl, _, rfl, k3, t3⟩
      · exact ⟨_, rfl, k3, t3⟩
    · rintro _ H3 ⟨z1, rfl, k3, t3⟩
      refine ⟨_, rfl, t, c, 4, rfl, t3, by decide, by decide, fun d H4 _ _ k4 t4 => ?_⟩
      have k4 := k3.trans k4
      have hc4 := k4 _ _ n2 hc
      have fr : ∀ l, H4 l = none → H l = none := fun l nl => by
        cases e : H l with
        | none => rfl
        | some o =>
          by_cases z : l = t
          · obtain ⟨_, _, _, _, _, e1, _⟩ := t4
            rw [z, e1] at nl
            cases nl
          · rw [k4 _ _ z e] at nl
            cases nl
      refine ⟨_, rfl, rfl, _, rfl, ite2 (fun _ => ?_) (fun _ => ?_)⟩
      · refine ⟨_, rfl, cl, _, 0, .int p, rfl, rfl, SqL.of hc4, rfl, _, rfl, lenL (by show 3 ≤ 100000; decide), fun l nl => ?_⟩
        exact q l (.tell p z1) _ (fr l nl) upd_same (k4.new nl) (t4.put (t4.off nl))
      refine ⟨_, rfl, rfl, _, rfl, ite2 (fun _ => ?_) (fun _ => ?_)⟩
      · refine ⟨_, rfl, cl, _, 0, .int p, rfl, rfl, SqL.of hc4, rfl, _, rfl, lenL (by show 3 ≤ 100000; decide), fun l nl => ?_⟩
        exact q l (.ask p z1) _ (fr l nl) upd_same (k4.new nl) (t4.put (t4.off nl))
      · refine ⟨_, rfl, cl, _, 0, .int p, rfl, rfl, SqL.of hc4, rfl, _, rfl, _, rfl, lenL (by show 4 ≤ 100000; decide), fun l nl => ?_⟩
        exact q l (.answer p z1 z2) _ (fr l nl) upd_same (k4.new nl) (t4.put (t4.off nl))
--CUT
def sp__law_hears (K : PySem.W.Frag) : Sp := fun vs H Q _ => ∃ (cl l : Addr) (n p x : Int) (b : V) (L : Let), vs = [.int n, .ref cl, .ref l] ∧ CellAt H cl p x b ∧ okB b ∧ 0 < n ∧ SqT K H l L.vals ∧
  ∀ v H', CellAt H' cl p (hN n p x L) (hB n p b L) → Kp cl H H' → (match hA p b L with | none => v = .non | some ys => ∃ a, v = .ref a ∧ H' a = some (.tup ys)) → Q v H'
theorem T0.ok__law_hears (T : T0 K mg) : FnOk P w K mg base CX0 3 T.a__law_hears T.fd__law_hears ["size", "cell", "letter"] (sp__law_hears K) := by
  refine T.F__law_hears.ok sc__law_hears (fun vs H Q E h => ?_) (fun cdv A outer s H vs Q E hr h => ?_)
  · obtain ⟨cl, l, n, p, x, b, L, rfl, _⟩ := h
    rfl
  · obtain ⟨cl, l, n, p, x, b, L, rfl, hc, ob, hn, hl, q⟩ := h
    refine ⟨_, (pss_cons (ps_set (i := 3) sc__law_hears.nd rfl (Or.inl rfl) (pe_ix (ix_tupK (K := K)) (pv 2) pe_int (fun _ _ => rfl)))
        (pss_cons (ps_if (pt_cmpR op_eq (pe_ix (ix_tupK (K := K)) (pv 2) pe_int (fun _ _ => rfl)) pe_str (nomark _)) (pss_one (ps_if (PW.pt (pw_or (pt_cmpR op_isN (pe_ix (ix_listK (K := K)) (pv 1) pe_int (fun _ _ => rfl)) pe_non (nomark _)) (pw_or1 (pt_val (pe_call T.ok__law_between hr (by rfl) T.g__law_between T.k__law_between T.b__law_between .nil pass0 (pa_cons (pv 0) (pa_cons (pe_ix (ix_listK (K := K)) (pv 1) pe_int (fun _ _ => rfl)) (pa_cons (pv 3) (pa_cons (pe_ix (ix_listK (K := K)) (pv 1) pe_int (fun _ _ => rfl)) pa_nil))))))))) (pss_one (ps_asg (pv 3) (pg_sub (pv 1) pe_int set_list))) pss_nil)) (pss_one (ps_if (pt_cmpR op_eq (pe_ix (ix_tupK (K := K)) (pv 2) pe_int (fun _ _ => rfl)) pe_str (nomark _)) (pss_one (ps_if (pt_cmpR op_notN (pe_ix (ix_listK (K := K)) (pv 1) pe_int (fun _ _ => rfl)) pe_non (nomark _)) (pss_one (ps_ret (pe_tup (pa_cons pe_str (pa_cons (pv 3) (pa_cons (pe_ix (ix_listK (K := K)) (pv 1) pe_int (fun _ _ => rfl)) (pa_cons (pe_ix (ix_listK (K := K)) (pv 1) pe_int (fun _ _ => rfl)) pa_nil))))))) pss_nil)) (pss_one (ps_if (PW.pt (pw_and (pt_cmpR op_eq (pe_ix (ix_listK (K := K)) (pv 1) pe_int (fun _ _ => rfl)) (pv 3) (nomark _)) (pw_and1 (pt_val (pe_call T.ok__law_between hr (by rfl) T.g__law_between T.k__law_between T.b__law_between .nil pass0 (pa_cons (pv 0) (pa_cons (pe_ix (ix_listK (K := K)) (pv 1) pe_int (fun _ _ => rfl)) (pa_cons (pe_ix (ix_tupK (K := K)) (pv 2) pe_int (fun _ _ => rfl)) (pa_cons (pv 3) pa_nil))))))))) (pss_one (ps_asg (pe_ix (ix_tupK (K := K)) (pv 2) pe_int (fun _ _ => rfl)) (pg_sub (pv 1) pe_int set_list))) pss_nil)))))
        (pss_one (ps_ret pe_non)))), ?_⟩
    have sc : SqL K H cl [.int p, .int x, b] := SqL.of hc
    have hc : H cl = some (.lst [.int p, .int x, b]) := hc
    cases L with
    | tell r u =>
      refine ⟨_, rfl, l, _, 2, .int u, rfl, rfl, hl, rfl, ?_⟩
      refine ⟨_, rfl, l, _, 0, .str "tell", rfl, rfl, hl, rfl, rfl, _, rfl, ?_⟩
      rw [show decide (V.str "tell" = V.str "tell") = true by decide +kernel]
      refine iteT ⟨_, rfl, cl, _, 2, b, rfl, rfl, sc, rfl, rfl, _, rfl, ite2 (fun e => ?_) (fun e => ?_)⟩
      · have e := of_decide_eq_true e
        subst e
        refine iteT ⟨_, rfl, _, rfl, cl, _, _, _, rfl, rfl, hc, rfl, ?_⟩
        exact q .non _ upd_same .put rfl
      · rcases ob with rfl | ⟨z, rfl⟩
        · exact absurd (decide_eq_true rfl) e
        · refine ⟨_, rfl, _, rfl, cl, _, 2, .int z, rfl, rfl, sc, rfl, _, rfl, _, rfl, cl, _, 0, .int p, rfl, rfl, sc, rfl, n, z, u, p, rfl, hn, _, rfl, ite2 (fun f => ?_) (fun f => ?_)⟩
          · have f := of_decide_eq_true f
            have g : hB n p (.int z) (.tell r u) = .int u := if_pos f
            rw [g] at q
            exact ⟨_, rfl, _, rfl, cl, _, _, _, rfl, rfl, hc, rfl, q .non _ upd_same .put rfl⟩
          · have f : ¬ (farL n z u < farL n z p) := fun g => f (decide_eq_true g)
            have g : hB n p (.int z) (.tell r u) = .int z := if_neg f
            rw [g] at q
            exact q .non H hc (.refl _ _) rfl
    | ask r u =>
      refine ⟨_, rfl, l, _, 2, .int u, rfl, rfl, hl, rfl, ?_⟩
      refine ⟨_, rfl, l, _, 0, .str "ask", rfl, rfl, hl, rfl, rfl, _, rfl, ?_⟩
      rw [show decide (V.str "ask" = V.str "tell") = false by decide +kernel]
      refine iteF ⟨_, rfl, l, _, 0, .str "ask", rfl, rfl, hl, rfl, rfl, _, rfl, ?_⟩
      rw [show decide (V.str "ask" = V.str "ask") = true by decide +kernel]
      refine iteT ⟨_, rfl, cl, _, 2, b, rfl, rfl, sc, rfl, rfl, _, rfl, ?_⟩
      rcases ob with rfl | ⟨z, rfl⟩
      · exact iteNS rfl (q .non H hc (.refl _ _) rfl)
      · refine iteT ⟨_, rfl, _, rfl, cl, _, 0, .int p, rfl, rfl, sc, rfl, _, rfl, cl, _, 2, .int z, rfl, rfl, sc, rfl, lenL (by show 4 ≤ 100000; decide), fun a na => ?_⟩
        refine q (.ref a) _ ?_ (Kp.of_same (same_upd na)) ⟨a, rfl, upd_same⟩
        show upd H a _ cl = _
        rw [upd_ne (ne_of_none hc na)]
        exact hc
    | answer r u m =>
      refine ⟨_, rfl, l, _, 2, .int u, rfl, rfl, hl, rfl, ?_⟩
      refine ⟨_, rfl, l, _, 0, .str "answer", rfl, rfl, hl, rfl, rfl, _, rfl, ?_⟩
      rw [show decide (V.str "answer" = V.str "tell") = false by decide +kernel]
      refine iteF ⟨_, rfl, l, _, 0, .str "answer", rfl, rfl, hl, rfl, rfl, _, rfl, ?_⟩
      rw [show decide (V.str "answer" = V.str "ask") = false by decide +kernel]
      refine iteF ⟨_, rfl, cl, _, 1, .int x, rfl, rfl, sc, rfl, _, rfl, rfl, _, rfl, ite2 (fun e => ?_) (fun e => ?_)⟩
      · have e := V.int.inj (of_decide_eq_true e)
        refine ⟨_, rfl, _, rfl, cl, _, 0, .int p, rfl, rfl, sc, rfl, _, rfl, l, _, 3, .int m, rfl, rfl, hl, rfl, _, rfl, n, p, m, u, rfl, hn, _, rfl, ite2 (fun f => ?_) (fun f => ?_)⟩
        · have g : hN n p x (.answer r u m) = m := if_pos ⟨e, of_decide_eq_true f⟩
          rw [g] at q
          exact ⟨_, rfl, l, _, 3, .int m, rfl, rfl, hl, rfl, _, rfl, cl, _, _, _, rfl, rfl, hc, rfl, q .non _ upd_same .put rfl⟩
        · have g : hN n p x (.answer r u m) = x := if_neg (fun z => f (decide_eq_true z.2))
          rw [g] at q
          exact q .non H hc (.refl _ _) rfl
      · have g : hN n p x (.answer r u m) = x := if_neg (fun z => e (decide_eq_true (congrArg V.int z.1)))
        rw [g] at q
        exact q .non H hc (.refl _ _) rfl
theorem okB.atom {b : V} (h : okB b) : atomV b = true := by
  rcases h with rfl | ⟨z, rfl⟩ <;> rfl
def sp__law_is (K : PySem.W.Frag) (C : Addr) : Sp := fun vs H Q _ => ∃ (h cl : Addr) (n p x : Int) (b : V), vs = [.ref h, .int n, .ref cl] ∧ HouseAt C H h n p x b ∧ CellAt H cl p x b ∧ okB b ∧ ∀ H', Same H H' → Q (.bl true) H'
theorem T0.ok__law_is (T : T0 K mg) : FnOk P w K mg base CX0 5 T.a__law_is T.fd__law_is ["house", "size", "cell"] (sp__law_is K T.C_House) := by
  refine T.F__law_is.ok sc__law_is (fun vs H Q E h => ?_) (fun cdv A outer s H vs Q E hr h => ?_)
  · obtain ⟨h, cl, n, p, x, b, rfl, _⟩ := h
    rfl
  · obtain ⟨h, cl, n, p, x, b, rfl, ⟨dx, hh⟩, hc, ob, q⟩ := h
    refine ⟨_, (pss_cons (ps_if (PW.pt (pw_or (pt_not (pt_val (pe_call (T.ok__law_same 2) (hr.mono (by decide)) (by rfl) T.g__law_same T.k__law_same T.b__law_same .nil pass0 (pa_cons (show PE _ _ (tFld K _ _) from pe_fld (pv 0) rfl) (pa_cons (pv 1) pa_nil))))) (pw_or1 (pt_not (pt_val (pe_call (T.ok__law_same 2) (hr.mono (by decide)) (by rfl) T.g__law_same T.k__law_same T.b__law_same .nil pass0 (pa_cons (show PE _ _ (tFld K _ _) from pe_fld (pv 0) rfl) (pa_cons (pe_ix (ix_listK (K := K)) (pv 2) pe_int (fun _ _ => rfl)) pa_nil)))))))) (pss_one (ps_ret pe_bl)) pss_nil)
        (pss_cons (ps_if (PW.pt (pw_or (pt_not (pt_val (pe_call (T.ok__law_same 2) (hr.mono (by decide)) (by rfl) T.g__law_same T.k__law_same T.b__law_same .nil pass0 (pa_cons (show PE _ _ (tFld K _ _) from pe_fld (pv 0) rfl) (pa_cons (pe_ix (ix_listK (K := K)) (pv 2) pe_int (fun _ _ => rfl)) pa_nil))))) (pw_or1 (pt_not (pt_val (pe_call (T.ok__law_same 2) (hr.mono (by decide)) (by rfl) T.g__law_same T.k__law_same T.b__law_same .nil pass0 (pa_cons (show PE _ _ (tFld K _ _) from pe_fld (pv 0) rfl) (pa_cons (pe_ix (ix_listK (K := K)) (pv 2) pe_int (fun _ _ => rfl)) pa_nil)))))))) (pss_one (ps_ret pe_bl)) pss_nil)
        (pss_cons (ps_if (pt_not (pt_val (pe_call (T.ok__law_same 2) (hr.mono (by decide)) (by rfl) T.g__law_same T.k__law_same T.b__law_same .nil pass0 (pa_cons (pe_meth0 (pv 0) T.cl_House T.me_House__tell_letter T.ok_House__tell_letter (hr.mono (by decide)) T.b_House__tell_letter .nil pass0) (pa_cons (pe_tup (pa_cons pe_str (pa_cons (pe_ix (ix_listK (K := K)) (pv 2) pe_int (fun _ _ => rfl)) (pa_cons (pe_ix (ix_listK (K := K)) (pv 2) pe_int (fun _ _ => rfl)) pa_nil)))) pa_nil))))) (pss_one (ps_ret pe_bl)) pss_nil)
        (pss_one (ps_ret (pe_call (T.ok__law_same 2) (hr.mono (by decide)) (by rfl) T.g__law_same T.k__law_same T.b__law_same .nil pass0 (pa_cons (pe_meth0 (pv 0) T.cl_House T.me_House__ask_letter T.ok_House__ask_letter (hr.mono (by decide)) T.b_House__ask_letter .nil pass0) (pa_cons (pe_tup (pa_cons pe_str (pa_cons (pe_ix (ix_listK (K := K)) (pv 2) pe_int (fun _ _ => rfl)) (pa_cons (pe_ix (ix_listK (K := K)) (pv 2) pe_int (fun _ _ => rfl)) pa_nil)))) pa_nil)))))))), ?_⟩
    have hc : H cl = some (.lst [.int p, .int x, b]) := hc
    refine ⟨_, rfl, h, _, dx, _, _, rfl, hh, T.cl_House, T.na_House_size, hf_size, _, rfl, _, _, rfl, .atom rfl, fun H1 s1 => ⟨true, rfl, iteF ?_⟩⟩
    refine ⟨_, rfl, h, _, dx, _, _, rfl, s1 _ _ hh, T.cl_House, T.na_House_place, hf_place, _, rfl, cl, _, 0, .int p, rfl, rfl, SqL.of (s1 _ _ hc), rfl, _, _, rfl, .atom rfl, fun H2 s2 => ⟨true, rfl, iteF ?_⟩⟩
    have s2 := Same.trans s1 s2
    refine ⟨_, rfl, h, _, dx, _, _, rfl, s2 _ _ hh, T.cl_House, T.na_House_next_house, hf_next, _, rfl, cl, _, 1, .int x, rfl, rfl, SqL.of (s2 _ _ hc), rfl, _, _, rfl, .atom rfl, fun H3 s3 => ⟨true, rfl, iteF ?_⟩⟩
    have s3 := Same.trans s2 s3
    refine ⟨_, rfl, h, _, dx, _, _, rfl, s3 _ _ hh, T.cl_House, T.na_House_before, hf_before, _, rfl, cl, _, 2, b, rfl, rfl, SqL.of (s3 _ _ hc), rfl, _, _, rfl, .atom ob.atom, fun H4 s4 => ⟨true, rfl, iteF ?_⟩⟩
    have s4 := Same.trans s3 s4
    have two : ∀ (z : Str) (H5 : Hp) (a a2 : Addr), H5 a = some (.tup [.str z, .int x, .int p]) → H5 a2 = some (.tup [.str z, .int x, .int p]) → Sm K 2 H5 (.ref a) (.ref a2) := fun z H5 a a2 h1 h2 =>
      Sm.tupP (SqT.of h1) (SqT.of h2) (by show 3 ≤ 100000; decide) (.cons (.atom rfl) (.cons (.atom rfl) (.cons (.atom rfl) .nil)))
    refine ⟨_, rfl, h, dx, _, rfl, s4 _ _ hh, (by unfold hf; walk_at "lk"), h, n, p, x, b, rfl, ⟨dx, s4 _ _ hh⟩, fun a na => ?_⟩
    have s5 := Same.trans s4 (same_upd (o := .tup [.str "tell", .int x, .int p]) na)
    refine ⟨_, rfl, cl, _, 1, .int x, rfl, rfl, SqL.of (s5 _ _ hc), rfl, _, rfl, cl, _, 0, .int p, rfl, rfl, SqL.of (s5 _ _ hc), rfl, lenL (by show 3 ≤ 100000; decide), fun a2 na2 => ?_⟩
    refine ⟨_, _, rfl, two "tell" _ a a2 (by rw [upd_ne (ne_of_none upd_same na2)]; exact upd_same) upd_same, fun H6 s6 => ⟨true, rfl, iteF ?_⟩⟩
    have s6 := Same.trans (Same.trans s5 (same_upd na2)) s6
    refine ⟨_, rfl, h, dx, _, rfl, s6 _ _ hh, (by unfold hf; walk_at "lk"), h, n, p, x, b, rfl, ⟨dx, s6 _ _ hh⟩, fun a na => ?_⟩
    have s7 := Same.trans s6 (same_upd (o := .tup [.str "ask", .int x, .int p]) na)
    refine ⟨_, rfl, cl, _, 1, .int x, rfl, rfl, SqL.of (s7 _ _ hc), rfl, _, rfl, cl, _, 0, .int p, rfl, rfl, SqL.of (s7 _ _ hc), rfl, lenL (by show 3 ≤ 100000; decide), fun a2 na2 => ?_⟩
    refine ⟨_, _, rfl, two "ask" _ a a2 (by rw [upd_ne (ne_of_none upd_same na2)]; exact upd_same) upd_same, fun H8 s8 => ?_⟩
    exact q _ (Same.trans (Same.trans s7 (same_upd na2)) s8)
--CUT
/-- one house and its cell -/
structure R where
  c : Addr
  h : Addr
  p : Int
  x : Int
  b : V
def One (C : Addr) (n : Int) (H : Hp) (r : R) : Prop := CellAt H r.c r.p r.x r.b ∧ HouseAt C H r.h n r.p r.x r.b ∧ okB r.b
def addrs (fx : List Addr) (rs : List R) : List Addr := fx ++ rs.flatMap fun r => [r.c, r.h]
structure Both (C t c pl cA hA : Addr) (n : Int) (ms : List Int) (rs : List R) (H : Hp) : Prop where
  tape : Tape H t c
  hpl : H pl = some (.lst (ms.map V.int))
  hca : H cA = some (.lst (rs.map fun r => .ref r.c))
  hha : H hA = some (.lst (rs.map fun r => .ref r.h))
  each : ∀ r ∈ rs, One C n H r
  nd : (addrs [t, c, pl, cA, hA] rs).Nodup
theorem Kp.free {t c l : Addr} {H H' : Hp} (k : Kp t H H') (T : Tape H' t c) (nl : H' l = none) : H l = none := by
  cases e : H l with
  | none => rfl
  | some o =>
    by_cases z : l = t
    · obtain ⟨_, _, _, _, _, e1, _⟩ := T
      rw [z, e1] at nl
      cases nl
    · rw [k _ _ z e] at nl
      cases nl
theorem Tape.ne_tup {H : Hp} {t c l : Addr} {ys : List V} (T : Tape H t c) (h : H l = some (.tup ys)) : l ≠ t := by
  obtain ⟨_, _, _, _, _, e1, _⟩ := T
  exact ne_of h e1 (by intro z; cases z)
theorem Tape.there {H : Hp} {t c : Addr} (h : Tape H t c) : H t ≠ none ∧ H c ≠ none := by
  obtain ⟨_, _, _, _, _, e1, e2, _⟩ := h
  exact ⟨fun z => (by rw [e1] at z; cases z), fun z => (by rw [e2] at z; cases z)⟩
section
variable {C t c pl cA hA : Addr} {n : Int} {ms : List Int} {rs : List R} {H H' : Hp}
theorem Both.there (B : Both C t c pl cA hA n ms rs H) : ∀ a ∈ addrs [t, c, pl, cA, hA] rs, H a ≠ none := by
  intro a ha z
  unfold addrs at ha
  rcases List.mem_append.mp ha with ha | ha
  · simp only [List.mem_cons, List.not_mem_nil, or_false] at ha
    rcases ha with rfl | rfl | rfl | rfl | rfl
    · exact B.tape.there.1 z
    · exact B.tape.there.2 z
    · rw [B.hpl] at z; cases z
    · rw [B.hca] at z; cases z
    · rw [B.hha] at z; cases z
  · obtain ⟨r, hr, hm⟩ := List.mem_flatMap.mp ha
    obtain ⟨h1, ⟨dx, h2⟩, _⟩ := B.each r hr
    simp only [List.mem_cons, List.not_mem_nil, or_false] at hm
    rcases hm with rfl | rfl
    · have h1 : H r.c = some _ := h1
      rw [h1] at z; cases z
    · rw [h2] at z; cases z
theorem Both.same (B : Both C t c pl cA hA n ms rs H) (s : Same H H') : Both C t c pl cA hA n ms rs H' where
  tape := B.tape.same s
  hpl := s _ _ B.hpl
  hca := s _ _ B.hca
  hha := s _ _ B.hha
  each := fun r hr => by
    obtain ⟨h1, ⟨dx, h2⟩, h3⟩ := B.each r hr
    exact ⟨s _ _ h1, ⟨dx, s _ _ h2⟩, h3⟩
  nd := B.nd
theorem Both.bas (B : Both C t c pl cA hA n ms rs H) : pl ≠ t ∧ cA ≠ t ∧ hA ≠ t ∧ c ≠ t ∧ cA ≠ hA ∧ cA ≠ c ∧ hA ≠ c ∧ pl ≠ cA ∧ pl ≠ hA := by
  have nd := B.nd
  unfold addrs at nd
  have h := (List.nodup_append.mp nd).1
  simp only [List.nodup_cons, List.mem_cons, List.not_mem_nil, or_false, not_or] at h
  obtain ⟨⟨h1, h2, h3, h4⟩, ⟨h5, h6, h7⟩, ⟨h8, h9⟩, h10, _⟩ := h
  exact ⟨fun e => h2 e.symm, fun e => h3 e.symm, fun e => h4 e.symm, fun e => h1 e.symm, h10, fun e => h6 e.symm, fun e => h7 e.symm, h8, h9⟩
theorem Both.rec_ne (B : Both C t c pl cA hA n ms rs H) {r : R} (hr : r ∈ rs) : ∀ a ∈ [t, c, pl, cA, hA], r.c ≠ a ∧ r.h ≠ a := by
  have nd := B.nd
  unfold addrs at nd
  have h := (List.nodup_append.mp nd).2.2
  intro a ha
  exact ⟨fun e => h a ha r.c (List.mem_flatMap.mpr ⟨r, hr, by simp⟩) e.symm, fun e => h a ha r.h (List.mem_flatMap.mpr ⟨r, hr, by simp⟩) e.symm⟩
/-- what the tape's turns leave -/
theorem Both.kp (B : Both C t c pl cA hA n ms rs H) (k : Kp t H H') (T : Tape H' t c) : Both C t c pl cA hA n ms rs H' where
  tape := T
  hpl := k _ _ B.bas.1 B.hpl
  hca := k _ _ B.bas.2.1 B.hca
  hha := k _ _ B.bas.2.2.1 B.hha
  each := fun r hr => by
    obtain ⟨h1, ⟨dx, h2⟩, h3⟩ := B.each r hr
    have ne := B.rec_ne hr t (by simp)
    exact ⟨k _ _ ne.1 h1, ⟨dx, k _ _ ne.2 h2⟩, h3⟩
  nd := B.nd
/-- one more -/
theorem Both.more (B : Both C t c pl cA hA n ms rs H) {r : R} (k : ∀ a o, a ≠ t → a ≠ cA → a ≠ hA → H a = some o → H' a = some o) (T : Tape H' t c) (h1 : H' cA = some (.lst ((rs ++ [r]).map fun r => .ref r.c)))
    (h2 : H' hA = some (.lst ((rs ++ [r]).map fun r => .ref r.h))) (o : One C n H' r) (n1 : H r.c = none) (n2 : H r.h = none) (n3 : r.c ≠ r.h) : Both C t c pl cA hA n ms (rs ++ [r]) H' where
  tape := T
  hpl := k _ _ B.bas.1 B.bas.2.2.2.2.2.2.2.1 B.bas.2.2.2.2.2.2.2.2 B.hpl
  hca := h1
  hha := h2
  each := fun r' hr => by
    rcases List.mem_append.mp hr with hr | hr
    · obtain ⟨h1, ⟨dx, h2⟩, h3⟩ := B.each r' hr
      have e1 := B.rec_ne hr t (by simp)
      have e2 := B.rec_ne hr cA (by simp)
      have e3 := B.rec_ne hr hA (by simp)
      exact ⟨k _ _ e1.1 e2.1 e3.1 h1, ⟨dx, k _ _ e1.2 e2.2 e3.2 h2⟩, h3⟩
    · rw [List.mem_singleton.mp hr]
      exact o
  nd := by
    have e : addrs [t, c, pl, cA, hA] (rs ++ [r]) = addrs [t, c, pl, cA, hA] rs ++ [r.c, r.h] := by
      unfold addrs
      rw [List.flatMap_append, List.append_assoc]
      rfl
    rw [e]
    refine List.nodup_append.mpr ⟨B.nd, by simp [n3], fun a ha b hb z => ?_⟩
    have h := B.there a ha
    simp only [List.mem_cons, List.not_mem_nil, or_false] at hb
    rcases hb with rfl | rfl
    · rw [z] at h; exact h n1
    · rw [z] at h; exact h n2
end
--CUT
section
variable {C t c pl cA hA : Addr} {n : Int} {ms : List Int} {r1 r2 : R} {H H1 H2 : Hp}
/-- the first one has heard a letter -/
theorem Both.one (B : Both C t c pl cA hA n ms [r1, r2] H) {x : Int} {b : V} (k1 : Kp r1.c H H1) (c1 : CellAt H1 r1.c r1.p x b) (k2 : Kp r1.h H1 H2) (h2 : HouseAt C H2 r1.h n r1.p x b) (ob : okB b) :
    Both C t c pl cA hA n ms [⟨r1.c, r1.h, r1.p, x, b⟩, r2] H2 := by
  have nd := B.nd
  unfold addrs at nd
  simp only [List.flatMap_cons, List.flatMap_nil, List.append_nil, List.cons_append, List.nil_append, List.nodup_cons, List.mem_cons, List.not_mem_nil, or_false, not_or] at nd
  obtain ⟨⟨_, _, _, _, t1, t2, _, _⟩, ⟨_, _, _, u1, u2, _, _⟩, ⟨_, _, v1, v2, _, _⟩, ⟨_, w1, w2, _, _⟩, ⟨x1, x2, _, _⟩, ⟨y1, y2, y3⟩, ⟨z1, z2⟩, _⟩ := nd
  have go : ∀ a o, a ≠ r1.c → a ≠ r1.h → H a = some o → H2 a = some o := fun a o e1 e2 e => k2 a o e2 (k1 a o e1 e)
  obtain ⟨cs, a, b1, k, r, e1, e2, e3, e4⟩ := B.tape
  have h1 := B.each r1 (by simp)
  obtain ⟨o1, ⟨dx, o2⟩, o3⟩ := B.each r2 (by simp)
  refine ⟨⟨cs, a, b1, k, r, go _ _ t1 t2 e1, go _ _ u1 u2 e2, e3, e4⟩, go _ _ v1 v2 B.hpl, go _ _ w1 w2 B.hca, go _ _ x1 x2 B.hha, fun r' hr => ?_, B.nd⟩
  rcases List.mem_cons.mp hr with rfl | hr
  · exact ⟨k2 _ _ y1 c1, h2, ob⟩
  · rw [List.mem_singleton.mp hr]
    exact ⟨go _ _ (fun z => y2 z.symm) (fun z => z1 z.symm) o1, ⟨dx, go _ _ (fun z => y3 z.symm) (fun z => z2 z.symm) o2⟩, o3⟩
theorem Both.two (B : Both C t c pl cA hA n ms [r1, r2] H) {x : Int} {b : V} (k1 : Kp r2.c H H1) (c1 : CellAt H1 r2.c r2.p x b) (k2 : Kp r2.h H1 H2) (h2 : HouseAt C H2 r2.h n r2.p x b) (ob : okB b) :
    Both C t c pl cA hA n ms [r1, ⟨r2.c, r2.h, r2.p, x, b⟩] H2 := by
  have nd := B.nd
  unfold addrs at nd
  simp only [List.flatMap_cons, List.flatMap_nil, List.append_nil, List.cons_append, List.nil_append, List.nodup_cons, List.mem_cons, List.not_mem_nil, or_false, not_or] at nd
  obtain ⟨⟨_, _, _, _, _, _, t1, t2⟩, ⟨_, _, _, _, _, u1, u2⟩, ⟨_, _, _, _, v1, v2⟩, ⟨_, _, _, w1, w2⟩, ⟨_, _, x1, x2⟩, ⟨y1, y2, y3⟩, ⟨z1, z2⟩, a1, _⟩ := nd
  have go : ∀ a o, a ≠ r2.c → a ≠ r2.h → H a = some o → H2 a = some o := fun a o e1 e2 e => k2 a o e2 (k1 a o e1 e)
  obtain ⟨cs, a, b1, k, r, e1, e2, e3, e4⟩ := B.tape
  obtain ⟨o1, ⟨dx, o2⟩, o3⟩ := B.each r1 (by simp)
  refine ⟨⟨cs, a, b1, k, r, go _ _ t1 t2 e1, go _ _ u1 u2 e2, e3, e4⟩, go _ _ v1 v2 B.hpl, go _ _ w1 w2 B.hca, go _ _ x1 x2 B.hha, fun r' hr => ?_, B.nd⟩
  rcases List.mem_cons.mp hr with rfl | hr
  · exact ⟨go _ _ y2 y3 o1, ⟨dx, go _ _ z1 z2 o2⟩, o3⟩
  · rw [List.mem_singleton.mp hr]
    exact ⟨k2 _ _ a1 c1, h2, ob⟩
end
theorem okB.tell {n p u : Int} {b : V} : okB (hTell n p u b) := by
  cases b with
  | int z =>
    unfold hTell
    dsimp only
    split
    · exact .inr ⟨_, rfl⟩
    · exact .inr ⟨_, rfl⟩
  | _ => exact .inr ⟨_, rfl⟩
theorem okB.hB {n p : Int} {b : V} (o : okB b) : ∀ L : Let, okB (hB n p b L)
  | .tell _ _ => okB.tell
  | .ask _ _ => o
  | .answer _ _ _ => o
theorem ans_atoms {p : Int} {b : V} {ys : List V} : ∀ L : Let, hA p b L = some ys → ys.length ≤ 100000 ∧ ∀ y ∈ ys, atomV y = true := by
  intro L h
  cases L with
  | ask r u =>
    cases b with
    | int z =>
      cases h
      refine ⟨by show 4 ≤ 100000; decide, fun y hy => ?_⟩
      simp only [List.mem_cons, List.not_mem_nil, or_false] at hy
      rcases hy with rfl | rfl | rfl | rfl <;> rfl
    | _ => cases h
  | tell _ _ => cases h
  | answer _ _ _ => cases h
/-- two answers are alike -/
theorem ans_same {H : Hp} {p : Int} {b : V} {L : Let} {v u : V} (h1 : match hA p b L with | none => v = .non | some ys => ∃ a, v = .ref a ∧ H a = some (.tup ys)) (h2 : match hA p b L with | none => u = .non | some ys => ∃ a, u = .ref a ∧ H a = some (.tup ys)) : Sm K 2 H v u := by
  cases e : hA p b L with
  | none =>
    rw [e] at h1 h2
    dsimp only at h1 h2
    rw [h1, h2]
    exact .atom rfl
  | some ys =>
    rw [e] at h1 h2
    obtain ⟨a, rfl, e1⟩ := h1
    obtain ⟨a2, rfl, e2⟩ := h2
    obtain ⟨l, m⟩ := ans_atoms L e
    refine .tup (SqT.of e1) (SqT.of e2) rfl l fun i x y hx hy => ?_
    rw [hx] at hy
    cases hy
    exact .atom (m x (List.mem_of_getElem? hx))
theorem ans_keep {H H' : Hp} {p : Int} {b : V} {L : Let} {v : V} (h : match hA p b L with | none => v = .non | some ys => ∃ a, v = .ref a ∧ H a = some (.tup ys)) (k : ∀ a ys, H a = some (.tup ys) → H' a = some (.tup ys)) :
    match hA p b L with | none => v = .non | some ys => ∃ a, v = .ref a ∧ H' a = some (.tup ys) := by
  cases e : hA p b L with
  | none => rw [e] at h; exact h
  | some ys =>
    rw [e] at h
    obtain ⟨a, rfl, e1⟩ := h
    exact ⟨a, rfl, k _ _ e1⟩
theorem Both.pick {C t c pl cA hA : Addr} {n : Int} {ms : List Int} {r1 r2 : R} {H : Hp} (B : Both C t c pl cA hA n ms [r1, r2] H) {d : Int} (d0 : 0 ≤ d) (d1 : d < 2) :
    ∃ ra : R, One C n H ra ∧ atI ([r1, r2].map fun r => V.ref r.c) d = some (.ref ra.c) ∧ atI ([r1, r2].map fun r => V.ref r.h) d = some (.ref ra.h) ∧ (∀ a ∈ [t, c, pl, cA, hA], ra.c ≠ a ∧ ra.h ≠ a) ∧
      ∀ (x : Int) (b : V) (H1 H2 : Hp), Kp ra.c H H1 → CellAt H1 ra.c ra.p x b → Kp ra.h H1 H2 → HouseAt C H2 ra.h n ra.p x b → okB b → ∃ r3 r4, Both C t c pl cA hA n ms [r3, r4] H2 := by
  have e : d = 0 ∨ d = 1 := by omega
  rcases e with rfl | rfl
  · exact ⟨r1, B.each r1 (by simp), rfl, rfl, B.rec_ne (by simp), fun x b H1 H2 k1 c1 k2 h2 ob => ⟨_, _, B.one k1 c1 k2 h2 ob⟩⟩
  · exact ⟨r2, B.each r2 (by simp), rfl, rfl, B.rec_ne (by simp), fun x b H1 H2 k1 c1 k2 h2 ob => ⟨_, _, B.two k1 c1 k2 h2 ob⟩⟩
theorem two_of {rs : List R} (h : rs.length = 2) : ∃ r1 r2, rs = [r1, r2] := by
  match rs, h with
  | [r1, r2], _ => exact ⟨r1, r2, rfl⟩
--CUT
def sp_law (K : PySem.W.Frag) : Sp := fun vs H Q _ => ∃ (a : Addr) (ns : List Int), vs = [.ref a] ∧ SqL K H a (ns.map V.int) ∧ ns.length ≤ 63 ∧ ∀ H', Q (.bl true) H'
theorem T0.ok_law (T : T0 K mg) : FnOk P w K mg base CX0 6 T.a_law T.fd_law ["script"] (sp_law K) := by
  refine T.F_law.ok sc_law (fun vs H Q E h => ?_) (fun cdv A outer s H vs Q E hr h => ?_)
  · obtain ⟨a, ns, rfl, _⟩ := h
    rfl
  · obtain ⟨a, ns, rfl, hS, hlen, q⟩ := h
    refine ⟨_, (pss_cons (ps_set (i := 1) sc_law.nd rfl (Or.inl rfl) (pe_call T.ok__law_tape (hr.mono (by decide)) (by rfl) T.g__law_tape T.k__law_tape T.b__law_tape .nil pass0 (pa_cons (pv 0) pa_nil)))
        (pss_cons (ps_set (i := 2) sc_law.nd rfl (Or.inl rfl) (pe_op op_add pe_int (pe_call T.ok__law_pick (hr.mono (by decide)) (by rfl) T.g__law_pick T.k__law_pick T.b__law_pick .nil pass0 (pa_cons (pv 1) (pa_cons pe_int pa_nil)))))
        (pss_cons (ps_set (i := 3) sc_law.nd rfl (Or.inl rfl) (pe_op op_add pe_int (pe_call T.ok__law_pick (hr.mono (by decide)) (by rfl) T.g__law_pick T.k__law_pick T.b__law_pick .nil pass0 (pa_cons (pv 1) (pa_cons pe_int pa_nil)))))
        (pss_cons (ps_set (i := 4) sc_law.nd rfl (Or.inl rfl) (pe_call T.ok__law_size (hr.mono (by decide)) (by rfl) T.g__law_size T.k__law_size T.b__law_size .nil pass0 (pa_cons (pv 1) (pa_cons (pv 3) pa_nil))))
        (pss_cons (ps_set (i := 5) sc_law.nd rfl (Or.inl rfl) (pe_call T.ok__law_places (hr.mono (by decide)) (by rfl) T.g__law_places T.k__law_places T.b__law_places .nil pass0 (pa_cons (pv 1) (pa_cons (pv 4) (pa_cons (pv 3) pa_nil)))))
        (pss_cons (ps_set (i := 6) sc_law.nd rfl (Or.inl rfl) (pe_lst pa_nil))
        (pss_cons (ps_set (i := 7) sc_law.nd rfl (Or.inl rfl) (pe_lst pa_nil))
        (pss_cons (ps_for PassesOwn.never rfl (pi_range1 (by rfl) T.m_range (pa_cons pe_int pa_nil)) (pg_name (i := 8) sc_law.nd rfl (Or.inl rfl)) (pss_cons (ps_set (i := 9) sc_law.nd rfl (Or.inl rfl) (pe_lst (pa_cons (pe_ix (ix_listK (K := K)) (pv 5) (pe_call T.ok__law_pick (hr.mono (by decide)) (by rfl) T.g__law_pick T.k__law_pick T.b__law_pick .nil pass0 (pa_cons (pv 1) (pa_cons (pv 3) pa_nil))) (fun _ _ => rfl)) (pa_cons (pe_ix (ix_listK (K := K)) (pv 5) (pe_call T.ok__law_pick (hr.mono (by decide)) (by rfl) T.g__law_pick T.k__law_pick T.b__law_pick .nil pass0 (pa_cons (pv 1) (pa_cons (pv 3) pa_nil))) (fun _ _ => rfl)) (pa_cons pe_non pa_nil)))))
        (C8.pss_cut (ps_if (pt_cmpR op_gt (pe_call T.ok__law_pick (hr.mono (by decide)) (by rfl) T.g__law_pick T.k__law_pick T.b__law_pick .nil pass0 (pa_cons (pv 1) (pa_cons pe_int pa_nil))) pe_int (nomark _)) (pss_one (ps_asg (pe_ix (ix_listK (K := K)) (pv 5) (pe_call T.ok__law_pick (hr.mono (by decide)) (by rfl) T.g__law_pick T.k__law_pick T.b__law_pick .nil pass0 (pa_cons (pv 1) (pa_cons (pv 3) pa_nil))) (fun _ _ => rfl)) (pg_sub (pv 9) pe_int set_list))) pss_nil)
        (pss_cons (ps_expr (pe_bm PySem.F.plainAttrs_list PySem.F.slot_list_append PySem.F.type_list_append mt_append (pv 6) (pa_cons (pv 9) pa_nil)))
        (pss_one (ps_if (PW.pt (pw_and (pt_cmpR op_isN (pe_ix (ix_listK (K := K)) (pv 9) pe_int (fun _ _ => rfl)) pe_non (nomark _)) (pw_and1 (pt_cmpR op_eq (pe_call T.ok__law_pick (hr.mono (by decide)) (by rfl) T.g__law_pick T.k__law_pick T.b__law_pick .nil pass0 (pa_cons (pv 1) (pa_cons pe_int pa_nil))) pe_int (nomark _))))) (pss_one (ps_expr (pe_bm PySem.F.plainAttrs_list PySem.F.slot_list_append PySem.F.type_list_append mt_append (pv 7) (pa_cons (pe_make T.mk_House T.ok_House__init (hr.mono (by decide)) (by rfl) T.mc_House T.b1_House__init T.bv_House__init pass0 (pa_cons (pv 4) (pa_cons (pe_ix (ix_listK (K := K)) (pv 9) pe_int (fun _ _ => rfl)) (pa_cons (pe_ix (ix_listK (K := K)) (pv 9) pe_int (fun _ _ => rfl)) pa_nil)))) pa_nil)))) (pss_one (ps_if (pt_cmpR op_eq (pe_call T.ok__law_pick (hr.mono (by decide)) (by rfl) T.g__law_pick T.k__law_pick T.b__law_pick .nil pass0 (pa_cons (pv 1) (pa_cons pe_int pa_nil))) pe_int (nomark _)) (pss_one (ps_expr (pe_bm PySem.F.plainAttrs_list PySem.F.slot_list_append PySem.F.type_list_append mt_append (pv 7) (pa_cons (pe_makeN T.mk_House T.ok_House__init (hr.mono (by decide)) (by rfl) T.mc_House T.kb_House__init pass0 (pa_cons (pv 4) (pa_cons (pe_ix (ix_listK (K := K)) (pv 9) pe_int (fun _ _ => rfl)) (pa_cons (pe_ix (ix_listK (K := K)) (pv 9) pe_int (fun _ _ => rfl)) pa_nil))) (pk_cons (pe_ix (ix_listK (K := K)) (pv 9) pe_int (fun _ _ => rfl)) pk_nil)) pa_nil)))) (pss_one (ps_expr (pe_bm PySem.F.plainAttrs_list PySem.F.slot_list_append PySem.F.type_list_append mt_append (pv 7) (pa_cons (pe_make T.mk_House T.ok_House__init (hr.mono (by decide)) (by rfl) T.mc_House T.b_House__init .nil pass0 (pa_cons (pv 4) (pa_cons (pe_ix (ix_listK (K := K)) (pv 9) pe_int (fun _ _ => rfl)) (pa_cons (pe_ix (ix_listK (K := K)) (pv 9) pe_int (fun _ _ => rfl)) (pa_cons (pe_ix (ix_listK (K := K)) (pv 9) pe_int (fun _ _ => rfl)) pa_nil))))) pa_nil))))))))))))
        (pss_cons (ps_if (PW.pt (pw_or (pt_not (pt_val (pe_call T.ok__law_is hr (by rfl) T.g__law_is T.k__law_is T.b__law_is .nil pass0 (pa_cons (pe_ix (ix_listK (K := K)) (pv 7) pe_int (fun _ _ => rfl)) (pa_cons (pv 4) (pa_cons (pe_ix (ix_listK (K := K)) (pv 6) pe_int (fun _ _ => rfl)) pa_nil)))))) (pw_or1 (pt_not (pt_val (pe_call T.ok__law_is hr (by rfl) T.g__law_is T.k__law_is T.b__law_is .nil pass0 (pa_cons (pe_ix (ix_listK (K := K)) (pv 7) pe_int (fun _ _ => rfl)) (pa_cons (pv 4) (pa_cons (pe_ix (ix_listK (K := K)) (pv 6) pe_int (fun _ _ => rfl)) pa_nil))))))))) (pss_one (ps_ret pe_bl)) pss_nil)
        (pss_cons (ps_for PassesOwn.never rfl (pi_range1 (by rfl) T.m_range (pa_cons (pv 2) pa_nil)) (pg_name (i := 8) sc_law.nd rfl (Or.inl rfl)) (pss_cons (ps_set (i := 10) sc_law.nd rfl (Or.inl rfl) (pe_call T.ok__law_pick (hr.mono (by decide)) (by rfl) T.g__law_pick T.k__law_pick T.b__law_pick .nil pass0 (pa_cons (pv 1) (pa_cons pe_int pa_nil))))
        (pss_cons (ps_set (i := 11) sc_law.nd rfl (Or.inl rfl) (pe_call T.ok__law_letter (hr.mono (by decide)) (by rfl) T.g__law_letter T.k__law_letter T.b__law_letter .nil pass0 (pa_cons (pv 1) (pa_cons (pv 5) (pa_cons (pe_ix (ix_listK (K := K)) (pv 6) (pv 10) (fun _ _ => rfl)) pa_nil)))))
        (pss_one (ps_for PassesOwn.never rfl (pi_range1 (by rfl) T.m_range (pa_cons (pe_ix (ix_listK (K := K)) (pe_lst (pa_cons pe_int (pa_cons pe_int (pa_cons pe_int (pa_cons pe_int pa_nil))))) (pe_call T.ok__law_pick (hr.mono (by decide)) (by rfl) T.g__law_pick T.k__law_pick T.b__law_pick .nil pass0 (pa_cons (pv 1) (pa_cons pe_int pa_nil))) (fun _ _ => rfl)) pa_nil)) (pg_name (i := 12) sc_law.nd rfl (Or.inl rfl)) (pss_cons (ps_set (i := 13) sc_law.nd rfl (Or.inl rfl) (pe_call T.ok__law_hears (hr.mono (by decide)) (by rfl) T.g__law_hears T.k__law_hears T.b__law_hears .nil pass0 (pa_cons (pv 4) (pa_cons (pe_ix (ix_listK (K := K)) (pv 6) (pv 10) (fun _ _ => rfl)) (pa_cons (pv 11) pa_nil)))))
        (pss_cons (ps_if (pt_not (pt_val (pe_call (T.ok__law_same 2) (hr.mono (by decide)) (by rfl) T.g__law_same T.k__law_same T.b__law_same .nil pass0 (pa_cons (pe_meth (pe_ix (ix_listK (K := K)) (pv 7) (pv 10) (fun _ _ => rfl)) T.cl_House T.me_House__hear T.ok_House__hear (hr.mono (by decide)) T.b_House__hear .nil pass0 (pa_cons (pv 11) pa_nil)) (pa_cons (pv 13) pa_nil))))) (pss_one (ps_ret pe_bl)) pss_nil)
        (pss_one (ps_if (PW.pt (pw_or (pt_not (pt_val (pe_call T.ok__law_is hr (by rfl) T.g__law_is T.k__law_is T.b__law_is .nil pass0 (pa_cons (pe_ix (ix_listK (K := K)) (pv 7) pe_int (fun _ _ => rfl)) (pa_cons (pv 4) (pa_cons (pe_ix (ix_listK (K := K)) (pv 6) pe_int (fun _ _ => rfl)) pa_nil)))))) (pw_or1 (pt_not (pt_val (pe_call T.ok__law_is hr (by rfl) T.g__law_is T.k__law_is T.b__law_is .nil pass0 (pa_cons (pe_ix (ix_listK (K := K)) (pv 7) pe_int (fun _ _ => rfl)) (pa_cons (pv 4) (pa_cons (pe_ix (ix_listK (K := K)) (pv 6) pe_int (fun _ _ => rfl)) pa_nil))))))))) (pss_one (ps_ret pe_bl)) pss_nil)))))))))
        (pss_one (ps_ret pe_bl)))))))))))), ?_⟩
    refine ⟨_, rfl, a, ns, rfl, hS, by omega, fun H1 t c sm nt hT1 => ?_⟩
    refine ⟨_, rfl, ?_⟩
    walk_at "pick"
    rename_i tu H2 tu0 tu1 kp2 hT2
    refine ⟨_, _, rfl, rfl, _, rfl, ?_⟩
    walk_at "pick"
    rename_i co H3 co0 co1 kp3 hT3
    refine ⟨_, _, rfl, rfl, _, rfl, _, rfl, t, c, 1 + co, rfl, hT3, by omega, fun n H4 n0 n1 n2 kp4 hT4 => ?_⟩
    refine ⟨_, rfl, _, rfl, _, rfl, t, c, n, 1 + co, rfl, hT4, by omega, by omega, by omega, n2, fun pl ms H5 npl hpl lms kp5 hT5 => ?_⟩
    -- cells = []; houses = []
    refine ⟨Nat.zero_le _, fun cA ncA => ⟨Nat.zero_le _, fun hA nhA => ?_⟩⟩
    have hT6 := hT5.put (o := .lst []) (hT5.off ncA)
    have e1 := hT4.off npl
    have e2 := hT5.off ncA
    have e3 := hT6.off nhA
    have e4 : pl ≠ cA := ne_of_none hpl ncA
    have hpl6 : upd H5 cA (.lst []) pl = some (.lst (ms.map V.int)) := by rw [upd_ne e4]; exact hpl
    have e5 : pl ≠ hA := ne_of_none hpl6 nhA
    have e6 : cA ≠ hA := ne_of_none upd_same nhA
    have e7 : c ≠ t := by
      obtain ⟨_, _, _, _, _, _, _, e, _⟩ := hT5
      exact e
    have B0 : Both T.C_House t c pl cA hA n ms [] (upd (upd H5 cA (.lst [])) hA (.lst [])) := by
      refine ⟨hT6.put e3, by rw [upd_ne e5]; exact hpl6, by rw [upd_ne e6, upd_same]; rfl, upd_same, (fun r hr => nomatch hr), ?_⟩
      show [t, c, pl, cA, hA].Nodup
      simp only [List.nodup_cons, List.mem_cons, List.not_mem_nil, or_false, not_or, List.nodup_nil, and_true, not_false_eq_true]
      exact ⟨⟨fun z => e7 z.symm, fun z => e1.1 z.symm, fun z => e2.1 z.symm, fun z => e3.1 z.symm⟩, ⟨fun z => e1.2 z.symm, fun z => e2.2 z.symm, fun z => e3.2 z.symm⟩, ⟨e4, e5⟩, e6⟩
    generalize upd (upd H5 cA (.lst [])) hA (.lst []) = H6 at B0
    have lms' : ms.length = (1 + co).toNat := by omega
    have draw : ∀ (rs : List R) (H1 : Hp) (Q' : VK), Both T.C_House t c pl cA hA n ms rs H1 → (∀ (z : Int) H2, Kp t H1 H2 → Tape H2 t c → Q' (.int z) H2) →
        (sp__law_pick K) ([.ref t, .int (1 + co)] ++ []) H1 (fun y H2 => rIxL K (.ref pl) y H2 Q') E0 := fun rs H1 Q' B k => by
      refine ⟨t, c, _, rfl, B.tape, by omega, by omega, fun z H2 z0 z1 k2 t2 => ?_⟩
      have e : z = ((z.toNat : Nat) : Int) := by omega
      refine ⟨pl, _, z, .int (ms.getD z.toNat 0), rfl, rfl, SqL.of (k2 _ _ B.bas.1 B.hpl), ?_, k _ H2 k2 t2⟩
      rw [e]
      exact at_getD (by omega)
    -- for k in range(2)
    refine ⟨2, rfl, by decide, by decide, for_range (lo := 0) (n := 2) (fun i σ' H' => ∃ (o8 o9 : Option V) (rs : List R), σ' = [some (.ref a), some (.ref t), some (.int (1 + tu)), some (.int (1 + co)), some (.int n), some (.ref pl), some (.ref cA), some (.ref hA), o8, o9, none, none, none, none] ∧ rs.length = i ∧ Both T.C_House t c pl cA hA n ms rs H')
      ⟨none, none, [], rfl, rfl, B0⟩ (fun i σ' H7 hi pv => ?_) (fun σ' H7 pv => ?_)⟩
    · obtain ⟨o8, o9, rs, rfl, lrs, B⟩ := pv
      have bas := B.bas
      refine ⟨_, rfl, _, rfl, _, rfl, draw rs H7 _ B fun p H8 k8 t8 => ?_⟩
      have B8 := B.kp k8 t8
      refine ⟨_, rfl, _, rfl, _, rfl, draw rs H8 _ B8 fun x H9 k9 t9 => ?_⟩
      have k9 := k8.trans k9
      refine ⟨lenL (by show 3 ≤ 100000; decide), fun c' nc' => ?_⟩
      have oc := t9.off nc'
      have k10 : Kp t H7 (upd H9 c' (.lst [.int p, .int x, .non])) := k9.new nc'
      have t10 := t9.put (o := .lst [.int p, .int x, .non]) oc
      have nc7 : H7 c' = none := k9.free t9 nc'
      have cc : upd H9 c' (.lst [.int p, .int x, .non]) c' = some (.lst [.int p, .int x, .non]) := upd_same
      generalize upd H9 c' (.lst [.int p, .int x, .non]) = H10 at k10 t10 cc
      -- if _law_pick(tape, 3) > 0
      refine ⟨fun σ' H' => ∃ b, okB b ∧ σ' = [some (.ref a), some (.ref t), some (.int (1 + tu)), some (.int (1 + co)), some (.int n), some (.ref pl), some (.ref cA), some (.ref hA), some (.int (0 + (i : Int))), some (.ref c'), none, none, none, none] ∧ Kp t H7 H' ∧ Tape H' t c ∧ H' c' = some (.lst [.int p, .int x, b]), ?_, ?_⟩
      · refine ⟨_, rfl, t, c, 3, rfl, t10, by decide, by decide, fun d H11 _ _ k11 t11 => ⟨_, _, rfl, rfl, _, rfl, ite2 (fun _ => ?_) (fun _ => ?_)⟩⟩
        · have k11' := k10.trans k11
          refine ⟨_, rfl, _, rfl, _, rfl, draw rs H11 _ (B.kp k11' t11) fun z H12 k12 t12 => ?_⟩
          have cc12 := k12 _ _ oc.1 (k11 _ _ oc.1 cc)
          refine ⟨_, rfl, c', _, 2, 2, rfl, rfl, cc12, rfl, .int z, .inr ⟨z, rfl⟩, rfl, ?_, t12.put oc, upd_same⟩
          intro b o nb e
          have : b ≠ c' := ne_of_none e nc7
          rw [upd_ne this]
          exact k12 _ _ nb (k11' _ _ nb e)
        · exact ⟨.non, .inl rfl, rfl, k10.trans k11, t11, k11 _ _ oc.1 cc⟩
      rintro _ H13 ⟨b, ob, rfl, k13, t13, cc13⟩
      have B13 := B.kp k13 t13
      -- cells.append(cell)
      refine ⟨_, rfl, .inl ⟨rfl, _, SqL.of B13.hca⟩, _, rfl, cA, _, _, rfl, rfl, B13.hca, small1000' (by rw [List.length_map]; omega), ?_⟩
      have nca : c' ≠ cA := fun z => by
        have := B.hca
        rw [← z, nc7] at this
        cases this
      have fr14 : ∀ a o, a ≠ t → a ≠ cA → H7 a = some o → upd H13 cA (.lst (rs.map (fun r => V.ref r.c) ++ [.ref c'])) a = some o := fun a o n1 n2 e => by
        rw [upd_ne n2]
        exact k13 _ _ n1 e
      have t14 := t13.put (o := .lst (rs.map (fun r => V.ref r.c) ++ [.ref c'])) ⟨bas.2.1, bas.2.2.2.2.2.1⟩
      have cc14 : upd H13 cA (.lst (rs.map (fun r => V.ref r.c) ++ [.ref c'])) c' = some (.lst [.int p, .int x, b]) := by rw [upd_ne nca]; exact cc13
      have ca14 : upd H13 cA (.lst (rs.map (fun r => V.ref r.c) ++ [.ref c'])) cA = some (.lst (rs.map (fun r => V.ref r.c) ++ [.ref c'])) := upd_same
      generalize upd H13 cA (.lst (rs.map (fun r => V.ref r.c) ++ [.ref c'])) = H14 at fr14 t14 cc14 ca14
      have ha14 : H14 hA = some (.lst (rs.map fun r => V.ref r.h)) := fr14 _ _ bas.2.2.1 (fun z => bas.2.2.2.2.1 z.symm) B.hha
      have nch : c' ≠ hA := fun z => by
        have := B.hha
        rw [← z, nc7] at this
        cases this
      have last : ∀ (σ' : L2.St) (H17 : Hp) (h' : Addr), σ' = [some (.ref a), some (.ref t), some (.int (1 + tu)), some (.int (1 + co)), some (.int n), some (.ref pl), some (.ref cA), some (.ref hA), some (.int (0 + (i : Int))), some (.ref c'), none, none, none, none] → (∀ a o, a ≠ t → a ≠ hA → H14 a = some o → H17 a = some o) → Tape H17 t c → H17 hA = some (.lst (rs.map (fun r => V.ref r.h) ++ [.ref h'])) → HouseAt T.C_House H17 h' n p x b → H14 h' = none →
          ∃ (o8 o9 : Option V) (rs : List R), σ' = [some (.ref a), some (.ref t), some (.int (1 + tu)), some (.int (1 + co)), some (.int n), some (.ref pl), some (.ref cA), some (.ref hA), o8, o9, none, none, none, none] ∧ rs.length = i + 1 ∧ Both T.C_House t c pl cA hA n ms rs H17 := by
        rintro _ H17 h' rfl fr17 t17 ha17 hh17 nh17
        have nh7 : H7 h' = none := by
          cases e : H7 h' with
          | none => rfl
          | some o =>
            by_cases z1 : h' = t
            · rw [z1] at nh17
              exact absurd nh17 t14.there.1
            · by_cases z2 : h' = cA
              · rw [z2, ca14] at nh17
                cases nh17
              · rw [fr14 _ _ z1 z2 e] at nh17
                cases nh17
        refine ⟨_, _, rs ++ [⟨c', h', p, x, b⟩], rfl, by rw [List.length_append, lrs]; rfl, B.more (fun q o n1 n2 n3 e => fr17 _ _ n1 n3 (fr14 _ _ n1 n2 e)) t17 ?_ ?_ ⟨fr17 _ _ oc.1 nch cc14, hh17, ob⟩ nc7 nh7 ?_⟩
        · rw [fr17 _ _ bas.2.1 bas.2.2.2.2.1 ca14, List.map_append]
          rfl
        · rw [ha17, List.map_append]
          rfl
        · intro z
          have z : c' = h' := z
          rw [← z, cc14] at nh17
          cases nh17
      -- a new house, appended
      have fin : ∀ (H15 : Hp), Kp t H14 H15 → Tape H15 t c → ∀ (h' dx' : Addr) (H16 : Hp) (Q' : VK), H15 h' = none → H15 dx' = none → Kp h' (upd (upd H15 dx' (.own h')) h' (.ins T.C_House dx' [])) H16 → HouseAt T.C_House H16 h' n p x b →
          (∀ H17, (∀ a o, a ≠ t → a ≠ hA → H14 a = some o → H17 a = some o) → Tape H17 t c → H17 hA = some (.lst (rs.map (fun r => V.ref r.h) ++ [.ref h'])) → HouseAt T.C_House H17 h' n p x b → H14 h' = none → Q' .non H17) → rAppend (.ref hA) [.ref h'] H16 Q' :=
        fun H15 k15 t15 h' dx' H16 Q' nh nd kk hh fin => by
          have up : Same H15 H16 := fun q o e => kk q o (ne_of_none e nh) (by rw [upd_ne (ne_of_none e nh), upd_ne (ne_of_none e nd)]; exact e)
          have ha15 := k15 _ _ bas.2.2.1 ha14
          have hneh : h' ≠ hA := fun z => by rw [z, ha15] at nh; cases nh
          refine ⟨hA, _, _, rfl, rfl, up _ _ ha15, small1000' (by rw [List.length_map]; omega), fin _ (fun q o n1 n2 e => ?_) ?_ upd_same ?_ (k15.free t15 nh)⟩
          · rw [upd_ne n2]
            exact up _ _ (k15 _ _ n1 e)
          · exact (t15.same up).put ⟨bas.2.2.1, bas.2.2.2.2.2.2.1⟩
          · obtain ⟨dx2, e⟩ := hh
            exact ⟨dx2, by rw [upd_ne hneh]; exact e⟩
      refine ⟨_, rfl, c', _, 2, b, rfl, rfl, SqL.of cc14, rfl, rfl, _, rfl, ite2 (fun e => ?_) (fun e => ?no1)⟩
      · have e := of_decide_eq_true e
        subst e
        refine ⟨_, rfl, t, c, 2, rfl, t14, by decide, by decide, fun d H15 _ _ k15 t15 => ⟨rfl, _, rfl, ite2 (fun _ => ?_) (fun _ => ?no2)⟩⟩
        · have cc15 := k15 _ _ oc.1 cc14
          refine ⟨_, rfl, .inl ⟨rfl, _, SqL.of (k15 _ _ bas.2.2.1 ha14)⟩, _, rfl, _, rfl, c', _, 0, .int p, rfl, rfl, SqL.of cc15, rfl, _, rfl, c', _, 1, .int x, rfl, rfl, SqL.of cc15, rfl, ?_⟩
          intro h' dx' nh nd ne
          refine ⟨h', dx', n, p, x, .non, rfl, upd_same, fun H16 hh kk => ⟨rfl, ?_⟩⟩
          dsimp only [tNil]
          refine fin H15 k15 t15 h' dx' H16 _ nh nd kk hh (fun H17 f1 f2 f3 f4 f5 => ?_)
          exact last _ H17 h' rfl f1 f2 f3 f4 f5
        case no2 =>
          have kE : Kp t H14 H15 := k15
          have tE : Tape H15 t c := t15
          obtain ⟨b, hb⟩ : ∃ b, b = V.non := ⟨_, rfl⟩
          rw [← hb] at cc14 fin last
          clear k15 t15
          refine ⟨_, rfl, t, c, 3, rfl, tE, by decide, by decide, fun d H15 _ _ k15 t15 => ⟨rfl, _, rfl, ite2 (fun _ => ?_) (fun _ => ?_)⟩⟩
          · have kE2 := kE.trans k15
            have cc15 := kE2 _ _ oc.1 cc14
            refine ⟨_, rfl, .inl ⟨rfl, _, SqL.of (kE2 _ _ bas.2.2.1 ha14)⟩, _, rfl, _, rfl, c', _, 0, .int p, rfl, rfl, SqL.of cc15, rfl, _, rfl, c', _, 1, .int x, rfl, rfl, SqL.of cc15, rfl, _, rfl, c', _, 2, b, rfl, rfl, SqL.of cc15, rfl, rfl, rfl, ?_⟩
            intro h' dx' nh nd ne
            refine ⟨h', dx', n, p, x, b, rfl, upd_same, fun H16 hh kk => ⟨rfl, ?_⟩⟩
            dsimp only [tNil]
            refine fin H15 kE2 t15 h' dx' H16 _ nh nd kk hh (fun H17 f1 f2 f3 f4 f5 => ?_)
            exact last _ H17 h' rfl f1 f2 f3 f4 f5
          · have kE2 := kE.trans k15
            have cc15 := kE2 _ _ oc.1 cc14
            refine ⟨_, rfl, .inl ⟨rfl, _, SqL.of (kE2 _ _ bas.2.2.1 ha14)⟩, _, rfl, _, rfl, c', _, 0, .int p, rfl, rfl, SqL.of cc15, rfl, _, rfl, c', _, 1, .int x, rfl, rfl, SqL.of cc15, rfl, _, rfl, c', _, 2, b, rfl, rfl, SqL.of cc15, rfl, ?_⟩
            intro h' dx' nh nd ne
            refine ⟨h', dx', n, p, x, b, rfl, upd_same, fun H16 hh kk => ⟨rfl, ?_⟩⟩
            dsimp only [tNil]
            refine fin H15 kE2 t15 h' dx' H16 _ nh nd kk hh (fun H17 f1 f2 f3 f4 f5 => ?_)
            exact last _ H17 h' rfl f1 f2 f3 f4 f5
      case no1 =>
        have kE : Kp t H14 H14 := .refl _ _
        have tE : Tape H14 t c := t14
        refine ⟨_, rfl, t, c, 3, rfl, tE, by decide, by decide, fun d H15 _ _ k15 t15 => ⟨rfl, _, rfl, ite2 (fun _ => ?_) (fun _ => ?_)⟩⟩
        · have kE2 := kE.trans k15
          have cc15 := kE2 _ _ oc.1 cc14
          refine ⟨_, rfl, .inl ⟨rfl, _, SqL.of (kE2 _ _ bas.2.2.1 ha14)⟩, _, rfl, _, rfl, c', _, 0, .int p, rfl, rfl, SqL.of cc15, rfl, _, rfl, c', _, 1, .int x, rfl, rfl, SqL.of cc15, rfl, _, rfl, c', _, 2, b, rfl, rfl, SqL.of cc15, rfl, rfl, rfl, ?_⟩
          intro h' dx' nh nd ne
          refine ⟨h', dx', n, p, x, b, rfl, upd_same, fun H16 hh kk => ⟨rfl, ?_⟩⟩
          dsimp only [tNil]
          refine fin H15 kE2 t15 h' dx' H16 _ nh nd kk hh (fun H17 f1 f2 f3 f4 f5 => ?_)
          exact last _ H17 h' rfl f1 f2 f3 f4 f5
        · have kE2 := kE.trans k15
          have cc15 := kE2 _ _ oc.1 cc14
          refine ⟨_, rfl, .inl ⟨rfl, _, SqL.of (kE2 _ _ bas.2.2.1 ha14)⟩, _, rfl, _, rfl, c', _, 0, .int p, rfl, rfl, SqL.of cc15, rfl, _, rfl, c', _, 1, .int x, rfl, rfl, SqL.of cc15, rfl, _, rfl, c', _, 2, b, rfl, rfl, SqL.of cc15, rfl, ?_⟩
          intro h' dx' nh nd ne
          refine ⟨h', dx', n, p, x, b, rfl, upd_same, fun H16 hh kk => ⟨rfl, ?_⟩⟩
          dsimp only [tNil]
          refine fin H15 kE2 t15 h' dx' H16 _ nh nd kk hh (fun H17 f1 f2 f3 f4 f5 => ?_)
          exact last _ H17 h' rfl f1 f2 f3 f4 f5
    · obtain ⟨o8, o9, rs, rfl, lrs, B⟩ := pv
      obtain ⟨r1, r2, rfl⟩ := two_of lrs
      have i1 := B.each r1 (by simp)
      refine ⟨_, rfl, hA, _, 0, .ref r1.h, rfl, rfl, SqL.of B.hha, rfl, _, rfl, _, rfl, cA, _, 0, .ref r1.c, rfl, rfl, SqL.of B.hca, rfl, r1.h, r1.c, n, r1.p, r1.x, r1.b, rfl, i1.2.1, i1.1, i1.2.2, fun Ha sa => ⟨true, rfl, iteF ?_⟩⟩
      have B := B.same sa
      have i2 := B.each r2 (by simp)
      refine ⟨_, rfl, hA, _, 1, .ref r2.h, rfl, rfl, SqL.of B.hha, rfl, _, rfl, _, rfl, cA, _, 1, .ref r2.c, rfl, rfl, SqL.of B.hca, rfl, r2.h, r2.c, n, r2.p, r2.x, r2.b, rfl, i2.2.1, i2.1, i2.2.2, fun Hb sb => ⟨true, rfl, iteF ?_⟩⟩
      have B := B.same sb
      -- for k in range(turns)
      refine ⟨_, rfl, 1 + tu, rfl, by omega, by omega, ?_⟩
      refine for_range (lo := 0) (n := (1 + tu).toNat) (fun i σ' H' => ∃ (o8 o9 o10 o11 o12 o13 : Option V) (r1 r2 : R), σ' = [some (.ref a), some (.ref t), some (.int (1 + tu)), some (.int (1 + co)), some (.int n), some (.ref pl), some (.ref cA), some (.ref hA), o8, o9, o10, o11, o12, o13] ∧ Both T.C_House t c pl cA hA n ms [r1, r2] H')
        ⟨o8, o9, none, none, none, none, r1, r2, rfl, B⟩ (fun i σ' H8 hi pv => ?_) (fun σ' H8 pv => ?_)
      · obtain ⟨o8, o9, o10, o11, o12, o13, r1, r2, rfl, B⟩ := pv
        refine ⟨_, rfl, t, c, 2, rfl, B.tape, by decide, by decide, fun d H9 d0 d1 k9 t9 => ?_⟩
        have B := B.kp k9 t9
        obtain ⟨ra, one, g1, g2, ne, _⟩ := B.pick d0 d1
        refine ⟨_, rfl, _, rfl, _, rfl, _, rfl, cA, _, d, _, rfl, rfl, SqL.of B.hca, g1, t, c, pl, ra.c, ms, ra.p, ra.x, ra.b, rfl, B.tape, B.bas.1, (ne t (by simp)).1, B.hpl, by omega, by omega, one.1, fun l L H10 nl hl k10 t10 => ?_⟩
        have B := B.kp k10 t10
        -- for m in range([1, 1, 1, 2][..])
        refine ⟨lenL (by show 4 ≤ 100000; decide), fun p4 n4 => ?_⟩
        have B4 := B.same (same_upd (o := .lst [.int 1, .int 1, .int 1, .int 2]) n4)
        have n4t := B.tape.off n4
        have hl4 : upd H10 p4 (.lst [.int 1, .int 1, .int 1, .int 2]) l = some (.tup L.vals) := by rw [upd_ne (ne_of_none hl n4)]; exact hl
        refine ⟨_, rfl, t, c, 4, rfl, B4.tape, by decide, by decide, fun z H11 z0 z1 k11 t11 => ?_⟩
        have B := B4.kp k11 t11
        have hp4 := k11 _ _ n4t.1 upd_same
        have hl := k11 _ _ (B4.tape.ne_tup hl4) hl4
        obtain ⟨y, hy, y0, y1⟩ : ∃ y : Int, atI [V.int 1, V.int 1, V.int 1, V.int 2] z = some (.int y) ∧ 1 ≤ y ∧ y ≤ 2 := by
          have e : z = 0 ∨ z = 1 ∨ z = 2 ∨ z = 3 := by omega
          rcases e with rfl | rfl | rfl | rfl
          · exact ⟨1, rfl, by decide, by decide⟩
          · exact ⟨1, rfl, by decide, by decide⟩
          · exact ⟨1, rfl, by decide, by decide⟩
          · exact ⟨2, rfl, by decide, by decide⟩
        refine ⟨p4, _, z, _, rfl, rfl, SqL.of hp4, hy, y, rfl, by omega, by omega, ?_⟩
        refine for_range (lo := 0) (n := y.toNat) (fun j σ' H' => ∃ (o12 o13 : Option V) (r1 r2 : R), σ' = [some (.ref a), some (.ref t), some (.int (1 + tu)), some (.int (1 + co)), some (.int n), some (.ref pl), some (.ref cA), some (.ref hA), some (.int (0 + (i : Int))), o9, some (.int d), some (.ref l), o12, o13] ∧ Both T.C_House t c pl cA hA n ms [r1, r2] H' ∧ H' l = some (.tup L.vals))
          ⟨o12, o13, r1, r2, rfl, B, hl⟩ (fun j σ' H12 hj pv => ?_) (fun σ' H12 pv => ?_)
        · obtain ⟨o12, o13, r1, r2, rfl, B, hl⟩ := pv
          obtain ⟨ra, one, g1, g2, ne, up⟩ := B.pick d0 d1
          obtain ⟨hc, ⟨dx, hh⟩, ob⟩ := one
          have hn : 0 < n := by omega
          have hc' : H12 ra.c = some (.lst [.int ra.p, .int ra.x, ra.b]) := hc
          refine ⟨_, rfl, _, rfl, _, rfl, cA, _, d, _, rfl, rfl, SqL.of B.hca, g1, _, rfl, ra.c, l, n, ra.p, ra.x, ra.b, L, rfl, hc, ob, hn, SqT.of hl, fun v1 H13 c13 k13 a13 => ?_⟩
          have hl13 := k13 _ _ (ne_of hl hc' (by intro z; cases z)) hl
          have hh13 := k13 _ _ (ne_of hh hc' (by intro z; cases z)) hh
          have ha13 := k13 _ _ (fun z => (ne hA (by simp)).1 z.symm) B.hha
          refine ⟨_, rfl, _, rfl, hA, _, d, _, rfl, rfl, SqL.of ha13, g2, ra.h, dx, _, rfl, hh13, (by unfold hf; walk_at "lk"), _, rfl, ra.h, l, n, ra.p, ra.x, ra.b, L, rfl, ⟨dx, hh13⟩, ob, hn, SqT.of hl13, fun v2 H14 c14 k14 a14 => ?_⟩
          have hl14 := k14 _ _ (ne_of hl13 hh13 (by intro z; cases z)) hl13
          have a13' := ans_keep a13 (fun q ys e => k14 _ _ (ne_of e hh13 (by intro z; cases z)) e)
          obtain ⟨r3, r4, B⟩ := up _ _ _ _ k13 c13 k14 c14 (ob.hB L)
          refine ⟨_, rfl, v2, v1, rfl, ans_same a14 a13', fun H15 s15 => ⟨true, rfl, iteF ?_⟩⟩
          have B := B.same s15
          have hl := s15 _ _ hl14
          have i1 := B.each r3 (by simp)
          refine ⟨_, rfl, hA, _, 0, .ref r3.h, rfl, rfl, SqL.of B.hha, rfl, _, rfl, _, rfl, cA, _, 0, .ref r3.c, rfl, rfl, SqL.of B.hca, rfl, r3.h, r3.c, n, r3.p, r3.x, r3.b, rfl, i1.2.1, i1.1, i1.2.2, fun Ha sa => ⟨true, rfl, iteF ?_⟩⟩
          have B := B.same sa
          have i2 := B.each r4 (by simp)
          refine ⟨_, rfl, hA, _, 1, .ref r4.h, rfl, rfl, SqL.of B.hha, rfl, _, rfl, _, rfl, cA, _, 1, .ref r4.c, rfl, rfl, SqL.of B.hca, rfl, r4.h, r4.c, n, r4.p, r4.x, r4.b, rfl, i2.2.1, i2.1, i2.2.2, fun Hb sb => ⟨true, rfl, iteF ?_⟩⟩
          exact ⟨_, _, r3, r4, rfl, B.same sb, sb _ _ (sa _ _ hl)⟩
        · obtain ⟨o12, o13, r1, r2, rfl, B, hl⟩ := pv
          exact ⟨_, _, _, _, _, _, r1, r2, rfl, B⟩
      · exact q _
end
theorem all_mk {l : PySem.W.OpenLaw} {w : World} {K : PySem.W.Frag} {h : Heap} {mg : Str → Option Value} {fa : Addr} (X : K.In h) (G : h.Ns mainGlobals mg) (hfa : mg "law" = some (.ref fa))
    {f0 : Addr} {od0 an0 : Option Addr} {sl0 : Array (Option Value)} {oc0 kV0 dc0 pm0 cd0 ct0 : Value}
    {f1 : Addr} {od1 an1 : Option Addr} {sl1 : Array (Option Value)} {oc1 kV1 dc1 pm1 cd1 ct1 : Value}
    {f2 : Addr} {od2 an2 : Option Addr} {sl2 : Array (Option Value)} {oc2 kV2 dc2 pm2 cd2 ct2 : Value}
    {f3 : Addr} {od3 an3 : Option Addr} {sl3 : Array (Option Value)} {oc3 kV3 dc3 pm3 cd3 ct3 : Value}
    {f4 : Addr} {od4 an4 : Option Addr} {sl4 : Array (Option Value)} {oc4 kV4 dc4 pm4 cd4 ct4 : Value}
    {f5 : Addr} {od5 an5 : Option Addr} {sl5 : Array (Option Value)} {oc5 kV5 dc5 pm5 cd5 ct5 : Value}
    {f6 : Addr} {od6 an6 : Option Addr} {sl6 : Array (Option Value)} {oc6 kV6 dc6 pm6 cd6 ct6 : Value}
    {f7 : Addr} {od7 an7 : Option Addr} {sl7 : Array (Option Value)} {oc7 kV7 dc7 pm7 cd7 ct7 : Value}
    {f8 : Addr} {od8 an8 : Option Addr} {sl8 : Array (Option Value)} {oc8 kV8 dc8 pm8 cd8 ct8 : Value}
    {f9 : Addr} {od9 an9 : Option Addr} {sl9 : Array (Option Value)} {oc9 kV9 dc9 pm9 cd9 ct9 : Value}
    {f10 : Addr} {od10 an10 : Option Addr} {sl10 : Array (Option Value)} {oc10 kV10 dc10 pm10 cd10 ct10 : Value}
    {f11 : Addr} {od11 an11 : Option Addr} {sl11 : Array (Option Value)} {oc11 kV11 dc11 pm11 cd11 ct11 : Value}
    {f12 : Addr} {od12 an12 : Option Addr} {sl12 : Array (Option Value)} {oc12 kV12 dc12 pm12 cd12 ct12 : Value}
    {f13 : Addr} {od13 an13 : Option Addr} {sl13 : Array (Option Value)} {oc13 kV13 dc13 pm13 cd13 ct13 : Value}
    {f14 : Addr} {od14 an14 : Option Addr} {sl14 : Array (Option Value)} {oc14 kV14 dc14 pm14 cd14 ct14 : Value}
    {f15 : Addr} {od15 an15 : Option Addr} {sl15 : Array (Option Value)} {oc15 kV15 dc15 pm15 cd15 ct15 : Value}
    {f16 : Addr} {od16 an16 : Option Addr} {sl16 : Array (Option Value)} {oc16 kV16 dc16 pm16 cd16 ct16 : Value}
    {f17 : Addr} {od17 an17 : Option Addr} {sl17 : Array (Option Value)} {oc17 kV17 dc17 pm17 cd17 ct17 : Value}
    {f18 : Addr} {od18 an18 : Option Addr} {sl18 : Array (Option Value)} {oc18 kV18 dc18 pm18 cd18 ct18 : Value}
    {f19 : Addr} {od19 an19 : Option Addr} {sl19 : Array (Option Value)} {oc19 kV19 dc19 pm19 cd19 ct19 : Value}
    (a0 : PySem.W.nsIn K mainGlobals "_law_tape" = some (some (.ref f0)))
    (l0 : K.lookup f0 = some ⟨oc0, od0, .func (PySem.W.fnOf "_law_tape" "_law_tape" (defArgs s__law_tape) (defBody s__law_tape) (defScope s__law_tape) .none kV0 dc0 pm0 an0 cd0 ct0), sl0⟩) (c0 : PySem.W.codeIn K cd0 "_law_tape" = true) (k0 : PySem.W.keepIn K (.ref f0) = true)
    (a1 : PySem.W.nsIn K mainGlobals "_law_pick" = some (some (.ref f1)))
    (l1 : K.lookup f1 = some ⟨oc1, od1, .func (PySem.W.fnOf "_law_pick" "_law_pick" (defArgs s__law_pick) (defBody s__law_pick) (defScope s__law_pick) .none kV1 dc1 pm1 an1 cd1 ct1), sl1⟩) (c1 : PySem.W.codeIn K cd1 "_law_pick" = true) (k1 : PySem.W.keepIn K (.ref f1) = true)
    (a2 : PySem.W.nsIn K mainGlobals "_law_same" = some (some (.ref f2)))
    (l2 : K.lookup f2 = some ⟨oc2, od2, .func (PySem.W.fnOf "_law_same" "_law_same" (defArgs s__law_same) (defBody s__law_same) (defScope s__law_same) .none kV2 dc2 pm2 an2 cd2 ct2), sl2⟩) (c2 : PySem.W.codeIn K cd2 "_law_same" = true) (k2 : PySem.W.keepIn K (.ref f2) = true)
    (a3 : PySem.W.nsIn K mainGlobals "_law_size" = some (some (.ref f3)))
    (l3 : K.lookup f3 = some ⟨oc3, od3, .func (PySem.W.fnOf "_law_size" "_law_size" (defArgs s__law_size) (defBody s__law_size) (defScope s__law_size) .none kV3 dc3 pm3 an3 cd3 ct3), sl3⟩) (c3 : PySem.W.codeIn K cd3 "_law_size" = true) (k3 : PySem.W.keepIn K (.ref f3) = true)
    (a4 : PySem.W.nsIn K mainGlobals "far" = some (some (.ref f4)))
    (l4 : K.lookup f4 = some ⟨oc4, od4, .func (PySem.W.fnOf "far" "far" (defArgs s_far) (defBody s_far) (defScope s_far) .none kV4 dc4 pm4 an4 cd4 ct4), sl4⟩) (c4 : PySem.W.codeIn K cd4 "far" = true) (k4 : PySem.W.keepIn K (.ref f4) = true)
    (a5 : PySem.W.nsIn K mainGlobals "between" = some (some (.ref f5)))
    (l5 : K.lookup f5 = some ⟨oc5, od5, .func (PySem.W.fnOf "between" "between" (defArgs s_between) (defBody s_between) (defScope s_between) .none kV5 dc5 pm5 an5 cd5 ct5), sl5⟩) (c5 : PySem.W.codeIn K cd5 "between" = true) (k5 : PySem.W.keepIn K (.ref f5) = true)
    {TT6 : Addr} {tc6 : Value} {td6 : Option Addr} {tn6 : Nat} {ts6 : Array (Option Value)} (lt6 : K.lookup TT6 = some ⟨tc6, td6, .seq [.none].toArray tn6, ts6⟩)
    (l6 : K.lookup f6 = some ⟨oc6, od6, .func (PySem.W.fnOf "__init__" "House.__init__" (defArgs s_House__init) (defBody s_House__init) (defScope s_House__init) (.ref TT6) kV6 dc6 pm6 an6 cd6 ct6), sl6⟩) (c6 : PySem.W.codeIn K cd6 "House.__init__" = true) (k6 : PySem.W.keepIn K (.ref f6) = true)
    (l7 : K.lookup f7 = some ⟨oc7, od7, .func (PySem.W.fnOf "tell_letter" "House.tell_letter" (defArgs s_House__tell_letter) (defBody s_House__tell_letter) (defScope s_House__tell_letter) .none kV7 dc7 pm7 an7 cd7 ct7), sl7⟩) (c7 : PySem.W.codeIn K cd7 "House.tell_letter" = true) (k7 : PySem.W.keepIn K (.ref f7) = true)
    (l8 : K.lookup f8 = some ⟨oc8, od8, .func (PySem.W.fnOf "ask_letter" "House.ask_letter" (defArgs s_House__ask_letter) (defBody s_House__ask_letter) (defScope s_House__ask_letter) .none kV8 dc8 pm8 an8 cd8 ct8), sl8⟩) (c8 : PySem.W.codeIn K cd8 "House.ask_letter" = true) (k8 : PySem.W.keepIn K (.ref f8) = true)
    (l9 : K.lookup f9 = some ⟨oc9, od9, .func (PySem.W.fnOf "_answer_to" "House._answer_to" (defArgs s_House__answer_to) (defBody s_House__answer_to) (defScope s_House__answer_to) .none kV9 dc9 pm9 an9 cd9 ct9), sl9⟩) (c9 : PySem.W.codeIn K cd9 "House._answer_to" = true) (k9 : PySem.W.keepIn K (.ref f9) = true)
    (l10 : K.lookup f10 = some ⟨oc10, od10, .func (PySem.W.fnOf "_hear_tell" "House._hear_tell" (defArgs s_House__hear_tell) (defBody s_House__hear_tell) (defScope s_House__hear_tell) .none kV10 dc10 pm10 an10 cd10 ct10), sl10⟩) (c10 : PySem.W.codeIn K cd10 "House._hear_tell" = true) (k10 : PySem.W.keepIn K (.ref f10) = true)
    (l11 : K.lookup f11 = some ⟨oc11, od11, .func (PySem.W.fnOf "_hear_answer" "House._hear_answer" (defArgs s_House__hear_answer) (defBody s_House__hear_answer) (defScope s_House__hear_answer) .none kV11 dc11 pm11 an11 cd11 ct11), sl11⟩) (c11 : PySem.W.codeIn K cd11 "House._hear_answer" = true) (k11 : PySem.W.keepIn K (.ref f11) = true)
    (l12 : K.lookup f12 = some ⟨oc12, od12, .func (PySem.W.fnOf "hear" "House.hear" (defArgs s_House__hear) (defBody s_House__hear) (defScope s_House__hear) .none kV12 dc12 pm12 an12 cd12 ct12), sl12⟩) (c12 : PySem.W.codeIn K cd12 "House.hear" = true) (k12 : PySem.W.keepIn K (.ref f12) = true)
    (a13 : PySem.W.nsIn K mainGlobals "_law_places" = some (some (.ref f13)))
    (l13 : K.lookup f13 = some ⟨oc13, od13, .func (PySem.W.fnOf "_law_places" "_law_places" (defArgs s__law_places) (defBody s__law_places) (defScope s__law_places) .none kV13 dc13 pm13 an13 cd13 ct13), sl13⟩) (c13 : PySem.W.codeIn K cd13 "_law_places" = true) (k13 : PySem.W.keepIn K (.ref f13) = true)
    (a14 : PySem.W.nsIn K mainGlobals "_law_far" = some (some (.ref f14)))
    (l14 : K.lookup f14 = some ⟨oc14, od14, .func (PySem.W.fnOf "_law_far" "_law_far" (defArgs s__law_far) (defBody s__law_far) (defScope s__law_far) .none kV14 dc14 pm14 an14 cd14 ct14), sl14⟩) (c14 : PySem.W.codeIn K cd14 "_law_far" = true) (k14 : PySem.W.keepIn K (.ref f14) = true)
    (a15 : PySem.W.nsIn K mainGlobals "_law_between" = some (some (.ref f15)))
    (l15 : K.lookup f15 = some ⟨oc15, od15, .func (PySem.W.fnOf "_law_between" "_law_between" (defArgs s__law_between) (defBody s__law_between) (defScope s__law_between) .none kV15 dc15 pm15 an15 cd15 ct15), sl15⟩) (c15 : PySem.W.codeIn K cd15 "_law_between" = true) (k15 : PySem.W.keepIn K (.ref f15) = true)
    (a16 : PySem.W.nsIn K mainGlobals "_law_letter" = some (some (.ref f16)))
    (l16 : K.lookup f16 = some ⟨oc16, od16, .func (PySem.W.fnOf "_law_letter" "_law_letter" (defArgs s__law_letter) (defBody s__law_letter) (defScope s__law_letter) .none kV16 dc16 pm16 an16 cd16 ct16), sl16⟩) (c16 : PySem.W.codeIn K cd16 "_law_letter" = true) (k16 : PySem.W.keepIn K (.ref f16) = true)
    (a17 : PySem.W.nsIn K mainGlobals "_law_hears" = some (some (.ref f17)))
    (l17 : K.lookup f17 = some ⟨oc17, od17, .func (PySem.W.fnOf "_law_hears" "_law_hears" (defArgs s__law_hears) (defBody s__law_hears) (defScope s__law_hears) .none kV17 dc17 pm17 an17 cd17 ct17), sl17⟩) (c17 : PySem.W.codeIn K cd17 "_law_hears" = true) (k17 : PySem.W.keepIn K (.ref f17) = true)
    (a18 : PySem.W.nsIn K mainGlobals "_law_is" = some (some (.ref f18)))
    (l18 : K.lookup f18 = some ⟨oc18, od18, .func (PySem.W.fnOf "_law_is" "_law_is" (defArgs s__law_is) (defBody s__law_is) (defScope s__law_is) .none kV18 dc18 pm18 an18 cd18 ct18), sl18⟩) (c18 : PySem.W.codeIn K cd18 "_law_is" = true) (k18 : PySem.W.keepIn K (.ref f18) = true)
    (a19 : PySem.W.nsIn K mainGlobals "law" = some (some (.ref f19)))
    (l19 : K.lookup f19 = some ⟨oc19, od19, .func (PySem.W.fnOf "law" "law" (defArgs s_law) (defBody s_law) (defScope s_law) .none kV19 dc19 pm19 an19 cd19 ct19), sl19⟩) (c19 : PySem.W.codeIn K cd19 "law" = true) (k19 : PySem.W.keepIn K (.ref f19) = true)
    {C0 : Addr} (aC0 : PySem.W.nsIn K mainGlobals "House" = some (some (.ref C0))) (pg0 : PySem.W.plainGet K C0 Str.empty = true) (hd0 : PySem.W.hasDictIn K C0 = true) (po0 : PySem.W.plainOver K C0 = true) (sa0 : PySem.W.findIn K (.ref C0) "__setattr__" = some (some (.builtin "object.__setattr__"))) (mk0 : PySem.W.makesIn K C0 = true) (kc0 : PySem.W.keepIn K (.ref C0) = true)
    (na0_0 : PySem.W.findIn K (.ref C0) "size" = some none)
    (na0_1 : PySem.W.findIn K (.ref C0) "place" = some none)
    (na0_2 : PySem.W.findIn K (.ref C0) "next_house" = some none)
    (na0_3 : PySem.W.findIn K (.ref C0) "before" = some none)
    (am6 : PySem.W.findIn K (.ref C0) "__init__" = some (some (.ref f6))) (ai6 : PySem.W.isFn K (.ref f6) = true)
    (am7 : PySem.W.findIn K (.ref C0) "tell_letter" = some (some (.ref f7))) (ai7 : PySem.W.isFn K (.ref f7) = true)
    (am8 : PySem.W.findIn K (.ref C0) "ask_letter" = some (some (.ref f8))) (ai8 : PySem.W.isFn K (.ref f8) = true)
    (am9 : PySem.W.findIn K (.ref C0) "_answer_to" = some (some (.ref f9))) (ai9 : PySem.W.isFn K (.ref f9) = true)
    (am10 : PySem.W.findIn K (.ref C0) "_hear_tell" = some (some (.ref f10))) (ai10 : PySem.W.isFn K (.ref f10) = true)
    (am11 : PySem.W.findIn K (.ref C0) "_hear_answer" = some (some (.ref f11))) (ai11 : PySem.W.isFn K (.ref f11) = true)
    (am12 : PySem.W.findIn K (.ref C0) "hear" = some (some (.ref f12))) (ai12 : PySem.W.isFn K (.ref f12) = true)
    (z0 : PySem.W.nsIn K mainGlobals "abs" = some none)
    (z1 : PySem.W.nsIn K mainGlobals "bool" = some none)
    (z2 : PySem.W.nsIn K mainGlobals "dict" = some none)
    (z3 : PySem.W.nsIn K mainGlobals "int" = some none)
    (z4 : PySem.W.nsIn K mainGlobals "isinstance" = some none)
    (z5 : PySem.W.nsIn K mainGlobals "len" = some none)
    (z6 : PySem.W.nsIn K mainGlobals "list" = some none)
    (z7 : PySem.W.nsIn K mainGlobals "max" = some none)
    (z8 : PySem.W.nsIn K mainGlobals "range" = some none)
    (z9 : PySem.W.nsIn K mainGlobals "sorted" = some none)
    (z10 : PySem.W.nsIn K mainGlobals "str" = some none)
    (z11 : PySem.W.nsIn K mainGlobals "tuple" = some none)
    : ∃ fd : FuncData, (∀ (s : Shared) (v : Value), BindsTo s fd ⟨[v], []⟩ [("script", v)]) ∧ ∀ base : Heap, K.In base → base.Ns mainGlobals mg → FnOk l.prog w K mg base CX0 6 fa fd ["script"] (sp_law K) := by
  have e := hfa.symm.trans (PySem.W.mg_of X G a19)
  cases e
  have FD6 : FunD K "__init__" "House.__init__" (defArgs s_House__init) (defBody s_House__init) (defScope s_House__init) [.non] [] f6 _ := ⟨⟨_, _, _, _, _, _, _, _, _, _, rfl, l6, c6, .inr ⟨by decide, _, _, _, _, rfl, lt6, rfl, .cons rfl (.nil)⟩, .inl rfl⟩, k6⟩
  obtain ⟨da6, dva6, db6⟩ := FD6.binds1 (ps := ["self", "size", "place", "next_house", "before"]) 5 1 (by decide) rfl (fun _ _ _ _ _ _ _ us its l1 l2 => match us, its, l1, l2 with | [_, _, _, _, _], [_], _, _ => ⟨_, rfl, rfl⟩)
  cases dva6
  obtain ⟨de6, dve6, dbe6⟩ := FD6.binds1 (ps := ["self", "size", "place", "next_house", "before"]) 4 0 (by decide) rfl (fun _ _ _ _ _ _ _ us its l1 l2 => match us, its, l1, l2 with | [_, _, _, _], [_], _, _ => ⟨_, rfl, rfl⟩)
  obtain ⟨dk6, dbk6⟩ := FD6.kbindsD (ps := ["self", "size", "place", "next_house", "before"]) 4 ["before"] (fun us _ ws => us ++ ws) (by decide) (fun r1 _ r3 => r1.append r3) (fun _ _ _ _ _ _ _ us its ws l1 l2 l3 => match us, its, ws, l1, l2, l3 with | [_, _, _, _], [_], [_], _, _, _ => ⟨_, rfl, rfl⟩)
  let T : T0 K mg := {
    m_abs := PySem.W.mg_none_of X G z0,
    m_bool := PySem.W.mg_none_of X G z1,
    m_dict := PySem.W.mg_none_of X G z2,
    m_int := PySem.W.mg_none_of X G z3,
    m_isinstance := PySem.W.mg_none_of X G z4,
    m_len := PySem.W.mg_none_of X G z5,
    m_list := PySem.W.mg_none_of X G z6,
    m_max := PySem.W.mg_none_of X G z7,
    m_range := PySem.W.mg_none_of X G z8,
    m_sorted := PySem.W.mg_none_of X G z9,
    m_str := PySem.W.mg_none_of X G z10,
    m_tuple := PySem.W.mg_none_of X G z11,
    a__law_tape := f0,
    fd__law_tape := _,
    F__law_tape := fun_mk (st := s__law_tape) l0 c0 k0,
    b__law_tape := (fun_mk (st := s__law_tape) l0 c0 k0).binds (ps := ["script"]) fun _ _ _ _ _ _ us hl => match us, hl with | [_], _ => rfl,
    g__law_tape := PySem.W.mg_of X G a0,
    a__law_pick := f1,
    fd__law_pick := _,
    F__law_pick := fun_mk (st := s__law_pick) l1 c1 k1,
    b__law_pick := (fun_mk (st := s__law_pick) l1 c1 k1).binds (ps := ["tape", "size"]) fun _ _ _ _ _ _ us hl => match us, hl with | [_, _], _ => rfl,
    g__law_pick := PySem.W.mg_of X G a1,
    a__law_same := f2,
    fd__law_same := _,
    F__law_same := fun_mk (st := s__law_same) l2 c2 k2,
    b__law_same := (fun_mk (st := s__law_same) l2 c2 k2).binds (ps := ["actual", "due"]) fun _ _ _ _ _ _ us hl => match us, hl with | [_, _], _ => rfl,
    g__law_same := PySem.W.mg_of X G a2,
    a__law_size := f3,
    fd__law_size := _,
    F__law_size := fun_mk (st := s__law_size) l3 c3 k3,
    b__law_size := (fun_mk (st := s__law_size) l3 c3 k3).binds (ps := ["tape", "count"]) fun _ _ _ _ _ _ us hl => match us, hl with | [_, _], _ => rfl,
    g__law_size := PySem.W.mg_of X G a3,
    a_far := f4,
    fd_far := _,
    F_far := fun_mk (st := s_far) l4 c4 k4,
    b_far := (fun_mk (st := s_far) l4 c4 k4).binds (ps := ["size", "start", "end"]) fun _ _ _ _ _ _ us hl => match us, hl with | [_, _, _], _ => rfl,
    g_far := PySem.W.mg_of X G a4,
    a_between := f5,
    fd_between := _,
    F_between := fun_mk (st := s_between) l5 c5 k5,
    b_between := (fun_mk (st := s_between) l5 c5 k5).binds (ps := ["size", "start", "place", "end"]) fun _ _ _ _ _ _ us hl => match us, hl with | [_, _, _, _], _ => rfl,
    g_between := PySem.W.mg_of X G a5,
    a_House__init := f6,
    fd_House__init := _,
    F_House__init := FD6,
    b_House__init := db6,
    bd_House__init := de6,
    bv_House__init := dve6,
    b1_House__init := dbe6,
    kg_House__init := _,
    kb_House__init := dbk6,
    a_House__tell_letter := f7,
    fd_House__tell_letter := _,
    F_House__tell_letter := fun_mk (st := s_House__tell_letter) l7 c7 k7,
    b_House__tell_letter := (fun_mk (st := s_House__tell_letter) l7 c7 k7).binds (ps := ["self"]) fun _ _ _ _ _ _ us hl => match us, hl with | [_], _ => rfl,
    a_House__ask_letter := f8,
    fd_House__ask_letter := _,
    F_House__ask_letter := fun_mk (st := s_House__ask_letter) l8 c8 k8,
    b_House__ask_letter := (fun_mk (st := s_House__ask_letter) l8 c8 k8).binds (ps := ["self"]) fun _ _ _ _ _ _ us hl => match us, hl with | [_], _ => rfl,
    a_House__answer_to := f9,
    fd_House__answer_to := _,
    F_House__answer_to := fun_mk (st := s_House__answer_to) l9 c9 k9,
    b_House__answer_to := (fun_mk (st := s_House__answer_to) l9 c9 k9).binds (ps := ["self", "sender"]) fun _ _ _ _ _ _ us hl => match us, hl with | [_, _], _ => rfl,
    a_House__hear_tell := f10,
    fd_House__hear_tell := _,
    F_House__hear_tell := fun_mk (st := s_House__hear_tell) l10 c10 k10,
    b_House__hear_tell := (fun_mk (st := s_House__hear_tell) l10 c10 k10).binds (ps := ["self", "sender"]) fun _ _ _ _ _ _ us hl => match us, hl with | [_, _], _ => rfl,
    a_House__hear_answer := f11,
    fd_House__hear_answer := _,
    F_House__hear_answer := fun_mk (st := s_House__hear_answer) l11 c11 k11,
    b_House__hear_answer := (fun_mk (st := s_House__hear_answer) l11 c11 k11).binds (ps := ["self", "sender", "named"]) fun _ _ _ _ _ _ us hl => match us, hl with | [_, _, _], _ => rfl,
    a_House__hear := f12,
    fd_House__hear := _,
    F_House__hear := fun_mk (st := s_House__hear) l12 c12 k12,
    b_House__hear := (fun_mk (st := s_House__hear) l12 c12 k12).binds (ps := ["self", "letter"]) fun _ _ _ _ _ _ us hl => match us, hl with | [_, _], _ => rfl,
    a__law_places := f13,
    fd__law_places := _,
    F__law_places := fun_mk (st := s__law_places) l13 c13 k13,
    b__law_places := (fun_mk (st := s__law_places) l13 c13 k13).binds (ps := ["tape", "size", "count"]) fun _ _ _ _ _ _ us hl => match us, hl with | [_, _, _], _ => rfl,
    g__law_places := PySem.W.mg_of X G a13,
    a__law_far := f14,
    fd__law_far := _,
    F__law_far := fun_mk (st := s__law_far) l14 c14 k14,
    b__law_far := (fun_mk (st := s__law_far) l14 c14 k14).binds (ps := ["size", "start", "end"]) fun _ _ _ _ _ _ us hl => match us, hl with | [_, _, _], _ => rfl,
    g__law_far := PySem.W.mg_of X G a14,
    a__law_between := f15,
    fd__law_between := _,
    F__law_between := fun_mk (st := s__law_between) l15 c15 k15,
    b__law_between := (fun_mk (st := s__law_between) l15 c15 k15).binds (ps := ["size", "start", "place", "end"]) fun _ _ _ _ _ _ us hl => match us, hl with | [_, _, _, _], _ => rfl,
    g__law_between := PySem.W.mg_of X G a15,
    a__law_letter := f16,
    fd__law_letter := _,
    F__law_letter := fun_mk (st := s__law_letter) l16 c16 k16,
    b__law_letter := (fun_mk (st := s__law_letter) l16 c16 k16).binds (ps := ["tape", "places", "cell"]) fun _ _ _ _ _ _ us hl => match us, hl with | [_, _, _], _ => rfl,
    g__law_letter := PySem.W.mg_of X G a16,
    a__law_hears := f17,
    fd__law_hears := _,
    F__law_hears := fun_mk (st := s__law_hears) l17 c17 k17,
    b__law_hears := (fun_mk (st := s__law_hears) l17 c17 k17).binds (ps := ["size", "cell", "letter"]) fun _ _ _ _ _ _ us hl => match us, hl with | [_, _, _], _ => rfl,
    g__law_hears := PySem.W.mg_of X G a17,
    a__law_is := f18,
    fd__law_is := _,
    F__law_is := fun_mk (st := s__law_is) l18 c18 k18,
    b__law_is := (fun_mk (st := s__law_is) l18 c18 k18).binds (ps := ["house", "size", "cell"]) fun _ _ _ _ _ _ us hl => match us, hl with | [_, _, _], _ => rfl,
    g__law_is := PySem.W.mg_of X G a18,
    a_law := fa,
    fd_law := _,
    F_law := fun_mk (st := s_law) l19 c19 k19,
    b_law := (fun_mk (st := s_law) l19 c19 k19).binds (ps := ["script"]) fun _ _ _ _ _ _ us hl => match us, hl with | [_], _ => rfl,
    g_law := PySem.W.mg_of X G a19,
    C_House := C0,
    mc_House := PySem.W.mg_of X G aC0,
    cl_House := ⟨pg0, hd0, po0, sa0⟩,
    na_House_size := na0_0,
    na_House_place := na0_1,
    na_House_next_house := na0_2,
    na_House_before := na0_3,
    mk_House := ⟨mk0, am6, ai6, kc0⟩,
    me_House__tell_letter := ⟨am7, ai7, k7⟩,
    me_House__ask_letter := ⟨am8, ai8, k8⟩,
    me_House__answer_to := ⟨am9, ai9, k9⟩,
    me_House__hear_tell := ⟨am10, ai10, k10⟩,
    me_House__hear_answer := ⟨am11, ai11, k11⟩,
    me_House__hear := ⟨am12, ai12, k12⟩ }
  exact ⟨T.fd_law, fun s v => .of_eq rfl, fun base _ _ => T.ok_law⟩
end Z
open PySem PySem.W PyProof.Rows
set_option maxHeartbeats 0 in
theorem PySem.Challenge.cw_ringlaps_k11_house_alone_holds : PySem.Challenge.rw_ringlaps_k11_house_alone.Holds := by
  w_on; o_law; k_head; (case hw => w_witness2)
  k_fill
  refine L2.walk_of (l := PySem.Challenge.rw_ringlaps_k11_house_alone) (n := 63) (k := 6) (x := "script") (CX := fun _ => L2.CX0) (sp := fun w => Z.sp_law _) rfl (by decide) rfl ⟨rfl, by decide, by decide⟩ (fun w h Y => PySem.W.kIn_of Y) ?F (fun _ _ a ns hl _ hS => ⟨a, ns, rfl, hS, hl, fun _ => rfl⟩) (fun _ _ _ _ _ h => h)
  case F =>
    intro w mg fa h KX G hmg
    refine' Z.all_mk (l := PySem.Challenge.rw_ringlaps_k11_house_alone) KX G hmg ?a0 ?l0 ?c0 ?k0 ?a1 ?l1 ?c1 ?k1 ?a2 ?l2 ?c2 ?k2 ?a3 ?l3 ?c3 ?k3 ?a4 ?l4 ?c4 ?k4 ?a5 ?l5 ?c5 ?k5 ?lt6 ?l6 ?c6 ?k6 ?l7 ?c7 ?k7 ?l8 ?c8 ?k8 ?l9 ?c9 ?k9 ?l10 ?c10 ?k10 ?l11 ?c11 ?k11 ?l12 ?c12 ?k12 ?a13 ?l13 ?c13 ?k13 ?a14 ?l14 ?c14 ?k14 ?a15 ?l15 ?c15 ?k15 ?a16 ?l16 ?c16 ?k16 ?a17 ?l17 ?c17 ?k17 ?a18 ?l18 ?c18 ?k18 ?a19 ?l19 ?c19 ?k19 ?aC0 ?pg0 ?hd0 ?po0 ?sa0 ?mk0 ?kc0 ?na0_0 ?na0_1 ?na0_2 ?na0_3 ?am6 ?ai6 ?am7 ?ai7 ?am8 ?ai8 ?am9 ?ai9 ?am10 ?ai10 ?am11 ?ai11 ?am12 ?ai12 ?z0 ?z1 ?z2 ?z3 ?z4 ?z5 ?z6 ?z7 ?z8 ?z9 ?z10 ?z11
    (case a0 => k_is); (case a1 => k_is); (case a2 => k_is); (case a3 => k_is); (case a4 => k_is); (case a5 => k_is); (case a13 => k_is); (case a14 => k_is); (case a15 => k_is); (case a16 => k_is); (case a17 => k_is); (case a18 => k_is); (case a19 => k_is); (case aC0 => k_is); (case am6 => k_is); (case am7 => k_is); (case am8 => k_is); (case am9 => k_is); (case am10 => k_is); (case am11 => k_is); (case am12 => k_is); (case l0 => k_is); (case l1 => k_is); (case l2 => k_is); (case l3 => k_is); (case l4 => k_is); (case l5 => k_is); (case l6 => k_is); (case l7 => k_is); (case l8 => k_is); (case l9 => k_is); (case l10 => k_is); (case l11 => k_is); (case l12 => k_is); (case l13 => k_is); (case l14 => k_is); (case l15 => k_is); (case l16 => k_is); (case l17 => k_is); (case l18 => k_is); (case l19 => k_is); (case c0 => k_is); (case k0 => k_is); (case c1 => k_is); (case k1 => k_is); (case c2 => k_is); (case k2 => k_is); (case c3 => k_is); (case k3 => k_is); (case c4 => k_is); (case k4 => k_is); (case c5 => k_is); (case k5 => k_is); (case lt6 => k_is); (case c6 => k_is); (case k6 => k_is); (case c7 => k_is); (case k7 => k_is); (case c8 => k_is); (case k8 => k_is); (case c9 => k_is); (case k9 => k_is); (case c10 => k_is); (case k10 => k_is); (case c11 => k_is); (case k11 => k_is); (case c12 => k_is); (case k12 => k_is); (case c13 => k_is); (case k13 => k_is); (case c14 => k_is); (case k14 => k_is); (case c15 => k_is); (case k15 => k_is); (case c16 => k_is); (case k16 => k_is); (case c17 => k_is); (case k17 => k_is); (case c18 => k_is); (case k18 => k_is); (case c19 => k_is); (case k19 => k_is); (case pg0 => k_is); (case hd0 => k_is); (case po0 => k_is); (case sa0 => k_is); (case mk0 => k_is); (case kc0 => k_is); (case na0_0 => k_is); (case na0_1 => k_is); (case na0_2 => k_is); (case na0_3 => k_is); (case ai6 => k_is); (case ai7 => k_is); (case ai8 => k_is); (case ai9 => k_is); (case ai10 => k_is); (case ai11 => k_is); (case ai12 => k_is); (case z0 => k_is); (case z1 => k_is); (case z2 => k_is); (case z3 => k_is); (case z4 => k_is); (case z5 => k_is); (case z6 => k_is); (case z7 => k_is); (case z8 => k_is); (case z9 => k_is); (case z10 => k_is); (case z11 => k_is)
#print axioms PySem.Challenge.cw_ringlaps_k11_house_alone_holds
