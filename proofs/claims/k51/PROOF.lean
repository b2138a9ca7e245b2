import PyProof.Rows.All
import Wide.All
import OpenK.AllK
import Wide.FinOn
import PySem.Challenge.RW_ringlaps_k51_whole_turns_by_crossings
import HandS.ForMost
import HandS.Star
import HandS.Defaults
import HandS.MakeKw
import HandS.Style
import HandS.Zip0
import HandS.Zip
import KE.KDictZip
import HandS.Steps
import HandS.ListItems
import HandS.Codes
import HandS.Conv
import HandS.Dict
import HandS.DictComp
import HandS.More
import HandS.Small
import HandS.MakeKwOnly
import HandS.ForDict
import HandS.Walk
import HandS.Wide
import HandS.Flow
import HandS.IsInst
import HandS.Sort
import HandS.SortKw
import HandS.Iter
import KE.KEqSeq
import KE.KUnpackStar
import KE.KDictSum
import HandS.ExcInit
import HandS.ExcInitHot
import HandS.ExcCtx
import HandS.HotCalls
import HandS.ExcOwn
import HandS.SetFor
import HandS.ExcValue
import KE.KExcIs
set_option Elab.async false
set_option linter.all false
set_option maxRecDepth 100000
set_option maxHeartbeats 4000000
namespace Z
open PySem PySem.Spec PyProof.Rows L2
def topS (i : Nat) : Stmt := PySem.Challenge.pw_ringlaps_k51_whole_turns_by_crossings.main.body.getD i (.Pass ⟨0, 0, 0, 0⟩)
abbrev s__law_tape : Stmt := topS 11
theorem sc__law_tape : FnScope ["script", "cells", "cell"] ["script"] (defScope s__law_tape) := ⟨rfl, rfl, rfl, by decide +kernel, rfl, by decide +kernel, by decide +kernel⟩
abbrev s__law_pick : Stmt := topS 12
theorem sc__law_pick : FnScope ["tape", "size", "cells", "cell", "k", "number", "used", "mixed"] ["tape", "size"] (defScope s__law_pick) := ⟨rfl, rfl, rfl, by decide +kernel, rfl, by decide +kernel, by decide +kernel⟩
abbrev s_far : Stmt := topS 6
theorem sc_far : FnScope ["size", "start", "end"] ["size", "start", "end"] (defScope s_far) := ⟨rfl, rfl, rfl, by decide +kernel, rfl, by decide +kernel, by decide +kernel⟩
abbrev s_covers : Stmt := topS 7
theorem sc_covers : FnScope ["size", "start", "place", "end"] ["size", "start", "place", "end"] (defScope s_covers) := ⟨rfl, rfl, rfl, by decide +kernel, rfl, by decide +kernel, by decide +kernel⟩
abbrev s_Walk__init : Stmt := inClass (topS 9) 0
theorem sc_Walk__init : FnScope ["self", "size", "places"] ["self", "size", "places"] (defScope s_Walk__init) := ⟨rfl, rfl, rfl, by decide +kernel, rfl, by decide +kernel, by decide +kernel⟩
abbrev s_Walk__steps : Stmt := inClass (topS 9) 9
theorem sc_Walk__steps : FnScope ["self"] ["self"] (defScope s_Walk__steps) := ⟨rfl, rfl, rfl, by decide +kernel, rfl, by decide +kernel, by decide +kernel⟩
abbrev s_Walk__total : Stmt := inClass (topS 9) 4
theorem sc_Walk__total : FnScope ["self", "start", "end"] ["self"] (defScope s_Walk__total) := ⟨rfl, rfl, rfl, by decide +kernel, rfl, by decide +kernel, by decide +kernel⟩
abbrev s_Walk__crossings : Stmt := inClass (topS 9) 5
theorem sc_Walk__crossings : FnScope ["self", "place", "start", "end"] ["self", "place"] (defScope s_Walk__crossings) := ⟨rfl, rfl, rfl, by decide +kernel, rfl, by decide +kernel, by decide +kernel⟩
abbrev s_Walk__is_closed : Stmt := inClass (topS 9) 6
theorem sc_Walk__is_closed : FnScope ["self"] ["self"] (defScope s_Walk__is_closed) := ⟨rfl, rfl, rfl, by decide +kernel, rfl, by decide +kernel, by decide +kernel⟩
abbrev s_Walk__turns : Stmt := inClass (topS 9) 7
theorem sc_Walk__turns : FnScope ["self"] ["self"] (defScope s_Walk__turns) := ⟨rfl, rfl, rfl, by decide +kernel, rfl, by decide +kernel, by decide +kernel⟩
abbrev s__law_same : Stmt := topS 15
theorem sc__law_same : FnScope ["actual", "due", "k"] ["actual", "due"] (defScope s__law_same) := ⟨rfl, rfl, rfl, by decide +kernel, rfl, by decide +kernel, by decide +kernel⟩
abbrev s__law_size : Stmt := topS 13
theorem sc__law_size : FnScope ["tape", "count", "kind", "least"] ["tape", "count"] (defScope s__law_size) := ⟨rfl, rfl, rfl, by decide +kernel, rfl, by decide +kernel, by decide +kernel⟩
abbrev s__law_wide : Stmt := topS 16
theorem sc__law_wide : FnScope ["tape", "size"] ["tape", "size"] (defScope s__law_wide) := ⟨rfl, rfl, rfl, by decide +kernel, rfl, by decide +kernel, by decide +kernel⟩
abbrev s__law_circle : Stmt := topS 17
theorem sc__law_circle : FnScope ["tape", "count", "least", "kind"] ["tape", "count"] (defScope s__law_circle) := ⟨rfl, rfl, rfl, by decide +kernel, rfl, by decide +kernel, by decide +kernel⟩
abbrev s__law_far : Stmt := topS 14
theorem sc__law_far : FnScope ["size", "start", "end", "steps"] ["size", "start", "end"] (defScope s__law_far) := ⟨rfl, rfl, rfl, by decide +kernel, rfl, by decide +kernel, by decide +kernel⟩
abbrev s__law_along : Stmt := topS 18
theorem sc__law_along : FnScope ["tape", "size", "first", "many", "row", "k", "kind"] ["tape", "size", "first", "many"] (defScope s__law_along) := ⟨rfl, rfl, rfl, by decide +kernel, rfl, by decide +kernel, by decide +kernel⟩
abbrev s__law_total : Stmt := topS 19
theorem sc__law_total : FnScope ["size", "row", "k"] ["size", "row"] (defScope s__law_total) := ⟨rfl, rfl, rfl, by decide +kernel, rfl, by decide +kernel, by decide +kernel⟩
abbrev s_law : Stmt := topS 20
theorem sc_law : FnScope ["script", "tape", "size", "spots", "wide", "many", "row", "total", "turns", "walk", "told", "place", "k"] ["script"] (defScope s_law) := ⟨rfl, rfl, rfl, by decide +kernel, rfl, by decide +kernel, by decide +kernel⟩
/-! what is asked of the error in hand: (a, oe) is pinned, its dict at d -/
structure ErrC (K : PySem.W.Frag) (D : Addr) : Prop where
  cl : (PySem.W.clsIn K D).isSome = true
  ga : PySem.W.findIn K (.ref D) "__getattribute__" = some (some (.builtin "BaseException.__getattribute__"))
  gg : PySem.W.findIn K (.ref D) "__getattr__" = some none
  ex : PySem.W.subIn K (.ref D) (.type "BaseException") = some true
  hd : PySem.W.hasDictIn K D = true
  ca : PySem.W.findIn K (.ref D) "__class__" = some (some (.builtin "object.__class__"))
  cn : PySem.W.specialIn K (.builtin "object.__class__") "__get__" = some (some (.builtin "getset_descriptor.__get__"))
  ct : PySem.W.takesIn K (.builtin "object.__class__") = some true
  mo : PySem.W.mroIn K D (.type "object") = some true
structure T0 (K : PySem.W.Frag) (mg : Str → Option Value) where
  m_abs : mg "abs" = none
  m_bool : mg "bool" = none
  m_dict : mg "dict" = none
  m_int : mg "int" = none
  m_isinstance : mg "isinstance" = none
  m_len : mg "len" = none
  m_list : mg "list" = none
  m_max : mg "max" = none
  m_range : mg "range" = none
  m_str : mg "str" = none
  m_sum : mg "sum" = none
  m_tuple : mg "tuple" = none
  m_zip : mg "zip" = none
  a__law_tape : Addr
  fd__law_tape : FuncData
  F__law_tape : Fun K "_law_tape" "_law_tape" s__law_tape a__law_tape fd__law_tape
  b__law_tape : Binds K fd__law_tape ["script"] []
  g__law_tape : mg "_law_tape" = some (.ref a__law_tape)
  a__law_pick : Addr
  fd__law_pick : FuncData
  F__law_pick : Fun K "_law_pick" "_law_pick" s__law_pick a__law_pick fd__law_pick
  b__law_pick : Binds K fd__law_pick ["tape", "size"] []
  g__law_pick : mg "_law_pick" = some (.ref a__law_pick)
  a_far : Addr
  fd_far : FuncData
  F_far : Fun K "far" "far" s_far a_far fd_far
  b_far : Binds K fd_far ["size", "start", "end"] []
  g_far : mg "far" = some (.ref a_far)
  a_covers : Addr
  fd_covers : FuncData
  F_covers : Fun K "covers" "covers" s_covers a_covers fd_covers
  b_covers : Binds K fd_covers ["size", "start", "place", "end"] []
  g_covers : mg "covers" = some (.ref a_covers)
  a_Walk__init : Addr
  fd_Walk__init : FuncData
  F_Walk__init : Fun K "__init__" "Walk.__init__" s_Walk__init a_Walk__init fd_Walk__init
  b_Walk__init : Binds K fd_Walk__init ["self", "size", "places"] []
  a_Walk__steps : Addr
  fd_Walk__steps : FuncData
  F_Walk__steps : Fun K "_steps" "Walk._steps" s_Walk__steps a_Walk__steps fd_Walk__steps
  b_Walk__steps : Binds K fd_Walk__steps ["self"] []
  a_Walk__total : Addr
  fd_Walk__total : FuncData
  F_Walk__total : Fun K "total" "Walk.total" s_Walk__total a_Walk__total fd_Walk__total
  b_Walk__total : Binds K fd_Walk__total ["self"] []
  a_Walk__crossings : Addr
  fd_Walk__crossings : FuncData
  F_Walk__crossings : Fun K "crossings" "Walk.crossings" s_Walk__crossings a_Walk__crossings fd_Walk__crossings
  b_Walk__crossings : Binds K fd_Walk__crossings ["self", "place"] []
  a_Walk__is_closed : Addr
  fd_Walk__is_closed : FuncData
  F_Walk__is_closed : Fun K "is_closed" "Walk.is_closed" s_Walk__is_closed a_Walk__is_closed fd_Walk__is_closed
  b_Walk__is_closed : Binds K fd_Walk__is_closed ["self"] []
  a_Walk__turns : Addr
  fd_Walk__turns : FuncData
  F_Walk__turns : Fun K "turns" "Walk.turns" s_Walk__turns a_Walk__turns fd_Walk__turns
  b_Walk__turns : Binds K fd_Walk__turns ["self"] []
  a__law_same : Addr
  fd__law_same : FuncData
  F__law_same : Fun K "_law_same" "_law_same" s__law_same a__law_same fd__law_same
  b__law_same : Binds K fd__law_same ["actual", "due"] []
  g__law_same : mg "_law_same" = some (.ref a__law_same)
  a__law_size : Addr
  fd__law_size : FuncData
  F__law_size : Fun K "_law_size" "_law_size" s__law_size a__law_size fd__law_size
  b__law_size : Binds K fd__law_size ["tape", "count"] []
  g__law_size : mg "_law_size" = some (.ref a__law_size)
  a__law_wide : Addr
  fd__law_wide : FuncData
  F__law_wide : Fun K "_law_wide" "_law_wide" s__law_wide a__law_wide fd__law_wide
  b__law_wide : Binds K fd__law_wide ["tape", "size"] []
  g__law_wide : mg "_law_wide" = some (.ref a__law_wide)
  a__law_circle : Addr
  fd__law_circle : FuncData
  F__law_circle : Fun K "_law_circle" "_law_circle" s__law_circle a__law_circle fd__law_circle
  b__law_circle : Binds K fd__law_circle ["tape", "count"] []
  g__law_circle : mg "_law_circle" = some (.ref a__law_circle)
  a__law_far : Addr
  fd__law_far : FuncData
  F__law_far : Fun K "_law_far" "_law_far" s__law_far a__law_far fd__law_far
  b__law_far : Binds K fd__law_far ["size", "start", "end"] []
  g__law_far : mg "_law_far" = some (.ref a__law_far)
  a__law_along : Addr
  fd__law_along : FuncData
  F__law_along : Fun K "_law_along" "_law_along" s__law_along a__law_along fd__law_along
  b__law_along : Binds K fd__law_along ["tape", "size", "first", "many"] []
  g__law_along : mg "_law_along" = some (.ref a__law_along)
  a__law_total : Addr
  fd__law_total : FuncData
  F__law_total : Fun K "_law_total" "_law_total" s__law_total a__law_total fd__law_total
  b__law_total : Binds K fd__law_total ["size", "row"] []
  g__law_total : mg "_law_total" = some (.ref a__law_total)
  a_law : Addr
  fd_law : FuncData
  F_law : Fun K "law" "law" s_law a_law fd_law
  b_law : Binds K fd_law ["script"] []
  g_law : mg "law" = some (.ref a_law)
  C_Walk : Addr
  mc_Walk : mg "Walk" = some (.ref C_Walk)
  cl_Walk : Cls K C_Walk
  na_Walk_size : NoAttr K C_Walk "size"
  na_Walk_places : NoAttr K C_Walk "places"
  mk_Walk : Mk K C_Walk a_Walk__init
  me_Walk__steps : Meth K C_Walk "_steps" a_Walk__steps
  me_Walk__total : Meth K C_Walk "total" a_Walk__total
  me_Walk__crossings : Meth K C_Walk "crossings" a_Walk__crossings
  me_Walk__is_closed : Meth K C_Walk "is_closed" a_Walk__is_closed
  me_Walk__turns : Meth K C_Walk "turns" a_Walk__turns
  C_OpenWalk : Addr
  mc_OpenWalk : mg "OpenWalk" = some (.ref C_OpenWalk)
namespace T0
variable {K : PySem.W.Frag} {mg : Str → Option Value} (T : T0 K mg)
theorem k__law_tape : PySem.W.keepIn K (.ref T.a__law_tape) = true := T.F__law_tape.kp
theorem k__law_pick : PySem.W.keepIn K (.ref T.a__law_pick) = true := T.F__law_pick.kp
theorem k_far : PySem.W.keepIn K (.ref T.a_far) = true := T.F_far.kp
theorem k_covers : PySem.W.keepIn K (.ref T.a_covers) = true := T.F_covers.kp
theorem k_Walk__init : PySem.W.keepIn K (.ref T.a_Walk__init) = true := T.F_Walk__init.kp
theorem k_Walk__steps : PySem.W.keepIn K (.ref T.a_Walk__steps) = true := T.F_Walk__steps.kp
theorem k_Walk__total : PySem.W.keepIn K (.ref T.a_Walk__total) = true := T.F_Walk__total.kp
theorem k_Walk__crossings : PySem.W.keepIn K (.ref T.a_Walk__crossings) = true := T.F_Walk__crossings.kp
theorem k_Walk__is_closed : PySem.W.keepIn K (.ref T.a_Walk__is_closed) = true := T.F_Walk__is_closed.kp
theorem k_Walk__turns : PySem.W.keepIn K (.ref T.a_Walk__turns) = true := T.F_Walk__turns.kp
theorem k__law_same : PySem.W.keepIn K (.ref T.a__law_same) = true := T.F__law_same.kp
theorem k__law_size : PySem.W.keepIn K (.ref T.a__law_size) = true := T.F__law_size.kp
theorem k__law_wide : PySem.W.keepIn K (.ref T.a__law_wide) = true := T.F__law_wide.kp
theorem k__law_circle : PySem.W.keepIn K (.ref T.a__law_circle) = true := T.F__law_circle.kp
theorem k__law_far : PySem.W.keepIn K (.ref T.a__law_far) = true := T.F__law_far.kp
theorem k__law_along : PySem.W.keepIn K (.ref T.a__law_along) = true := T.F__law_along.kp
theorem k__law_total : PySem.W.keepIn K (.ref T.a__law_total) = true := T.F__law_total.kp
theorem k_law : PySem.W.keepIn K (.ref T.a_law) = true := T.F_law.kp
end T0
theorem un1 {k : Nat} {A : Around} (r : Room k A) : A.units + 1 < cLine := by have := r.un; omega
theorem iteT' {b : Bool} {A B : Prop} (h : b = true) (a : A) : if b = true then A else B := by rw [if_pos h]; exact a
theorem iteF' {b : Bool} {A B : Prop} (h : b = false) (a : B) : if b = true then A else B := by rw [if_neg (by rw [h]; exact Bool.false_ne_true)]; exact a
theorem small1000' {n : Nat} (h : n ≤ 100000) : n < sizeLine := Nat.lt_of_le_of_lt h (by decide)
theorem upd_self {H : Hp} {t : Addr} {o : HO} (h : H t = Option.some o) : H = upd H t o := by
  funext b
  unfold upd
  split
  · rename_i e
    rw [e, h]
  · rfl
theorem at_ints {cs : List Int} {a : Nat} (h : a < cs.length) : atI (cs.map V.int) (a : Int) = Option.some (.int (cs[a])) := by
  refine atI_nat ?_
  rw [List.getElem?_map, List.getElem?_eq_getElem h]
  rfl
theorem at_getD {cs : List Int} {a : Nat} (h : a < cs.length) : atI (cs.map V.int) (a : Int) = Option.some (.int (cs.getD a 0)) := by
  refine atI_nat ?_
  rw [List.getElem?_map, List.getElem?_eq_getElem h, List.getD_eq_getElem?_getD, List.getElem?_eq_getElem h]
  rfl
theorem fmod_range (x : Int) {n : Int} (h : 0 < n) : 0 ≤ x.fmod n ∧ x.fmod n < n := ⟨Int.fmod_nonneg_of_pos x h, Int.fmod_lt_of_pos x h⟩
theorem mod_small (x : Int) {m : Int} (h : 0 < m) (h2 : m ≤ 9223372036854775808) : -(2 ^ 64) < x.fmod m ∧ x.fmod m < 2 ^ 64 := by
  have h3 := Int.fmod_nonneg_of_pos x h
  have h4 := Int.fmod_lt_of_pos x h
  constructor <;> omega
theorem cdivn (x : Int) {n : Int} (h : 0 < n) (h2 : n ≤ 1000000001) : CDivN x n := ⟨by omega, by omega⟩
theorem cdivw (x : Int) {n : Int} (h : 0 < n) (h2 : n ≤ 4000000000) : CDivW x n := wide_div (b := 63) h (by omega) (by decide) (by decide)
local macro_rules | `(tactic| walk_at "side") => `(tactic| first
  | with_reducible assumption
  | decide
  | ((with_reducible apply mod_small) <;> decide)
  | exact Or.inl ⟨by decide, by decide⟩
  | (apply Or.inl; (with_reducible apply mod_small) <;> decide)
  | exact Or.inr ⟨by decide, by decide⟩
  | ((with_reducible apply cdivn) <;> first | decide | omega)
  | ((with_reducible apply cdivw) <;> first | decide | omega)
  | (dsimp only; first | decide | omega)
  | exact ⟨by dsimp only; first | decide | omega, by dsimp only; first | decide | omega⟩)
local macro_rules | `(tactic| walk_at "go1") => `(tactic| first
  | refine ⟨_, rfl, ?_⟩
  | refine ⟨_, _, rfl, rfl, ?_⟩
  | refine Or.inl ⟨_, rfl, ?_⟩
  | refine ⟨_, _, _, _, rfl, rfl, (by first | assumption | exact SqL.of (by assumption) | exact upd_same | exact SqL.of upd_same), (by rfl), ?_⟩
  | refine ⟨rfl, ?_⟩
  | refine ⟨(show (_ : Prop) from by walk_at "side"), ?_⟩)
local macro_rules | `(tactic| walk_at "go") => `(tactic| repeat (walk_at "go1"))
section
variable {X : Cx} {K : PySem.W.Frag}
theorem ix_listK (h : X.K = K := by rfl) : IxR X (rIxL K) := by subst h; exact ix_list
theorem ix_tupK (h : X.K = K := by rfl) : IxR X (rIxT K) := by subst h; exact ix_tup
theorem ix_seqK (h : X.K = K := by rfl) : IxR X (rIx K) := by subst h; exact ix_seq
theorem sl_listK (h : X.K = K := by rfl) : SlR X (rSlL K) := by subst h; exact sl_list
theorem sl_tupK (h : X.K = K := by rfl) : SlR X (rSlT K) := by subst h; exact sl_tup
theorem op_in_seqK (h : X.K = K := by rfl) : OpR X (compareOp .In) (rIn K false) := by subst h; exact op_in_seq
theorem op_notIn_seqK (h : X.K = K := by rfl) : OpR X (compareOp .NotIn) (rIn K true) := by subst h; exact op_notIn_seq
def rLen (K : PySem.W.Frag) : List V → Hp → VK → Prop := fun xs H Q => ∃ p ys, xs = [.ref p] ∧ (SqL K H p ys ∨ SqT K H p ys) ∧ Q (.int ys.length) H
theorem call_lenK (h : X.K = K := by rfl) : CallR X (.builtin "len") (rLen K) := by subst h; exact call_len_seq
def rListOf (K : PySem.W.Frag) : List V → Hp → VK → Prop := fun xs H Q => ∃ p ys, xs = [.ref p] ∧ (SqL K H p ys ∨ SqT K H p ys) ∧ ∀ l, H l = none → Q (.ref l) (upd H l (.lst ys))
theorem call_list_ofK (h : X.K = K := by rfl) : CallR X (.type "list") (rListOf K) := by subst h; exact call_list_of
def rTupleOf (K : PySem.W.Frag) : List V → Hp → VK → Prop := fun xs H Q => ∃ p ys, xs = [.ref p] ∧ ((SqL K H p ys ∧ ∀ l, H l = none → Q (.ref l) (upd H l (.tup ys))) ∨ (SqT K H p ys ∧ Q (.ref p) H))
theorem call_tuple_ofK (h : X.K = K := by rfl) : CallR X (.type "tuple") (rTupleOf K) := by subst h; exact call_tuple_of
theorem call_isinstK (h : X.K = K := by rfl) : CallR X (.builtin "isinstance") (rIsi K) := by subst h; exact call_isi
theorem cr_sortedK (h : X.K = K := by rfl) : CallR X (.builtin "sorted") (rSorted K) := by subst h; exact cr_sorted
theorem call_sumK (hc : X.calm = true := by rfl) (h : X.K = K := by rfl) : CallR X (.builtin "sum") (rSum K) := by subst h; exact cr_sum hc
end
section
variable {σ : L2.St} {H : Hp} {ta tb tc : TE} {x y z : V}
theorem val_I0 {g : Int → Int → V} {i j : Int} (ha : Val ta σ H (.int i)) (hb : Val tb σ H (.int j)) : Val (tOp (rI0 g) ta tb) σ H (g i j) := fun _ q => ha _ (hb _ ⟨i, j, rfl, rfl, q⟩)
theorem val_I {C : Int → Int → Prop} {g : Int → Int → V} {i j : Int} (ha : Val ta σ H (.int i)) (hb : Val tb σ H (.int j)) (hc : C i j) : Val (tOp (rI C g) ta tb) σ H (g i j) := fun _ q => ha _ (hb _ ⟨i, j, rfl, rfl, hc, q⟩)
theorem val_eq (ha : Val ta σ H x) (hb : Val tb σ H y) (hs : scal x y = true) : Val (tOp rEq ta tb) σ H (.bl (decide (x = y))) := fun _ q => ha _ (hb _ ⟨hs, q⟩)
theorem val_ne (ha : Val ta σ H x) (hb : Val tb σ H y) (hs : scal x y = true) : Val (tOp rNe ta tb) σ H (.bl (!decide (x = y))) := fun _ q => ha _ (hb _ ⟨hs, q⟩)
theorem val_chain {g : Int → Int → Bool} {g' : Int → Int → Bool} {i j k : Int} (ha : Val ta σ H (.int i)) (hb : Val tb σ H (.int j)) (hc : Val tc σ H (.int k)) :
    Val (tChain (rI0 fun i j => .bl (g i j)) (rI0 fun i j => .bl (g' i j)) ta tb tc) σ H (.bl (g i j && g' j k)) := fun Q q => ha _ (hb _ ⟨i, j, rfl, rfl, _, rfl, by
  cases e : g i j with
  | true =>
    refine iteT (hc _ ⟨j, k, rfl, rfl, ?_⟩)
    rw [e] at q
    exact q
  | false =>
    rw [e] at q
    exact iteF q⟩)
theorem val_ixL {K : PySem.W.Frag} {p : Addr} {xs : List V} {i : Int} (ha : Val ta σ H (.ref p)) (hb : Val tb σ H (.int i)) (h : SqL K H p xs) (h2 : atI xs i = Option.some x) : Val (tOp (rIxL K) ta tb) σ H x := fun _ q => ha _ (hb _ ⟨p, xs, i, x, rfl, rfl, h, h2, q⟩)
theorem val_ixT {K : PySem.W.Frag} {p : Addr} {xs : List V} {i : Int} (ha : Val ta σ H (.ref p)) (hb : Val tb σ H (.int i)) (h : SqT K H p xs) (h2 : atI xs i = Option.some x) : Val (tOp (rIxT K) ta tb) σ H x := fun _ q => ha _ (hb _ ⟨p, xs, i, x, rfl, rfl, h, h2, q⟩)
theorem val_andV {a b : Bool} (ha : Val ta σ H (.bl a)) (hb : a = true → Val tb σ H (.bl b)) : Val (tAndV ta tb) σ H (.bl (a && b)) := fun Q q => ha _ ⟨a, rfl, by
  cases a with
  | true => exact iteT (hb rfl _ q)
  | false => exact iteF q⟩
theorem val_orV {a b : Bool} (ha : Val ta σ H (.bl a)) (hb : a = false → Val tb σ H (.bl b)) : Val (tOrV ta tb) σ H (.bl (a || b)) := fun Q q => ha _ ⟨a, rfl, by
  cases a with
  | true => exact iteT q
  | false => exact iteF (hb rfl _ q)⟩
theorem val_notV {a : Bool} (ha : Val ta σ H (.bl a)) : Val (tNotV ta) σ H (.bl (!a)) := fun _ q => ha _ ⟨a, rfl, q⟩
def ValA (ta : TA) (σ : L2.St) (H : Hp) (vs : List V) : Prop := ∀ Q : List V → Hp → Prop, Q vs H → ta σ H Q
theorem valA_nil : ValA tNil σ H [] := fun _ q => q
theorem valA_cons {tr : TA} {vs : List V} (h : Val ta σ H x) (hr : ValA tr σ H vs) : ValA (tCons ta tr) σ H (x :: vs) := fun _ q => h _ (hr _ q)
theorem go_lst {tr : TA} {vs : List V} {Q : VK} (h : ValA tr σ H vs) (hz : vs.length ≤ 100000) (q : ∀ p, H p = none → Q (.ref p) (upd H p (.lst vs))) : tLst tr σ H Q := h _ ⟨Nat.le_trans hz (by decide), q⟩
theorem go_tup {tr : TA} {vs : List V} {Q : VK} (h : ValA tr σ H vs) (hz : vs.length ≤ 100000) (q : ∀ p, H p = none → Q (.ref p) (upd H p (.tup vs))) : tTup tr σ H Q := h _ ⟨Nat.le_trans hz (by decide), q⟩
theorem val_call {tr : TA} {vs : List V} {sp : Sp} {dvs : List V} {E : XK} (h : ValA tr σ H vs) (hs : ∀ Q : VK, Q x H → sp (vs ++ dvs) H Q E) : Val (tCall sp dvs E tr) σ H x := fun _ q => h _ (hs _ q)
theorem val_cb {tr : TA} {vs : List V} {r : List V → Hp → VK → Prop} (h : ValA tr σ H vs) (hs : ∀ Q : VK, Q x H → r vs H Q) : Val (tCB r tr) σ H x := fun _ q => h _ (hs _ q)
variable {D : Ends} {tz tu tw : TS} {i : Nat} {tt tv : TT}
theorem o_asg (h : ta σ H fun v H' => tz D (σ.set i (some v)) H') : tSeq (tAsg ta (gName i)) tz D σ H := h
theorem o_ret (h : ta σ H D.rt) : tRet ta D σ H := h
theorem o_drop (h : ta σ H fun _ H' => tz D σ H') : tSeq (tDrop ta) tz D σ H := h
theorem v_asg (h : Val ta σ H x) (k : tz D (σ.set i (some x)) H) : tSeq (tAsg ta (gName i)) tz D σ H := h _ k
theorem v_asg1 (h : Val ta σ H x) (k : D.nx (σ.set i (some x)) H) : tAsg ta (gName i) D σ H := h _ k
theorem lc_yes {A B : Hp → Prop} (h : A H) : tYes σ H (fun b H3 => if b = true then A H3 else B H3) := by show (if true = true then A H else B H); exact iteT h
theorem g_name {v : V} {Q : L2.St → Hp → Prop} (h : Q (σ.set i (some v)) H) : gName i v σ H Q := h
theorem v_ret (h : Val ta σ H x) (k : D.rt x H) : tRet ta D σ H := h _ k
theorem v_if {b : Bool} (h : Ans tt σ H b) (h1 : b = true → tu { D with nx := tz D } σ H) (h2 : b = false → tw { D with nx := tz D } σ H) : tSeq (tIfS tt tu tw) tz D σ H := h _ (by
  cases b with
  | true => exact iteT (h1 rfl)
  | false => exact iteF (h2 rfl))
theorem v_if1 {b : Bool} (h : Ans tt σ H b) (h1 : b = true → tu D σ H) (h2 : b = false → tw D σ H) : tIfS tt tu tw D σ H := h _ (by
  cases b with
  | true => exact iteT (h1 rfl)
  | false => exact iteF (h2 rfl))
/-- an if without else: the rest once more where the test says no -/
theorem v_when {b : Bool} (h : Ans tt σ H b) (h1 : b = true → tu { D with nx := tz D } σ H) (h2 : b = false → tz D σ H) : tSeq (tIfS tt tu tNext) tz D σ H := v_if h h1 h2
theorem ans_t {b : Bool} (h : Val ta σ H (.bl b)) : Ans (tTest ta) σ H b := fun _ q => h _ ⟨b, rfl, q⟩
theorem ans_b {b : Bool} (h : Val ta σ H (.bl b)) : Ans (tB ta) σ H b := fun _ q => h _ ⟨b, rfl, q⟩
theorem ans_a {a b : Bool} (h : Ans tt σ H a) (h2 : a = true → Ans tv σ H b) : Ans (tAnd tt tv) σ H (a && b) := fun _ q => h _ (by
  cases a with
  | true => exact iteT (h2 rfl _ q)
  | false => exact iteF q)
theorem ans_o {a b : Bool} (h : Ans tt σ H a) (h2 : a = false → Ans tv σ H b) : Ans (tOr tt tv) σ H (a || b) := fun _ q => h _ (by
  cases a with
  | true => exact iteT q
  | false => exact iteF (h2 rfl _ q))
theorem ans_n {a : Bool} (h : Ans tt σ H a) : Ans (tNot tt) σ H (!a) := fun _ q => h _ q
theorem Val.to (h : Val ta σ H x) (e : x = y) : Val ta σ H y := e ▸ h
theorem Val.go {Q : VK} (h : Val ta σ H x) (q : Q x H) : ta σ H Q := h Q q
end
local macro_rules | `(tactic| walk_at "sql") => `(tactic| first
  | with_reducible assumption
  | exact SqL.of (by assumption)
  | exact SqL.of upd_same)
local macro_rules | `(tactic| walk_at "sqt") => `(tactic| first
  | with_reducible assumption
  | exact SqT.of (by assumption)
  | exact SqT.of upd_same)
local macro_rules | `(tactic| walk_at "at") => `(tactic| first
  | with_reducible assumption
  | exact at_getD (by omega)
  | exact at_ints (by assumption)
  | rfl)
local macro_rules | `(tactic| walk_at "val") => `(tactic| first
  | with_reducible assumption
  | with_reducible exact val_c
  | ((with_reducible apply val_var); rfl)
  | ((with_reducible apply val_I0); (· walk_at "val"); (· walk_at "val"))
  | ((with_reducible apply val_I); (· walk_at "val"); (· walk_at "val"); (· walk_at "side"))
  | ((with_reducible apply val_eq); (· walk_at "val"); (· walk_at "val"); (· rfl))
  | ((with_reducible apply val_ne); (· walk_at "val"); (· walk_at "val"); (· rfl))
  | ((with_reducible apply val_chain); (· walk_at "val"); (· walk_at "val"); (· walk_at "val"))
  | ((with_reducible apply val_andV); (· walk_at "val"); (· intro _; walk_at "val"))
  | ((with_reducible apply val_orV); (· walk_at "val"); (· intro _; walk_at "val"))
  | ((with_reducible apply val_notV); (· walk_at "val"))
  | ((with_reducible apply val_ixL); (· walk_at "val"); (· walk_at "val"); (· walk_at "sql"); (· walk_at "at"))
  | ((with_reducible apply val_ixT); (· walk_at "val"); (· walk_at "val"); (· walk_at "sqt"); (· walk_at "at"))
  | with_reducible exact valA_nil
  | ((with_reducible apply valA_cons); (· walk_at "val"); (· walk_at "val"))
  | ((with_reducible apply val_cb); (· walk_at "val"); (· intro _ q; exact Or.inl ⟨_, rfl, q⟩))
  | ((with_reducible apply val_call); (· walk_at "val"); (· intro _ q; walk_at "sp")))
local macro_rules | `(tactic| walk_at "ans") => `(tactic| first
  | ((with_reducible apply ans_t); (· walk_at "val"))
  | ((with_reducible apply ans_b); (· walk_at "val"))
  | ((with_reducible apply ans_a); (· walk_at "ans"); (· intro _; walk_at "ans"))
  | ((with_reducible apply ans_o); (· walk_at "ans"); (· intro _; walk_at "ans"))
  | ((with_reducible apply ans_n); (· walk_at "ans")))
local macro_rules | `(tactic| walk_at "len") => `(tactic| first
  | (simp only [List.length_cons, List.length_nil, List.length_map, List.length_append]; omega)
  | assumption)
theorem Same.fresh {H H' : Hp} {p : Addr} {o : HO} (e : Same H H') (h : H p = Option.none) : Same H (upd H' p o) := fun a u ha => by
  rw [upd_ne (ne_of_none ha h)]
  exact e a u ha
theorem take_map_succ {xs : List Int} {j : Nat} {x : Int} (h : xs[j]? = Option.some x) : ((xs.take j).map V.int) ++ [.int x] = (xs.take (j + 1)).map V.int := by
  rw [List.take_add_one, h, List.map_append]
  rfl
theorem lenL {n : Nat} (h : n ≤ 100000) : n ≤ sizeLine := Nat.le_trans h (by decide)
theorem dec_int (i j : Int) : decide (V.int i = V.int j) = decide (i = j) := decide_eq_decide.mpr ⟨V.int.inj, congrArg V.int⟩
local macro_rules | `(tactic| walk_at "nf") => `(tactic| ((try refine g_name ?_); dsimp only [List.set_cons_zero, List.set_cons_succ]))
theorem lk0 {a : Str} {v : V} {r : List (Str × V)} : ((a, v) :: r).lookup a = Option.some v := by rw [List.lookup_cons_self]
theorem lk1 {a b : Str} {v : V} {r : List (Str × V)} (h : (a == b) = false) : ((b, v) :: r).lookup a = r.lookup a := by rw [List.lookup_cons, h]
theorem pf0 {a : Str} {v u : V} {r : List (Str × V)} : putF a v ((a, u) :: r) = (a, v) :: r := by
  unfold putF
  rw [if_pos rfl]
theorem pf1 {a b : Str} {v u : V} {r : List (Str × V)} (h : ¬ b = a) : putF a v ((b, u) :: r) = (b, u) :: putF a v r := by
  rw [putF, if_neg h]
theorem pfN {a : Str} {v : V} : putF a v [] = [(a, v)] := rfl
local macro_rules | `(tactic| walk_at "lk") => `(tactic| (repeat (rw [lk1 (by decide +kernel)])); first | exact lk0 | rfl)
local macro_rules | `(tactic| walk_at "pf") => `(tactic| repeat (first | rw [pfN] | rw [pf0] | rw [pf1 (by decide +kernel)]))
/-! ### list(zip(t, u)) of two tuples: each pair is held by the list, so each one is new -/
section
open Sem (wp)
variable {prog : Program} {wd : World} {AA : Around} {EE : Value → Shared → Prop} {sh : Shared}
/-- the zip at z stands ahead of its i-th pair; L: the list that holds the pairs -/
structure ZSt (h : Heap) (L z TI TO i1 i2 l1 l2 : Addr) (xs ys : Array Value) (i : Nat) : Prop where
  pr : IsPair h TI (.ref i1) (.ref i2)
  ia : h.IsTupleIter i1 l1 i
  ib : h.IsTupleIter i2 l2 i
  ta : h.IsTuple l1 xs
  tb : h.IsTuple l2 ys
  out : (IsZip h z TI TO .none ∧ IsPair h TO .none .none) ∨ ∃ (U : Addr) (f : Bool) (oU : Obj), IsZipHeld h z TI TO U f ∧ h.get? U = some oU ∧ U ≠ L ∧ U ≠ z ∧ U ≠ i1 ∧ U ≠ i2
/-- the next pair while the last one is held -/
theorem zheld_item {z TI TO U i1 i2 l1 l2 : Addr} {f : Bool} {oU : Obj} {k : Nat} {xs ys : Array Value} {x y : Value} {W : Value → Shared → Prop} (D : ZipApart z TI TO i1 i2 l1 l2) (gz : IsZipHeld sh.heap z TI TO U f)
    (gU : sh.heap.get? U = some oU) (gp : IsPair sh.heap TI (.ref i1) (.ref i2)) (ga : sh.heap.IsTupleIter i1 l1 k) (gb : sh.heap.IsTupleIter i2 l2 k) (gx : sh.heap.IsTuple l1 xs) (gy : sh.heap.IsTuple l2 ys)
    (ex : xs[k]? = some x) (ey : ys[k]? = some y)
    (fin : ∀ g, IsZipHeld g z TI TO U true → g.IsTupleIter i1 l1 (k + 1) → g.IsTupleIter i2 l2 (k + 1) → IsPair g sh.heap.objs.size x y → g.objs.size = sh.heap.objs.size + 1 →
      (∀ q o, q ≠ z → q ≠ i1 → q ≠ i2 → sh.heap.get? q = some o → g.get? q = some o) → W (.ref sh.heap.objs.size) { sh with heap := g }) :
    wpAny (model prog wd) AA (Builtin.«zip.__next__» ⟨[.ref z], []⟩) (fun r s' => ∃ v, r = .done (.ret v) ∧ W v s') EE sh := by
  show wpAny _ _ (field (.ref z) 2 >>= _) _ EE sh
  refine wpAny_bind (wpAny_field gz rfl (x := .bool false) rfl ?_)
  show wpAny _ _ (field (.ref z) 3 >>= _) _ EE sh
  refine wpAny_bind (wpAny_field gz rfl (x := .ref TI) rfl (wpAny_bind (wpAny_seqItems gp rfl ?_)))
  show wpAny _ _ (Builtin.SmallTypes.ownedTupleIsFree (.ref z) >>= _) _ EE sh
  refine wpAny_bind (wpAny_tupleHeld_zip gz gU fun g1 z1 d1 => ?_)
  simp only [Bool.false_eq_true, if_false]; refine wpAny_bind ?_
  rw [← Array.forIn_toList]; simp only [List.forIn_cons, List.forIn_nil]; refine wpAny_bind (wpAny_bind (wpAny_holding ?_))
  show wpAny _ _ (Builtin.SmallTypes.nextOf (.ref i1) >>= _) _ EE _
  refine wpAny_bind (RZ.nextOf_tuple_item (s := { sh with heap := g1 }) (ga.extBut d1.extBut D.i1z) (gx.extBut d1.extBut D.l1z) ex fun g2 a2 d2 => wpAny_pure (wpAny_pure ?_))
  refine wpAny_bind (wpAny_bind (wpAny_holding ?_)); show wpAny _ _ (Builtin.SmallTypes.nextOf (.ref i2) >>= _) _ EE _
  refine wpAny_bind (RZ.nextOf_tuple_item (s := { sh with heap := g2 }) ((gb.extBut d1.extBut D.i2z).extBut d2.extBut D.i12.symm) ((gy.extBut d1.extBut D.l2z).extBut d2.extBut D.l2i1) ey fun g3 b3 d3 => wpAny_pure (wpAny_pure (wpAny_pure ?_)))
  show wpAny _ _ (newTuple [x, y] >>= _) _ EE _
  refine wpAny_bind (wpAny_newTuple (wpAny_pure ⟨_, rfl, ?_⟩))
  have size3 : g3.objs.size = sh.heap.objs.size := by rw [d3.1, d2.1, d1.1]
  have z3 : IsZipHeld g3 z TI TO U true := d3.extBut _ _ D.i2z.symm (d2.extBut _ _ D.i1z.symm z1)
  have stay : ∀ q o, q ≠ z → q ≠ i1 → q ≠ i2 → sh.heap.get? q = some o → g3.get? q = some o := fun q o q1 q2 q3 e => d3.extBut _ _ q3 (d2.extBut _ _ q2 (d1.extBut _ _ q1 e))
  have a3 : g3.IsTupleIter i1 l1 (k + 1) := a2.extBut d3.extBut D.i12
  have pn : IsPair (g3.push { cls := .type "tuple", data := .seq #[x, y] }) g3.objs.size x y := Heap.get?_push_size _ rfl
  have pz : (g3.push { cls := .type "tuple", data := .seq #[x, y] }).objs.size = g3.objs.size + 1 := Heap.size_push ..
  show W (.ref g3.objs.size) _
  rw [size3] at pn pz ⊢
  exact fin _ (Heap.get?_push_of_some _ z3) (a3.at fun o e => Heap.get?_push_of_some _ e) (b3.at fun o e => Heap.get?_push_of_some _ e) pn pz fun q o q1 q2 q3 e => Heap.get?_push_of_some _ (stay q o q1 q2 q3 e)
/-- no pair is left, the last one is held -/
theorem zheld_end {z TI TO U i1 i2 l1 l2 : Addr} {f : Bool} {oU : Obj} {k : Nat} {xs ys : Array Value} {W : Fin → Shared → Prop} (hh : AA.handled = none) (D : ZipApart z TI TO i1 i2 l1 l2) (gz : IsZipHeld sh.heap z TI TO U f)
    (gU : sh.heap.get? U = some oU) (gp : IsPair sh.heap TI (.ref i1) (.ref i2)) (ga : sh.heap.IsTupleIter i1 l1 k) (gb : sh.heap.IsTupleIter i2 l2 k) (gx : sh.heap.IsTuple l1 xs) (gy : sh.heap.IsTuple l2 ys)
    (ends : xs[k]? = none ∨ ys[k]? = none)
    (fin : ∀ g e, (∀ q o, q ≠ z → q ≠ i1 → q ≠ i2 → sh.heap.get? q = some o → g.get? q = some o) → (∃ o, g.get? e = some o ∧ o.cls = .type "StopIteration") → EE (.ref e) { sh with heap := g }) :
    wpAny (model prog wd) AA (Builtin.«zip.__next__» ⟨[.ref z], []⟩) W EE sh := by
  show wpAny _ _ (field (.ref z) 2 >>= _) W EE sh
  refine wpAny_bind (wpAny_field gz rfl (x := .bool false) rfl ?_)
  show wpAny _ _ (field (.ref z) 3 >>= _) W EE sh
  refine wpAny_bind (wpAny_field gz rfl (x := .ref TI) rfl (wpAny_bind (wpAny_seqItems gp rfl ?_)))
  show wpAny _ _ (Builtin.SmallTypes.ownedTupleIsFree (.ref z) >>= _) W EE sh
  refine wpAny_bind (wpAny_tupleHeld_zip gz gU fun g1 z1 d1 => ?_)
  simp only [Bool.false_eq_true, if_false]; refine wpAny_bind ?_
  rw [← Array.forIn_toList]; simp only [List.forIn_cons, List.forIn_nil]; refine wpAny_bind (wpAny_bind (wpAny_holding ?_))
  show wpAny _ _ (Builtin.SmallTypes.nextOf (.ref i1) >>= _) _ EE _
  cases ex : xs[k]? with
  | none =>
    refine wpAny_bind (RZ.nextOf_tuple_end (s := { sh with heap := g1 }) hh (ga.extBut d1.extBut D.i1z) (gx.extBut d1.extBut D.l1z) ex fun g2 e d2 he => ?_)
    exact fin g2 e (fun q o q1 q2 _ u => d2 _ _ q2 (d1.extBut _ _ q1 u)) he
  | some x =>
    have ey : ys[k]? = none := ends.resolve_left (by rw [ex]; exact fun u => nomatch u)
    refine wpAny_bind (RZ.nextOf_tuple_item (s := { sh with heap := g1 }) (ga.extBut d1.extBut D.i1z) (gx.extBut d1.extBut D.l1z) ex fun g2 a2 d2 => wpAny_pure (wpAny_pure ?_))
    refine wpAny_bind (wpAny_bind (wpAny_holding ?_)); show wpAny _ _ (Builtin.SmallTypes.nextOf (.ref i2) >>= _) _ EE _
    refine wpAny_bind (RZ.nextOf_tuple_end (s := { sh with heap := g2 }) hh ((gb.extBut d1.extBut D.i2z).extBut d2.extBut D.i12.symm) ((gy.extBut d1.extBut D.l2z).extBut d2.extBut D.l2i1) ey fun g3 e d3 he => ?_)
    exact fin g3 e (fun q o q1 q2 q3 u => d3 _ _ q3 (d2.extBut _ _ q2 (d1.extBut _ _ q1 u))) he
/-- one turn of the zip, held or not -/
theorem zst_item {L z TI TO i1 i2 l1 l2 : Addr} {k : Nat} {xs ys : Array Value} {x y : Value} {W : Option Value → Shared → Prop} (D : ZipApart z TI TO i1 i2 l1 l2) (Z : ZSt sh.heap L z TI TO i1 i2 l1 l2 xs ys k) (hL : L < sh.heap.objs.size)
    (ex : xs[k]? = some x) (ey : ys[k]? = some y)
    (fin : ∀ g, ZSt g L z TI TO i1 i2 l1 l2 xs ys (k + 1) → IsPair g sh.heap.objs.size x y → g.objs.size = sh.heap.objs.size + 1 → (∀ q o, q ≠ z → q ≠ TO → q ≠ i1 → q ≠ i2 → sh.heap.get? q = some o → g.get? q = some o) →
      W (some (.ref sh.heap.objs.size)) { sh with heap := g }) : wpAny (model prog wd) AA (pyNext (.ref z)) W EE sh := by
  have lt : ∀ {q : Addr} {o : Obj}, sh.heap.get? q = some o → sh.heap.objs.size ≠ q := fun e => Nat.ne_of_gt (Heap.lt_size e)
  have ni : ∀ {q l : Addr} {j : Nat}, sh.heap.IsTupleIter q l j → sh.heap.objs.size ≠ q := fun ⟨_, e, _⟩ => lt e
  rcases Z.out with ⟨gz, gt⟩ | ⟨U, f, oU, gz, gU, u0, u1, u2, u3⟩
  · refine RZ.pyNext_zipT_item D gz Z.pr gt Z.ia Z.ib Z.ta Z.tb ex ey fun g c1 c2 c3 c4 c5 c6 c7 => ?_
    refine fin g ⟨c7 _ _ D.TIz D.TITO D.TIi1 D.TIi2 Z.pr, c3, c4, ?_, ?_, .inr ⟨sh.heap.objs.size, false, _, c1, c5, Nat.ne_of_gt hL, lt gz, ni Z.ia, ni Z.ib⟩⟩ c5 c6 c7
    · obtain ⟨o, e, r⟩ := Z.ta; exact ⟨o, c7 _ _ D.l1z D.l1TO D.l1i1 D.l1i2 e, r⟩
    · obtain ⟨o, e, r⟩ := Z.tb; exact ⟨o, c7 _ _ D.l2z D.l2TO D.l2i1 D.l2i2 e, r⟩
  · have ty : sh.TypeIs (.ref z) "zip" := ⟨_, gz, rfl⟩
    unfold pyNext
    refine wpAny_bind (wpAny_attempt (wpAny_callSpecial?_slot (name := Str.ofString "__next__") ty F.slot_zip_next (wpAny_call_entry F.slot_zip_next ty F.entry_zip_next
      (zheld_item D gz gU Z.pr Z.ia Z.ib Z.ta Z.tb ex ey fun g c1 c3 c4 c5 c6 c7 => wpAny_pure ?_) (F.args_zip_next_1 _))))
    refine fin g ⟨c7 _ _ D.TIz D.TIi1 D.TIi2 Z.pr, c3, c4, ?_, ?_, .inr ⟨U, true, oU, c1, c7 _ _ u1 u2 u3 gU, u0, u1, u2, u3⟩⟩ c5 c6 fun q o q1 _ q2 q3 e => c7 q o q1 q2 q3 e
    · obtain ⟨o, e, r⟩ := Z.ta; exact ⟨o, c7 _ _ D.l1z D.l1i1 D.l1i2 e, r⟩
    · obtain ⟨o, e, r⟩ := Z.tb; exact ⟨o, c7 _ _ D.l2z D.l2i1 D.l2i2 e, r⟩
theorem zst_end {L z TI TO i1 i2 l1 l2 : Addr} {k : Nat} {xs ys : Array Value} {W : Option Value → Shared → Prop} (hh : AA.handled = none) (D : ZipApart z TI TO i1 i2 l1 l2) (Z : ZSt sh.heap L z TI TO i1 i2 l1 l2 xs ys k)
    (ends : xs[k]? = none ∨ ys[k]? = none) (fin : ∀ g, (∀ q o, q ≠ z → q ≠ TO → q ≠ i1 → q ≠ i2 → sh.heap.get? q = some o → g.get? q = some o) → W none { sh with heap := g }) : wpAny (model prog wd) AA (pyNext (.ref z)) W EE sh := by
  rcases Z.out with ⟨gz, gt⟩ | ⟨U, f, oU, gz, gU, u0, u1, u2, u3⟩
  · exact RZ.pyNext_zipT_end hh D gz Z.pr gt Z.ia Z.ib Z.ta Z.tb ends fin
  · have ty : sh.TypeIs (.ref z) "zip" := ⟨_, gz, rfl⟩
    unfold pyNext
    refine wpAny_bind (wpAny_attempt (wpAny_callSpecial?_slot (name := Str.ofString "__next__") ty F.slot_zip_next (wpAny_call_entry F.slot_zip_next ty F.entry_zip_next
      (zheld_end hh D gz gU Z.pr Z.ia Z.ib Z.ta Z.tb ends fun g e c he => ?_) (F.args_zip_next_1 _))))
    refine wpAny_bind (wpAny_isInstance (T := "StopIteration") (b := true) (let ⟨o, h1, h2⟩ := he; ⟨o, h1, h2⟩) isSubtype_stop (wpAny_pure (fin _ fun q o q1 _ q2 q3 u => c q o q1 q2 q3 u)))
/-- the list lies apart from the zip's own objects -/
structure LOff (L z TI TO i1 i2 l1 l2 : Addr) : Prop where
  a : z ≠ L
  b : TI ≠ L
  c : TO ≠ L
  d : i1 ≠ L
  e : i2 ≠ L
  f : l1 ≠ L
  g : l2 ≠ L
theorem ZSt.keep {h h' : Heap} {L z TI TO i1 i2 l1 l2 : Addr} {xs ys : Array Value} {i : Nat} (Z : ZSt h L z TI TO i1 i2 l1 l2 xs ys i) (A : LOff L z TI TO i1 i2 l1 l2) (k : ∀ q o, q ≠ L → h.get? q = some o → h'.get? q = some o) : ZSt h' L z TI TO i1 i2 l1 l2 xs ys i where
  pr := k _ _ A.b Z.pr
  ia := Z.ia.at fun o u => k _ o A.d u
  ib := Z.ib.at fun o u => k _ o A.e u
  ta := let ⟨o, u, r⟩ := Z.ta; ⟨o, k _ o A.f u, r⟩
  tb := let ⟨o, u, r⟩ := Z.tb; ⟨o, k _ o A.g u, r⟩
  out := by
    rcases Z.out with ⟨u, v⟩ | ⟨U, f, oU, u1, u2, u3, u4⟩
    · exact .inl ⟨k _ _ A.a u, k _ _ A.c v⟩
    · exact .inr ⟨U, f, oU, k _ _ A.a u1, k _ _ u3 u2, u3, u4⟩
/-- the pairs that the list holds -/
structure Prs (xs ys : Array Value) (lo : Addr) (h : Heap) (as : List Addr) : Prop where
  up : as.Pairwise (· < ·)
  from_ : ∀ a ∈ as, lo ≤ a
  at_ : ∀ (j : Nat) (a : Addr), as[j]? = some a → ∃ x y, xs[j]? = some x ∧ ys[j]? = some y ∧ IsPair h a x y
theorem Prs.lt {xs ys : Array Value} {lo : Addr} {h : Heap} {as : List Addr} (p : Prs xs ys lo h as) {a : Addr} (ha : a ∈ as) : a < h.objs.size := by
  obtain ⟨j, hj⟩ := List.mem_iff_getElem?.mp ha
  obtain ⟨x, y, _, _, e⟩ := p.at_ j a hj
  exact Heap.lt_size e
theorem ne_lo {a z lo : Addr} (h : z < lo) (b : lo ≤ a) : a ≠ z := Nat.ne_of_gt (Nat.lt_of_lt_of_le h b)
abbrev IsLs (h : Heap) (L : Addr) (acc : Array Value) (c : Nat) : Prop := h.get? L = some { cls := .type "list", dict := none, data := .seq acc c, slots := #[] }
theorem zl_loop {L z TI TO i1 i2 l1 l2 : Addr} {xs ys : Array Value} {n : Nat} {Rs : Result → Shared → Prop} (hh : AA.handled = none) (D : ZipApart z TI TO i1 i2 l1 l2) (A : LOff L z TI TO i1 i2 l1 l2) (res : Value) (lo : Addr) (h₀ : Heap)
    (below : z < lo ∧ TO < lo ∧ i1 < lo ∧ i2 < lo ∧ L < lo) (hn : n ≤ sizeLine) (ins : ∀ j, j < n → (∃ x, xs[j]? = some x) ∧ ∃ y, ys[j]? = some y) (ends : xs[n]? = none ∨ ys[n]? = none)
    (fin : ∀ h' tk acc c as, (∀ q o, q ≠ L → q ≠ z → q ≠ TO → q ≠ i1 → q ≠ i2 → h₀.get? q = some o → h'.get? q = some o) → IsLs h' L acc c → as.length = n → Prs xs ys lo h' as → acc.toList = as.map Value.ref → Rs (.ok (.ret res)) { sh with heap := h', toks := tk }) :
    ∀ (m k : Nat) (h : Heap) (tk c : Nat) (acc : Array Value) (as : List Addr), n - k = m → k ≤ n → ZSt h L z TI TO i1 i2 l1 l2 xs ys k → (∀ q o, q ≠ L → q ≠ z → q ≠ TO → q ≠ i1 → q ≠ i2 → h₀.get? q = some o → h.get? q = some o) → IsLs h L acc c → acc.toList = as.map Value.ref → as.length = k →
      Prs xs ys lo h as → lo ≤ h.objs.size → codeAny (model prog wd) AA (.builtin "list.extend.loop" ⟨[.ref L, .ref z, res], []⟩) Rs { sh with heap := h, toks := tk } := by
  intro m
  induction m with
  | zero =>
    intro k h tk c acc as em hk Z keep hL hacc hal hP hlo
    obtain rfl : k = n := by omega
    refine codeAny_builtin PySem.F.entry_extend_loop ?_; rw [Around.under_plainId PySem.F.plain_extend_loop _]
    show wpAny _ AA.in1 (pyNext (.ref z) >>= _) _ _ _
    refine wpAny_bind (zst_end (sh := { sh with heap := h, toks := tk }) (AA := AA.in1) hh D Z ends fun g kg => wpAny_pure (fin g tk acc c as (fun q o q0 q1 q2 q3 q4 u => kg q o q1 q2 q3 q4 (keep q o q0 q1 q2 q3 q4 u)) (kg _ _ A.a.symm A.c.symm A.d.symm A.e.symm hL) hal ⟨hP.up, hP.from_, fun j a hj => ?_⟩ hacc))
    obtain ⟨x, y, e1, e2, e3⟩ := hP.at_ j a hj
    have b := hP.from_ a (List.mem_of_getElem? hj)
    exact ⟨x, y, e1, e2, kg _ _ (ne_lo below.1 b) (ne_lo below.2.1 b) (ne_lo below.2.2.1 b) (ne_lo below.2.2.2.1 b) e3⟩
  | succ m ih =>
    intro k h tk c acc as em hk Z keep hL hacc hal hP hlo
    obtain ⟨⟨x, ex⟩, ⟨y, ey⟩⟩ := ins k (by omega)
    have hsz : acc.size = k := by rw [← Array.length_toList, hacc, List.length_map, hal]
    refine codeAny_builtin PySem.F.entry_extend_loop ?_; rw [Around.under_plainId PySem.F.plain_extend_loop _]
    show wpAny _ AA.in1 (pyNext (.ref z) >>= _) _ _ _
    refine wpAny_bind (zst_item (sh := { sh with heap := h, toks := tk }) D Z (Heap.lt_size hL) ex ey fun g Zg pg sg kg => ?_)
    dsimp only at pg sg kg ⊢
    have gL := kg _ _ A.a.symm A.c.symm A.d.symm A.e.symm hL
    have oth : ∀ q o, q ≠ L → g.get? q = some o → (g.update L (Obj.mapSeq (·.push (Value.ref h.objs.size)))).get? q = some o := fun q o hq u => (Heap.get?_update_other _ _ (Ne.symm hq)).trans u
    have nL : h.objs.size ≠ L := Nat.ne_of_gt (Heap.lt_size hL)
    show wpAny _ AA.in1 (updateSeq L (·.push (Value.ref h.objs.size)) >>= _) _ _ _
    refine wpAny_bind (wpAny_updateSeq gL rfl (wpAny_pure ⟨plainId_quiet PySem.F.plain_extend_loop _, ih (k + 1) _ tk _ (acc.push (Value.ref h.objs.size)) (as ++ [h.objs.size]) (by omega) (by omega) (Zg.keep A oth) (fun q o q0 q1 q2 q3 q4 u => oth q o q0 (kg q o q1 q2 q3 q4 (keep q o q0 q1 q2 q3 q4 u)))
      (Heap.get?_update_self _ gL rfl) (by rw [Array.toList_push, hacc, List.map_append] <;> rfl) (by rw [List.length_append, hal] <;> rfl) ⟨?_, ?_, ?_⟩ ?_⟩) (by rw [hsz]; omega) (by show (acc.push (Value.ref h.objs.size)).size ≤ sizeLine + 1; rw [Array.size_push, hsz]; omega))
    · exact List.pairwise_append.mpr ⟨hP.up, List.pairwise_singleton _ _, fun a ha b hb => by rw [List.mem_singleton.mp hb]; exact hP.lt ha⟩
    · intro a ha
      rcases List.mem_append.mp ha with ha | ha
      · exact hP.from_ a ha
      · rw [List.mem_singleton.mp ha]; exact hlo
    · intro j a hj
      rcases Nat.lt_or_ge j as.length with jl | jl
      · rw [List.getElem?_append_left jl] at hj
        obtain ⟨x', y', e1, e2, e3⟩ := hP.at_ j a hj
        have b := hP.from_ a (List.mem_of_getElem? hj)
        exact ⟨x', y', e1, e2, oth _ _ (ne_lo below.2.2.2.2 b) (kg _ _ (ne_lo below.1 b) (ne_lo below.2.1 b) (ne_lo below.2.2.1 b) (ne_lo below.2.2.2.1 b) e3)⟩
      · rw [List.getElem?_append_right jl] at hj
        have j0 : j - as.length = 0 := by
          rcases Nat.eq_zero_or_pos (j - as.length) with u | u
          · exact u
          · rw [List.getElem?_eq_none (by simp only [List.length_singleton]; omega)] at hj
            cases hj
        rw [j0] at hj
        cases hj
        rw [show j = k by omega]
        exact ⟨x, y, ex, ey, oth _ _ nL pg⟩
    · have e : (g.update L (Obj.mapSeq (·.push (Value.ref h.objs.size)))).get? h.objs.size = _ := oth _ _ nL pg
      exact Nat.le_trans hlo (Nat.le_of_lt (Heap.lt_size e))
theorem zip_len : typeLookup (.type "zip") "__len__" = pure none := am_miss_of_fast (by decide +kernel)
theorem zip_hint : typeLookup (.type "zip") "__length_hint__" = pure none := am_miss_of_fast (by decide +kernel)
/-- list(z), z a new zip of two tuples -/
theorem zl_call {z TI TO i1 i2 l1 l2 : Addr} {xs ys : Array Value} {n : Nat} {W : Value → Shared → Prop} (hh : AA.handled = none) (D : ZipApart z TI TO i1 i2 l1 l2) (ty : sh.TypeIs (.ref z) "zip") (gz : IsZip sh.heap z TI TO .none) (gt : IsPair sh.heap TO .none .none) (pr : IsPair sh.heap TI (.ref i1) (.ref i2))
    (ia : sh.heap.IsTupleIter i1 l1 0) (ib : sh.heap.IsTupleIter i2 l2 0) (ta : sh.heap.IsTuple l1 xs) (tb : sh.heap.IsTuple l2 ys) (hn : n ≤ sizeLine) (ins : ∀ j, j < n → (∃ x, xs[j]? = some x) ∧ ∃ y, ys[j]? = some y) (ends : xs[n]? = none ∨ ys[n]? = none)
    (fin : ∀ h' tk acc c as, (∀ q o, q ≠ z → q ≠ TO → q ≠ i1 → q ≠ i2 → sh.heap.get? q = some o → h'.get? q = some o) → IsLs h' sh.heap.objs.size acc c → as.length = n → Prs xs ys sh.heap.objs.size h' as → (∀ a ∈ as, a ≠ sh.heap.objs.size) → acc.toList = as.map Value.ref → W (.ref sh.heap.objs.size) { sh with heap := h', toks := tk }) :
    wpAny (model prog wd) AA (call (.type "list") [.ref z]) W EE sh := by
  have lt : ∀ {q : Addr} {o : Obj}, sh.heap.get? q = some o → q < sh.heap.objs.size := fun e => Heap.lt_size e
  have z1 := lt gz
  have z2 := lt gt
  have z3 := lt pr
  have z4 : i1 < sh.heap.objs.size := let ⟨_, e, _⟩ := ia; lt e
  have z5 : i2 < sh.heap.objs.size := let ⟨_, e, _⟩ := ib; lt e
  have z6 : l1 < sh.heap.objs.size := let ⟨_, e, _⟩ := ta; lt e
  have z7 : l2 < sh.heap.objs.size := let ⟨_, e, _⟩ := tb; lt e
  have A : LOff sh.heap.objs.size z TI TO i1 i2 l1 l2 := ⟨Nat.ne_of_lt z1, Nat.ne_of_lt z3, Nat.ne_of_lt z2, Nat.ne_of_lt z4, Nat.ne_of_lt z5, Nat.ne_of_lt z6, Nat.ne_of_lt z7⟩
  have Z0 : ∀ g, (∀ q o, q ≠ sh.heap.objs.size → sh.heap.get? q = some o → g.get? q = some o) → ZSt g sh.heap.objs.size z TI TO i1 i2 l1 l2 xs ys 0 := fun g k =>
    ⟨k _ _ A.b pr, ia.at fun o u => k _ o A.d u, ib.at fun o u => k _ o A.e u, (let ⟨o, u, r⟩ := ta; ⟨o, k _ o A.f u, r⟩), (let ⟨o, u, r⟩ := tb; ⟨o, k _ o A.g u, r⟩), .inl ⟨k _ _ A.a gz, k _ _ A.c gt⟩⟩
  refine callType_codes (Q₁ := fun obj s₁ => obj = .ref sh.heap.objs.size ∧ s₁ = { sh with heap := sh.heap.push { cls := .type "list", data := .seq #[] } }) PySem.F.called_list (PySem.F.typeCall_list_1 _) PySem.F.entry_list_init (PySem.code_list_new _ ⟨rfl, rfl⟩) fun obj s₁ h₁ => ?_
  obtain ⟨rfl, rfl⟩ := h₁
  have gL : (sh.heap.push { cls := .type "list", data := .seq #[] }).get? sh.heap.objs.size = some { cls := .type "list", data := .seq #[] } := Heap.get?_push_size _ rfl
  refine ⟨⟨_, gL, rfl⟩, PySem.F.args_list_init_2 _ _, ?_⟩
  show wpAny _ _ (do let old ← Builtin.List.listItems (.ref sh.heap.objs.size); Builtin.List.listUpdate (.ref sh.heap.objs.size) (fun _ => #[]); letGo old.toList.reverse; Builtin.List.listExtendWith (.ref sh.heap.objs.size) (.ref z) .none) _ _ _
  refine wpAny_bind ?_
  unfold Builtin.List.listItems
  refine wpAny_bind (wpAny_seqItems gL rfl (wpAny_pure ?_))
  show wpAny _ _ (updateSeq sh.heap.objs.size (fun _ => #[]) >>= fun _ => letGo (#[] : Array Value).toList.reverse >>= fun _ => Builtin.List.listExtendWith (.ref sh.heap.objs.size) (.ref z) .none) _ _ _
  refine wpAny_bind (wpAny_updateSeq gL rfl ?_)
  have g2 := Heap.get?_update_self (Obj.mapSeq (fun _ => (#[] : Array Value))) gL rfl
  have o1 : ∀ q o, q ≠ sh.heap.objs.size → sh.heap.get? q = some o → (sh.heap.push { cls := .type "list", data := .seq #[] }).get? q = some o := fun q o _ e => Heap.get?_push_of_some _ e
  have o2 : ∀ q o, q ≠ sh.heap.objs.size → sh.heap.get? q = some o → ((sh.heap.push { cls := .type "list", data := .seq #[] }).update sh.heap.objs.size (Obj.mapSeq (fun _ => (#[] : Array Value)))).get? q = some o :=
    fun q o hq e => (Heap.get?_update_other _ _ (Ne.symm hq)).trans (o1 q o hq e)
  refine wpAny_bind (wpAny_letGo ?_)
  have gz2 := o2 _ _ A.a gz
  have ty2 : Shared.TypeIs { sh with heap := (sh.heap.push { cls := .type "list", data := .seq #[] }).update sh.heap.objs.size (Obj.mapSeq (fun _ => (#[] : Array Value))) } (.ref z) "zip" := ⟨_, gz2, rfl⟩
  unfold Builtin.List.listExtendWith
  refine wpAny_bind (wpAny_typeOf ty2 ?_)
  have h1 : Builtin.List.listSameRef (.ref sh.heap.objs.size) (.ref z) = false := by simp [Builtin.List.listSameRef, (Ne.symm A.a)]
  have h2 : (Value.type "zip" == Value.type "list") = false := by decide
  have h3 : (Value.type "zip" == Value.type "tuple") = false := by decide
  simp only [h1, h2, h3, Bool.or_false, Bool.false_eq_true, if_false]
  refine wpAny_bind (wpAny_pyIter_zip gz2 ?_)
  refine wpAny_bind (wpAny_holding ?_)
  unfold Builtin.List.listLengthHint
  refine wpAny_bind (wpAny_specialOf ty2 zip_len ?_)
  show wpAny _ _ (specialOf (Value.ref z) (Str.ofString "__length_hint__") >>= _) _ _ _
  refine wpAny_bind (wpAny_specialOf ty2 zip_hint ?_)
  refine wpAny_pure ?_
  show wpAny _ _ (rule "list.extend.makes-room" >>= fun _ => Builtin.List.listTouch (.ref sh.heap.objs.size) >>= fun _ =>
    again (.builtin "list.extend.loop" ⟨[.ref sh.heap.objs.size, .ref z, .none], []⟩)) _ _ _
  refine wpAny_bind (wpAny_rule ?_)
  refine wpAny_bind ?_
  show wpAny _ _ (updateSeq sh.heap.objs.size (·.push .none) >>= fun _ => updateSeq sh.heap.objs.size (·.pop)) _ _ _
  refine wpAny_bind (wpAny_updateSeq g2 rfl ?_)
  have g3 := Heap.get?_update_self (Obj.mapSeq (·.push Value.none)) g2 rfl
  refine wpAny_updateSeq (hz := by seq_fits) g3 rfl ?_
  have g4 := Heap.get?_update_self (Obj.mapSeq (·.pop)) g3 rfl
  have o4 : ∀ q o, q ≠ sh.heap.objs.size → sh.heap.get? q = some o → ((((sh.heap.push { cls := .type "list", data := .seq #[] }).update sh.heap.objs.size (Obj.mapSeq (fun _ => (#[] : Array Value)))).update sh.heap.objs.size (Obj.mapSeq (·.push Value.none))).update sh.heap.objs.size (Obj.mapSeq (·.pop))).get? q = some o :=
    fun q o hq e => (Heap.get?_update_other _ _ (Ne.symm hq)).trans ((Heap.get?_update_other _ _ (Ne.symm hq)).trans (o2 q o hq e))
  refine wpAny_pure ⟨plainId_quiet PySem.F.plain_extend_loop _, zl_loop (AA := AA.in1) (sh := sh) hh D A .none (sh.heap.objs.size + 1) _ ⟨Nat.lt_succ_of_lt z1, Nat.lt_succ_of_lt z2, Nat.lt_succ_of_lt z4, Nat.lt_succ_of_lt z5, Nat.lt_succ_self _⟩ hn ins ends
    (fun h' tk acc c as hk hL hl hP hacc => ?_) n 0 _ _ _ #[] [] (Nat.sub_zero _) (Nat.zero_le _) (Z0 _ o4) (fun q o _ _ _ _ _ e => e) g4 rfl rfl ⟨List.Pairwise.nil, (fun _ ha => nomatch ha), (fun j a hj => by simp at hj)⟩ ?_⟩
  · exact ⟨rfl, fin h' tk acc c as (fun q o q1 q2 q3 q4 e => hk q o (Nat.ne_of_lt (Heap.lt_size e)) q1 q2 q3 q4 (o4 q o (Nat.ne_of_lt (Heap.lt_size e)) e)) hL hl ⟨hP.up, (fun a ha => Nat.le_of_succ_le (hP.from_ a ha)), hP.at_⟩ (fun a ha => Nat.ne_of_gt (hP.from_ a ha)) hacc⟩
  · exact Heap.lt_size g4
end
section
variable {prog : Program} {wd : World}
def putP : Hp → List Addr → List (V × V) → Hp
  | H, a :: as, p :: ps => putP (upd H a (.tup [p.1, p.2])) as ps
  | H, _, _ => H
theorem putP_off {b : Addr} : ∀ (as : List Addr) (ps : List (V × V)) (H : Hp), b ∉ as → putP H as ps b = H b
  | [], _, _, _ => rfl
  | _ :: _, [], _, _ => rfl
  | a :: as, p :: ps, H, h => by
    show putP (upd H a (.tup [p.1, p.2])) as ps b = H b
    rw [putP_off as ps _ (fun z => h (List.mem_cons_of_mem _ z)), upd_ne (fun z => h (by rw [z]; exact List.mem_cons_self))]
theorem putP_at : ∀ (as : List Addr) (ps : List (V × V)) (H : Hp), as.length = ps.length → as.Nodup → ∀ (j : Nat) (t : Addr), as[j]? = some t → ∃ p, ps[j]? = some p ∧ putP H as ps t = some (.tup [p.1, p.2])
  | [], _, _, _, _, j, t, h => by simp at h
  | _ :: _, [], _, h, _, _, _, _ => by cases h
  | a :: as, p :: ps, H, h, hn, 0, t, ht => by
    have hn' := List.nodup_cons.mp hn
    have e : a = t := by simpa using ht
    subst e
    refine ⟨p, rfl, ?_⟩
    show putP (upd H a (.tup [p.1, p.2])) as ps a = _
    rw [putP_off as ps _ hn'.1, upd_same]
  | a :: as, p :: ps, H, h, hn, j + 1, t, ht => by
    have hn' := List.nodup_cons.mp hn
    obtain ⟨r, e1, e2⟩ := putP_at as ps (upd H a (.tup [p.1, p.2])) (Nat.succ.inj h) hn'.2 j t (by simpa using ht)
    exact ⟨r, by simpa using e1, e2⟩
/-- what list(zip(t, u)) leaves -/
def rZipL (K : PySem.W.Frag) : List V → Hp → VK → Prop := fun vs H Q => ∃ (a b : Addr) (xs ys : List V), vs = [.ref a, .ref b] ∧ SqT K H a xs ∧ SqT K H b ys ∧
  ∀ (H' : Hp) (p : Addr) (ts : List Addr), (∀ b o, H b = some o → H' b = some o) → H p = none → (∀ t ∈ ts, H t = none) → p ∉ ts → H' p = some (.lst (ts.map V.ref)) → ts.length = (xs.zip ys).length →
    (∀ (j : Nat) (t : Addr), ts[j]? = some t → ∃ q, (xs.zip ys)[j]? = some q ∧ H' t = some (.tup [q.1, q.2])) → Q (.ref p) H'
def tZipL (K : PySem.W.Frag) (ta : TA) : TE := fun σ H Q => ta σ H fun vs H1 => rZipL K vs H1 Q
variable {X : Cx}
theorem zip_laid {pins : List (Addr × Obj)} {σ : L2.St} {H : Hp} {s : Shared} {h' : Heap} {tk : Nat} {xs ys : List V} {its its2 : List Value} {acc : Array Value} {c : Nat} {as : List Addr} {S : Addr} (I : Inv X pins σ H s) (rx : Vals xs its) (ry : Vals ys its2) (hz : (xs.zip ys).length ≤ sizeLine)
    (hk : ∀ b o, s.heap.get? b = some o → h'.get? b = some o) (hS0 : s.heap.objs.size ≤ S) (hS : IsLs h' S acc c) (hl : as.length = (xs.zip ys).length) (hP : Prs its.toArray its2.toArray s.heap.objs.size h' as) (hne : ∀ a ∈ as, a ≠ S) (hacc : acc.toList = as.map Value.ref) :
    ∃ H' : Hp, (∀ b o, H b = some o → H' b = some o) ∧ H S = none ∧ (∀ t ∈ as, H t = none) ∧ S ∉ as ∧ H' S = some (.lst (as.map V.ref)) ∧ (∀ (j : Nat) (t : Addr), as[j]? = some t → ∃ q, (xs.zip ys)[j]? = some q ∧ H' t = some (.tup [q.1, q.2])) ∧ Inv X pins σ H' { s with heap := h', toks := tk } := by
  have hSn : S ∉ as := fun z => hne _ z rfl
  have nd : as.Nodup := List.Pairwise.imp (fun {a b} (h : a < b) => Nat.ne_of_lt h) hP.up
  have new : ∀ t ∈ as, H t = none := fun t ht => I.hok.fresh (hP.from_ t ht)
  have newS : H S = none := I.hok.fresh hS0
  have atP := putP_at as (xs.zip ys) (upd H S (.lst (as.map V.ref))) hl nd
  have off : ∀ b, b ∉ as → b ≠ S → putP (upd H S (.lst (as.map V.ref))) as (xs.zip ys) b = H b := fun b h1 h2 => by rw [putP_off as _ _ h1, upd_ne h2]
  have low : ∀ b o, s.heap.get? b = some o → b ∉ as ∧ b ≠ S := fun b o e => ⟨fun z => absurd (Heap.lt_size e) (Nat.not_lt.mpr (hP.from_ b z)), Nat.ne_of_lt (Nat.lt_of_lt_of_le (Heap.lt_size e) hS0)⟩
  have kp : ∀ b u, H b = some u → (putP (upd H S (.lst (as.map V.ref))) as (xs.zip ys)) b = some u := fun b u e => by
    rw [off b (fun z => by rw [new b z] at e; cases e) (fun z => by rw [z, newS] at e; cases e)]
    exact e
  have eS : putP (upd H S (.lst (as.map V.ref))) as (xs.zip ys) S = some (.lst (as.map V.ref)) := by rw [putP_off as _ _ hSn, upd_same]
  refine ⟨putP (upd H S (.lst (as.map V.ref))) as (xs.zip ys), kp, newS, new, hSn, eS, atP, ?_⟩
  refine I.call' (ch := []) rfl ⟨fun b o q _ _ _ => hk b o q, fun b o q _ _ _ => ⟨o.slots, hk b o q⟩, fun b o q n _ => ?_, fun b o q _ => ⟨o, hk b o q⟩, fun b xs q => kp b _ q, fun b o u q => kp b _ q, fun b ps q => ⟨#[], by rw [kp b _ q]; simp⟩⟩ (fun b u q => ?_) I.bare fun b z => by simp at z
  · obtain ⟨z1, z2⟩ := low b o q
    rw [off b z1 z2]
    exact n
  · by_cases hb : b ∈ as
    · obtain ⟨j, hj⟩ := List.mem_iff_getElem?.mp hb
      obtain ⟨p, e2, e3⟩ := atP j b hj
      rw [e3] at q
      cases q
      obtain ⟨x, y, f1, f2, f3⟩ := hP.at_ j b hj
      obtain ⟨g1, g2⟩ := List.getElem?_zip_eq_some.mp e2
      obtain ⟨u1, k1, r1⟩ := rx.get g1
      obtain ⟨u2, k2, r2⟩ := ry.get g2
      rw [List.getElem?_toArray, k1] at f1
      rw [List.getElem?_toArray, k2] at f2
      cases f1
      cases f2
      exact ⟨by show 2 ≤ sizeLine; decide, [x, y], .cons r1 (.cons r2 .nil), ⟨_, f3, rfl, _, rfl⟩⟩
    · by_cases hb2 : b = S
      · rw [hb2] at q ⊢
        rw [eS] at q
        cases q
        refine ⟨by rw [List.length_map]; omega, acc.toList, c, by rw [hacc]; exact LiI.vals_refs as, ?_⟩
        rw [Array.toArray_toList]
        exact hS
      · rw [off b hb hb2] at q
        exact (I.hok b u q).stay (fun d v _ y => hk d v y) (fun d y => kp d _ y) fun d xs y => kp d _ y
/-- list(zip(e, e2)) of two tuples -/
theorem pe_listZip {e e2 : Expr} {ta : TA} {p zp zpos pos : Pos} (hgl : Gl X "list") (hml : X.mg "list" = none) (hv : bootBuiltins "list" = some (.type "list")) (hg : Gl X "zip") (hm : X.mg "zip" = none) (ha : PA X [e, e2] ta) (hc : X.calm = true := by rfl)
    (hs1 : starEach [.Call (.Name "zip" zp) [e, e2] [] zpos] X.env = (false, eval (.Call (.Name "zip" zp) [e, e2] [] zpos) X.env) :: starEach [] X.env := by rfl)
    (hs : starEach [e, e2] X.env = (false, eval e X.env) :: starEach [e2] X.env := by rfl) (hpl : (backTo zpos (starEach [e2] X.env)).any (·.1) = false := by rfl) :
    PE X (.Call (.Name "list" p) [.Call (.Name "zip" zp) [e, e2] [] zpos] [] pos) (tZipL X.K ta) := by
  refine ⟨fun pins s σ H Q I h => ?_⟩
  refine wpAny_Call_Name_kw (ld_blt I hgl hml hv ?_)
  refine PyProof.Rows.callWith_type1 ?_ hs1 rfl
  rw [hs1]
  show wpAny _ _ (spliced ((false, eval (.Call (.Name "zip" zp) [e, e2] [] zpos) X.env) :: backTo pos (starEach [] X.env))) _ _ s
  refine Calls.spliced_cons ?_
  refine Call_ (ld_blt I hg hm PyProof.Rows.boot_zip (PyProof.Rows.callWith_type1 (thn (ha.run zpos pins s σ H _ I h) fun us s1 ⟨vs, H1, I1, r1, q1⟩ => ?_) hs hpl))
  obtain ⟨a, b, xs, ys, ex, sx, sy, q1⟩ := q1
  subst ex
  cases r1 with
  | cons r rr =>
    cases rr with
    | cons r' rr =>
      cases rr
      cases r
      cases r'
      obtain ⟨its, rv, p1, z1⟩ := I1.tuple sx
      obtain ⟨its2, rv2, p2, z2⟩ := I1.tuple sy
      obtain ⟨o1, ho1, _⟩ := id p1
      obtain ⟨o2, ho2, _⟩ := id p2
      refine RZ.call_zipT (show s1.heap.IsTuple a its.toArray from p1) (show s1.heap.IsTuple b its2.toArray from p2) fun h' hz hTI hTO h1 h2 hsz hk => ?_
      refine Calls.spliced_nil ?_
      have len : (xs.zip ys).length = min xs.length ys.length := List.length_zip
      have l1 := rv.length
      have l2 := rv2.length
      refine zl_call (n := (xs.zip ys).length) (xs := its.toArray) (ys := its2.toArray) (sh := { s1 with heap := h' }) (I1.ok.hd hc) (PySem.W.ktu_apart s1.heap.objs.size a b (Heap.lt_size ho1) (Heap.lt_size ho2)) ⟨_, hz, rfl⟩ hz hTO hTI h1 h2 (let ⟨o, q, r⟩ := p1; ⟨o, hk _ o q, r⟩) (let ⟨o, q, r⟩ := p2; ⟨o, hk _ o q, r⟩) (by omega) (fun j hj => ⟨⟨its[j]'(by omega), ?_⟩, its2[j]'(by omega), ?_⟩) ?_ fun h2' tk acc c as kk hL hl hP hne hacc => ?_
      · rw [List.getElem?_toArray, List.getElem?_eq_getElem (by omega)]
      · rw [List.getElem?_toArray, List.getElem?_eq_getElem (by omega)]
      · rw [List.getElem?_toArray, List.getElem?_toArray]
        rcases Nat.le_total xs.length ys.length with u | u
        · exact .inl (List.getElem?_eq_none (by omega))
        · exact .inr (List.getElem?_eq_none (by omega))
      · have sz : h'.objs.size = s1.heap.objs.size + 5 := hsz
        have lt5 : ∀ {q : Addr} {o : Obj} {n : Nat}, s1.heap.get? q = some o → q ≠ s1.heap.objs.size + n := fun e => Nat.ne_of_lt (Nat.lt_of_lt_of_le (Heap.lt_size e) (Nat.le_add_right _ _))
        have up : s1.heap.objs.size ≤ h'.objs.size := by rw [sz]; exact Nat.le_add_right _ _
        obtain ⟨H', k1, k2, k3, k4, k5, k6, J⟩ := zip_laid (tk := tk) I1 rv rv2 (by omega) (fun q o e => kk q o (lt5 e) (lt5 e) (Nat.ne_of_lt (Heap.lt_size e)) (lt5 e) (hk q o e)) up hL hl ⟨hP.up, fun a ha => Nat.le_trans up (hP.from_ a ha), hP.at_⟩ hne hacc
        exact ⟨.ref _, H', J, rfl, q1 H' _ as k1 k2 k3 k4 k5 hl k6⟩
end
--CUT
/-! ### the tape of drawn numbers -/
/-- all that was tracked stays, but what stands at t -/
def Kp (t : Addr) (H H' : Hp) : Prop := ∀ b o, b ≠ t → H b = some o → H' b = some o
theorem Kp.refl (t : Addr) (H : Hp) : Kp t H H := fun _ _ _ h => h
theorem Kp.trans {t : Addr} {H H1 H2 : Hp} (a : Kp t H H1) (b : Kp t H1 H2) : Kp t H H2 := fun c o n h => b c o n (a c o n h)
theorem Kp.of_same {t : Addr} {H H' : Hp} (a : Same H H') : Kp t H H' := fun c o _ h => a c o h
theorem Kp.put {t : Addr} {H : Hp} {o : HO} : Kp t H (upd H t o) := fun b u n h => by rw [upd_ne n]; exact h
theorem same_upd {H : Hp} {p : Addr} {o : HO} (h : H p = none) : Same H (upd H p o) := fun b x e => by
  rw [upd_ne (ne_of_none e h)]
  exact e
theorem Kp.new {t : Addr} {H H' : Hp} {p : Addr} {o : HO} (a : Kp t H H') (h : H' p = none) : Kp t H (upd H' p o) := a.trans (.of_same (same_upd h))
def Tape (H : Hp) (t c : Addr) : Prop := ∃ (cs : List Int) (a : Nat) (b k r : Int), H t = some (.lst [.ref c, .int a, .int b, .int k, .int r]) ∧ H c = some (.lst (cs.map V.int)) ∧ c ≠ t ∧ a < cs.length
theorem Tape.same {H H' : Hp} {t c : Addr} (h : Tape H t c) (s : Same H H') : Tape H' t c := by
  obtain ⟨cs, a, b, k, r, h1, h2, h3, h4⟩ := h
  exact ⟨cs, a, b, k, r, s _ _ h1, s _ _ h2, h3, h4⟩
theorem Tape.off {H : Hp} {t c m : Addr} (h : Tape H t c) (n : H m = none) : m ≠ t ∧ m ≠ c := by
  obtain ⟨cs, a, b, k, r, h1, h2, h3, h4⟩ := h
  exact ⟨fun e => ne_of_none h1 n e.symm, fun e => ne_of_none h2 n e.symm⟩
theorem Tape.put {H : Hp} {t c m : Addr} {o : HO} (h : Tape H t c) (n : m ≠ t ∧ m ≠ c) : Tape (upd H m o) t c := by
  obtain ⟨cs, a, b, k, r, h1, h2, h3, h4⟩ := h
  exact ⟨cs, a, b, k, r, by rw [upd_ne n.1.symm]; exact h1, by rw [upd_ne n.2.symm]; exact h2, h3, h4⟩
theorem Tape.set {H : Hp} {t c : Addr} {cs : List Int} {a : Nat} {b k r : Int} (h2 : H c = Option.some (.lst (cs.map V.int))) (h3 : c ≠ t) (h4 : a < cs.length) : Tape (upd H t (.lst [.ref c, .int a, .int b, .int k, .int r])) t c :=
  ⟨cs, a, b, k, r, upd_same, by rw [upd_ne h3]; exact h2, h3, h4⟩
theorem ix5 (a b c d e : V) : ixN [a, b, c, d, e].length 0 = Option.some 0 ∧ ixN [a, b, c, d, e].length 1 = Option.some 1 ∧ ixN [a, b, c, d, e].length 2 = Option.some 2 ∧ ixN [a, b, c, d, e].length 3 = Option.some 3 ∧ ixN [a, b, c, d, e].length 4 = Option.some 4 := ⟨rfl, rfl, rfl, rfl, rfl⟩
theorem sz5 (a b c d e : V) : [a, b, c, d, e].length ≤ sizeLine := by show 5 ≤ sizeLine; decide
section
variable {P : Program} {w : World} {K : PySem.W.Frag} {mg : Str → Option Value} {base : Heap}
def sp__law_tape (K : PySem.W.Frag) : Sp := fun vs H Q _ => ∃ (a : Addr) (ns : List Int), vs = [.ref a] ∧ SqL K H a (ns.map V.int) ∧ ns.length ≤ 1000 ∧ ∀ H' t c, Same H H' → H t = none → Tape H' t c → Q (.ref t) H'
theorem T0.ok__law_tape (T : T0 K mg) : FnOk P w K mg base CX0 1 T.a__law_tape T.fd__law_tape ["script"] (sp__law_tape K) := by
  refine T.F__law_tape.ok sc__law_tape (fun vs H Q E h => ?_) (fun cdv A outer s H vs Q E hr h => ?_)
  · obtain ⟨a, ns, rfl, _⟩ := h
    rfl
  · obtain ⟨a, ns, rfl, hS, hlen, q⟩ := h
    refine ⟨_, (pss_cons (ps_setLc (i := 1) (own := [("cell", 2)]) (g := gName 2) (by rfl) sc__law_tape.nd rfl rfl (sw_true rfl rfl rfl (by decide +kernel)) (pi_list (pv 0)) (blkOk_by (own := [("cell", 2)]) (N := ["script", "cells", "cell"]) (sc := defScope s__law_tape) (by decide +kernel)) (fun _ _ _ _ _ => pg_name (i := 2) sc__law_tape.nd rfl (Or.inl rfl)) (fun _ _ _ _ _ => pts_nil) (fun _ _ _ _ _ => (pe_callB call_abs (by rfl) T.m_abs (by decide +kernel) (pa_cons (pe_callTy call_int1 (by rfl) T.m_int (by decide +kernel) (pa_cons (pv 2) pa_nil)) pa_nil))))
        (C8.pss_cut (ps_if (pt_cmpR op_eq (pe_callB (call_lenK (K := K)) (by rfl) T.m_len PySem.boot_len (pa_cons (pv 1) pa_nil)) pe_int (nomark _)) (pss_one (ps_set (i := 1) sc__law_tape.nd rfl (Or.inl rfl) (pe_lst (pa_cons pe_int pa_nil)))) pss_nil)
        (pss_one (ps_ret (pe_lst (pa_cons (pv 1) (pa_cons pe_int (pa_cons (pe_ix (ix_listK (K := K)) (pv 1) pe_int (fun _ _ => rfl)) (pa_cons pe_int (pa_cons pe_int pa_nil)))))))))), ?_⟩
    -- cells = [..]
    refine ⟨.ref a, rfl, a, rfl, ⟨_, hS⟩, fun D hD => lc_list (K := K) (a := a) (xs := ns.map V.int) (fun i H' => Same H H' ∧ ∃ ms : List Int, ms.length = i ∧ H' D = some (.lst (ms.map V.int))) ⟨same_upd hD, [], rfl, upd_same⟩ (fun i H' _ p => p.1.seq hS) (fun i x H' hx p => ?_) (fun H1 p => ?_)⟩
    · obtain ⟨sm, ms, e1, e2⟩ := p
      rw [List.getElem?_map] at hx
      obtain ⟨n, hn, rfl⟩ := Option.map_eq_some_iff.mp hx
      refine ⟨rfl, ?_⟩
      refine ⟨_, rfl, .inl ⟨_, rfl, _, rfl, ms.map V.int, e2, ?_, ?_⟩⟩
      · have hi : i < ns.length := (List.getElem?_eq_some_iff.mp hn).1
        rw [List.length_map]
        exact small1000' (by omega)
      · refine ⟨fun b o h => ?_, ms ++ [if n < 0 then -n else n], ?_, ?_⟩
        · rw [upd_ne (ne_of_none h hD)]
          exact sm b o h
        · rw [List.length_append, e1]
          rfl
        · rw [upd_same, List.map_append]
          rfl
    · obtain ⟨sm, ms, e1, e2⟩ := p
      rw [List.length_map] at e1
      -- if len(cells) == 0
      refine ⟨fun σ' H' => ∃ (c : Addr) (cs : List Int) (x2 : Option V), σ' = [some (.ref a), some (.ref c), x2] ∧ Same H H' ∧ H c = none ∧ H' c = some (.lst (cs.map V.int)) ∧ 0 < cs.length, ?_, fun σ' H' hM => ?_⟩
      · refine ⟨.ref D, rfl, D, ms.map V.int, rfl, .inl (SqL.of e2), rfl, _, rfl, ite2 (fun e => ?_) (fun e => ?_)⟩
        · refine ⟨by decide, fun p np => ?_⟩
          refine ⟨p, [0], none, rfl, ?_, ?_, upd_same, by decide⟩
          · exact sm.trans (same_upd np)
          · exact sm.free np
        · have h0 : ((ms.map V.int).length : Int) ≠ 0 := fun z => e (decide_eq_true (congrArg V.int z))
          rw [List.length_map] at h0
          exact ⟨D, ms, none, rfl, sm, hD, e2, by omega⟩
      · obtain ⟨c, cs, x2, rfl, sm2, nc, e3, hp⟩ := hM
        refine ⟨.ref c, rfl, .ref c, rfl, c, cs.map V.int, 0, .int (cs[0]), rfl, rfl, SqL.of e3, at_ints hp, sz5 _ _ _ _ _, fun t nt => ?_⟩
        refine q _ t c (sm2.trans (same_upd nt)) (sm2.free nt) (Tape.set (a := 0) e3 (ne_of_none e3 nt) hp)
def sp__law_pick (K : PySem.W.Frag) : Sp := fun vs H Q _ => ∃ (t c : Addr) (n : Int), vs = [.ref t, .int n] ∧ Tape H t c ∧ 0 < n ∧ n ≤ 4000000000 ∧ ∀ x H', 0 ≤ x → x < n → Kp t H H' → Tape H' t c → Q (.int x) H'
theorem T0.ok__law_pick (T : T0 K mg) : FnOk P w K mg base CX0 1 T.a__law_pick T.fd__law_pick ["tape", "size"] (sp__law_pick K) := by
  refine T.F__law_pick.ok sc__law_pick (fun vs H Q E h => ?_) (fun cdv A outer s H vs Q E hr h => ?_)
  · obtain ⟨t, c, n, rfl, _⟩ := h
    rfl
  · obtain ⟨t, c, n, rfl, ⟨cs, a, b, k, r, hT, hC, nct, ha⟩, hn0, hn1, q⟩ := h
    refine ⟨_, (pss_cons (ps_set (i := 2) sc__law_pick.nd rfl (Or.inl rfl) (pe_ix (ix_listK (K := K)) (pv 0) pe_int (fun _ _ => rfl)))
        (pss_cons (ps_set (i := 3) sc__law_pick.nd rfl (Or.inl rfl) (pe_ix (ix_listK (K := K)) (pv 2) (pe_ix (ix_listK (K := K)) (pv 0) pe_int (fun _ _ => rfl)) (fun _ _ => rfl)))
        (pss_cons (ps_set (i := 4) sc__law_pick.nd rfl (Or.inl rfl) (pe_op op_add (pe_ix (ix_listK (K := K)) (pv 0) pe_int (fun _ _ => rfl)) (pe_op op_mul pe_int (pe_ix (ix_listK (K := K)) (pv 0) pe_int (fun _ _ => rfl)))))
        (C8.pss_cut (ps_if (PW.pt (pw_and (pt_cmpR op_ge (pv 3) (pe_op op_pow pe_int pe_int) (nomark _)) (pw_and1 (pt_cmpR op_eq (pe_ix (ix_listK (K := K)) (pv 0) pe_int (fun _ _ => rfl)) pe_int (nomark _))))) (pss_cons (ps_set (i := 5) sc__law_pick.nd rfl (Or.inl rfl) (pe_op op_modN (pe_callTy call_int1 (by rfl) T.m_int (by decide +kernel) (pa_cons (pe_ix (ix_listK (K := K)) (pv 0) pe_int (fun _ _ => rfl)) pa_nil)) (pv 1)))
        (pss_cons (ps_asg ((pe_op op_fdivW (pe_ix (ix_listK (K := K)) (pv 0) pe_int (fun _ _ => rfl)) (pv 1))) (pg_sub (pv 0) pe_int set_list))
        (pss_one (ps_set (i := 6) sc__law_pick.nd rfl (Or.inl rfl) (pe_cmpR op_eq (pe_ix (ix_listK (K := K)) (pv 0) pe_int (fun _ _ => rfl)) pe_int (nomark _)))))) (pss_cons (ps_set (i := 7) sc__law_pick.nd rfl (Or.inl rfl) (pe_op op_modN (pe_callTy call_int1 (by rfl) T.m_int (by decide +kernel) (pa_cons (pe_op op_add (pe_op op_add (pv 3) (pe_op op_mul pe_int (pv 4))) pe_int) pa_nil)) pe_int))
        (pss_cons (ps_set (i := 7) sc__law_pick.nd rfl (Or.inl rfl) (pe_op op_modN (pe_callTy call_int1 (by rfl) T.m_int (by decide +kernel) (pa_cons (pe_op op_mul (pv 7) (pe_op op_add (pv 7) pe_int)) pa_nil)) pe_int))
        (pss_cons (ps_set (i := 7) sc__law_pick.nd rfl (Or.inl rfl) (pe_op op_modN (pe_callTy call_int1 (by rfl) T.m_int (by decide +kernel) (pa_cons (pe_op op_add (pe_op op_mul (pv 7) (pe_op op_add (pv 7) pe_int)) (pe_op op_mul pe_int (pv 4))) pa_nil)) pe_int))
        (pss_cons (ps_set (i := 5) sc__law_pick.nd rfl (Or.inl rfl) (pe_op op_modN (pe_callTy call_int1 (by rfl) T.m_int (by decide +kernel) (pa_cons (pe_op op_fdivN (pv 7) pe_int) pa_nil)) (pv 1)))
        (pss_one (ps_set (i := 6) sc__law_pick.nd rfl (Or.inl rfl) (pe_cmpR op_eq (pe_op op_modN (pe_callTy call_int1 (by rfl) T.m_int (by decide +kernel) (pa_cons (pv 4) pa_nil)) pe_int) pe_int (nomark _)))))))))
        (pss_cons (ps_asg (pe_op op_add (pe_ix (ix_listK (K := K)) (pv 0) pe_int (fun _ _ => rfl)) pe_int) (pg_sub (pv 0) pe_int set_list))
        (C8.pss_cut (ps_if (pt_val (pv 6)) (pss_cons (ps_asg pe_int (pg_sub (pv 0) pe_int set_list))
        (pss_cons (ps_asg (pe_op op_add (pe_ix (ix_listK (K := K)) (pv 0) pe_int (fun _ _ => rfl)) pe_int) (pg_sub (pv 0) pe_int set_list))
        (C8.pss_cut (ps_if (pt_cmpR op_eq (pe_ix (ix_listK (K := K)) (pv 0) pe_int (fun _ _ => rfl)) (pe_callB (call_lenK (K := K)) (by rfl) T.m_len PySem.boot_len (pa_cons (pv 2) pa_nil)) (nomark _)) (pss_cons (ps_asg pe_int (pg_sub (pv 0) pe_int set_list))
        (pss_one (ps_asg (pe_op op_add (pe_ix (ix_listK (K := K)) (pv 0) pe_int (fun _ _ => rfl)) pe_int) (pg_sub (pv 0) pe_int set_list)))) pss_nil)
        (pss_one (ps_asg (pe_ix (ix_listK (K := K)) (pv 2) (pe_ix (ix_listK (K := K)) (pv 0) pe_int (fun _ _ => rfl)) (fun _ _ => rfl)) (pg_sub (pv 0) pe_int set_list)))))) pss_nil)
        (pss_one (ps_ret (pv 5))))))))), ?_⟩
    have st : SqL K H t [.ref c, .int a, .int b, .int k, .int r] := SqL.of hT
    have sc : SqL K H c (cs.map V.int) := SqL.of hC
    -- cells = tape[0]; cell = cells[tape[1]]
    refine ⟨.ref t, rfl, t, _, 0, .ref c, rfl, rfl, st, rfl, ?_⟩
    refine ⟨.ref c, rfl, .ref t, rfl, t, _, 1, .int a, rfl, rfl, st, rfl, c, _, a, .int (cs[a]), rfl, rfl, sc, at_ints ha, ?_⟩
    -- k = tape[3] + 61 * tape[4]
    refine ⟨.ref t, rfl, t, _, 3, .int k, rfl, rfl, st, rfl, .ref t, rfl, t, _, 4, .int r, rfl, rfl, st, rfl, 61, r, rfl, rfl, .inl (by decide), _, _, rfl, rfl, ?_⟩
    refine ⟨fun σ' H' => ∃ (x : Int) (u : Bool) (b' : Int) (y : Option V), σ' = [some (.ref t), some (.int n), some (.ref c), some (.int cs[a]), some (.int (k + 61 * r)), some (.int x), some (.bl u), y] ∧ 0 ≤ x ∧ x < n ∧ H' = upd H t (.lst [.ref c, .int a, .int b', .int k, .int r]), ?_, fun σ' H' hM => ?_⟩
    · -- if cell >= 10 ** 18 and tape[4] == 0
      have hn : n ≠ 0 := by omega
      have fm : ∀ x : Int, 0 ≤ x.fmod n ∧ x.fmod n < n := fun x => fmod_range x hn0
      refine ⟨.int cs[a], rfl, 10, 18, rfl, rfl, ⟨by decide, by decide, by decide⟩, _, _, rfl, rfl, _, rfl, ite2 (fun _ => ?A) (fun _ => ?no1)⟩
      case' A => refine ⟨.ref t, rfl, t, _, 4, .int r, rfl, rfl, st, rfl, rfl, _, rfl, ite2 (fun _ => ?yes) (fun _ => ?no2)⟩
      case yes =>
        walk_at "go"
        exact ⟨_, _, _, none, rfl, (fm _).1, (fm _).2, rfl⟩
      case no1 | no2 =>
        walk_at "go"
        exact ⟨_, _, b, _, rfl, (fm _).1, (fm _).2, upd_self hT⟩
    · obtain ⟨x, u, b', y, rfl, hx0, hx1, rfl⟩ := hM
      have sc' : ∀ xs, SqL K (upd H t (.lst xs)) c (cs.map V.int) := fun xs => SqL.of ((upd_ne nct).trans hC)
      -- tape[3] = tape[3] + 1
      walk_at "go"
      rw [upd_upd]
      refine ⟨fun σ' H' => ∃ (a' : Nat) (b2 k2 r2 : Int), a' < cs.length ∧ σ' = [some (.ref t), some (.int n), some (.ref c), some (.int cs[a]), some (.int (k + 61 * r)), some (.int x), some (.bl u), y] ∧ H' = upd H t (.lst [.ref c, .int a', .int b2, .int k2, .int r2]), ?_, fun σ' H' hM => ?_⟩
      · refine ⟨_, rfl, _, rfl, ?_⟩
        cases u with
        | false => exact iteF ⟨a, b', k + 1, r, ha, rfl, rfl⟩
        | true =>
          refine iteT ?_
          -- tape[3] = 0; tape[1] = tape[1] + 1
          walk_at "go"
          rw [upd_upd]
          walk_at "go"
          rw [upd_upd]
          refine ⟨fun σ' H' => ∃ (a' : Nat) (r2 : Int), a' < cs.length ∧ σ' = [some (.ref t), some (.int n), some (.ref c), some (.int cs[a]), some (.int (k + 61 * r)), some (.int x), some (.bl true), y] ∧ H' = upd H t (.lst [.ref c, .int a', .int b', .int 0, .int r2]), ?_, fun σ' H' hM => ?_⟩
          · -- if tape[1] == len(cells)
            refine ⟨_, rfl, t, _, 1, .int (a + 1), rfl, rfl, SqL.of upd_same, rfl, ?_⟩
            refine ⟨_, rfl, c, _, rfl, .inl (sc' _), rfl, _, rfl, ite2 (fun e => ?_) (fun e => ?_)⟩
            · walk_at "go"
              rw [upd_upd]
              walk_at "go"
              rw [upd_upd]
              exact ⟨0, r + 1, by omega, rfl, rfl⟩
            · rw [List.length_map] at e
              refine ⟨a + 1, r, ?_, rfl, rfl⟩
              have h0 : ((a : Int) + 1) ≠ (cs.length : Int) := fun z => e (decide_eq_true (congrArg V.int z))
              omega
          · obtain ⟨a', r2, ha2, rfl, rfl⟩ := hM
            -- tape[2] = cells[tape[1]]
            refine ⟨_, rfl, _, rfl, t, _, 1, .int a', rfl, rfl, SqL.of upd_same, rfl, c, _, a', .int cs[a'], rfl, rfl, sc' _, at_ints ha2, ?_⟩
            walk_at "go"
            exact ⟨a', _, _, _, ha2, rfl, upd_upd⟩
      · obtain ⟨a', b2, k2, r2, ha2, rfl, rfl⟩ := hM
        exact ⟨_, rfl, q _ _ hx0 hx1 .put (Tape.set hC nct ha2)⟩
local macro_rules | `(tactic| walk_at "kp") => `(tactic| first
  | exact Kp.refl _ _
  | assumption
  | (refine Kp.trans ?_ (by assumption); walk_at "kp"))
local macro_rules | `(tactic| walk_at "pick") => `(tactic|
  refine ⟨_, _, _, rfl, (by assumption), (by first | decide | omega), (by first | decide | omega), fun x H' h0 h1 kp hT => ?_⟩)
/-! ### far -/
def farL (n a b : Int) : Int := (b - a - 1).fmod n + 1
def sp_far (K : PySem.W.Frag) : Sp := fun vs H Q _ => ∃ n a b : Int, vs = [.int n, .int a, .int b] ∧ 0 < n ∧ Q (.int (farL n a b)) H
theorem T0.ok_far (T : T0 K mg) : FnOk P w K mg base CX0 1 T.a_far T.fd_far ["size", "start", "end"] (sp_far K) := by
  refine T.F_far.ok sc_far (fun vs H Q E h => ?_) (fun cdv A outer s H vs Q E hr h => ?_)
  · obtain ⟨n, a, b, rfl, _⟩ := h
    rfl
  · obtain ⟨n, a, b, rfl, hn, q⟩ := h
    refine ⟨_, (pss_one (ps_ret (pe_op op_add (pe_op op_modN (pe_op op_sub (pe_op op_sub (pv 2) (pv 1)) pe_int) (pv 0)) pe_int))), ?_⟩
    exact ⟨_, rfl, _, rfl, _, _, rfl, rfl, _, _, rfl, rfl, _, rfl, _, _, rfl, rfl, by omega, _, _, rfl, rfl, q⟩
theorem far_range (a b : Int) {n : Int} (h : 0 < n) : 1 ≤ farL n a b ∧ farL n a b ≤ n := by
  have := fmod_range (b - a - 1) h
  unfold farL
  omega
theorem far_emod (a b : Int) {n : Int} (h : 0 < n) : farL n a b = (b - a - 1) % n + 1 := by
  unfold farL
  rw [Int.fmod_eq_emod_of_nonneg _ (by omega)]
theorem far_eq (a b : Int) {n : Int} (h : 0 < n) : farL n a b = if (b - a).fmod n = 0 then n else (b - a).fmod n := by
  rw [far_emod a b h, Int.fmod_eq_emod_of_nonneg _ (by omega)]
  have e := Int.emod_add_mul_ediv (b - a) n
  have h0 := Int.emod_nonneg (b - a) (by omega : n ≠ 0)
  have h1 := Int.emod_lt_of_pos (b - a) h
  by_cases z : (b - a) % n = 0
  · rw [if_pos z]
    rw [z] at e
    rw [show b - a - 1 = (n - 1) + n * ((b - a) / n - 1) by rw [Int.mul_sub]; omega, Int.add_mul_emod_self_left, Int.emod_eq_of_lt (by omega) (by omega)]
    omega
  · rw [if_neg z]
    rw [show b - a - 1 = ((b - a) % n - 1) + n * ((b - a) / n) by omega, Int.add_mul_emod_self_left, Int.emod_eq_of_lt (by omega) (by omega)]
    omega
def sp_covers (K : PySem.W.Frag) : Sp := fun vs H Q _ => ∃ n a p b : Int, vs = [.int n, .int a, .int p, .int b] ∧ 0 < n ∧ Q (.bl (decide (farL n a p ≤ farL n a b))) H
theorem T0.ok_covers (T : T0 K mg) : FnOk P w K mg base CX0 2 T.a_covers T.fd_covers ["size", "start", "place", "end"] (sp_covers K) := by
  refine T.F_covers.ok sc_covers (fun vs H Q E h => ?_) (fun cdv A outer s H vs Q E hr h => ?_)
  · obtain ⟨n, a, p, b, rfl, _⟩ := h
    rfl
  · obtain ⟨n, a, p, b, rfl, hn, q⟩ := h
    refine ⟨_, (pss_one (ps_ret (pe_cmpR op_le (pe_call T.ok_far hr (by rfl) T.g_far T.k_far T.b_far .nil pass0 (pa_cons (pv 0) (pa_cons (pv 1) (pa_cons (pv 2) pa_nil)))) (pe_call T.ok_far hr (by rfl) T.g_far T.k_far T.b_far .nil pass0 (pa_cons (pv 0) (pa_cons (pv 1) (pa_cons (pv 3) pa_nil)))) (nomark _)))), ?_⟩
    exact ⟨_, rfl, _, rfl, _, rfl, _, _, _, rfl, hn, _, rfl, _, rfl, _, rfl, _, _, _, rfl, hn, _, _, rfl, rfl, q⟩
/-! ### a walk -/
def wf (n : Int) (t : Addr) : List (Str × V) := [("size", .int n), ("places", .ref t)]
theorem wf_size {n : Int} {t : Addr} : (wf n t).lookup ("size" : Str) = some (.int n) := by unfold wf; walk_at "lk"
theorem wf_places {n : Int} {t : Addr} : (wf n t).lookup ("places" : Str) = some (.ref t) := by unfold wf; walk_at "lk"
structure WalkAt (C : Addr) (H : Hp) (a : Addr) (n : Int) (t : Addr) (ps : List Int) : Prop where
  me : ∃ dx, H a = some (.ins C dx (wf n t))
  row : H t = some (.tup (ps.map V.int))
theorem WalkAt.same {C a t : Addr} {H H' : Hp} {n : Int} {ps : List Int} (h : WalkAt C H a n t ps) (s : Same H H') : WalkAt C H' a n t ps := ⟨let ⟨dx, e⟩ := h.me; ⟨dx, s _ _ e⟩, s _ _ h.row⟩
def sp_Walk__init (C : Addr) : Sp := fun vs H Q _ => ∃ (h dx l : Addr) (n : Int) (ps : List Int), vs = [.ref h, .int n, .ref l] ∧ H h = some (.ins C dx []) ∧ H l = some (.lst (ps.map V.int)) ∧ h ≠ l ∧ ∀ H' t, WalkAt C H' h n t ps → Kp h H H' → H t = none → Q .non H'
theorem T0.ok_Walk__init (T : T0 K mg) : FnOk P w K mg base CX0 1 T.a_Walk__init T.fd_Walk__init ["self", "size", "places"] (sp_Walk__init T.C_Walk) := by
  refine T.F_Walk__init.ok sc_Walk__init (fun vs H Q E h => ?_) (fun cdv A outer s H vs Q E hr h => ?_)
  · obtain ⟨h, dx, l, n, ps, rfl, _⟩ := h
    rfl
  · obtain ⟨h, dx, l, n, ps, rfl, hh, hl, ne, q⟩ := h
    refine ⟨_, (pss_cons (ps_fld (pv 0) (pv 1) rfl)
        (pss_one (ps_fld (pv 0) (pe_callTy (call_tuple_ofK (K := K)) (by rfl) T.m_tuple (by decide +kernel) (pa_cons (pv 2) pa_nil)) rfl))), ?_⟩
    refine ⟨_, rfl, _, rfl, h, _, dx, [], rfl, hh, T.cl_Walk, T.na_Walk_size, (by show 0 < 1000; decide), ?_⟩
    refine ⟨_, rfl, l, _, rfl, .inl ⟨SqL.of ((upd_ne ne.symm).trans hl), fun t nt => ?_⟩⟩
    have nth : t ≠ h := fun e => by rw [e, upd_same] at nt; cases nt
    have nt0 : H t = none := by rw [upd_ne nth] at nt; exact nt
    refine ⟨_, rfl, h, _, dx, _, rfl, (upd_ne nth.symm).trans upd_same, T.cl_Walk, T.na_Walk_places, (by show 1 < 1000; decide), ?_⟩
    refine q _ t ⟨⟨dx, ?_⟩, ?_⟩ (fun b' o ne' e => ?_) nt0
    · rw [upd_same]
      have e : putF "places" (.ref t) (putF "size" (.int n) []) = wf n t := by
        walk_at "pf"
        rfl
      exact congrArg (fun z => some (HO.ins _ _ z)) e
    · rw [upd_ne nth, upd_same]
    · rw [upd_ne ne', upd_ne (ne_of_none e nt0), upd_ne ne']
      exact e
/-- the steps of a walk -/
def steps (ps : List Int) : List (Int × Int) := ps.zip (ps.drop 1)
structure StepsAt (H : Hp) (l : Addr) (ts : List Addr) (ps : List Int) : Prop where
  len : ts.length = (steps ps).length
  at_ : ∀ (j : Nat) (t : Addr), ts[j]? = some t → ∃ q, (steps ps)[j]? = some q ∧ H t = some (.tup [.int q.1, .int q.2])
theorem StepsAt.same {H H' : Hp} {l : Addr} {ts : List Addr} {ps : List Int} (h : StepsAt H l ts ps) (s : Same H H') : StepsAt H' l ts ps := ⟨h.len, fun j t e => let ⟨q, a, b⟩ := h.at_ j t e; ⟨q, a, s _ _ b⟩⟩
def sp_Walk__steps (C : Addr) : Sp := fun vs H Q _ => ∃ (h t : Addr) (n : Int) (ps : List Int), vs = [.ref h] ∧ WalkAt C H h n t ps ∧ 2 ≤ ps.length ∧ ps.length ≤ 100000 ∧ ∀ H' l ts, Same H H' → H l = none → H' l = some (.lst (ts.map V.ref)) → StepsAt H' l ts ps → Q (.ref l) H'
theorem T0.ok_Walk__steps (T : T0 K mg) : FnOk P w K mg base CX0 1 T.a_Walk__steps T.fd_Walk__steps ["self"] (sp_Walk__steps T.C_Walk) := by
  refine T.F_Walk__steps.ok sc_Walk__steps (fun vs H Q E h => ?_) (fun cdv A outer s H vs Q E hr h => ?_)
  · obtain ⟨h, t, n, ps, rfl, _⟩ := h
    rfl
  · obtain ⟨h, t, n, ps, rfl, hW, hp, hz, q⟩ := h
    obtain ⟨dx, hh⟩ := hW.me
    refine ⟨_, (pss_one (ps_ret (show PE _ _ (tZipL K _) from pe_listZip (by rfl) T.m_list (by decide +kernel) (by rfl) T.m_zip (pa_cons (show PE _ _ (tFld K _ _) from pe_fld (pv 0) rfl) (pa_cons (pe_slice (sl_tupK (K := K)) (show PE _ _ (tFld K _ _) from pe_fld (pv 0) rfl) (po_some pe_int) po_none) pa_nil))))), ?_⟩
    refine ⟨_, rfl, h, _, dx, _, _, rfl, hh, T.cl_Walk, T.na_Walk_places, wf_places, ?_⟩
    refine ⟨_, rfl, h, _, dx, _, _, rfl, hh, T.cl_Walk, T.na_Walk_places, wf_places, ?_⟩
    have i1 : HT.sIx (ps.map V.int).length 0 (some (1 : Int)) = 1 := by rw [show (1 : Int) = ((1 : Nat) : Int) from rfl, HT.sIx_nat, List.length_map]; omega
    refine ⟨_, rfl, t, _, rfl, SqT.of hW.row, (fun z => by rw [i1] at z; exact absurd z.1 (by decide)), fun u nu => ?_⟩
    have cut : cutV (ps.map V.int) (some 1) none = (ps.drop 1).map V.int := by
      unfold cutV
      rw [i1, HT.sIx_none, List.take_of_length_le (by rw [List.length_drop]; exact Nat.le_refl _), List.map_drop]
    rw [cut]
    refine ⟨t, u, _, _, rfl, SqT.of ((upd_ne (ne_of_none hW.row nu)).trans hW.row), SqT.of upd_same, fun H' l ts sm nl _ _ hl len at_ => ?_⟩
    have z : (ps.map V.int).zip ((ps.drop 1).map V.int) = (steps ps).map fun q => (V.int q.1, V.int q.2) := by
      unfold steps
      rw [List.zip_map]
      rfl
    rw [z] at len at_
    refine q H' l ts (fun b o e => sm b o (same_upd nu b o e)) ?_ hl ⟨by rw [len, List.length_map], fun j a e => ?_⟩
    · by_cases e : l = u
      · rw [e]; exact nu
      · rw [upd_ne e] at nl
        exact nl
    · obtain ⟨r, e1, e2⟩ := at_ j a e
      rw [List.getElem?_map] at e1
      obtain ⟨r', e3, rfl⟩ := Option.map_eq_some_iff.mp e1
      exact ⟨r', e3, e2⟩
theorem steps_len (ps : List Int) : (steps ps).length = ps.length - 1 := by
  unfold steps
  rw [List.length_zip, List.length_drop]
  omega
/-- the length of a walk; the steps that cover p -/
def fars (n : Int) (qs : List (Int × Int)) : List Int := qs.map fun q => farL n q.1 q.2
def covs (n p : Int) (qs : List (Int × Int)) : List (Int × Int) := qs.filter fun q => decide (farL n q.1 p ≤ farL n q.1 q.2)
def sp_Walk__total (C : Addr) : Sp := fun vs H Q _ => ∃ (h t : Addr) (n : Int) (ps : List Int), vs = [.ref h] ∧ WalkAt C H h n t ps ∧ 0 < n ∧ 2 ≤ ps.length ∧ ps.length ≤ 1000 ∧ ∀ H', Same H H' → Q (.int (fars n (steps ps)).sum) H'
theorem T0.ok_Walk__total (T : T0 K mg) : FnOk P w K mg base CX0 2 T.a_Walk__total T.fd_Walk__total ["self"] (sp_Walk__total T.C_Walk) := by
  refine T.F_Walk__total.ok sc_Walk__total (fun vs H Q E h => ?_) (fun cdv A outer s H vs Q E hr h => ?_)
  · obtain ⟨h, t, n, ps, rfl, _⟩ := h
    rfl
  · obtain ⟨h, t, n, ps, rfl, hW, hn, hp, hz, q⟩ := h
    refine ⟨_, (pss_one (ps_ret (pe_callB (call_sumK (K := K)) (by rfl) T.m_sum (by decide +kernel) (pa_cons (pe_lc (own := [("start", 1), ("end", 2)]) (g := gTup K 2 (gCons (gName 1) (gCons (gName 2) gNil))) (by rfl) sc_Walk__total.nd (pi_list (pe_meth0 (pv 0) T.cl_Walk T.me_Walk__steps T.ok_Walk__steps hr T.b_Walk__steps .nil pass0)) (blkOk_by (own := [("start", 1), ("end", 2)]) (N := ["self", "start", "end"]) (sc := defScope s_Walk__total) (by decide +kernel)) (fun _ _ _ _ _ => pg_tup rfl (pgs_cons (pg_name (i := 1) sc_Walk__total.nd rfl (Or.inl rfl)) (pgs_cons (pg_name (i := 2) sc_Walk__total.nd rfl (Or.inl rfl)) pgs_nil))) (fun _ _ _ _ _ => pts_nil) (fun _ _ _ _ _ => (pe_call T.ok_far hr (by rfl) T.g_far T.k_far T.b_far .nil pass0 (pa_cons (show PE _ _ (tFld K _ _) from pe_fld (pv 0) rfl) (pa_cons (pv 1) (pa_cons (pv 2) pa_nil)))))) pa_nil)))), ?_⟩
    obtain ⟨dx, hh⟩ := hW.me
    have sl := steps_len ps
    refine ⟨_, rfl, h, dx, _, rfl, hh, (by unfold wf; walk_at "lk"), h, t, n, ps, rfl, hW, hp, by omega, fun H1 l ts sm nl hl hS => ?_⟩
    refine ⟨l, rfl, ⟨_, SqL.of hl⟩, fun D hD => ?_⟩
    have hW1 := (hW.same sm).same (same_upd hD (o := .lst []))
    refine lc_list (K := K) (a := l) (xs := ts.map V.ref) (fun i H' => Same H1 H' ∧ H' D = some (.lst (((fars n (steps ps)).take i).map V.int))) ⟨same_upd hD, upd_same⟩ (fun i H' _ p => SqL.of (p.1 _ _ hl)) (fun i x H' hx p => ?_) (fun H2 p => ?_)
    · obtain ⟨sm2, e2⟩ := p
      rw [List.getElem?_map] at hx
      obtain ⟨a, ha, rfl⟩ := Option.map_eq_some_iff.mp hx
      obtain ⟨r, e3, e4⟩ := hS.at_ i a ha
      obtain ⟨dx, hh⟩ := ((hW.same sm).same sm2).me
      refine ⟨a, _, rfl, SqT.of (sm2 _ _ e4), rfl, _, _, rfl, ?_⟩
      refine ⟨_, _, rfl, rfl, rfl, ?_⟩
      refine lc_yes ?_
      refine ⟨_, rfl, h, _, dx, _, _, rfl, hh, T.cl_Walk, T.na_Walk_size, wf_size, ?_⟩
      have e5 : (fars n (steps ps))[i]? = some (farL n r.1 r.2) := by
        unfold fars
        rw [List.getElem?_map, e3]
        rfl
      refine ⟨_, rfl, _, rfl, n, r.1, r.2, rfl, hn, _, e2, ?_, ?_, ?_⟩
      · rw [List.length_map, List.length_take]
        exact small1000' (by unfold fars; rw [List.length_map]; omega)
      · exact fun b o e => by rw [upd_ne (ne_of_none e hD)]; exact sm2 b o e
      · rw [upd_same, take_map_succ e5]
    · obtain ⟨sm2, e2⟩ := p
      have e : (ts.map V.ref).length = (fars n (steps ps)).length := by
        unfold fars
        rw [List.length_map, List.length_map]
        exact hS.len
      rw [e, List.take_length] at e2
      exact ⟨D, _, rfl, SqL.of e2, q H2 (fun b o u => sm2 b o (sm b o u))⟩
theorem covs_succ {n p : Int} {qs : List (Int × Int)} {i : Nat} {r : Int × Int} (h : qs[i]? = some r) : covs n p (qs.take (i + 1)) = if farL n r.1 p ≤ farL n r.1 r.2 then covs n p (qs.take i) ++ [r] else covs n p (qs.take i) := by
  unfold covs
  rw [List.take_add_one, h, List.filter_append]
  show _ ++ List.filter _ [r] = _
  by_cases e : farL n r.1 p ≤ farL n r.1 r.2
  · rw [if_pos e]
    simp only [List.filter_cons, List.filter_nil, decide_eq_true e, if_true]
  · rw [if_neg e]
    simp only [List.filter_cons, List.filter_nil, decide_eq_false e, Bool.false_eq_true, if_false, List.append_nil]
def sp_Walk__crossings (C : Addr) : Sp := fun vs H Q _ => ∃ (h t : Addr) (n p : Int) (ps : List Int), vs = [.ref h, .int p] ∧ WalkAt C H h n t ps ∧ 0 < n ∧ 2 ≤ ps.length ∧ ps.length ≤ 1000 ∧ ∀ H', Same H H' → Q (.int (covs n p (steps ps)).length) H'
theorem T0.ok_Walk__crossings (T : T0 K mg) : FnOk P w K mg base CX0 3 T.a_Walk__crossings T.fd_Walk__crossings ["self", "place"] (sp_Walk__crossings T.C_Walk) := by
  refine T.F_Walk__crossings.ok sc_Walk__crossings (fun vs H Q E h => ?_) (fun cdv A outer s H vs Q E hr h => ?_)
  · obtain ⟨h, t, n, p, ps, rfl, _⟩ := h
    rfl
  · obtain ⟨h, t, n, p, ps, rfl, hW, hn, hp, hz, q⟩ := h
    refine ⟨_, (pss_one (ps_ret (pe_callB (call_lenK (K := K)) (by rfl) T.m_len PySem.boot_len (pa_cons (pe_lc (own := [("start", 2), ("end", 3)]) (g := gTup K 2 (gCons (gName 2) (gCons (gName 3) gNil))) (by rfl) sc_Walk__crossings.nd (pi_list (pe_meth0 (pv 0) T.cl_Walk T.me_Walk__steps T.ok_Walk__steps (hr.mono (by decide)) T.b_Walk__steps .nil pass0)) (blkOk_by (own := [("start", 2), ("end", 3)]) (N := ["self", "place", "start", "end"]) (sc := defScope s_Walk__crossings) (by decide +kernel)) (fun _ _ _ _ _ => pg_tup rfl (pgs_cons (pg_name (i := 2) sc_Walk__crossings.nd rfl (Or.inl rfl)) (pgs_cons (pg_name (i := 3) sc_Walk__crossings.nd rfl (Or.inl rfl)) pgs_nil))) (fun _ _ _ _ _ => pts_one (pt_val (pe_call T.ok_covers hr (by rfl) T.g_covers T.k_covers T.b_covers .nil pass0 (pa_cons (show PE _ _ (tFld K _ _) from pe_fld (pv 0) rfl) (pa_cons (pv 2) (pa_cons (pv 1) (pa_cons (pv 3) pa_nil))))))) (fun _ _ _ _ _ => (pv 2))) pa_nil)))), ?_⟩
    obtain ⟨dx, hh⟩ := hW.me
    have sl := steps_len ps
    refine ⟨_, rfl, h, dx, _, rfl, hh, (by unfold wf; walk_at "lk"), h, t, n, ps, rfl, hW, hp, by omega, fun H1 l ts sm nl hl hS => ?_⟩
    refine ⟨l, rfl, ⟨_, SqL.of hl⟩, fun D hD => ?_⟩
    refine lc_list (K := K) (a := l) (xs := ts.map V.ref) (fun i H' => Same H1 H' ∧ H' D = some (.lst (((covs n p ((steps ps).take i)).map Prod.fst).map V.int))) ⟨same_upd hD, upd_same⟩ (fun i H' _ p => SqL.of (p.1 _ _ hl)) (fun i x H' hx pv => ?_) (fun H2 pv => ?_)
    · obtain ⟨sm2, e2⟩ := pv
      rw [List.getElem?_map] at hx
      obtain ⟨a, ha, rfl⟩ := Option.map_eq_some_iff.mp hx
      obtain ⟨r, e3, e4⟩ := hS.at_ i a ha
      obtain ⟨dx, hh⟩ := ((hW.same sm).same sm2).me
      refine ⟨a, _, rfl, SqT.of (sm2 _ _ e4), rfl, _, _, rfl, ?_⟩
      refine ⟨_, _, rfl, rfl, rfl, ?_⟩
      refine ⟨_, rfl, h, _, dx, _, _, rfl, hh, T.cl_Walk, T.na_Walk_size, wf_size, ?_⟩
      refine ⟨_, rfl, _, rfl, _, rfl, n, r.1, p, r.2, rfl, hn, _, rfl, ?_⟩
      have e5 := covs_succ (n := n) (p := p) e3
      by_cases e : farL n r.1 p ≤ farL n r.1 r.2
      · rw [if_pos e] at e5
        refine iteT' (decide_eq_true e) ?_
        refine ⟨_, rfl, _, e2, ?_, ?_, ?_⟩
        · rw [List.length_map, List.length_map]
          refine small1000' (Nat.le_trans (List.length_filter_le _ _) ?_)
          rw [List.length_take]
          omega
        · exact fun b o e => by rw [upd_ne (ne_of_none e hD)]; exact sm2 b o e
        · rw [upd_same, e5, List.map_append, List.map_append]
          rfl
      · rw [if_neg e] at e5
        rw [e5]
        exact iteF' (decide_eq_false e) ⟨sm2, e2⟩
    · obtain ⟨sm2, e2⟩ := pv
      have e : (ts.map V.ref).length = (steps ps).length := by rw [List.length_map]; exact hS.len
      rw [e, List.take_length] at e2
      have fin := q H2 (fun b o u => sm2 b o (sm b o u))
      refine ⟨D, _, rfl, .inl (SqL.of e2), ?_⟩
      rw [List.length_map, List.length_map]
      exact fin
def sp_Walk__is_closed (C : Addr) : Sp := fun vs H Q _ => ∃ (h t : Addr) (n x : Int) (rs : List Int), vs = [.ref h] ∧ WalkAt C H h n t (rs ++ [x]) ∧ rs[0]? = some x ∧ Q (.bl true) H
theorem T0.ok_Walk__is_closed (T : T0 K mg) : FnOk P w K mg base CX0 1 T.a_Walk__is_closed T.fd_Walk__is_closed ["self"] (sp_Walk__is_closed T.C_Walk) := by
  refine T.F_Walk__is_closed.ok sc_Walk__is_closed (fun vs H Q E h => ?_) (fun cdv A outer s H vs Q E hr h => ?_)
  · obtain ⟨h, t, n, x, rs, rfl, _⟩ := h
    rfl
  · obtain ⟨h, t, n, x, rs, rfl, hW, h0, q⟩ := h
    refine ⟨_, (pss_one (ps_ret (pe_cmpR op_eq (pe_ix (ix_tupK (K := K)) (show PE _ _ (tFld K _ _) from pe_fld (pv 0) rfl) pe_int (fun _ _ => rfl)) (pe_ix (ix_tupK (K := K)) (show PE _ _ (tFld K _ _) from pe_fld (pv 0) rfl) (pe_un un_neg pe_int) (fun _ _ => rfl)) (nomark _)))), ?_⟩
    obtain ⟨dx, hh⟩ := hW.me
    have h1 : (rs ++ [x])[0]? = some x := by rw [List.getElem?_append_left (List.getElem?_eq_some_iff.mp h0).1]; exact h0
    have a0 : atI ((rs ++ [x]).map V.int) (0 : Int) = some (.int x) := by
      refine atI_nat (j := 0) ?_
      rw [List.getElem?_map, h1]
      rfl
    have a1 : atI ((rs ++ [x]).map V.int) (-1 : Int) = some (.int x) := by
      rw [List.map_append]
      exact atI_last _ _
    refine ⟨_, rfl, h, _, dx, _, _, rfl, hh, T.cl_Walk, T.na_Walk_places, wf_places, ?_⟩
    refine ⟨t, _, 0, .int x, rfl, rfl, SqT.of hW.row, a0, ?_⟩
    refine ⟨_, rfl, h, _, dx, _, _, rfl, hh, T.cl_Walk, T.na_Walk_places, wf_places, ?_⟩
    refine ⟨1, rfl, t, _, -1, .int x, rfl, rfl, SqT.of hW.row, a1, rfl, ?_⟩
    rw [decide_eq_true rfl]
    exact q
def sp_Walk__turns (C : Addr) : Sp := fun vs H Q _ => ∃ (h t : Addr) (n x : Int) (rs : List Int), vs = [.ref h] ∧ WalkAt C H h n t (rs ++ [x]) ∧ rs[0]? = some x ∧ 0 < n ∧ n ≤ 1000000001 ∧ rs.length ≤ 900 ∧ ∀ H', Same H H' → Q (.int ((fars n (steps (rs ++ [x]))).sum.fdiv n)) H'
theorem T0.ok_Walk__turns (T : T0 K mg) : FnOk P w K mg base CX0 3 T.a_Walk__turns T.fd_Walk__turns ["self"] (sp_Walk__turns T.C_Walk) := by
  refine T.F_Walk__turns.ok sc_Walk__turns (fun vs H Q E h => ?_) (fun cdv A outer s H vs Q E hr h => ?_)
  · obtain ⟨h, t, n, x, rs, rfl, _⟩ := h
    rfl
  · obtain ⟨h, t, n, x, rs, rfl, hW, h0, hn, hn2, hz, q⟩ := h
    refine ⟨_, (pss_cons (ps_if (pt_not (pt_val (pe_meth0 (pv 0) T.cl_Walk T.me_Walk__is_closed T.ok_Walk__is_closed (hr.mono (by decide)) T.b_Walk__is_closed .nil pass0))) (pss_one (ps_never)) pss_nil)
        (pss_one (ps_ret (pe_op op_fdivN (pe_meth0 (pv 0) T.cl_Walk T.me_Walk__total T.ok_Walk__total hr T.b_Walk__total .nil pass0) (show PE _ _ (tFld K _ _) from pe_fld (pv 0) rfl))))), ?_⟩
    obtain ⟨dx, hh⟩ := hW.me
    have l0 : 0 < rs.length := (List.getElem?_eq_some_iff.mp h0).1
    refine ⟨_, rfl, h, dx, _, rfl, hh, (by unfold wf; walk_at "lk"), h, t, n, x, rs, rfl, hW, h0, ?_⟩
    refine ⟨true, rfl, iteF ?_⟩
    refine ⟨_, rfl, h, dx, _, rfl, hh, (by unfold wf; walk_at "lk"), h, t, n, rs ++ [x], rfl, hW, hn, ?_, ?_, fun H1 sm => ?_⟩
    · rw [List.length_append, List.length_singleton]; omega
    · rw [List.length_append, List.length_singleton]; omega
    obtain ⟨dx, hh⟩ := (hW.same sm).me
    refine ⟨_, rfl, h, _, dx, _, _, rfl, hh, T.cl_Walk, T.na_Walk_size, wf_size, _, _, rfl, rfl, cdivn _ hn hn2, q H1 sm⟩
/-- a step that covers p comes past it once -/
theorem step_cov (a b p : Int) {n : Int} (hn : 0 < n) : farL n b p = farL n a p - farL n a b + (if farL n a p ≤ farL n a b then n else 0) := by
  rw [far_emod a b hn, far_emod a p hn, far_emod b p hn]
  have e1 := Int.emod_add_mul_ediv (b - a - 1) n
  have e2 := Int.emod_add_mul_ediv (p - a - 1) n
  have a0 := Int.emod_nonneg (b - a - 1) (by omega : n ≠ 0)
  have a1 := Int.emod_lt_of_pos (b - a - 1) hn
  have p0 := Int.emod_nonneg (p - a - 1) (by omega : n ≠ 0)
  have p1 := Int.emod_lt_of_pos (p - a - 1) hn
  revert e1 e2 a0 a1 p0 p1
  generalize (b - a - 1) % n = A
  generalize (p - a - 1) % n = P
  generalize (b - a - 1) / n = k1
  generalize (p - a - 1) / n = k2
  intro e1 e2 a0 a1 p0 p1
  by_cases e : P + 1 ≤ A + 1
  · rw [if_pos e, show p - b - 1 = (P - A - 1 + n) + n * (k2 - k1 - 1) by rw [Int.mul_sub, Int.mul_sub]; omega, Int.add_mul_emod_self_left, Int.emod_eq_of_lt (by omega) (by omega)]
    omega
  · rw [if_neg e, show p - b - 1 = (P - A - 1) + n * (k2 - k1) by rw [Int.mul_sub]; omega, Int.add_mul_emod_self_left, Int.emod_eq_of_lt (by omega) (by omega)]
    omega
theorem steps_cons (x y : Int) (l : List Int) : steps (x :: y :: l) = (x, y) :: steps (y :: l) := rfl
theorem covs_sum {n p : Int} (hn : 0 < n) : ∀ (l : List Int) (x z : Int), n * ((covs n p (steps (x :: (l ++ [z])))).length : Int) = (fars n (steps (x :: (l ++ [z])))).sum + farL n z p - farL n x p
  | [], x, z => by
    have e := step_cov x z p hn
    show n * ((covs n p [(x, z)]).length : Int) = (fars n [(x, z)]).sum + farL n z p - farL n x p
    unfold covs fars
    simp only [List.filter_cons, List.filter_nil, List.map_cons, List.map_nil, List.sum_cons, List.sum_nil]
    by_cases h : farL n x p ≤ farL n x z
    · rw [if_pos h] at e
      rw [if_pos (decide_eq_true h)]
      show n * ((0 + 1 : Nat) : Int) = _
      omega
    · rw [if_neg h] at e
      rw [if_neg (fun z => h (of_decide_eq_true z))]
      show n * ((0 : Nat) : Int) = _
      omega
  | y :: l, x, z => by
    have ih := covs_sum (p := p) hn l y z
    have e := step_cov x y p hn
    rw [show x :: ((y :: l) ++ [z]) = x :: y :: (l ++ [z]) from rfl, steps_cons]
    have f1 : (fars n ((x, y) :: steps (y :: (l ++ [z])))).sum = farL n x y + (fars n (steps (y :: (l ++ [z])))).sum := by
      unfold fars
      rw [List.map_cons, List.sum_cons]
    rw [f1]
    by_cases h : farL n x p ≤ farL n x y
    · rw [if_pos h] at e
      have f2 : covs n p ((x, y) :: steps (y :: (l ++ [z]))) = (x, y) :: covs n p (steps (y :: (l ++ [z]))) := by
        unfold covs
        rw [List.filter_cons, if_pos (decide_eq_true h)]
      rw [f2, List.length_cons, Int.natCast_add, Int.mul_add, ih]
      omega
    · rw [if_neg h] at e
      have f2 : covs n p ((x, y) :: steps (y :: (l ++ [z]))) = covs n p (steps (y :: (l ++ [z]))) := by
        unfold covs
        rw [List.filter_cons, if_neg (fun z => h (of_decide_eq_true z))]
      rw [f2, ih]
      omega
/-- a closed walk covers each place as often as it turns -/
theorem covs_turns {n p x : Int} {rs : List Int} (hn : 0 < n) (h0 : rs[0]? = some x) : ((covs n p (steps (rs ++ [x]))).length : Int) = (fars n (steps (rs ++ [x]))).sum.fdiv n := by
  cases rs with
  | nil => cases h0
  | cons y l =>
    have e : y = x := by simpa using h0
    subst e
    have z := covs_sum (p := p) hn l y y
    rw [show (y :: l) ++ [y] = y :: (l ++ [y]) from rfl]
    have z2 : (fars n (steps (y :: (l ++ [y])))).sum = n * ((covs n p (steps (y :: (l ++ [y])))).length : Int) := by omega
    rw [z2, Int.mul_fdiv_cancel_left _ (by omega)]
--CUT
/-! ### _law_same -/
theorem op_isB {X : Cx} : OpR X (compareOp .Is) (fun x y H Q => ∃ b, y = .bl b ∧ Q (.bl (decide (x = .bl b))) H) := by
  intro pins s σ H x y v u Q I rx ry h
  obtain ⟨b, rfl, q⟩ := h
  cases (show u = Value.bool b from ry)
  cases x with
  | bl c =>
    cases (show v = Value.bool c from rx)
    refine is_bool (fin_bl I q ?_)
    cases b <;> cases c <;> rfl
  | non => cases rx; exact wpAny_is_plain rfl (fin_bl I q rfl)
  | int _ => obtain ⟨t, rfl⟩ := rx; exact wpAny_is_plain rfl (fin_bl I q rfl)
  | str _ => obtain ⟨t, rfl⟩ := rx; exact wpAny_is_plain rfl (fin_bl I q rfl)
  | byt _ => obtain ⟨t, rfl⟩ := rx; exact wpAny_is_plain rfl (fin_bl I q rfl)
  | flt _ => obtain ⟨t, rfl⟩ := rx; exact wpAny_is_plain rfl (fin_bl I q rfl)
  | ref _ => cases rx; exact wpAny_is_plain rfl (fin_bl I q rfl)
  | ty _ => cases rx; exact wpAny_is_plain rfl (fin_bl I q rfl)
def atomV : V → Bool
  | .non => true
  | .bl _ => true
  | .int _ => true
  | .str _ => true
  | _ => false
/-- the same data, of at most this depth -/
inductive Sm (K : PySem.W.Frag) : Nat → Hp → V → V → Prop
  | atom {d : Nat} {H : Hp} {x : V} : atomV x = true → Sm K (d + 1) H x x
  | lst {d : Nat} {H : Hp} {a b : Addr} {xs ys : List V} : SqL K H a xs → SqL K H b ys → xs.length = ys.length → ys.length ≤ 100000 → (∀ (i : Nat) x y, xs[i]? = some x → ys[i]? = some y → Sm K d H x y) → Sm K (d + 1) H (.ref a) (.ref b)
  | tup {d : Nat} {H : Hp} {a b : Addr} {xs ys : List V} : SqT K H a xs → SqT K H b ys → xs.length = ys.length → ys.length ≤ 100000 → (∀ (i : Nat) x y, xs[i]? = some x → ys[i]? = some y → Sm K d H x y) → Sm K (d + 1) H (.ref a) (.ref b)
  | dic {d : Nat} {H : Hp} {a b : Addr} {xs ys : List (Key × V)} : H a = some (.dK xs) → H b = some (.dK ys) → xs.length = ys.length → ys.length ≤ 100000 → (∀ (i : Nat) x y, xs[i]? = some x → ys[i]? = some y → x.1 = y.1) →
      (∀ (i : Nat) x y, xs[i]? = some x → ys[i]? = some y → Sm K (d + 1) H x.2 y.2) → Sm K (d + 4) H (.ref a) (.ref b)
theorem same_t {K : PySem.W.Frag} {H H' : Hp} {a : Addr} {xs : List V} (e : Same H H') (h : SqT K H a xs) : SqT K H' a xs := by
  rcases h with (h | ⟨o, h⟩) | h
  · exact .inl (.inl (e _ _ h))
  · exact .inl (.inr ⟨o, e _ _ h⟩)
  · exact .inr h
theorem Sm.same {K : PySem.W.Frag} {d : Nat} {H : Hp} {x y : V} (h : Sm K d H x y) : ∀ {H' : Hp}, Same H H' → Sm K d H' x y := by
  induction h with
  | atom h => exact fun _ => .atom h
  | lst h1 h2 h3 h4 _ ih => exact fun s => .lst (s.seq h1) (s.seq h2) h3 h4 fun i x y e1 e2 => ih i x y e1 e2 s
  | tup h1 h2 h3 h4 _ ih => exact fun s => .tup (same_t s h1) (same_t s h2) h3 h4 fun i x y e1 e2 => ih i x y e1 e2 s
  | dic h1 h2 h3 h4 h5 _ ih => exact fun s => .dic (s _ _ h1) (s _ _ h2) h3 h4 h5 fun i x y e1 e2 => ih i x y e1 e2 s
theorem Sm.succ {K : PySem.W.Frag} {d : Nat} {H : Hp} {x y : V} (h : Sm K d H x y) : Sm K (d + 1) H x y := by
  induction h with
  | atom h => exact .atom h
  | lst h1 h2 h3 h4 _ ih => exact .lst h1 h2 h3 h4 ih
  | tup h1 h2 h3 h4 _ ih => exact .tup h1 h2 h3 h4 ih
  | dic h1 h2 h3 h4 h5 _ ih => exact .dic h1 h2 h3 h4 h5 ih
theorem Sm.int {K : PySem.W.Frag} {d : Nat} {H : Hp} {i j : Int} (h : i = j) : Sm K (d + 1) H (.int i) (.int j) := by subst h; exact .atom rfl
theorem Sm.bl {K : PySem.W.Frag} {d : Nat} {H : Hp} {i j : Bool} (h : i = j) : Sm K (d + 1) H (.bl i) (.bl j) := by subst h; exact .atom rfl
theorem tyx_l {K : PySem.W.Frag} {H : Hp} {a : Addr} {xs : List V} (h : SqL K H a xs) : TyX K H (.ref a) (.type "list") := by
  rcases h with (h | ⟨o, h⟩) | ⟨o, its, n, h1, h2, _⟩
  · exact .base (.lst h)
  · exact .base (.frz h)
  · exact .kList h1 h2
theorem tyx_t {K : PySem.W.Frag} {H : Hp} {a : Addr} {xs : List V} (h : SqT K H a xs) : TyX K H (.ref a) (.type "tuple") := by
  rcases h with (h | ⟨o, h⟩) | ⟨o, its, n, h1, h2, _⟩
  · exact .base (.tup h)
  · exact .fTuple h
  · exact .kTuple h1 h2
theorem pair_ix {R : V → V → Prop} : ∀ {xs ys : List V}, Paired R xs ys → ∀ (i : Nat) x y, xs[i]? = some x → ys[i]? = some y → R x y
  | _, _, .nil, i, x, y, h, _ => by simp at h
  | _, _, .cons r _, 0, x, y, h, g => by
    cases h
    cases g
    exact r
  | _, _, .cons _ t, i + 1, x, y, h, g => pair_ix t i x y h g
theorem Sm.lstP {K : PySem.W.Frag} {d : Nat} {H : Hp} {a b : Addr} {xs ys : List V} (h1 : SqL K H a xs) (h2 : SqL K H b ys) (h3 : ys.length ≤ 100000) (p : Paired (Sm K d H) xs ys) : Sm K (d + 1) H (.ref a) (.ref b) :=
  .lst h1 h2 p.length h3 (pair_ix p)
theorem Sm.tupP {K : PySem.W.Frag} {d : Nat} {H : Hp} {a b : Addr} {xs ys : List V} (h1 : SqT K H a xs) (h2 : SqT K H b ys) (h3 : ys.length ≤ 100000) (p : Paired (Sm K d H) xs ys) : Sm K (d + 1) H (.ref a) (.ref b) :=
  .tup h1 h2 p.length h3 (pair_ix p)
def sp__law_same (d : Nat) (K : PySem.W.Frag) : Sp := fun vs H Q _ => ∃ x y, vs = [x, y] ∧ Sm K d H x y ∧ ∀ H', Same H H' → Q (.bl true) H'
theorem fnok_never {CX : CXT} {k : Nat} {f : Addr} {fd : FuncData} {ps : List Str} {sp : Sp} (h : ∀ vs H Q E, ¬ sp vs H Q E) : FnOk P w K mg base CX k f fd ps sp where
  len := fun vs H Q E z => (h vs H Q E z).elim
  run := fun A outer s H args us vs Q E hr h0 hb hv z => (h vs H Q E z).elim
theorem T0.ok__law_same_succ (T : T0 K mg) {d : Nat} (G : FnOk P w K mg base CX0 d T.a__law_same T.fd__law_same ["actual", "due"] (sp__law_same d K)) : FnOk P w K mg base CX0 (d + 1) T.a__law_same T.fd__law_same ["actual", "due"] (sp__law_same (d + 1) K) := by
  refine T.F__law_same.ok sc__law_same (fun vs H Q E h => ?_) (fun cdv A outer s H vs Q E hr h => ?_)
  · obtain ⟨x, y, rfl, _⟩ := h
    rfl
  · obtain ⟨x, y, rfl, hS, q⟩ := h
    refine ⟨_, (pss_cons (ps_if (pt_cmpR op_isN (pv 1) pe_non (nomark _)) (pss_one (ps_ret (pe_cmpR op_isN (pv 0) pe_non (nomark _)))) pss_nil)
        (pss_cons (ps_if (pt_cmpR op_isB (pv 1) pe_bl (nomark _)) (pss_one (ps_ret (pe_cmpR op_isB (pv 0) pe_bl (nomark _)))) pss_nil)
        (pss_cons (ps_if (pt_cmpR op_isB (pv 1) pe_bl (nomark _)) (pss_one (ps_ret (pe_cmpR op_isB (pv 0) pe_bl (nomark _)))) pss_nil)
        (pss_cons (ps_if (pt_val (pe_callB (call_isinstK (K := K)) (by rfl) T.m_isinstance (by decide +kernel) (pa_cons (pv 1) (pa_cons (pe_bltn (v := .ty "int") (by rfl) T.m_int (by decide +kernel) rfl) pa_nil)))) (pss_one (ps_ret (pe_and (pe_callB (call_isinstK (K := K)) (by rfl) T.m_isinstance (by decide +kernel) (pa_cons (pv 0) (pa_cons (pe_bltn (v := .ty "int") (by rfl) T.m_int (by decide +kernel) rfl) pa_nil))) (pe_and (pe_not (pe_callB (call_isinstK (K := K)) (by rfl) T.m_isinstance (by decide +kernel) (pa_cons (pv 0) (pa_cons (pe_bltn (v := .ty "bool") (by rfl) T.m_bool (by decide +kernel) rfl) pa_nil)))) (pe_one (pe_cmpR op_eq (pv 0) (pv 1) (nomark _))))))) pss_nil)
        (pss_cons (ps_if (pt_val (pe_callB (call_isinstK (K := K)) (by rfl) T.m_isinstance (by decide +kernel) (pa_cons (pv 1) (pa_cons (pe_bltn (v := .ty "str") (by rfl) T.m_str (by decide +kernel) rfl) pa_nil)))) (pss_one (ps_ret (pe_and (pe_callB (call_isinstK (K := K)) (by rfl) T.m_isinstance (by decide +kernel) (pa_cons (pv 0) (pa_cons (pe_bltn (v := .ty "str") (by rfl) T.m_str (by decide +kernel) rfl) pa_nil))) (pe_one (pe_cmpR op_eq (pv 0) (pv 1) (nomark _)))))) pss_nil)
        (pss_cons (ps_if (pt_val (pe_callB (call_isinstK (K := K)) (by rfl) T.m_isinstance (by decide +kernel) (pa_cons (pv 1) (pa_cons (pe_bltn (v := .ty "dict") (by rfl) T.m_dict (by decide +kernel) rfl) pa_nil)))) (pss_one (ps_ret (pe_and (pe_callB (call_isinstK (K := K)) (by rfl) T.m_isinstance (by decide +kernel) (pa_cons (pv 0) (pa_cons (pe_bltn (v := .ty "dict") (by rfl) T.m_dict (by decide +kernel) rfl) pa_nil))) (pe_one (pe_call G hr (by rfl) T.g__law_same T.k__law_same T.b__law_same .nil pass0 (pa_cons (LiI.pe_listItems rfl (pv 0) (by rfl) T.m_list (by decide +kernel)) (pa_cons (LiI.pe_listItems rfl (pv 1) (by rfl) T.m_list (by decide +kernel)) pa_nil))))))) pss_nil)
        (C8.pss_cut (ps_if (PW.pt (pw_and (pt_val (pe_callB (call_isinstK (K := K)) (by rfl) T.m_isinstance (by decide +kernel) (pa_cons (pv 1) (pa_cons (pe_bltn (v := .ty "tuple") (by rfl) T.m_tuple (by decide +kernel) rfl) pa_nil)))) (pw_and1 (pt_not (pt_val (pe_callB (call_isinstK (K := K)) (by rfl) T.m_isinstance (by decide +kernel) (pa_cons (pv 0) (pa_cons (pe_bltn (v := .ty "tuple") (by rfl) T.m_tuple (by decide +kernel) rfl) pa_nil)))))))) (pss_one (ps_ret pe_bl)) pss_nil)
        (C8.pss_cut (ps_if (PW.pt (pw_and (pt_val (pe_callB (call_isinstK (K := K)) (by rfl) T.m_isinstance (by decide +kernel) (pa_cons (pv 1) (pa_cons (pe_bltn (v := .ty "list") (by rfl) T.m_list (by decide +kernel) rfl) pa_nil)))) (pw_and1 (pt_not (pt_val (pe_callB (call_isinstK (K := K)) (by rfl) T.m_isinstance (by decide +kernel) (pa_cons (pv 0) (pa_cons (pe_bltn (v := .ty "list") (by rfl) T.m_list (by decide +kernel) rfl) pa_nil)))))))) (pss_one (ps_ret pe_bl)) pss_nil)
        (pss_cons (ps_if (pt_cmpR op_ne (pe_callB (call_lenK (K := K)) (by rfl) T.m_len PySem.boot_len (pa_cons (pv 0) pa_nil)) (pe_callB (call_lenK (K := K)) (by rfl) T.m_len PySem.boot_len (pa_cons (pv 1) pa_nil)) (nomark _)) (pss_one (ps_ret pe_bl)) pss_nil)
        (pss_cons (ps_for PassesOwn.never rfl (pi_range1 (by rfl) T.m_range (pa_cons (pe_callB (call_lenK (K := K)) (by rfl) T.m_len PySem.boot_len (pa_cons (pv 1) pa_nil)) pa_nil)) (pg_name (i := 2) sc__law_same.nd rfl (Or.inl rfl)) (pss_one (ps_if (pt_not (pt_val (pe_call G hr (by rfl) T.g__law_same T.k__law_same T.b__law_same .nil pass0 (pa_cons (pe_ix ix_seq (pv 0) (pv 2) (fun _ _ => rfl)) (pa_cons (pe_ix ix_seq (pv 1) (pv 2) (fun _ _ => rfl)) pa_nil))))) (pss_one (ps_ret pe_bl)) pss_nil)))
        (pss_one (ps_ret pe_bl)))))))))))), ?_⟩
    refine ⟨_, rfl, rfl, _, rfl, ite2 (fun e => ?_) (fun e => ?_)⟩
    · have e := of_decide_eq_true e
      subst e
      cases hS with
      | atom _ => exact ⟨_, rfl, rfl, q _ (.refl _)⟩
    refine ⟨_, rfl, _, rfl, _, rfl, ite2 (fun e => ?_) (fun e => ?_)⟩
    · have e := of_decide_eq_true e
      subst e
      cases hS with
      | atom _ => exact ⟨_, rfl, _, rfl, q _ (.refl _)⟩
    refine ⟨_, rfl, _, rfl, _, rfl, ite2 (fun e => ?_) (fun e => ?_)⟩
    · have e := of_decide_eq_true e
      subst e
      cases hS with
      | atom _ => exact ⟨_, rfl, _, rfl, q _ (.refl _)⟩
    rename_i hn ht
    have hS' : (x = y ∧ atomV x = true) ∨ (∃ (T : String) (a b : Addr) (xs ys : List V), x = .ref a ∧ y = .ref b ∧ (T = "list" ∧ SqL K H a xs ∧ SqL K H b ys ∨ T = "tuple" ∧ SqT K H a xs ∧ SqT K H b ys) ∧ xs.length = ys.length ∧ ys.length ≤ 100000 ∧ ∀ (i : Nat) x y, xs[i]? = some x → ys[i]? = some y → Sm K d H x y) ∨
        (∃ (e : Nat) (a b : Addr) (xs ys : List (Key × V)), d = e + 3 ∧ x = .ref a ∧ y = .ref b ∧ H a = some (.dK xs) ∧ H b = some (.dK ys) ∧ xs.length = ys.length ∧ ys.length ≤ 100000 ∧ (∀ (i : Nat) x y, xs[i]? = some x → ys[i]? = some y → x.1 = y.1) ∧
          ∀ (i : Nat) x y, xs[i]? = some x → ys[i]? = some y → Sm K (e + 1) H x.2 y.2) := by
      cases hS with
      | atom h => exact .inl ⟨rfl, h⟩
      | lst h1 h2 h3 h4 h5 => exact .inr (.inl ⟨"list", _, _, _, _, rfl, rfl, .inl ⟨rfl, h1, h2⟩, h3, h4, h5⟩)
      | tup h1 h2 h3 h4 h5 => exact .inr (.inl ⟨"tuple", _, _, _, _, rfl, rfl, .inr ⟨rfl, h1, h2⟩, h3, h4, h5⟩)
      | dic h1 h2 h3 h4 h5 h6 => exact .inr (.inr ⟨_, _, _, _, _, rfl, rfl, rfl, h1, h2, h3, h4, h5, h6⟩)
    rcases hS' with ⟨rfl, hx⟩ | ⟨t, a, b, xs, ys, rfl, rfl, hk, hl, hz, hi⟩ | ⟨c, a, b, xs, ys, rfl, rfl, rfl, h1, h2, hl, hz, hk, hi⟩
    · cases x with
      | non => exact absurd (decide_eq_true rfl) hn
      | bl b => cases b with
        | true => exact absurd (decide_eq_true rfl) ht
        | false => exact absurd (decide_eq_true rfl) e
      | int i =>
        refine ⟨_, rfl, _, _, _, _, true, rfl, .ty "int", .base (.int _), kit_ty (by decide +kernel), _, rfl, iteT ?_⟩
        refine ⟨_, rfl, _, _, _, _, true, rfl, .ty "int", .base (.int _), kit_ty (by decide +kernel), _, rfl, iteT ?_⟩
        refine ⟨_, rfl, _, _, _, _, false, rfl, .ty "bool", .base (.int _), kit_ty (by decide +kernel), _, rfl, _, rfl, iteT ?_⟩
        refine ⟨_, rfl, _, rfl, rfl, ?_⟩
        rw [decide_eq_true rfl]
        exact q _ (.refl _)
      | str i =>
        refine ⟨_, rfl, _, _, _, _, false, rfl, .ty "int", .base (.str _), kit_ty (by decide +kernel), _, rfl, iteF ?_⟩
        refine ⟨_, rfl, _, _, _, _, true, rfl, .ty "str", .base (.str _), kit_ty (by decide +kernel), _, rfl, iteT ?_⟩
        refine ⟨_, rfl, _, _, _, _, true, rfl, .ty "str", .base (.str _), kit_ty (by decide +kernel), _, rfl, iteT ?_⟩
        refine ⟨_, rfl, _, rfl, rfl, ?_⟩
        rw [decide_eq_true rfl]
        exact q _ (.refl _)
      | _ => cases hx
    · have tb : TyX K H (.ref b) (.type t) := by
        rcases hk with ⟨rfl, _, h⟩ | ⟨rfl, _, h⟩
        · exact tyx_l h
        · exact tyx_t h
      have ta : TyX K H (.ref a) (.type t) := by
        rcases hk with ⟨rfl, h, _⟩ | ⟨rfl, h, _⟩
        · exact tyx_l h
        · exact tyx_t h
      have tt : t = "list" ∨ t = "tuple" := hk.imp (fun h => h.1) (fun h => h.1)
      refine ⟨_, rfl, _, _, _, _, false, rfl, .ty "int", tb, kit_ty (by rcases tt with rfl | rfl <;> decide +kernel), _, rfl, iteF ?_⟩
      refine ⟨_, rfl, _, _, _, _, false, rfl, .ty "str", tb, kit_ty (by rcases tt with rfl | rfl <;> decide +kernel), _, rfl, iteF ?_⟩
      refine ⟨_, rfl, _, _, _, _, false, rfl, .ty "dict", tb, kit_ty (by rcases tt with rfl | rfl <;> decide +kernel), _, rfl, iteF ?_⟩
      refine ⟨fun σ' H' => σ' = [some (.ref a), some (.ref b), none] ∧ H = H', ?_, ?_⟩
      · rcases tt with rfl | rfl
        · refine ⟨_, rfl, _, _, _, _, false, rfl, .ty "tuple", tb, kit_ty (by decide +kernel), _, rfl, iteF (iteF ⟨rfl, rfl⟩)⟩
        · refine ⟨_, rfl, _, _, _, _, true, rfl, .ty "tuple", tb, kit_ty (by decide +kernel), _, rfl, iteT ?_⟩
          refine ⟨_, rfl, _, _, _, _, true, rfl, .ty "tuple", ta, kit_ty (by decide +kernel), _, rfl, iteF ⟨rfl, rfl⟩⟩
      rintro _ _ ⟨rfl, rfl⟩
      refine ⟨fun σ' H' => σ' = [some (.ref a), some (.ref b), none] ∧ H = H', ?_, ?_⟩
      · rcases tt with rfl | rfl
        · refine ⟨_, rfl, _, _, _, _, true, rfl, .ty "list", tb, kit_ty (by decide +kernel), _, rfl, iteT ?_⟩
          refine ⟨_, rfl, _, _, _, _, true, rfl, .ty "list", ta, kit_ty (by decide +kernel), _, rfl, iteF ⟨rfl, rfl⟩⟩
        · refine ⟨_, rfl, _, _, _, _, false, rfl, .ty "list", tb, kit_ty (by decide +kernel), _, rfl, iteF (iteF ⟨rfl, rfl⟩)⟩
      rintro _ _ ⟨rfl, rfl⟩
      have la : SqL K H a xs ∨ SqT K H a xs := hk.imp (fun h => h.2.1) (fun h => h.2.1)
      have lb : SqL K H b ys ∨ SqT K H b ys := hk.imp (fun h => h.2.2) (fun h => h.2.2)
      refine ⟨_, rfl, a, xs, rfl, la, _, rfl, b, ys, rfl, lb, rfl, _, rfl, ?_⟩
      rw [hl, decide_eq_true rfl]
      refine iteF ?_
      -- for k in range(len(due))
      refine ⟨_, rfl, b, ys, rfl, lb, (ys.length : Int), rfl, by omega, by omega, ?_⟩
      rw [Int.toNat_natCast]
      refine for_range (lo := 0) (n := ys.length) (fun _ σ' H' => (∃ o, σ' = [some (.ref a), some (.ref b), o]) ∧ Same H H') ⟨⟨none, rfl⟩, .refl _⟩ (fun i σ' H' hlt p => ?_) (fun σ' H' p => ?_)
      · obtain ⟨⟨o, rfl⟩, sm⟩ := p
        obtain ⟨u, hu⟩ : ∃ u, xs[i]? = some u := ⟨_, List.getElem?_eq_getElem (by omega)⟩
        obtain ⟨v, hv⟩ : ∃ v, ys[i]? = some v := ⟨_, List.getElem?_eq_getElem (by omega)⟩
        rw [Int.zero_add]
        have sa : ∀ Q : VK, Q u H' → rIx K (.ref a) (.int (i : Int)) H' Q := fun Q h => by
          rcases la with l | l
          · exact .inl ⟨a, xs, i, u, rfl, rfl, sm.seq l, atI_nat hu, h⟩
          · exact .inr (.inl ⟨a, xs, i, u, rfl, rfl, same_t sm l, atI_nat hu, h⟩)
        have sb : ∀ Q : VK, Q v H' → rIx K (.ref b) (.int (i : Int)) H' Q := fun Q h => by
          rcases lb with l | l
          · exact .inl ⟨b, ys, i, v, rfl, rfl, sm.seq l, atI_nat hv, h⟩
          · exact .inr (.inl ⟨b, ys, i, v, rfl, rfl, same_t sm l, atI_nat hv, h⟩)
        refine ⟨_, rfl, _, rfl, sa _ ⟨_, rfl, _, rfl, sb _ ⟨u, v, rfl, (hi i u v hu hv).same sm, fun H2 s2 => ⟨true, rfl, iteF ?_⟩⟩⟩⟩
        exact ⟨⟨_, rfl⟩, sm.trans s2⟩
      · obtain ⟨⟨o, rfl⟩, sm⟩ := p
        exact q _ sm
    · have tb : TyX K H (.ref b) (.type "dict") := .base (.dK h2)
      have ta : TyX K H (.ref a) (.type "dict") := .base (.dK h1)
      refine ⟨_, rfl, _, _, _, _, false, rfl, .ty "int", tb, kit_ty (by decide +kernel), _, rfl, iteF ?_⟩
      refine ⟨_, rfl, _, _, _, _, false, rfl, .ty "str", tb, kit_ty (by decide +kernel), _, rfl, iteF ?_⟩
      refine ⟨_, rfl, _, _, _, _, true, rfl, .ty "dict", tb, kit_ty (by decide +kernel), _, rfl, iteT ?_⟩
      refine ⟨_, rfl, _, _, _, _, true, rfl, .ty "dict", ta, kit_ty (by decide +kernel), _, rfl, iteT ?_⟩
      refine ⟨_, rfl, a, xs, rfl, h1, fun H2 p1 t1 s2 n1 nt1 np1 e1 pr1 => ?_⟩
      refine ⟨_, rfl, b, ys, rfl, s2 _ _ h2, fun H3 p2 t2 s3 n2 nt2 np2 e2 pr2 => ?_⟩
      have l1 : t1.length = xs.length := pr1.length
      have l2 : t2.length = ys.length := pr2.length
      refine ⟨_, _, rfl, .lst (SqL.of (s3 _ _ e1)) (SqL.of e2) (by rw [List.length_map, List.length_map]; omega) (by rw [List.length_map]; omega) (fun i u v hu hv => ?_), fun H4 s4 => q _ (Same.trans (Same.trans s2 s3) s4)⟩
      rw [List.getElem?_map] at hu hv
      obtain ⟨u1, hu1, rfl⟩ := Option.map_eq_some_iff.mp hu
      obtain ⟨v1, hv1, rfl⟩ := Option.map_eq_some_iff.mp hv
      obtain ⟨x1, hx1, r1⟩ := paired_get pr1 hu1
      obtain ⟨x2, hx2, r2⟩ := paired_get pr2 hv1
      refine .tup (SqT.of (s3 _ _ r1)) (SqT.of r2) rfl (by show 2 ≤ 100000; decide) (fun j y z hy hz => ?_)
      have e12 := hk i x1 x2 hx1 hx2
      match j with
      | 0 =>
        cases hy
        cases hz
        rw [e12]
        exact .atom (by cases x2.1 <;> rfl)
      | 1 =>
        cases hy
        cases hz
        exact (hi i x1 x2 hx1 hx2).same (Same.trans s2 s3)
      | j + 2 => cases hy
theorem T0.ok__law_same (T : T0 K mg) : ∀ d : Nat, FnOk P w K mg base CX0 d T.a__law_same T.fd__law_same ["actual", "due"] (sp__law_same d K)
  | 0 => fnok_never fun vs H Q E h => by
    obtain ⟨x, y, _, h, _⟩ := h
    cases h
  | d + 1 => T.ok__law_same_succ (T.ok__law_same d)
def sp__law_size (K : PySem.W.Frag) : Sp := fun vs H Q _ => ∃ (t c : Addr) (n : Int), vs = [.ref t, .int n] ∧ Tape H t c ∧ n ≤ 100 ∧ ∀ x H', 1 ≤ x → n ≤ x → x ≤ 1000000000 → Kp t H H' → Tape H' t c → Q (.int x) H'
theorem T0.ok__law_size (T : T0 K mg) : FnOk P w K mg base CX0 2 T.a__law_size T.fd__law_size ["tape", "count"] (sp__law_size K) := by
  refine T.F__law_size.ok sc__law_size (fun vs H Q E h => ?_) (fun cdv A outer s H vs Q E hr h => ?_)
  · obtain ⟨t, c, n, rfl, _⟩ := h
    rfl
  · obtain ⟨t, c, n, rfl, hT, hn, q⟩ := h
    refine ⟨_, (pss_cons (ps_set (i := 2) sc__law_size.nd rfl (Or.inl rfl) (pe_call T.ok__law_pick hr (by rfl) T.g__law_pick T.k__law_pick T.b__law_pick .nil pass0 (pa_cons (pv 0) (pa_cons pe_int pa_nil))))
        (pss_cons (ps_set (i := 3) sc__law_size.nd rfl (Or.inl rfl) (pe_callB (call_max2 rfl) (by rfl) T.m_max (by decide +kernel) (pa_cons pe_int (pa_cons (pv 1) pa_nil))))
        (pss_cons (ps_if (pt_cmpR op_eq (pv 2) pe_int (nomark _)) (pss_one (ps_ret (pv 3))) pss_nil)
        (pss_cons (ps_if (pt_cmpR op_eq (pv 2) pe_int (nomark _)) (pss_one (ps_ret (pe_op op_add (pv 3) (pe_call T.ok__law_pick hr (by rfl) T.g__law_pick T.k__law_pick T.b__law_pick .nil pass0 (pa_cons (pv 0) (pa_cons pe_int pa_nil)))))) pss_nil)
        (pss_cons (ps_if (pt_cmpR op_eq (pv 2) pe_int (nomark _)) (pss_one (ps_ret (pe_op op_add (pv 3) (pe_call T.ok__law_pick hr (by rfl) T.g__law_pick T.k__law_pick T.b__law_pick .nil pass0 (pa_cons (pv 0) (pa_cons pe_int pa_nil)))))) pss_nil)
        (pss_one (ps_ret (pe_op op_add (pe_op op_add (pv 3) pe_int) (pe_call T.ok__law_pick hr (by rfl) T.g__law_pick T.k__law_pick T.b__law_pick .nil pass0 (pa_cons (pv 0) (pa_cons pe_int pa_nil))))))))))), ?_⟩
    refine ⟨_, rfl, ?_⟩
    walk_at "pick"
    rename_i x H1 h0 h1 kp hT1
    refine ⟨.int n, rfl, 1, n, rfl, ?_⟩
    have l1 : 1 ≤ (if n > 1 then n else (1 : Int)) ∧ n ≤ (if n > 1 then n else (1 : Int)) ∧ (if n > 1 then n else (1 : Int)) ≤ 100 := by split <;> omega
    revert l1
    generalize (if n > 1 then n else (1 : Int)) = l
    intro l1
    refine ⟨_, rfl, rfl, _, rfl, ite2 (fun _ => ?_) (fun _ => ?_)⟩
    · exact ⟨_, rfl, q _ _ (by omega) (by omega) (by omega) (by walk_at "kp") hT1⟩
    refine ⟨_, rfl, rfl, _, rfl, ite2 (fun _ => ?_) (fun _ => ?_)⟩
    · refine ⟨_, rfl, _, rfl, ?_⟩
      walk_at "pick"
      exact ⟨_, _, rfl, rfl, q _ _ (by omega) (by omega) (by omega) (by walk_at "kp") (by assumption)⟩
    refine ⟨_, rfl, rfl, _, rfl, ite2 (fun _ => ?_) (fun _ => ?_)⟩
    · refine ⟨_, rfl, _, rfl, ?_⟩
      walk_at "pick"
      exact ⟨_, _, rfl, rfl, q _ _ (by omega) (by omega) (by omega) (by walk_at "kp") (by assumption)⟩
    · refine ⟨_, rfl, _, _, rfl, rfl, _, rfl, ?_⟩
      walk_at "pick"
      exact ⟨_, _, rfl, rfl, q _ _ (by omega) (by omega) (by omega) (by walk_at "kp") (by assumption)⟩
def sp__law_wide (K : PySem.W.Frag) : Sp := fun vs H Q _ => ∃ (t c : Addr) (n : Int), vs = [.ref t, .int n] ∧ Tape H t c ∧ 0 < n ∧ ∀ x H', 0 ≤ x → x < n → Kp t H H' → Tape H' t c → Q (.int x) H'
theorem T0.ok__law_wide (T : T0 K mg) : FnOk P w K mg base CX0 2 T.a__law_wide T.fd__law_wide ["tape", "size"] (sp__law_wide K) := by
  refine T.F__law_wide.ok sc__law_wide (fun vs H Q E h => ?_) (fun cdv A outer s H vs Q E hr h => ?_)
  · obtain ⟨t, c, n, rfl, _⟩ := h
    rfl
  · obtain ⟨t, c, n, rfl, hT, hn, q⟩ := h
    refine ⟨_, (pss_one (ps_ret (pe_op op_modN (pe_callTy call_int1 (by rfl) T.m_int (by decide +kernel) (pa_cons (pe_op op_add (pe_op op_mul (pe_call T.ok__law_pick hr (by rfl) T.g__law_pick T.k__law_pick T.b__law_pick .nil pass0 (pa_cons (pv 0) (pa_cons pe_int pa_nil))) pe_int) (pe_call T.ok__law_pick hr (by rfl) T.g__law_pick T.k__law_pick T.b__law_pick .nil pass0 (pa_cons (pv 0) (pa_cons pe_int pa_nil)))) pa_nil)) (pv 1)))), ?_⟩
    refine ⟨_, rfl, ?_⟩
    walk_at "pick"
    rename_i x H1 h0 h1 kp hT1
    refine ⟨_, _, rfl, rfl, .inr ⟨by decide, by decide⟩, _, rfl, ?_⟩
    walk_at "pick"
    refine ⟨_, _, rfl, rfl, .inl ⟨_, rfl, _, rfl, _, _, rfl, rfl, by omega, ?_⟩⟩
    exact q _ _ (fmod_range _ hn).1 (fmod_range _ hn).2 (by walk_at "kp") (by assumption)
def sp__law_circle (K : PySem.W.Frag) : Sp := fun vs H Q _ => ∃ (t c : Addr) (n : Int), vs = [.ref t, .int n] ∧ Tape H t c ∧ n ≤ 100 ∧ ∀ x H', 1 ≤ x → n ≤ x → x ≤ 1000000000 → Kp t H H' → Tape H' t c → Q (.int x) H'
theorem T0.ok__law_circle (T : T0 K mg) : FnOk P w K mg base CX0 3 T.a__law_circle T.fd__law_circle ["tape", "count"] (sp__law_circle K) := by
  refine T.F__law_circle.ok sc__law_circle (fun vs H Q E h => ?_) (fun cdv A outer s H vs Q E hr h => ?_)
  · obtain ⟨t, c, n, rfl, _⟩ := h
    rfl
  · obtain ⟨t, c, n, rfl, hT, hn, q⟩ := h
    refine ⟨_, (pss_cons (ps_set (i := 2) sc__law_circle.nd rfl (Or.inl rfl) (pe_callB (call_max2 rfl) (by rfl) T.m_max (by decide +kernel) (pa_cons pe_int (pa_cons (pv 1) pa_nil))))
        (pss_cons (ps_set (i := 3) sc__law_circle.nd rfl (Or.inl rfl) (pe_call T.ok__law_pick (hr.mono (by decide)) (by rfl) T.g__law_pick T.k__law_pick T.b__law_pick .nil pass0 (pa_cons (pv 0) (pa_cons pe_int pa_nil))))
        (pss_cons (ps_if (pt_cmpR op_eq (pv 3) pe_int (nomark _)) (pss_one (ps_ret (pe_op op_sub pe_int (pe_call T.ok__law_pick (hr.mono (by decide)) (by rfl) T.g__law_pick T.k__law_pick T.b__law_pick .nil pass0 (pa_cons (pv 0) (pa_cons pe_int pa_nil)))))) pss_nil)
        (pss_cons (ps_if (pt_cmpR op_eq (pv 3) pe_int (nomark _)) (pss_one (ps_ret (pe_op op_add (pv 2) (pe_call T.ok__law_wide hr (by rfl) T.g__law_wide T.k__law_wide T.b__law_wide .nil pass0 (pa_cons (pv 0) (pa_cons (pe_op op_sub pe_int (pv 2)) pa_nil)))))) pss_nil)
        (pss_one (ps_ret (pe_call T.ok__law_size hr (by rfl) T.g__law_size T.k__law_size T.b__law_size .nil pass0 (pa_cons (pv 0) (pa_cons (pv 1) pa_nil))))))))), ?_⟩
    refine ⟨.int n, rfl, 1, n, rfl, ?_⟩
    have l1 : 1 ≤ (if n > 1 then n else (1 : Int)) ∧ n ≤ (if n > 1 then n else (1 : Int)) ∧ (if n > 1 then n else (1 : Int)) ≤ 100 := by split <;> omega
    revert l1
    generalize (if n > 1 then n else (1 : Int)) = l
    intro l1
    refine ⟨_, rfl, ?_⟩
    walk_at "pick"
    refine ⟨_, rfl, rfl, _, rfl, ite2 (fun _ => ?_) (fun _ => ?_)⟩
    · refine ⟨_, rfl, ?_⟩
      walk_at "pick"
      exact ⟨_, _, rfl, rfl, q _ _ (by omega) (by omega) (by omega) (by walk_at "kp") (by assumption)⟩
    refine ⟨_, rfl, rfl, _, rfl, ite2 (fun _ => ?_) (fun _ => ?_)⟩
    · refine ⟨_, rfl, _, rfl, _, rfl, _, _, rfl, rfl, ?_⟩
      refine ⟨_, _, _, rfl, by assumption, by omega, fun x H' h0 h1 kp hT => ?_⟩
      exact ⟨_, _, rfl, rfl, q _ _ (by omega) (by omega) (by omega) (by walk_at "kp") (by assumption)⟩
    · refine ⟨_, rfl, _, rfl, _, _, _, rfl, by assumption, hn, fun x H' h0 h1 h2 kp hT => ?_⟩
      exact q _ _ h0 h1 h2 (by walk_at "kp") hT
def sp__law_far (K : PySem.W.Frag) : Sp := fun vs H Q _ => ∃ n a b : Int, vs = [.int n, .int a, .int b] ∧ 0 < n ∧ Q (.int (farL n a b)) H
theorem T0.ok__law_far (T : T0 K mg) : FnOk P w K mg base CX0 1 T.a__law_far T.fd__law_far ["size", "start", "end"] (sp__law_far K) := by
  refine T.F__law_far.ok sc__law_far (fun vs H Q E h => ?_) (fun cdv A outer s H vs Q E hr h => ?_)
  · obtain ⟨n, a, b, rfl, _⟩ := h
    rfl
  · obtain ⟨n, a, b, rfl, hn, q⟩ := h
    refine ⟨_, (pss_cons (ps_set (i := 3) sc__law_far.nd rfl (Or.inl rfl) (pe_op op_modN (pe_callTy call_int1 (by rfl) T.m_int (by decide +kernel) (pa_cons (pe_op op_sub (pv 2) (pv 1)) pa_nil)) (pv 0)))
        (pss_cons (ps_if (pt_cmpR op_eq (pv 3) pe_int (nomark _)) (pss_one (ps_ret (pv 0))) pss_nil)
        (pss_one (ps_ret (pv 3))))), ?_⟩
    rw [far_eq a b hn] at q
    refine ⟨_, rfl, _, rfl, _, _, rfl, rfl, .inl ⟨_, rfl, _, rfl, _, _, rfl, rfl, by omega, ?_⟩⟩
    refine ⟨_, rfl, rfl, _, rfl, ite2 (fun e => ?_) (fun e => ?_)⟩
    · rw [if_pos (V.int.inj (of_decide_eq_true e))] at q
      exact ⟨_, rfl, q⟩
    · rw [if_neg (fun z => e (decide_eq_true (congrArg V.int z)))] at q
      exact ⟨_, rfl, q⟩
def sp__law_along (K : PySem.W.Frag) : Sp := fun vs H Q _ => ∃ (t c : Addr) (n x m : Int), vs = [.ref t, .int n, .int x, .int m] ∧ Tape H t c ∧ 0 < n ∧ 0 ≤ m ∧ m ≤ 100 ∧
  ∀ p (ms : List Int) H', H p = none → H' p = some (.lst (ms.map V.int)) → ms[0]? = some x → ms.length = m.toNat + 1 → Kp t H H' → Tape H' t c → Q (.ref p) H'
theorem T0.ok__law_along (T : T0 K mg) : FnOk P w K mg base CX0 3 T.a__law_along T.fd__law_along ["tape", "size", "first", "many"] (sp__law_along K) := by
  refine T.F__law_along.ok sc__law_along (fun vs H Q E h => ?_) (fun cdv A outer s H vs Q E hr h => ?_)
  · obtain ⟨t, c, n, x, m, rfl, _⟩ := h
    rfl
  · obtain ⟨t, c, n, x, m, rfl, hT, hn, m0, m1, q⟩ := h
    refine ⟨_, (pss_cons (ps_set (i := 4) sc__law_along.nd rfl (Or.inl rfl) (pe_lst (pa_cons (pv 2) pa_nil)))
        (pss_cons (ps_for PassesOwn.never rfl (pi_range1 (by rfl) T.m_range (pa_cons (pv 3) pa_nil)) (pg_name (i := 5) sc__law_along.nd rfl (Or.inl rfl)) (pss_cons (ps_set (i := 6) sc__law_along.nd rfl (Or.inl rfl) (pe_call T.ok__law_pick (hr.mono (by decide)) (by rfl) T.g__law_pick T.k__law_pick T.b__law_pick .nil pass0 (pa_cons (pv 0) (pa_cons pe_int pa_nil))))
        (pss_one (ps_if (pt_cmpR op_eq (pv 6) pe_int (nomark _)) (pss_one (ps_expr (pe_bm PySem.F.plainAttrs_list PySem.F.slot_list_append PySem.F.type_list_append mt_append (pv 4) (pa_cons (pe_ix (ix_listK (K := K)) (pv 4) (pv 5) (fun _ _ => rfl)) pa_nil)))) (pss_one (ps_if (pt_cmpR op_eq (pv 6) pe_int (nomark _)) (pss_one (ps_expr (pe_bm PySem.F.plainAttrs_list PySem.F.slot_list_append PySem.F.type_list_append mt_append (pv 4) (pa_cons (pe_ix (ix_listK (K := K)) (pv 4) (pe_call T.ok__law_pick (hr.mono (by decide)) (by rfl) T.g__law_pick T.k__law_pick T.b__law_pick .nil pass0 (pa_cons (pv 0) (pa_cons (pe_op op_add (pv 5) pe_int) pa_nil))) (fun _ _ => rfl)) pa_nil)))) (pss_one (ps_expr (pe_bm PySem.F.plainAttrs_list PySem.F.slot_list_append PySem.F.type_list_append mt_append (pv 4) (pa_cons (pe_call T.ok__law_wide hr (by rfl) T.g__law_wide T.k__law_wide T.b__law_wide .nil pass0 (pa_cons (pv 0) (pa_cons (pv 1) pa_nil))) pa_nil))))))))))
        (pss_one (ps_ret (pv 4))))), ?_⟩
    refine ⟨_, rfl, lenL (by show 1 ≤ 100000; decide), fun p np => ?_⟩
    have off := hT.off np
    refine ⟨_, rfl, m, rfl, by omega, by omega, ?_⟩
    refine for_range (lo := 0) (n := m.toNat) (fun i σ' H' => ∃ (o1 o2 : Option V) (ms : List Int), σ' = [some (.ref t), some (.int n), some (.int x), some (.int m), some (.ref p), o1, o2] ∧ ms.length = i + 1 ∧ ms[0]? = some x ∧ H' p = some (.lst (ms.map V.int)) ∧ Kp t H H' ∧ Tape H' t c)
      ⟨none, none, [x], rfl, rfl, rfl, upd_same, Kp.of_same (same_upd np), hT.put off⟩ (fun i σ' H' hi pv => ?_) (fun σ' H' pv => ?_)
    · obtain ⟨o1, o2, ms, rfl, hl, h0, hp, kp, hT1⟩ := pv
      rw [Int.zero_add]
      refine ⟨_, rfl, t, c, 4, rfl, hT1, by decide, by decide, fun kind H2 k0 k1 kp2 hT2 => ?_⟩
      have hp2 := kp2 _ _ off.1 hp
      have fin : ∀ (y : Int) (H3 : Hp) (o1 o2 : Option V), Kp t H H3 → Tape H3 t c → H3 p = some (.lst (ms.map V.int)) → ∃ (o1' o2' : Option V) (ms' : List Int), [some (V.ref t), some (V.int n), some (V.int x), some (V.int m), some (V.ref p), o1, o2] = [some (V.ref t), some (V.int n), some (V.int x), some (V.int m), some (V.ref p), o1', o2'] ∧ ms'.length = i + 1 + 1 ∧ ms'[0]? = some x ∧ upd H3 p (.lst (ms.map V.int ++ [.int y])) p = some (.lst (ms'.map V.int)) ∧ Kp t H (upd H3 p (.lst (ms.map V.int ++ [.int y]))) ∧ Tape (upd H3 p (.lst (ms.map V.int ++ [.int y]))) t c := by
        intro y H3 o1 o2 k3 T3 hp3
        refine ⟨o1, o2, ms ++ [y], rfl, by rw [List.length_append, hl]; rfl, ?_, ?_, ?_, T3.put off⟩
        · rw [List.getElem?_append_left (by omega)]
          exact h0
        · rw [upd_same, List.map_append]
          rfl
        · intro b o nb e
          rw [upd_ne (ne_of_none e np)]
          exact k3 b o nb e
      have sm : (ms.map V.int).length < sizeLine := small1000' (by rw [List.length_map]; omega)
      refine ⟨_, rfl, rfl, _, rfl, ite2 (fun _ => ?_) (fun _ => ?_)⟩
      · have hi2 : i < ms.length := by omega
        exact ⟨_, rfl, .inl ⟨rfl, _, SqL.of hp2⟩, _, rfl, _, rfl, p, _, i, .int ms[i], rfl, rfl, SqL.of hp2, at_ints hi2, p, _, _, rfl, rfl, hp2, sm, fin ms[i] H2 _ _ (kp.trans kp2) hT2 hp2⟩
      refine ⟨_, rfl, rfl, _, rfl, ite2 (fun _ => ?_) (fun _ => ?_)⟩
      · refine ⟨_, rfl, .inl ⟨rfl, _, SqL.of hp2⟩, _, rfl, _, rfl, _, rfl, _, _, rfl, rfl, t, c, i + 1, rfl, hT2, by omega, by omega, fun z H3 z0 z1 kp3 hT3 => ?_⟩
        have hp3 := kp3 _ _ off.1 hp2
        obtain ⟨j, rfl⟩ : ∃ j : Nat, z = (j : Int) := ⟨z.toNat, by omega⟩
        have hj : j < ms.length := by omega
        exact ⟨p, _, j, .int ms[j], rfl, rfl, SqL.of hp3, at_ints hj, p, _, _, rfl, rfl, hp3, sm, fin ms[j] H3 _ _ ((kp.trans kp2).trans kp3) hT3 hp3⟩
      · refine ⟨_, rfl, .inl ⟨rfl, _, SqL.of hp2⟩, _, rfl, _, rfl, t, c, n, rfl, hT2, hn, fun z H3 z0 z1 kp3 hT3 => ?_⟩
        have hp3 := kp3 _ _ off.1 hp2
        exact ⟨p, _, _, rfl, rfl, hp3, sm, fin z H3 _ _ ((kp.trans kp2).trans kp3) hT3 hp3⟩
    · obtain ⟨o1, o2, ms, rfl, hl, h0, hp, kp, hT1⟩ := pv
      exact ⟨_, rfl, q p ms _ np hp h0 hl kp hT1⟩
def sp__law_total (K : PySem.W.Frag) : Sp := fun vs H Q _ => ∃ (n : Int) (r : Addr) (ps : List Int), vs = [.int n, .ref r] ∧ 0 < n ∧ H r = some (.lst (ps.map V.int)) ∧ 1 ≤ ps.length ∧ ps.length ≤ 1000 ∧ ∀ H', Same H H' → Q (.int (fars n (steps ps)).sum) H'
theorem T0.ok__law_total (T : T0 K mg) : FnOk P w K mg base CX0 2 T.a__law_total T.fd__law_total ["size", "row"] (sp__law_total K) := by
  refine T.F__law_total.ok sc__law_total (fun vs H Q E h => ?_) (fun cdv A outer s H vs Q E hr h => ?_)
  · obtain ⟨n, r, ps, rfl, _⟩ := h
    rfl
  · obtain ⟨n, r, ps, rfl, hn, hr', hp, hz, q⟩ := h
    refine ⟨_, (pss_one (ps_ret (pe_callB (call_sumK (K := K)) (by rfl) T.m_sum (by decide +kernel) (pa_cons (pe_lc (own := [("k", 2)]) (g := gName 2) (by rfl) sc__law_total.nd (pi_range1 (by rfl) T.m_range (pa_cons (pe_op op_sub (pe_callB (call_lenK (K := K)) (by rfl) T.m_len PySem.boot_len (pa_cons (pv 1) pa_nil)) pe_int) pa_nil)) (blkOk_by (own := [("k", 2)]) (N := ["size", "row", "k"]) (sc := defScope s__law_total) (by decide +kernel)) (fun _ _ _ _ _ => pg_name (i := 2) sc__law_total.nd rfl (Or.inl rfl)) (fun _ _ _ _ _ => pts_nil) (fun _ _ _ _ _ => (pe_call T.ok__law_far hr (by rfl) T.g__law_far T.k__law_far T.b__law_far .nil pass0 (pa_cons (pv 0) (pa_cons (pe_ix (ix_listK (K := K)) (pv 1) (pv 2) (fun _ _ => rfl)) (pa_cons (pe_ix (ix_listK (K := K)) (pv 1) (pe_op op_add (pv 2) pe_int) (fun _ _ => rfl)) pa_nil)))))) pa_nil)))), ?_⟩
    have sl := steps_len ps
    have ln : (ps.map V.int).length = ps.length := List.length_map _
    refine ⟨_, rfl, r, _, rfl, .inl (SqL.of hr'), _, _, rfl, rfl, _, rfl, by omega, by omega, fun D hD => ?_⟩
    refine lc_range (lo := 0) (n := _) (fun i H' => Same H H' ∧ H' D = some (.lst (((fars n (steps ps)).take i).map V.int))) ⟨same_upd hD, upd_same⟩ (fun i H' hi pv => ?_) (fun H2 pv => ?_)
    · obtain ⟨sm, e2⟩ := pv
      have hr2 := sm _ _ hr'
      have h1 : i < ps.length := by omega
      have h2 : i + 1 < ps.length := by omega
      have a1 : atI (ps.map V.int) ((i : Int) + 1) = some (.int ps[i + 1]) := by rw [show (i : Int) + 1 = ((i + 1 : Nat) : Int) by omega]; exact at_ints h2
      have e5 : (fars n (steps ps))[i]? = some (farL n ps[i] ps[i + 1]) := by
        unfold fars steps
        rw [List.getElem?_map, List.getElem?_zip_eq_some (z := (ps[i], ps[i + 1])).mpr ⟨List.getElem?_eq_getElem h1, (by rw [List.getElem?_drop, Nat.add_comm 1 i]; exact List.getElem?_eq_getElem h2)⟩] <;> rfl
      rw [Int.zero_add]
      refine ⟨rfl, lc_yes ?_⟩
      refine ⟨_, rfl, _, rfl, _, rfl, r, _, i, .int ps[i], rfl, rfl, SqL.of hr2, at_ints h1, _, rfl, _, rfl, _, _, rfl, rfl, r, _, _, .int ps[i + 1], rfl, rfl, SqL.of hr2, a1, n, ps[i], ps[i + 1], rfl, hn, _, e2, ?_, ?_, ?_⟩
      · rw [List.length_map, List.length_take]
        exact small1000' (by unfold fars; rw [List.length_map]; omega)
      · exact fun b o e => by rw [upd_ne (ne_of_none e hD)]; exact sm b o e
      · rw [upd_same, take_map_succ e5]
    · obtain ⟨sm, e2⟩ := pv
      have e : ((ps.map V.int).length - 1 : Int).toNat = (fars n (steps ps)).length := by
        unfold fars
        rw [List.length_map, List.length_map, sl]
        omega
      rw [e, List.take_length] at e2
      exact ⟨D, _, rfl, SqL.of e2, q H2 sm⟩
--CUT
def rgI (n : Int) : List Int := (List.range (n - 0).toNat).map fun i => 0 + ((i : Nat) : Int)
theorem rgI_eq (n : Int) : rgV 0 n = (rgI n).map V.int := by
  unfold rgV rgI
  rw [List.map_map]
  rfl
theorem rep_pair {R : V → V → Prop} {x : V} : ∀ (k : Nat), R x x → Paired R (List.replicate k x) (List.replicate k x)
  | 0, _ => .nil
  | k + 1, h => .cons h (rep_pair k h)
theorem cut_ints (xs : List Int) : ∃ zs : List Int, cutV (xs.map V.int) none (some 4) = zs.map V.int ∧ zs.length ≤ 4 := by
  refine ⟨(xs.drop (HT.sIx (xs.map V.int).length 0 none)).take (HT.sIx (xs.map V.int).length (xs.map V.int).length (some 4) - HT.sIx (xs.map V.int).length 0 none), ?_, ?_⟩
  · unfold cutV
    rw [List.map_take, List.map_drop]
  · rw [List.length_take, show (4 : Int) = ((4 : Nat) : Int) from rfl, HT.sIx_nat]
    omega
def sp_law (K : PySem.W.Frag) : Sp := fun vs H Q _ => ∃ (a : Addr) (ns : List Int), vs = [.ref a] ∧ SqL K H a (ns.map V.int) ∧ ns.length ≤ 63 ∧ ∀ H', Q (.bl true) H'
theorem T0.ok_law (T : T0 K mg) : FnOk P w K mg base CX0 5 T.a_law T.fd_law ["script"] (sp_law K) := by
  refine T.F_law.ok sc_law (fun vs H Q E h => ?_) (fun cdv A outer s H vs Q E hr h => ?_)
  · obtain ⟨a, ns, rfl, _⟩ := h
    rfl
  · obtain ⟨a, ns, rfl, hS, hlen, q⟩ := h
    refine ⟨_, (pss_cons (ps_set (i := 1) sc_law.nd rfl (Or.inr rfl) (pe_call T.ok__law_tape (hr.mono (by decide)) (by rfl) T.g__law_tape T.k__law_tape T.b__law_tape .nil pass0 (pa_cons (pv 0) pa_nil)))
        (pss_cons (ps_set (i := 2) sc_law.nd rfl (Or.inr rfl) (pe_op op_add pe_int (pe_call T.ok__law_pick (hr.mono (by decide)) (by rfl) T.g__law_pick T.k__law_pick T.b__law_pick .nil pass0 (pa_cons (pv 1) (pa_cons pe_int pa_nil)))))
        (pss_cons (ps_set (i := 3) sc_law.nd rfl (Or.inl rfl) (pe_listRg rfl (by rfl) T.m_list (prg_1 (by rfl) T.m_range (pv 2))))
        (pss_cons (ps_set (i := 4) sc_law.nd rfl (Or.inl rfl) (pe_cmpR op_eq (pe_call T.ok__law_pick (hr.mono (by decide)) (by rfl) T.g__law_pick T.k__law_pick T.b__law_pick .nil pass0 (pa_cons (pv 1) (pa_cons pe_int pa_nil))) pe_int (nomark _)))
        (C8.pss_cut (ps_if (pt_val (pv 4)) (pss_cons (ps_set (i := 2) sc_law.nd rfl (Or.inr rfl) (pe_call T.ok__law_circle (hr.mono (by decide)) (by rfl) T.g__law_circle T.k__law_circle T.b__law_circle .nil pass0 (pa_cons (pv 1) (pa_cons pe_int pa_nil))))
        (pss_one (ps_set (i := 3) sc_law.nd rfl (Or.inl rfl) (pe_op op_cat (pe_lst (pa_cons pe_int (pa_cons (pe_op op_sub (pv 2) pe_int) pa_nil))) (pe_lc (own := [("k", 12)]) (g := gName 12) (by rfl) sc_law.nd (pi_range1 (by rfl) T.m_range (pa_cons pe_int pa_nil)) (blkOk_by (own := [("k", 12)]) (N := ["script", "tape", "size", "spots", "wide", "many", "row", "total", "turns", "walk", "told", "place", "k"]) (sc := defScope s_law) (by decide +kernel)) (fun _ _ _ _ _ => pg_name (i := 12) sc_law.nd rfl (Or.inl rfl)) (fun _ _ _ _ _ => pts_nil) (fun _ _ _ _ _ => (pe_call T.ok__law_wide (hr.mono (by decide)) (by rfl) T.g__law_wide T.k__law_wide T.b__law_wide .nil pass0 (pa_cons (pv 1) (pa_cons (pv 2) pa_nil))))))))) pss_nil)
        (pss_cons (ps_set (i := 5) sc_law.nd rfl (Or.inl rfl) (pe_call T.ok__law_pick (hr.mono (by decide)) (by rfl) T.g__law_pick T.k__law_pick T.b__law_pick .nil pass0 (pa_cons (pv 1) (pa_cons pe_int pa_nil))))
        (C8.pss_cut (ps_if (pt_cmpR op_eq (pe_call T.ok__law_pick (hr.mono (by decide)) (by rfl) T.g__law_pick T.k__law_pick T.b__law_pick .nil pass0 (pa_cons (pv 1) (pa_cons pe_int pa_nil))) pe_int (nomark _)) (pss_one (ps_set (i := 5) sc_law.nd rfl (Or.inl rfl) (pe_call T.ok__law_pick (hr.mono (by decide)) (by rfl) T.g__law_pick T.k__law_pick T.b__law_pick .nil pass0 (pa_cons (pv 1) (pa_cons pe_int pa_nil))))) pss_nil)
        (pss_cons (ps_set (i := 6) sc_law.nd rfl (Or.inl rfl) (pe_call T.ok__law_along (hr.mono (by decide)) (by rfl) T.g__law_along T.k__law_along T.b__law_along .nil pass0 (pa_cons (pv 1) (pa_cons (pv 2) (pa_cons (pe_call T.ok__law_wide (hr.mono (by decide)) (by rfl) T.g__law_wide T.k__law_wide T.b__law_wide .nil pass0 (pa_cons (pv 1) (pa_cons (pv 2) pa_nil))) (pa_cons (pv 5) pa_nil))))))
        (pss_cons (ps_expr (pe_bm PySem.F.plainAttrs_list PySem.F.slot_list_append PySem.F.type_list_append mt_append (pv 6) (pa_cons (pe_ix (ix_listK (K := K)) (pv 6) pe_int (fun _ _ => rfl)) pa_nil)))
        (C8.pss_cut (ps_if (pt_val (pv 4)) (pss_one (ps_set (i := 3) sc_law.nd rfl (Or.inl rfl) (pe_op op_cat (pv 3) (pe_slice (sl_listK (K := K)) (pv 6) po_none (po_some pe_int))))) pss_nil)
        (pss_cons (ps_set (i := 7) sc_law.nd rfl (Or.inl rfl) (pe_call T.ok__law_total (hr.mono (by decide)) (by rfl) T.g__law_total T.k__law_total T.b__law_total .nil pass0 (pa_cons (pv 2) (pa_cons (pv 6) pa_nil))))
        (pss_cons (ps_set (i := 8) sc_law.nd rfl (Or.inr rfl) (pe_op op_fdivN (pv 7) (pv 2)))
        (pss_cons (ps_set (i := 9) sc_law.nd rfl (Or.inr rfl) (pe_make T.mk_Walk T.ok_Walk__init (hr.mono (by decide)) (by rfl) T.mc_Walk T.b_Walk__init .nil pass0 (pa_cons (pv 2) (pa_cons (pe_callTy (call_list_ofK (K := K)) (by rfl) T.m_list (by decide +kernel) (pa_cons (pv 6) pa_nil)) pa_nil))))
        (pss_cons (ps_set (i := 10) sc_law.nd rfl (Or.inl rfl) (pe_lst (pa_cons (pe_meth0 (pv 9) T.cl_Walk T.me_Walk__turns T.ok_Walk__turns (hr.mono (by decide)) T.b_Walk__turns .nil pass0) (pa_cons (pe_meth0 (pv 9) T.cl_Walk T.me_Walk__total T.ok_Walk__total (hr.mono (by decide)) T.b_Walk__total .nil pass0) (pa_cons (pe_meth0 (pv 9) T.cl_Walk T.me_Walk__is_closed T.ok_Walk__is_closed (hr.mono (by decide)) T.b_Walk__is_closed .nil pass0) (pa_cons (pe_lc (own := [("place", 11)]) (g := gName 11) (by rfl) sc_law.nd (pi_list (pv 3)) (blkOk_by (own := [("place", 11)]) (N := ["script", "tape", "size", "spots", "wide", "many", "row", "total", "turns", "walk", "told", "place", "k"]) (sc := defScope s_law) (by decide +kernel)) (fun _ _ _ _ _ => pg_name (i := 11) sc_law.nd rfl (Or.inl rfl)) (fun _ _ _ _ _ => pts_nil) (fun _ _ _ _ _ => (pe_meth (pv 9) T.cl_Walk T.me_Walk__crossings T.ok_Walk__crossings (hr.mono (by decide)) T.b_Walk__crossings .nil pass0 (pa_cons (pv 11) pa_nil)))) (pa_cons (pe_meth0 (pv 9) T.cl_Walk T.me_Walk__turns T.ok_Walk__turns (hr.mono (by decide)) T.b_Walk__turns .nil pass0) pa_nil)))))))
        (pss_one (ps_ret (pe_call (T.ok__law_same 3) (hr.mono (by decide)) (by rfl) T.g__law_same T.k__law_same T.b__law_same .nil pass0 (pa_cons (pv 10) (pa_cons (pe_lst (pa_cons (pv 8) (pa_cons (pv 7) (pa_cons pe_bl (pa_cons (pe_lc (own := [("place", 11)]) (g := gName 11) (by rfl) sc_law.nd (pi_list (pv 3)) (blkOk_by (own := [("place", 11)]) (N := ["script", "tape", "size", "spots", "wide", "many", "row", "total", "turns", "walk", "told", "place", "k"]) (sc := defScope s_law) (by decide +kernel)) (fun _ _ _ _ _ => pg_name (i := 11) sc_law.nd rfl (Or.inl rfl)) (fun _ _ _ _ _ => pts_nil) (fun _ _ _ _ _ => (pv 8))) (pa_cons (pv 8) pa_nil)))))) pa_nil))))))))))))))))))), ?_⟩
    refine ⟨_, rfl, a, ns, rfl, hS, by omega, fun H1 t c _ _ hT1 => ?_⟩
    refine ⟨_, rfl, t, c, 24, rfl, hT1, by decide, by decide, fun s0 H2 s1 s2 _ hT2 => ⟨_, _, rfl, rfl, ?_⟩⟩
    refine ⟨_, rfl, 1 + s0, rfl, RgOk.of_le (by decide) (by omega) (by decide) (by omega), fun l nl => ?_⟩
    have ol := hT2.off nl
    have hT3 := hT2.put (o := .lst (rgV 0 (1 + s0))) ol
    have hl3 : upd H2 l (.lst (rgV 0 (1 + s0))) l = some (.lst ((rgI (1 + s0)).map V.int)) := by rw [upd_same, rgI_eq]
    have ll3 : (rgI (1 + s0)).length ≤ 30 := by unfold rgI; rw [List.length_map, List.length_range]; omega
    generalize upd H2 l (.lst (rgV 0 (1 + s0))) = H3 at hT3 hl3
    generalize rgI (1 + s0) = ms at hl3 ll3
    refine ⟨_, rfl, t, c, 4, rfl, hT3, by decide, by decide, fun z H4 _ _ k4 hT4 => ⟨rfl, ?_⟩⟩
    have hl4 := k4 _ _ ol.1 hl3
    generalize decide (V.int z = V.int 0) = b
    refine ⟨fun σ' H' => ∃ (n : Int) (l : Addr) (ms : List Int), σ' = [some (.ref a), some (.ref t), some (.int n), some (.ref l), some (.bl b), none, none, none, none, none, none, none, none] ∧ 1 ≤ n ∧ n ≤ 1000000000 ∧ ms.length ≤ 30 ∧ H' l = some (.lst (ms.map V.int)) ∧ (l ≠ t ∧ l ≠ c) ∧ Tape H' t c, ?_, ?_⟩
    · refine ⟨_, rfl, _, rfl, ite2 (fun _ => ?_) (fun _ => ?_)⟩
      · refine ⟨_, rfl, t, c, 1, rfl, hT4, by decide, fun n H5 n0 _ n1 k5 hT5 => ?_⟩
        refine ⟨_, rfl, _, _, rfl, rfl, lenL (by show 2 ≤ 100000; decide), fun p1 np1 => ?_⟩
        have op1 := hT5.off np1
        refine ⟨8, rfl, by decide, by decide, fun D hD => ?_⟩
        have hp1 : upd H5 p1 (.lst [.int 0, .int (n - 1)]) p1 = some (.lst (([0, n - 1] : List Int).map V.int)) := upd_same
        have hT6 := hT5.put (o := .lst [.int 0, .int (n - 1)]) op1
        generalize upd H5 p1 (.lst [.int 0, .int (n - 1)]) = H6 at hD hp1 hT6
        have oD := hT6.off hD
        have neD : p1 ≠ D := ne_of_none hp1 hD
        refine lc_range (lo := 0) (n := 8) (fun i H' => ∃ zs : List Int, zs.length = i ∧ H' D = some (.lst (zs.map V.int)) ∧ H' p1 = some (.lst (([0, n - 1] : List Int).map V.int)) ∧ Tape H' t c) ⟨[], rfl, upd_same, (upd_ne neD).trans hp1, hT6.put oD⟩ (fun i H' hi pv => ?_) (fun H' pv => ?_)
        · obtain ⟨zs, lz, e1, e2, T1⟩ := pv
          refine ⟨rfl, lc_yes ?_⟩
          refine ⟨_, rfl, _, rfl, t, c, n, rfl, T1, by omega, fun y H7 _ _ k7 T7 => ⟨_, k7 _ _ oD.1 e1, small1000' (by rw [List.length_map]; omega), zs ++ [y], by rw [List.length_append, lz]; rfl, ?_, (upd_ne neD).trans (k7 _ _ op1.1 e2), T7.put oD⟩⟩
          rw [upd_same, List.map_append]
          rfl
        · obtain ⟨zs, lz, e1, e2, T1⟩ := pv
          refine ⟨p1, D, _, _, rfl, rfl, e2, e1, lenL (by rw [List.length_map, List.length_map, lz]; show 2 + 8 ≤ 100000; decide), fun p np => ?_⟩
          refine ⟨n, p, [0, n - 1] ++ zs, rfl, n0, n1, ?_, ?_, T1.off np, T1.put (T1.off np)⟩
          · rw [List.length_append, lz]; show 2 + 8 ≤ 30; decide
          · rw [upd_same, List.map_append]
      · exact ⟨_, _, _, rfl, by omega, by omega, ll3, hl4, ol, hT4⟩
    rintro σ' H5 ⟨n, l, ms, rfl, n0, n1, lms, hl, ol, hT5⟩
    have hn : 0 < n := by omega
    refine ⟨_, rfl, t, c, 14, rfl, hT5, by decide, by decide, fun m H6 m0 m1 k6 hT6 => ?_⟩
    refine ⟨fun σ' H' => ∃ m : Int, σ' = [some (.ref a), some (.ref t), some (.int n), some (.ref l), some (.bl b), some (.int m), none, none, none, none, none, none, none] ∧ 0 ≤ m ∧ m ≤ 60 ∧ H' l = some (.lst (ms.map V.int)) ∧ Tape H' t c, ?_, ?_⟩
    · refine ⟨_, rfl, t, c, 16, rfl, hT6, by decide, by decide, fun z H7 _ _ k7 hT7 => ⟨rfl, _, rfl, ite2 (fun _ => ?_) (fun _ => ?_)⟩⟩
      · exact ⟨_, rfl, t, c, 60, rfl, hT7, by decide, by decide, fun m' H8 m2 m3 k8 hT8 => ⟨_, rfl, m2, by omega, k8 _ _ ol.1 (k7 _ _ ol.1 (k6 _ _ ol.1 hl)), hT8⟩⟩
      · exact ⟨_, rfl, m0, by omega, k7 _ _ ol.1 (k6 _ _ ol.1 hl), hT7⟩
    rintro σ' H7 ⟨m, rfl, m0, m1, hl7, hT7⟩
    refine ⟨_, rfl, _, rfl, _, rfl, _, rfl, t, c, n, rfl, hT7, hn, fun x H8 _ _ k8 hT8 => ⟨_, rfl, t, c, n, x, m, rfl, hT8, hn, m0, by omega, fun r rs H9 nr hr h0 lr k9 hT9 => ?_⟩⟩
    have hl9 := k9 _ _ ol.1 (k8 _ _ ol.1 hl7)
    have ner : l ≠ r := ne_of_none (k8 _ _ ol.1 hl7) nr
    have a0 : atI (rs.map V.int) (0 : Int) = some (.int x) := by
      refine atI_nat (j := 0) ?_
      rw [List.getElem?_map, h0]
      rfl
    refine ⟨_, rfl, .inl ⟨rfl, _, SqL.of hr⟩, _, rfl, r, _, 0, .int x, rfl, rfl, SqL.of hr, a0, r, _, _, rfl, rfl, hr, small1000' (by rw [List.length_map]; omega), ?_⟩
    have hr10 : upd H9 r (.lst (rs.map V.int ++ [.int x])) r = some (.lst ((rs ++ [x]).map V.int)) := by rw [upd_same, List.map_append]; rfl
    have hl10 : upd H9 r (.lst (rs.map V.int ++ [.int x])) l = some (.lst (ms.map V.int)) := (upd_ne ner).trans hl9
    generalize upd H9 r (.lst (rs.map V.int ++ [.int x])) = H10 at hr10 hl10
    refine ⟨fun σ' H' => ∃ (l : Addr) (ms : List Int), σ' = [some (.ref a), some (.ref t), some (.int n), some (.ref l), some (.bl b), some (.int m), some (.ref r), none, none, none, none, none, none] ∧ ms.length ≤ 40 ∧ H' l = some (.lst (ms.map V.int)) ∧ H' r = some (.lst ((rs ++ [x]).map V.int)), ?_, ?_⟩
    · refine ⟨_, rfl, _, rfl, ite2 (fun _ => ?_) (fun _ => ?_)⟩
      · obtain ⟨zs, ez, lz⟩ := cut_ints (rs ++ [x])
        refine ⟨_, rfl, _, rfl, 4, rfl, r, _, rfl, SqL.of hr10, fun p np => ?_⟩
        rw [ez]
        refine ⟨l, p, _, _, rfl, rfl, (upd_ne (ne_of_none hl10 np)).trans hl10, upd_same, lenL (by rw [List.length_map, List.length_map]; omega), fun p2 np2 => ?_⟩
        refine ⟨p2, ms ++ zs, rfl, by rw [List.length_append]; omega, by rw [upd_same, List.map_append], ?_⟩
        have e : upd H10 p (.lst (zs.map V.int)) r = some (.lst ((rs ++ [x]).map V.int)) := (upd_ne (ne_of_none hr10 np)).trans hr10
        exact (upd_ne (ne_of_none e np2)).trans e
      · exact ⟨_, _, rfl, by omega, hl10, hr10⟩
    rintro σ' H11 ⟨l, ms, rfl, lms, hl, hr⟩
    have lrx : (rs ++ [x]).length = m.toNat + 2 := by rw [List.length_append, lr]; rfl
    refine ⟨_, rfl, _, rfl, n, r, _, rfl, hn, hr, by omega, by omega, fun H12 s12 => ?_⟩
    have hl := s12 _ _ hl
    have hr := s12 _ _ hr
    refine ⟨_, rfl, _, rfl, _, _, rfl, rfl, cdivn _ hn (by omega), ?_⟩
    -- walk = Walk(size, list(row))
    refine ⟨_, rfl, _, rfl, r, _, rfl, .inl (SqL.of hr), fun l2 nl2 h dx nh ndx ne => ⟨h, dx, l2, n, rs ++ [x], rfl, upd_same, ?_, ?_, fun H13 wt hW k13 _ => ⟨rfl, ?_⟩⟩⟩
    · have e2 : dx ≠ l2 := fun e => by rw [e, upd_same] at ndx; cases ndx
      have e1 : h ≠ l2 := fun e => by rw [e, upd_same] at nh; cases nh
      rw [upd_ne e1.symm, upd_ne e2.symm, upd_same]
    · exact fun e => by rw [e, upd_same] at nh; cases nh
    have hl13 : H13 l = some (.lst (ms.map V.int)) := by
      have e0 : upd H12 l2 (.lst ((rs ++ [x]).map V.int)) l = some (.lst (ms.map V.int)) := (upd_ne (ne_of_none hl nl2)).trans hl
      refine k13 _ _ (ne_of_none e0 nh) ?_
      rw [upd_ne (ne_of_none e0 nh), upd_ne (ne_of_none e0 ndx)]
      exact e0
    obtain ⟨d2, hh⟩ := hW.me
    have lrs : rs.length = m.toNat + 1 := lr
    generalize etu : (fars n (steps (rs ++ [x]))).sum.fdiv n = tu
    refine ⟨_, rfl, h, d2, _, rfl, hh, (by unfold wf; walk_at "lk"), h, wt, n, x, rs, rfl, hW, h0, hn, by omega, by omega, fun H14 s14 => ?_⟩
    rw [etu]
    refine ⟨_, rfl, h, d2, _, rfl, s14 _ _ hh, (by unfold wf; walk_at "lk"), h, wt, n, rs ++ [x], rfl, hW.same s14, hn, by omega, by omega, fun H15 s15 => ?_⟩
    have s15 : Same H13 H15 := fun b o e => s15 b o (s14 b o e)
    refine ⟨_, rfl, h, d2, _, rfl, s15 _ _ hh, (by unfold wf; walk_at "lk"), h, wt, n, x, rs, rfl, hW.same s15, h0, ?_⟩
    refine ⟨_, rfl, l, rfl, ⟨_, SqL.of (s15 _ _ hl13)⟩, fun D hD => ?_⟩
    refine lc_list (K := K) (a := l) (xs := ms.map V.int) (fun i H' => Same H15 H' ∧ H' D = some (.lst (List.replicate i (V.int tu)))) ⟨same_upd hD, upd_same⟩ (fun i H' _ p => SqL.of (p.1 _ _ (s15 _ _ hl13))) (fun i y H' hy pv => ?_) (fun H16 pv => ?_)
    · obtain ⟨s16, e2⟩ := pv
      rw [List.getElem?_map] at hy
      obtain ⟨z, hz, rfl⟩ := Option.map_eq_some_iff.mp hy
      have hi : i < ms.length := (List.getElem?_eq_some_iff.mp hz).1
      have s16' : Same H13 H' := fun b o e => s16 b o (s15 b o e)
      refine ⟨rfl, lc_yes ?_⟩
      refine ⟨_, rfl, h, d2, _, rfl, s16' _ _ hh, (by unfold wf; walk_at "lk"), _, rfl, h, wt, n, z, rs ++ [x], rfl, hW.same s16', hn, by omega, by omega, fun H17 s17 => ?_⟩
      rw [covs_turns hn h0, etu]
      refine ⟨_, s17 _ _ e2, small1000' (by rw [List.length_replicate]; omega), fun b o e => ?_, ?_⟩
      · rw [upd_ne (ne_of_none e hD)]
        exact s17 b o (s16 b o e)
      · rw [upd_same, List.replicate_succ']
    · obtain ⟨s16, e2⟩ := pv
      rw [List.length_map] at e2
      have s16' : Same H13 H16 := fun b o e => s16 b o (s15 b o e)
      refine ⟨_, rfl, h, d2, _, rfl, s16' _ _ hh, (by unfold wf; walk_at "lk"), h, wt, n, x, rs, rfl, hW.same s16', h0, hn, by omega, by omega, fun H17 s17 => ?_⟩
      rw [etu]
      refine ⟨lenL (by show 5 ≤ 100000; decide), fun p np => ?_⟩
      have hl17 := s17 _ _ (s16' _ _ hl13)
      have hD17 := s17 _ _ e2
      have hp : upd H17 p (.lst [.int tu, .int (fars n (steps (rs ++ [x]))).sum, .bl true, .ref D, .int tu]) p = some (.lst [.int tu, .int (fars n (steps (rs ++ [x]))).sum, .bl true, .ref D, .int tu]) := upd_same
      have hl18 := (upd_ne (o := .lst [.int tu, .int (fars n (steps (rs ++ [x]))).sum, .bl true, .ref D, .int tu]) (ne_of_none hl17 np)).trans hl17
      have hD18 := (upd_ne (o := .lst [.int tu, .int (fars n (steps (rs ++ [x]))).sum, .bl true, .ref D, .int tu]) (ne_of_none hD17 np)).trans hD17
      generalize upd H17 p (.lst [.int tu, .int (fars n (steps (rs ++ [x]))).sum, .bl true, .ref D, .int tu]) = H18 at hp hl18 hD18
      refine ⟨_, rfl, _, rfl, _, rfl, _, rfl, l, rfl, ⟨_, SqL.of hl18⟩, fun D2 hD2 => ?_⟩
      refine lc_list (K := K) (a := l) (xs := ms.map V.int) (fun i H' => Same H18 H' ∧ H' D2 = some (.lst (List.replicate i (V.int tu)))) ⟨same_upd hD2, upd_same⟩ (fun i H' _ p => SqL.of (p.1 _ _ hl18)) (fun i y H' hy pv => ?_) (fun H19 pv => ?_)
      · obtain ⟨s19, e3⟩ := pv
        have hi : i < (ms.map V.int).length := (List.getElem?_eq_some_iff.mp hy).1
        rw [List.length_map] at hi
        refine ⟨rfl, lc_yes ?_⟩
        refine ⟨_, rfl, _, e3, small1000' (by rw [List.length_replicate]; omega), fun b o e => ?_, ?_⟩
        · rw [upd_ne (ne_of_none e hD2)]
          exact s19 b o e
        · rw [upd_same, List.replicate_succ']
          show some (HO.lst (_ ++ [V.int ((fars n (steps (rs ++ [x]))).sum.fdiv n)])) = _
          rw [etu]
      · obtain ⟨s19, e3⟩ := pv
        rw [List.length_map] at e3
        refine ⟨_, rfl, lenL (by show 5 ≤ 100000; decide), fun p2 np2 => ?_⟩
        have s20 := Same.trans s19 (same_upd (o := .lst [.int ((fars n (steps (rs ++ [x]))).sum.fdiv n), .int (fars n (steps (rs ++ [x]))).sum, .bl true, .ref D2, .int ((fars n (steps (rs ++ [x]))).sum.fdiv n)]) np2)
        refine ⟨.ref p, .ref p2, rfl, Sm.lstP (SqL.of (s20 _ _ hp)) (SqL.of upd_same) (by show 5 ≤ 100000; decide) (.cons (Sm.int etu.symm) (.cons (Sm.int rfl) (.cons (Sm.bl rfl) (.cons ?_ (.cons (Sm.int etu.symm) .nil))))), fun H' _ => q H'⟩
        exact Sm.lstP (SqL.of (s20 _ _ hD18)) (SqL.of ((upd_ne (ne_of_none e3 np2)).trans e3)) (by rw [List.length_replicate]; omega) (rep_pair _ (Sm.int rfl))
end
theorem all_mk {l : PySem.W.OpenLaw} {w : World} {K : PySem.W.Frag} {h : Heap} {mg : Str → Option Value} {fa : Addr} (X : K.In h) (G : h.Ns mainGlobals mg) (hfa : mg "law" = some (.ref fa))
    {f0 : Addr} {od0 an0 : Option Addr} {sl0 : Array (Option Value)} {oc0 kV0 dc0 pm0 cd0 ct0 : Value}
    {f1 : Addr} {od1 an1 : Option Addr} {sl1 : Array (Option Value)} {oc1 kV1 dc1 pm1 cd1 ct1 : Value}
    {f2 : Addr} {od2 an2 : Option Addr} {sl2 : Array (Option Value)} {oc2 kV2 dc2 pm2 cd2 ct2 : Value}
    {f3 : Addr} {od3 an3 : Option Addr} {sl3 : Array (Option Value)} {oc3 kV3 dc3 pm3 cd3 ct3 : Value}
    {f4 : Addr} {od4 an4 : Option Addr} {sl4 : Array (Option Value)} {oc4 kV4 dc4 pm4 cd4 ct4 : Value}
    {f5 : Addr} {od5 an5 : Option Addr} {sl5 : Array (Option Value)} {oc5 kV5 dc5 pm5 cd5 ct5 : Value}
    {f6 : Addr} {od6 an6 : Option Addr} {sl6 : Array (Option Value)} {oc6 kV6 dc6 pm6 cd6 ct6 : Value}
    {f7 : Addr} {od7 an7 : Option Addr} {sl7 : Array (Option Value)} {oc7 kV7 dc7 pm7 cd7 ct7 : Value}
    {f8 : Addr} {od8 an8 : Option Addr} {sl8 : Array (Option Value)} {oc8 kV8 dc8 pm8 cd8 ct8 : Value}
    {f9 : Addr} {od9 an9 : Option Addr} {sl9 : Array (Option Value)} {oc9 kV9 dc9 pm9 cd9 ct9 : Value}
    {f10 : Addr} {od10 an10 : Option Addr} {sl10 : Array (Option Value)} {oc10 kV10 dc10 pm10 cd10 ct10 : Value}
    {f11 : Addr} {od11 an11 : Option Addr} {sl11 : Array (Option Value)} {oc11 kV11 dc11 pm11 cd11 ct11 : Value}
    {f12 : Addr} {od12 an12 : Option Addr} {sl12 : Array (Option Value)} {oc12 kV12 dc12 pm12 cd12 ct12 : Value}
    {f13 : Addr} {od13 an13 : Option Addr} {sl13 : Array (Option Value)} {oc13 kV13 dc13 pm13 cd13 ct13 : Value}
    {f14 : Addr} {od14 an14 : Option Addr} {sl14 : Array (Option Value)} {oc14 kV14 dc14 pm14 cd14 ct14 : Value}
    {f15 : Addr} {od15 an15 : Option Addr} {sl15 : Array (Option Value)} {oc15 kV15 dc15 pm15 cd15 ct15 : Value}
    {f16 : Addr} {od16 an16 : Option Addr} {sl16 : Array (Option Value)} {oc16 kV16 dc16 pm16 cd16 ct16 : Value}
    {f17 : Addr} {od17 an17 : Option Addr} {sl17 : Array (Option Value)} {oc17 kV17 dc17 pm17 cd17 ct17 : Value}
    (a0 : PySem.W.nsIn K mainGlobals "_law_tape" = some (some (.ref f0)))
    (l0 : K.lookup f0 = some ⟨oc0, od0, .func (PySem.W.fnOf "_law_tape" "_law_tape" (defArgs s__law_tape) (defBody s__law_tape) (defScope s__law_tape) .none kV0 dc0 pm0 an0 cd0 ct0), sl0⟩) (c0 : PySem.W.codeIn K cd0 "_law_tape" = true) (k0 : PySem.W.keepIn K (.ref f0) = true)
    (a1 : PySem.W.nsIn K mainGlobals "_law_pick" = some (some (.ref f1)))
    (l1 : K.lookup f1 = some ⟨oc1, od1, .func (PySem.W.fnOf "_law_pick" "_law_pick" (defArgs s__law_pick) (defBody s__law_pick) (defScope s__law_pick) .none kV1 dc1 pm1 an1 cd1 ct1), sl1⟩) (c1 : PySem.W.codeIn K cd1 "_law_pick" = true) (k1 : PySem.W.keepIn K (.ref f1) = true)
    (a2 : PySem.W.nsIn K mainGlobals "far" = some (some (.ref f2)))
    (l2 : K.lookup f2 = some ⟨oc2, od2, .func (PySem.W.fnOf "far" "far" (defArgs s_far) (defBody s_far) (defScope s_far) .none kV2 dc2 pm2 an2 cd2 ct2), sl2⟩) (c2 : PySem.W.codeIn K cd2 "far" = true) (k2 : PySem.W.keepIn K (.ref f2) = true)
    (a3 : PySem.W.nsIn K mainGlobals "covers" = some (some (.ref f3)))
    (l3 : K.lookup f3 = some ⟨oc3, od3, .func (PySem.W.fnOf "covers" "covers" (defArgs s_covers) (defBody s_covers) (defScope s_covers) .none kV3 dc3 pm3 an3 cd3 ct3), sl3⟩) (c3 : PySem.W.codeIn K cd3 "covers" = true) (k3 : PySem.W.keepIn K (.ref f3) = true)
    (l4 : K.lookup f4 = some ⟨oc4, od4, .func (PySem.W.fnOf "__init__" "Walk.__init__" (defArgs s_Walk__init) (defBody s_Walk__init) (defScope s_Walk__init) .none kV4 dc4 pm4 an4 cd4 ct4), sl4⟩) (c4 : PySem.W.codeIn K cd4 "Walk.__init__" = true) (k4 : PySem.W.keepIn K (.ref f4) = true)
    (l5 : K.lookup f5 = some ⟨oc5, od5, .func (PySem.W.fnOf "_steps" "Walk._steps" (defArgs s_Walk__steps) (defBody s_Walk__steps) (defScope s_Walk__steps) .none kV5 dc5 pm5 an5 cd5 ct5), sl5⟩) (c5 : PySem.W.codeIn K cd5 "Walk._steps" = true) (k5 : PySem.W.keepIn K (.ref f5) = true)
    (l6 : K.lookup f6 = some ⟨oc6, od6, .func (PySem.W.fnOf "total" "Walk.total" (defArgs s_Walk__total) (defBody s_Walk__total) (defScope s_Walk__total) .none kV6 dc6 pm6 an6 cd6 ct6), sl6⟩) (c6 : PySem.W.codeIn K cd6 "Walk.total" = true) (k6 : PySem.W.keepIn K (.ref f6) = true)
    (l7 : K.lookup f7 = some ⟨oc7, od7, .func (PySem.W.fnOf "crossings" "Walk.crossings" (defArgs s_Walk__crossings) (defBody s_Walk__crossings) (defScope s_Walk__crossings) .none kV7 dc7 pm7 an7 cd7 ct7), sl7⟩) (c7 : PySem.W.codeIn K cd7 "Walk.crossings" = true) (k7 : PySem.W.keepIn K (.ref f7) = true)
    (l8 : K.lookup f8 = some ⟨oc8, od8, .func (PySem.W.fnOf "is_closed" "Walk.is_closed" (defArgs s_Walk__is_closed) (defBody s_Walk__is_closed) (defScope s_Walk__is_closed) .none kV8 dc8 pm8 an8 cd8 ct8), sl8⟩) (c8 : PySem.W.codeIn K cd8 "Walk.is_closed" = true) (k8 : PySem.W.keepIn K (.ref f8) = true)
    (l9 : K.lookup f9 = some ⟨oc9, od9, .func (PySem.W.fnOf "turns" "Walk.turns" (defArgs s_Walk__turns) (defBody s_Walk__turns) (defScope s_Walk__turns) .none kV9 dc9 pm9 an9 cd9 ct9), sl9⟩) (c9 : PySem.W.codeIn K cd9 "Walk.turns" = true) (k9 : PySem.W.keepIn K (.ref f9) = true)
    (a10 : PySem.W.nsIn K mainGlobals "_law_same" = some (some (.ref f10)))
    (l10 : K.lookup f10 = some ⟨oc10, od10, .func (PySem.W.fnOf "_law_same" "_law_same" (defArgs s__law_same) (defBody s__law_same) (defScope s__law_same) .none kV10 dc10 pm10 an10 cd10 ct10), sl10⟩) (c10 : PySem.W.codeIn K cd10 "_law_same" = true) (k10 : PySem.W.keepIn K (.ref f10) = true)
    (a11 : PySem.W.nsIn K mainGlobals "_law_size" = some (some (.ref f11)))
    (l11 : K.lookup f11 = some ⟨oc11, od11, .func (PySem.W.fnOf "_law_size" "_law_size" (defArgs s__law_size) (defBody s__law_size) (defScope s__law_size) .none kV11 dc11 pm11 an11 cd11 ct11), sl11⟩) (c11 : PySem.W.codeIn K cd11 "_law_size" = true) (k11 : PySem.W.keepIn K (.ref f11) = true)
    (a12 : PySem.W.nsIn K mainGlobals "_law_wide" = some (some (.ref f12)))
    (l12 : K.lookup f12 = some ⟨oc12, od12, .func (PySem.W.fnOf "_law_wide" "_law_wide" (defArgs s__law_wide) (defBody s__law_wide) (defScope s__law_wide) .none kV12 dc12 pm12 an12 cd12 ct12), sl12⟩) (c12 : PySem.W.codeIn K cd12 "_law_wide" = true) (k12 : PySem.W.keepIn K (.ref f12) = true)
    (a13 : PySem.W.nsIn K mainGlobals "_law_circle" = some (some (.ref f13)))
    (l13 : K.lookup f13 = some ⟨oc13, od13, .func (PySem.W.fnOf "_law_circle" "_law_circle" (defArgs s__law_circle) (defBody s__law_circle) (defScope s__law_circle) .none kV13 dc13 pm13 an13 cd13 ct13), sl13⟩) (c13 : PySem.W.codeIn K cd13 "_law_circle" = true) (k13 : PySem.W.keepIn K (.ref f13) = true)
    (a14 : PySem.W.nsIn K mainGlobals "_law_far" = some (some (.ref f14)))
    (l14 : K.lookup f14 = some ⟨oc14, od14, .func (PySem.W.fnOf "_law_far" "_law_far" (defArgs s__law_far) (defBody s__law_far) (defScope s__law_far) .none kV14 dc14 pm14 an14 cd14 ct14), sl14⟩) (c14 : PySem.W.codeIn K cd14 "_law_far" = true) (k14 : PySem.W.keepIn K (.ref f14) = true)
    (a15 : PySem.W.nsIn K mainGlobals "_law_along" = some (some (.ref f15)))
    (l15 : K.lookup f15 = some ⟨oc15, od15, .func (PySem.W.fnOf "_law_along" "_law_along" (defArgs s__law_along) (defBody s__law_along) (defScope s__law_along) .none kV15 dc15 pm15 an15 cd15 ct15), sl15⟩) (c15 : PySem.W.codeIn K cd15 "_law_along" = true) (k15 : PySem.W.keepIn K (.ref f15) = true)
    (a16 : PySem.W.nsIn K mainGlobals "_law_total" = some (some (.ref f16)))
    (l16 : K.lookup f16 = some ⟨oc16, od16, .func (PySem.W.fnOf "_law_total" "_law_total" (defArgs s__law_total) (defBody s__law_total) (defScope s__law_total) .none kV16 dc16 pm16 an16 cd16 ct16), sl16⟩) (c16 : PySem.W.codeIn K cd16 "_law_total" = true) (k16 : PySem.W.keepIn K (.ref f16) = true)
    (a17 : PySem.W.nsIn K mainGlobals "law" = some (some (.ref f17)))
    (l17 : K.lookup f17 = some ⟨oc17, od17, .func (PySem.W.fnOf "law" "law" (defArgs s_law) (defBody s_law) (defScope s_law) .none kV17 dc17 pm17 an17 cd17 ct17), sl17⟩) (c17 : PySem.W.codeIn K cd17 "law" = true) (k17 : PySem.W.keepIn K (.ref f17) = true)
    {C0 : Addr} (aC0 : PySem.W.nsIn K mainGlobals "Walk" = some (some (.ref C0))) (pg0 : PySem.W.plainGet K C0 Str.empty = true) (hd0 : PySem.W.hasDictIn K C0 = true) (po0 : PySem.W.plainOver K C0 = true) (sa0 : PySem.W.findIn K (.ref C0) "__setattr__" = some (some (.builtin "object.__setattr__"))) (mk0 : PySem.W.makesIn K C0 = true) (kc0 : PySem.W.keepIn K (.ref C0) = true)
    (na0_0 : PySem.W.findIn K (.ref C0) "size" = some none)
    (na0_1 : PySem.W.findIn K (.ref C0) "places" = some none)
    (am4 : PySem.W.findIn K (.ref C0) "__init__" = some (some (.ref f4))) (ai4 : PySem.W.isFn K (.ref f4) = true)
    (am5 : PySem.W.findIn K (.ref C0) "_steps" = some (some (.ref f5))) (ai5 : PySem.W.isFn K (.ref f5) = true)
    (am6 : PySem.W.findIn K (.ref C0) "total" = some (some (.ref f6))) (ai6 : PySem.W.isFn K (.ref f6) = true)
    (am7 : PySem.W.findIn K (.ref C0) "crossings" = some (some (.ref f7))) (ai7 : PySem.W.isFn K (.ref f7) = true)
    (am8 : PySem.W.findIn K (.ref C0) "is_closed" = some (some (.ref f8))) (ai8 : PySem.W.isFn K (.ref f8) = true)
    (am9 : PySem.W.findIn K (.ref C0) "turns" = some (some (.ref f9))) (ai9 : PySem.W.isFn K (.ref f9) = true)
    {E0 : Addr} (aE0 : PySem.W.nsIn K mainGlobals "OpenWalk" = some (some (.ref E0))) (eb0 : PySem.W.subIn K (.ref E0) (.type "BaseException") = some true) (ec0 : PySem.W.isClsIn K E0 = true) (et0 : PySem.W.typeIn K (.ref E0) = some (.type "type"))
    (z0 : PySem.W.nsIn K mainGlobals "abs" = some none)
    (z1 : PySem.W.nsIn K mainGlobals "bool" = some none)
    (z2 : PySem.W.nsIn K mainGlobals "dict" = some none)
    (z3 : PySem.W.nsIn K mainGlobals "int" = some none)
    (z4 : PySem.W.nsIn K mainGlobals "isinstance" = some none)
    (z5 : PySem.W.nsIn K mainGlobals "len" = some none)
    (z6 : PySem.W.nsIn K mainGlobals "list" = some none)
    (z7 : PySem.W.nsIn K mainGlobals "max" = some none)
    (z8 : PySem.W.nsIn K mainGlobals "range" = some none)
    (z9 : PySem.W.nsIn K mainGlobals "str" = some none)
    (z10 : PySem.W.nsIn K mainGlobals "sum" = some none)
    (z11 : PySem.W.nsIn K mainGlobals "tuple" = some none)
    (z12 : PySem.W.nsIn K mainGlobals "zip" = some none)
    : ∃ fd : FuncData, (∀ (s : Shared) (v : Value), BindsTo s fd ⟨[v], []⟩ [("script", v)]) ∧ ∀ base : Heap, K.In base → base.Ns mainGlobals mg → FnOk l.prog w K mg base CX0 5 fa fd ["script"] (sp_law K) := by
  have e := hfa.symm.trans (PySem.W.mg_of X G a17)
  cases e
  let T : T0 K mg := {
    m_abs := PySem.W.mg_none_of X G z0,
    m_bool := PySem.W.mg_none_of X G z1,
    m_dict := PySem.W.mg_none_of X G z2,
    m_int := PySem.W.mg_none_of X G z3,
    m_isinstance := PySem.W.mg_none_of X G z4,
    m_len := PySem.W.mg_none_of X G z5,
    m_list := PySem.W.mg_none_of X G z6,
    m_max := PySem.W.mg_none_of X G z7,
    m_range := PySem.W.mg_none_of X G z8,
    m_str := PySem.W.mg_none_of X G z9,
    m_sum := PySem.W.mg_none_of X G z10,
    m_tuple := PySem.W.mg_none_of X G z11,
    m_zip := PySem.W.mg_none_of X G z12,
    a__law_tape := f0,
    fd__law_tape := _,
    F__law_tape := fun_mk (st := s__law_tape) l0 c0 k0,
    b__law_tape := (fun_mk (st := s__law_tape) l0 c0 k0).binds (ps := ["script"]) fun _ _ _ _ _ _ us hl => match us, hl with | [_], _ => rfl,
    g__law_tape := PySem.W.mg_of X G a0,
    a__law_pick := f1,
    fd__law_pick := _,
    F__law_pick := fun_mk (st := s__law_pick) l1 c1 k1,
    b__law_pick := (fun_mk (st := s__law_pick) l1 c1 k1).binds (ps := ["tape", "size"]) fun _ _ _ _ _ _ us hl => match us, hl with | [_, _], _ => rfl,
    g__law_pick := PySem.W.mg_of X G a1,
    a_far := f2,
    fd_far := _,
    F_far := fun_mk (st := s_far) l2 c2 k2,
    b_far := (fun_mk (st := s_far) l2 c2 k2).binds (ps := ["size", "start", "end"]) fun _ _ _ _ _ _ us hl => match us, hl with | [_, _, _], _ => rfl,
    g_far := PySem.W.mg_of X G a2,
    a_covers := f3,
    fd_covers := _,
    F_covers := fun_mk (st := s_covers) l3 c3 k3,
    b_covers := (fun_mk (st := s_covers) l3 c3 k3).binds (ps := ["size", "start", "place", "end"]) fun _ _ _ _ _ _ us hl => match us, hl with | [_, _, _, _], _ => rfl,
    g_covers := PySem.W.mg_of X G a3,
    a_Walk__init := f4,
    fd_Walk__init := _,
    F_Walk__init := fun_mk (st := s_Walk__init) l4 c4 k4,
    b_Walk__init := (fun_mk (st := s_Walk__init) l4 c4 k4).binds (ps := ["self", "size", "places"]) fun _ _ _ _ _ _ us hl => match us, hl with | [_, _, _], _ => rfl,
    a_Walk__steps := f5,
    fd_Walk__steps := _,
    F_Walk__steps := fun_mk (st := s_Walk__steps) l5 c5 k5,
    b_Walk__steps := (fun_mk (st := s_Walk__steps) l5 c5 k5).binds (ps := ["self"]) fun _ _ _ _ _ _ us hl => match us, hl with | [_], _ => rfl,
    a_Walk__total := f6,
    fd_Walk__total := _,
    F_Walk__total := fun_mk (st := s_Walk__total) l6 c6 k6,
    b_Walk__total := (fun_mk (st := s_Walk__total) l6 c6 k6).binds (ps := ["self"]) fun _ _ _ _ _ _ us hl => match us, hl with | [_], _ => rfl,
    a_Walk__crossings := f7,
    fd_Walk__crossings := _,
    F_Walk__crossings := fun_mk (st := s_Walk__crossings) l7 c7 k7,
    b_Walk__crossings := (fun_mk (st := s_Walk__crossings) l7 c7 k7).binds (ps := ["self", "place"]) fun _ _ _ _ _ _ us hl => match us, hl with | [_, _], _ => rfl,
    a_Walk__is_closed := f8,
    fd_Walk__is_closed := _,
    F_Walk__is_closed := fun_mk (st := s_Walk__is_closed) l8 c8 k8,
    b_Walk__is_closed := (fun_mk (st := s_Walk__is_closed) l8 c8 k8).binds (ps := ["self"]) fun _ _ _ _ _ _ us hl => match us, hl with | [_], _ => rfl,
    a_Walk__turns := f9,
    fd_Walk__turns := _,
    F_Walk__turns := fun_mk (st := s_Walk__turns) l9 c9 k9,
    b_Walk__turns := (fun_mk (st := s_Walk__turns) l9 c9 k9).binds (ps := ["self"]) fun _ _ _ _ _ _ us hl => match us, hl with | [_], _ => rfl,
    a__law_same := f10,
    fd__law_same := _,
    F__law_same := fun_mk (st := s__law_same) l10 c10 k10,
    b__law_same := (fun_mk (st := s__law_same) l10 c10 k10).binds (ps := ["actual", "due"]) fun _ _ _ _ _ _ us hl => match us, hl with | [_, _], _ => rfl,
    g__law_same := PySem.W.mg_of X G a10,
    a__law_size := f11,
    fd__law_size := _,
    F__law_size := fun_mk (st := s__law_size) l11 c11 k11,
    b__law_size := (fun_mk (st := s__law_size) l11 c11 k11).binds (ps := ["tape", "count"]) fun _ _ _ _ _ _ us hl => match us, hl with | [_, _], _ => rfl,
    g__law_size := PySem.W.mg_of X G a11,
    a__law_wide := f12,
    fd__law_wide := _,
    F__law_wide := fun_mk (st := s__law_wide) l12 c12 k12,
    b__law_wide := (fun_mk (st := s__law_wide) l12 c12 k12).binds (ps := ["tape", "size"]) fun _ _ _ _ _ _ us hl => match us, hl with | [_, _], _ => rfl,
    g__law_wide := PySem.W.mg_of X G a12,
    a__law_circle := f13,
    fd__law_circle := _,
    F__law_circle := fun_mk (st := s__law_circle) l13 c13 k13,
    b__law_circle := (fun_mk (st := s__law_circle) l13 c13 k13).binds (ps := ["tape", "count"]) fun _ _ _ _ _ _ us hl => match us, hl with | [_, _], _ => rfl,
    g__law_circle := PySem.W.mg_of X G a13,
    a__law_far := f14,
    fd__law_far := _,
    F__law_far := fun_mk (st := s__law_far) l14 c14 k14,
    b__law_far := (fun_mk (st := s__law_far) l14 c14 k14).binds (ps := ["size", "start", "end"]) fun _ _ _ _ _ _ us hl => match us, hl with | [_, _, _], _ => rfl,
    g__law_far := PySem.W.mg_of X G a14,
    a__law_along := f15,
    fd__law_along := _,
    F__law_along := fun_mk (st := s__law_along) l15 c15 k15,
    b__law_along := (fun_mk (st := s__law_along) l15 c15 k15).binds (ps := ["tape", "size", "first", "many"]) fun _ _ _ _ _ _ us hl => match us, hl with | [_, _, _, _], _ => rfl,
    g__law_along := PySem.W.mg_of X G a15,
    a__law_total := f16,
    fd__law_total := _,
    F__law_total := fun_mk (st := s__law_total) l16 c16 k16,
    b__law_total := (fun_mk (st := s__law_total) l16 c16 k16).binds (ps := ["size", "row"]) fun _ _ _ _ _ _ us hl => match us, hl with | [_, _], _ => rfl,
    g__law_total := PySem.W.mg_of X G a16,
    a_law := fa,
    fd_law := _,
    F_law := fun_mk (st := s_law) l17 c17 k17,
    b_law := (fun_mk (st := s_law) l17 c17 k17).binds (ps := ["script"]) fun _ _ _ _ _ _ us hl => match us, hl with | [_], _ => rfl,
    g_law := PySem.W.mg_of X G a17,
    C_Walk := C0,
    mc_Walk := PySem.W.mg_of X G aC0,
    cl_Walk := ⟨pg0, hd0, po0, sa0⟩,
    na_Walk_size := na0_0,
    na_Walk_places := na0_1,
    mk_Walk := ⟨mk0, am4, ai4, kc0⟩,
    me_Walk__steps := ⟨am5, ai5, k5⟩,
    me_Walk__total := ⟨am6, ai6, k6⟩,
    me_Walk__crossings := ⟨am7, ai7, k7⟩,
    me_Walk__is_closed := ⟨am8, ai8, k8⟩,
    me_Walk__turns := ⟨am9, ai9, k9⟩,
    C_OpenWalk := E0,
    mc_OpenWalk := PySem.W.mg_of X G aE0 }
  exact ⟨T.fd_law, fun s v => .of_eq rfl, fun base _ _ => T.ok_law⟩
end Z
open PySem PySem.W PyProof.Rows
set_option maxHeartbeats 0 in
theorem PySem.Challenge.cw_ringlaps_k51_whole_turns_by_crossings_holds : PySem.Challenge.rw_ringlaps_k51_whole_turns_by_crossings.Holds := by
  w_on; o_law; k_head; (case hw => w_witness2)
  k_fill
  refine L2.walk_of (l := PySem.Challenge.rw_ringlaps_k51_whole_turns_by_crossings) (n := 63) (k := 5) (x := "script") (CX := fun _ => L2.CX0) (sp := fun w => Z.sp_law _) rfl (by decide) rfl ⟨rfl, by decide, by decide⟩ (fun w h Y => PySem.W.kIn_of Y) ?F (fun _ _ a ns hl _ hS => ⟨a, ns, rfl, hS, hl, fun _ => rfl⟩) (fun _ _ _ _ _ h => h)
  case F =>
    intro w mg fa h KX G hmg
    refine' Z.all_mk (l := PySem.Challenge.rw_ringlaps_k51_whole_turns_by_crossings) KX G hmg ?a0 ?l0 ?c0 ?k0 ?a1 ?l1 ?c1 ?k1 ?a2 ?l2 ?c2 ?k2 ?a3 ?l3 ?c3 ?k3 ?l4 ?c4 ?k4 ?l5 ?c5 ?k5 ?l6 ?c6 ?k6 ?l7 ?c7 ?k7 ?l8 ?c8 ?k8 ?l9 ?c9 ?k9 ?a10 ?l10 ?c10 ?k10 ?a11 ?l11 ?c11 ?k11 ?a12 ?l12 ?c12 ?k12 ?a13 ?l13 ?c13 ?k13 ?a14 ?l14 ?c14 ?k14 ?a15 ?l15 ?c15 ?k15 ?a16 ?l16 ?c16 ?k16 ?a17 ?l17 ?c17 ?k17 ?aC0 ?pg0 ?hd0 ?po0 ?sa0 ?mk0 ?kc0 ?na0_0 ?na0_1 ?am4 ?ai4 ?am5 ?ai5 ?am6 ?ai6 ?am7 ?ai7 ?am8 ?ai8 ?am9 ?ai9 ?aE0 ?eb0 ?ec0 ?et0 ?z0 ?z1 ?z2 ?z3 ?z4 ?z5 ?z6 ?z7 ?z8 ?z9 ?z10 ?z11 ?z12
    (case a0 => k_is); (case a1 => k_is); (case a2 => k_is); (case a3 => k_is); (case a10 => k_is); (case a11 => k_is); (case a12 => k_is); (case a13 => k_is); (case a14 => k_is); (case a15 => k_is); (case a16 => k_is); (case a17 => k_is); (case aC0 => k_is); (case aE0 => k_is); (case am4 => k_is); (case am5 => k_is); (case am6 => k_is); (case am7 => k_is); (case am8 => k_is); (case am9 => k_is); (case l0 => k_is); (case l1 => k_is); (case l2 => k_is); (case l3 => k_is); (case l4 => k_is); (case l5 => k_is); (case l6 => k_is); (case l7 => k_is); (case l8 => k_is); (case l9 => k_is); (case l10 => k_is); (case l11 => k_is); (case l12 => k_is); (case l13 => k_is); (case l14 => k_is); (case l15 => k_is); (case l16 => k_is); (case l17 => k_is); (case c0 => k_is); (case k0 => k_is); (case c1 => k_is); (case k1 => k_is); (case c2 => k_is); (case k2 => k_is); (case c3 => k_is); (case k3 => k_is); (case c4 => k_is); (case k4 => k_is); (case c5 => k_is); (case k5 => k_is); (case c6 => k_is); (case k6 => k_is); (case c7 => k_is); (case k7 => k_is); (case c8 => k_is); (case k8 => k_is); (case c9 => k_is); (case k9 => k_is); (case c10 => k_is); (case k10 => k_is); (case c11 => k_is); (case k11 => k_is); (case c12 => k_is); (case k12 => k_is); (case c13 => k_is); (case k13 => k_is); (case c14 => k_is); (case k14 => k_is); (case c15 => k_is); (case k15 => k_is); (case c16 => k_is); (case k16 => k_is); (case c17 => k_is); (case k17 => k_is); (case pg0 => k_is); (case hd0 => k_is); (case po0 => k_is); (case sa0 => k_is); (case mk0 => k_is); (case kc0 => k_is); (case na0_0 => k_is); (case na0_1 => k_is); (case ai4 => k_is); (case ai5 => k_is); (case ai6 => k_is); (case ai7 => k_is); (case ai8 => k_is); (case ai9 => k_is); (case eb0 => k_is); (case ec0 => k_is); (case et0 => k_is); (case z0 => k_is); (case z1 => k_is); (case z2 => k_is); (case z3 => k_is); (case z4 => k_is); (case z5 => k_is); (case z6 => k_is); (case z7 => k_is); (case z8 => k_is); (case z9 => k_is); (case z10 => k_is); (case z11 => k_is); (case z12 => k_is)
#print axioms PySem.Challenge.cw_ringlaps_k51_whole_turns_by_crossings_holds
