import PyProof.Rows.All
import Wide.All
import OpenK.AllK
import Wide.FinOn
import PySem.Challenge.RW_ringlaps_k59_whole_faithful_exactly
import HandS.ForMost
import HandS.Star
import HandS.Defaults
import HandS.MakeKw
import HandS.Style
import HandS.Zip0
import HandS.Zip
import KE.KDictZip
import HandS.Steps
import HandS.ListItems
import HandS.Codes
import HandS.Conv
import HandS.Dict
import HandS.DictComp
import HandS.More
import HandS.Small
import HandS.MakeKwOnly
import HandS.ForDict
import HandS.Walk
import HandS.Wide
import HandS.Flow
import HandS.IsInst
import HandS.Sort
import HandS.SortKw
import HandS.Iter
import KE.KEqSeq
import KE.KUnpackStar
import KE.KDictSum
import HandS.ExcInit
import HandS.ExcInitHot
import HandS.ExcCtx
import HandS.HotCalls
import HandS.ExcOwn
import HandS.SetFor
import HandS.ExcValue
import KE.KExcIs
set_option Elab.async false
set_option linter.all false
set_option maxRecDepth 100000
set_option maxHeartbeats 4000000
namespace Z
open PySem PySem.Spec PyProof.Rows L2
def topS (i : Nat) : Stmt := PySem.Challenge.pw_ringlaps_k59_whole_faithful_exactly.main.body.getD i (.Pass ⟨0, 0, 0, 0⟩)
abbrev s_Net__hold : Stmt := inClass (topS 22) 15
theorem sc_Net__hold : FnScope ["self", "house", "target", "old"] ["self", "house", "target"] (defScope s_Net__hold) := ⟨rfl, rfl, rfl, by decide +kernel, rfl, by decide +kernel, by decide +kernel⟩
abbrev s_Net__next_of : Stmt := inClass (topS 22) 5
theorem sc_Net__next_of : FnScope ["self", "house"] ["self", "house"] (defScope s_Net__next_of) := ⟨rfl, rfl, rfl, by decide +kernel, rfl, by decide +kernel, by decide +kernel⟩
abbrev s_each_held_once : Stmt := topS 18
theorem sc_each_held_once : FnScope ["net"] ["net"] (defScope s_each_held_once) := ⟨rfl, rfl, rfl, by decide +kernel, rfl, by decide +kernel, by decide +kernel⟩
abbrev s_Net__clone : Stmt := inClass (topS 22) 8
theorem sc_Net__clone : FnScope ["self"] ["self"] (defScope s_Net__clone) := ⟨rfl, rfl, rfl, by decide +kernel, rfl, by decide +kernel, by decide +kernel⟩
abbrev s_house_at : Stmt := topS 11
theorem sc_house_at : FnScope ["net", "start", "distance", "lengths", "last", "gate", "lap", "skipped", "house", "length"] ["net", "start", "distance"] (defScope s_house_at) := ⟨rfl, rfl, rfl, by decide +kernel, rfl, by decide +kernel, by decide +kernel⟩
abbrev s_holds_true : Stmt := topS 14
theorem sc_holds_true : FnScope ["net", "saying", "start", "end", "length"] ["net", "saying"] (defScope s_holds_true) := ⟨rfl, rfl, rfl, by decide +kernel, rfl, by decide +kernel, by decide +kernel⟩
abbrev s_is_faithful : Stmt := topS 16
theorem sc_is_faithful : FnScope ["net", "house", "target", "following"] ["net", "house", "target"] (defScope s_is_faithful) := ⟨rfl, rfl, rfl, by decide +kernel, rfl, by decide +kernel, by decide +kernel⟩
abbrev s__law_places : Stmt := topS 27
theorem sc__law_places : FnScope ["tape", "size", "count", "places", "k", "place", "other"] ["tape", "size", "count"] (defScope s__law_places) := ⟨rfl, rfl, rfl, by decide +kernel, rfl, by decide +kernel, by decide +kernel⟩
abbrev s__law_nexts : Stmt := topS 28
theorem sc__law_nexts : FnScope ["tape", "places", "nexts", "count", "first", "last", "ring", "at"] ["tape", "places"] (defScope s__law_nexts) := ⟨rfl, rfl, rfl, by decide +kernel, rfl, by decide +kernel, by decide +kernel⟩
abbrev s__law_behinds : Stmt := topS 34
theorem sc__law_behinds : FnScope ["tape", "places", "behinds", "house"] ["tape", "places"] (defScope s__law_behinds) := ⟨rfl, rfl, rfl, by decide +kernel, rfl, by decide +kernel, by decide +kernel⟩
abbrev s__law_letter : Stmt := topS 35
theorem sc__law_letter : FnScope ["tape", "places", "reader", "sender", "named", "kind"] ["tape", "places"] (defScope s__law_letter) := ⟨rfl, rfl, rfl, by decide +kernel, rfl, by decide +kernel, by decide +kernel⟩
abbrev s__law_kept : Stmt := topS 36
theorem sc__law_kept : FnScope ["size", "nexts", "table", "house", "due", "total", "at", "length", "k", "step"] ["size", "nexts", "table"] (defScope s__law_kept) := ⟨rfl, rfl, rfl, by decide +kernel, rfl, by decide +kernel, by decide +kernel⟩
abbrev s__law_held : Stmt := topS 37
theorem sc__law_held : FnScope ["net", "size", "nexts", "house", "target", "kept", "other", "present", "table", "saying"] ["net", "size", "nexts", "house", "target", "kept"] (defScope s__law_held) := ⟨rfl, rfl, rfl, by decide +kernel, rfl, by decide +kernel, by decide +kernel⟩
abbrev s__law_stands : Stmt := topS 33
theorem sc__law_stands : FnScope ["net", "nexts", "behinds", "post"] ["net", "nexts", "behinds", "post"] (defScope s__law_stands) := ⟨rfl, rfl, rfl, by decide +kernel, rfl, by decide +kernel, by decide +kernel⟩
abbrev s_law : Stmt := topS 38
theorem sc_law : FnScope ["script", "tape", "mode", "count", "size", "places", "nexts", "behinds", "post", "net", "left", "house", "target", "kept", "table", "k"] ["script"] (defScope s_law) := ⟨rfl, rfl, rfl, by decide +kernel, rfl, by decide +kernel, by decide +kernel⟩
abbrev s__law_tape : Stmt := topS 24
theorem sc__law_tape : FnScope ["script", "cells", "cell"] ["script"] (defScope s__law_tape) := ⟨rfl, rfl, rfl, by decide +kernel, rfl, by decide +kernel, by decide +kernel⟩
abbrev s__law_pick : Stmt := topS 25
theorem sc__law_pick : FnScope ["tape", "size", "cells", "cell", "k", "number", "used", "mixed"] ["tape", "size"] (defScope s__law_pick) := ⟨rfl, rfl, rfl, by decide +kernel, rfl, by decide +kernel, by decide +kernel⟩
abbrev s__law_size : Stmt := topS 26
theorem sc__law_size : FnScope ["tape", "count", "kind", "least"] ["tape", "count"] (defScope s__law_size) := ⟨rfl, rfl, rfl, by decide +kernel, rfl, by decide +kernel, by decide +kernel⟩
abbrev s__law_same : Stmt := topS 31
theorem sc__law_same : FnScope ["actual", "due", "k"] ["actual", "due"] (defScope s__law_same) := ⟨rfl, rfl, rfl, by decide +kernel, rfl, by decide +kernel, by decide +kernel⟩
abbrev s_far : Stmt := topS 7
theorem sc_far : FnScope ["size", "start", "end"] ["size", "start", "end"] (defScope s_far) := ⟨rfl, rfl, rfl, by decide +kernel, rfl, by decide +kernel, by decide +kernel⟩
abbrev s_between : Stmt := topS 8
theorem sc_between : FnScope ["size", "start", "place", "end"] ["size", "start", "place", "end"] (defScope s_between) := ⟨rfl, rfl, rfl, by decide +kernel, rfl, by decide +kernel, by decide +kernel⟩
abbrev s_House__init : Stmt := inClass (topS 20) 0
theorem sc_House__init : FnScope ["self", "size", "place", "next_house", "before"] ["self", "size", "place", "next_house", "before"] (defScope s_House__init) := ⟨rfl, rfl, rfl, by decide +kernel, rfl, by decide +kernel, by decide +kernel⟩
abbrev s_House__tell_letter : Stmt := inClass (topS 20) 1
theorem sc_House__tell_letter : FnScope ["self"] ["self"] (defScope s_House__tell_letter) := ⟨rfl, rfl, rfl, by decide +kernel, rfl, by decide +kernel, by decide +kernel⟩
abbrev s_House__ask_letter : Stmt := inClass (topS 20) 2
theorem sc_House__ask_letter : FnScope ["self"] ["self"] (defScope s_House__ask_letter) := ⟨rfl, rfl, rfl, by decide +kernel, rfl, by decide +kernel, by decide +kernel⟩
abbrev s_House__answer_to : Stmt := inClass (topS 20) 4
theorem sc_House__answer_to : FnScope ["self", "sender"] ["self", "sender"] (defScope s_House__answer_to) := ⟨rfl, rfl, rfl, by decide +kernel, rfl, by decide +kernel, by decide +kernel⟩
abbrev s_House__hear_tell : Stmt := inClass (topS 20) 5
theorem sc_House__hear_tell : FnScope ["self", "sender"] ["self", "sender"] (defScope s_House__hear_tell) := ⟨rfl, rfl, rfl, by decide +kernel, rfl, by decide +kernel, by decide +kernel⟩
abbrev s_House__hear_answer : Stmt := inClass (topS 20) 6
theorem sc_House__hear_answer : FnScope ["self", "sender", "named"] ["self", "sender", "named"] (defScope s_House__hear_answer) := ⟨rfl, rfl, rfl, by decide +kernel, rfl, by decide +kernel, by decide +kernel⟩
abbrev s_House__hear : Stmt := inClass (topS 20) 3
theorem sc_House__hear : FnScope ["self", "letter", "word", "sender"] ["self", "letter"] (defScope s_House__hear) := ⟨rfl, rfl, rfl, by decide +kernel, rfl, by decide +kernel, by decide +kernel⟩
abbrev s_Net__houses : Stmt := inClass (topS 22) 1
theorem sc_Net__houses : FnScope ["self"] ["self"] (defScope s_Net__houses) := ⟨rfl, rfl, rfl, by decide +kernel, rfl, by decide +kernel, by decide +kernel⟩
abbrev s_Net__check_house : Stmt := inClass (topS 22) 18
theorem sc_Net__check_house : FnScope ["self", "place"] ["self", "place"] (defScope s_Net__check_house) := ⟨rfl, rfl, rfl, by decide +kernel, rfl, by decide +kernel, by decide +kernel⟩
abbrev s_check_on_circle : Stmt := topS 9
theorem sc_check_on_circle : FnScope ["size", "place"] ["size", "place"] (defScope s_check_on_circle) := ⟨rfl, rfl, rfl, by decide +kernel, rfl, by decide +kernel, by decide +kernel⟩
abbrev s_Net__check_letter : Stmt := inClass (topS 22) 23
theorem sc_Net__check_letter : FnScope ["self", "at"] ["self", "at"] (defScope s_Net__check_letter) := ⟨rfl, rfl, rfl, by decide +kernel, rfl, by decide +kernel, by decide +kernel⟩
abbrev s_Net__house_at : Stmt := inClass (topS 22) 21
theorem sc_Net__house_at : FnScope ["self", "place"] ["self", "place"] (defScope s_Net__house_at) := ⟨rfl, rfl, rfl, by decide +kernel, rfl, by decide +kernel, by decide +kernel⟩
abbrev s_Net__send : Stmt := inClass (topS 22) 22
theorem sc_Net__send : FnScope ["self", "letter"] ["self", "letter"] (defScope s_Net__send) := ⟨rfl, rfl, rfl, by decide +kernel, rfl, by decide +kernel, by decide +kernel⟩
abbrev s_Net__letters : Stmt := inClass (topS 22) 4
theorem sc_Net__letters : FnScope ["self"] ["self"] (defScope s_Net__letters) := ⟨rfl, rfl, rfl, by decide +kernel, rfl, by decide +kernel, by decide +kernel⟩
abbrev s_Net__tell : Stmt := inClass (topS 22) 9
theorem sc_Net__tell : FnScope ["self", "house"] ["self", "house"] (defScope s_Net__tell) := ⟨rfl, rfl, rfl, by decide +kernel, rfl, by decide +kernel, by decide +kernel⟩
abbrev s_Net__ask : Stmt := inClass (topS 22) 10
theorem sc_Net__ask : FnScope ["self", "house"] ["self", "house"] (defScope s_Net__ask) := ⟨rfl, rfl, rfl, by decide +kernel, rfl, by decide +kernel, by decide +kernel⟩
abbrev s_Net__nexts : Stmt := inClass (topS 22) 2
theorem sc_Net__nexts : FnScope ["self", "house"] ["self"] (defScope s_Net__nexts) := ⟨rfl, rfl, rfl, by decide +kernel, rfl, by decide +kernel, by decide +kernel⟩
abbrev s_Net__befores : Stmt := inClass (topS 22) 3
theorem sc_Net__befores : FnScope ["self", "befores", "house"] ["self"] (defScope s_Net__befores) := ⟨rfl, rfl, rfl, by decide +kernel, rfl, by decide +kernel, by decide +kernel⟩
abbrev s_Net__read : Stmt := inClass (topS 22) 11
theorem sc_Net__read : FnScope ["self", "at", "letter", "reader", "house", "answer"] ["self", "at"] (defScope s_Net__read) := ⟨rfl, rfl, rfl, by decide +kernel, rfl, by decide +kernel, by decide +kernel⟩
abbrev s_Net__check_letters : Stmt := inClass (topS 22) 26
theorem sc_Net__check_letters : FnScope ["self", "letter", "place"] ["self"] (defScope s_Net__check_letters) := ⟨rfl, rfl, rfl, by decide +kernel, rfl, by decide +kernel, by decide +kernel⟩
abbrev s_Net__check_places : Stmt := inClass (topS 22) 24
theorem sc_Net__check_places : FnScope ["self", "house"] ["self"] (defScope s_Net__check_places) := ⟨rfl, rfl, rfl, by decide +kernel, rfl, by decide +kernel, by decide +kernel⟩
abbrev s_Net__take_befores : Stmt := inClass (topS 22) 25
theorem sc_Net__take_befores : FnScope ["self", "befores", "house"] ["self", "befores"] (defScope s_Net__take_befores) := ⟨rfl, rfl, rfl, by decide +kernel, rfl, by decide +kernel, by decide +kernel⟩
abbrev s_Net__init : Stmt := inClass (topS 22) 0
theorem sc_Net__init : FnScope ["self", "size", "nexts", "befores", "letters", "house"] ["self", "size", "nexts", "befores", "letters"] (defScope s_Net__init) := ⟨rfl, rfl, rfl, by decide +kernel, rfl, by decide +kernel, by decide +kernel⟩
abbrev s__law_far : Stmt := topS 29
theorem sc__law_far : FnScope ["size", "start", "end", "steps"] ["size", "start", "end"] (defScope s__law_far) := ⟨rfl, rfl, rfl, by decide +kernel, rfl, by decide +kernel, by decide +kernel⟩
abbrev s__law_between : Stmt := topS 30
theorem sc__law_between : FnScope ["size", "start", "place", "end"] ["size", "start", "place", "end"] (defScope s__law_between) := ⟨rfl, rfl, rfl, by decide +kernel, rfl, by decide +kernel, by decide +kernel⟩
abbrev s_Net__snapshot : Stmt := inClass (topS 22) 7
theorem sc_Net__snapshot : FnScope ["self", "rows", "house"] ["self"] (defScope s_Net__snapshot) := ⟨rfl, rfl, rfl, by decide +kernel, rfl, by decide +kernel, by decide +kernel⟩
abbrev s__law_ordered : Stmt := topS 32
theorem sc__law_ordered : FnScope ["table", "due", "key"] ["table"] (defScope s__law_ordered) := ⟨rfl, rfl, rfl, by decide +kernel, rfl, by decide +kernel, by decide +kernel⟩
abbrev s__lengths_from : Stmt := topS 12
theorem sc__lengths_from : FnScope ["net", "start", "lengths", "house", "length", "following"] ["net", "start"] (defScope s__lengths_from) := ⟨rfl, rfl, rfl, by decide +kernel, rfl, by decide +kernel, by decide +kernel⟩
/-! what is asked of the error in hand: (a, oe) is pinned, its dict at d -/
structure ErrC (K : PySem.W.Frag) (D : Addr) : Prop where
  cl : (PySem.W.clsIn K D).isSome = true
  ga : PySem.W.findIn K (.ref D) "__getattribute__" = some (some (.builtin "BaseException.__getattribute__"))
  gg : PySem.W.findIn K (.ref D) "__getattr__" = some none
  ex : PySem.W.subIn K (.ref D) (.type "BaseException") = some true
  hd : PySem.W.hasDictIn K D = true
  ca : PySem.W.findIn K (.ref D) "__class__" = some (some (.builtin "object.__class__"))
  cn : PySem.W.specialIn K (.builtin "object.__class__") "__get__" = some (some (.builtin "getset_descriptor.__get__"))
  ct : PySem.W.takesIn K (.builtin "object.__class__") = some true
  mo : PySem.W.mroIn K D (.type "object") = some true
structure T0 (K : PySem.W.Frag) (mg : Str → Option Value) where
  m_abs : mg "abs" = none
  m_bool : mg "bool" = none
  m_dict : mg "dict" = none
  m_int : mg "int" = none
  m_isinstance : mg "isinstance" = none
  m_len : mg "len" = none
  m_list : mg "list" = none
  m_max : mg "max" = none
  m_range : mg "range" = none
  m_sorted : mg "sorted" = none
  m_str : mg "str" = none
  m_tuple : mg "tuple" = none
  a_Net__hold : Addr
  fd_Net__hold : FuncData
  F_Net__hold : Fun K "hold" "Net.hold" s_Net__hold a_Net__hold fd_Net__hold
  b_Net__hold : Binds K fd_Net__hold ["self", "house", "target"] []
  a_Net__next_of : Addr
  fd_Net__next_of : FuncData
  F_Net__next_of : Fun K "next_of" "Net.next_of" s_Net__next_of a_Net__next_of fd_Net__next_of
  b_Net__next_of : Binds K fd_Net__next_of ["self", "house"] []
  a_each_held_once : Addr
  fd_each_held_once : FuncData
  F_each_held_once : Fun K "each_held_once" "each_held_once" s_each_held_once a_each_held_once fd_each_held_once
  b_each_held_once : Binds K fd_each_held_once ["net"] []
  g_each_held_once : mg "each_held_once" = some (.ref a_each_held_once)
  a_Net__clone : Addr
  fd_Net__clone : FuncData
  F_Net__clone : Fun K "clone" "Net.clone" s_Net__clone a_Net__clone fd_Net__clone
  b_Net__clone : Binds K fd_Net__clone ["self"] []
  a_house_at : Addr
  fd_house_at : FuncData
  F_house_at : Fun K "house_at" "house_at" s_house_at a_house_at fd_house_at
  b_house_at : Binds K fd_house_at ["net", "start", "distance"] []
  g_house_at : mg "house_at" = some (.ref a_house_at)
  a_holds_true : Addr
  fd_holds_true : FuncData
  F_holds_true : Fun K "holds_true" "holds_true" s_holds_true a_holds_true fd_holds_true
  b_holds_true : Binds K fd_holds_true ["net", "saying"] []
  g_holds_true : mg "holds_true" = some (.ref a_holds_true)
  a_is_faithful : Addr
  fd_is_faithful : FuncData
  F_is_faithful : Fun K "is_faithful" "is_faithful" s_is_faithful a_is_faithful fd_is_faithful
  b_is_faithful : Binds K fd_is_faithful ["net", "house", "target"] []
  g_is_faithful : mg "is_faithful" = some (.ref a_is_faithful)
  a__law_places : Addr
  fd__law_places : FuncData
  F__law_places : Fun K "_law_places" "_law_places" s__law_places a__law_places fd__law_places
  b__law_places : Binds K fd__law_places ["tape", "size", "count"] []
  g__law_places : mg "_law_places" = some (.ref a__law_places)
  a__law_nexts : Addr
  fd__law_nexts : FuncData
  F__law_nexts : Fun K "_law_nexts" "_law_nexts" s__law_nexts a__law_nexts fd__law_nexts
  b__law_nexts : Binds K fd__law_nexts ["tape", "places"] []
  g__law_nexts : mg "_law_nexts" = some (.ref a__law_nexts)
  a__law_behinds : Addr
  fd__law_behinds : FuncData
  F__law_behinds : Fun K "_law_behinds" "_law_behinds" s__law_behinds a__law_behinds fd__law_behinds
  b__law_behinds : Binds K fd__law_behinds ["tape", "places"] []
  g__law_behinds : mg "_law_behinds" = some (.ref a__law_behinds)
  a__law_letter : Addr
  fd__law_letter : FuncData
  F__law_letter : Fun K "_law_letter" "_law_letter" s__law_letter a__law_letter fd__law_letter
  b__law_letter : Binds K fd__law_letter ["tape", "places"] []
  g__law_letter : mg "_law_letter" = some (.ref a__law_letter)
  a__law_kept : Addr
  fd__law_kept : FuncData
  F__law_kept : Fun K "_law_kept" "_law_kept" s__law_kept a__law_kept fd__law_kept
  b__law_kept : Binds K fd__law_kept ["size", "nexts", "table"] []
  g__law_kept : mg "_law_kept" = some (.ref a__law_kept)
  a__law_held : Addr
  fd__law_held : FuncData
  F__law_held : Fun K "_law_held" "_law_held" s__law_held a__law_held fd__law_held
  b__law_held : Binds K fd__law_held ["net", "size", "nexts", "house", "target", "kept"] []
  g__law_held : mg "_law_held" = some (.ref a__law_held)
  a__law_stands : Addr
  fd__law_stands : FuncData
  F__law_stands : Fun K "_law_stands" "_law_stands" s__law_stands a__law_stands fd__law_stands
  b__law_stands : Binds K fd__law_stands ["net", "nexts", "behinds", "post"] []
  g__law_stands : mg "_law_stands" = some (.ref a__law_stands)
  a_law : Addr
  fd_law : FuncData
  F_law : Fun K "law" "law" s_law a_law fd_law
  b_law : Binds K fd_law ["script"] []
  g_law : mg "law" = some (.ref a_law)
  a__law_tape : Addr
  fd__law_tape : FuncData
  F__law_tape : Fun K "_law_tape" "_law_tape" s__law_tape a__law_tape fd__law_tape
  b__law_tape : Binds K fd__law_tape ["script"] []
  g__law_tape : mg "_law_tape" = some (.ref a__law_tape)
  a__law_pick : Addr
  fd__law_pick : FuncData
  F__law_pick : Fun K "_law_pick" "_law_pick" s__law_pick a__law_pick fd__law_pick
  b__law_pick : Binds K fd__law_pick ["tape", "size"] []
  g__law_pick : mg "_law_pick" = some (.ref a__law_pick)
  a__law_size : Addr
  fd__law_size : FuncData
  F__law_size : Fun K "_law_size" "_law_size" s__law_size a__law_size fd__law_size
  b__law_size : Binds K fd__law_size ["tape", "count"] []
  g__law_size : mg "_law_size" = some (.ref a__law_size)
  a__law_same : Addr
  fd__law_same : FuncData
  F__law_same : Fun K "_law_same" "_law_same" s__law_same a__law_same fd__law_same
  b__law_same : Binds K fd__law_same ["actual", "due"] []
  g__law_same : mg "_law_same" = some (.ref a__law_same)
  a_far : Addr
  fd_far : FuncData
  F_far : Fun K "far" "far" s_far a_far fd_far
  b_far : Binds K fd_far ["size", "start", "end"] []
  g_far : mg "far" = some (.ref a_far)
  a_between : Addr
  fd_between : FuncData
  F_between : Fun K "between" "between" s_between a_between fd_between
  b_between : Binds K fd_between ["size", "start", "place", "end"] []
  g_between : mg "between" = some (.ref a_between)
  a_House__init : Addr
  fd_House__init : FuncData
  F_House__init : FunD K "__init__" "House.__init__" (defArgs s_House__init) (defBody s_House__init) (defScope s_House__init) [.non] [] a_House__init fd_House__init
  b_House__init : Binds K fd_House__init ["self", "size", "place", "next_house", "before"] []
  bd_House__init : List Value
  bv_House__init : Vals [.non] bd_House__init
  b1_House__init : Binds K fd_House__init ["self", "size", "place", "next_house", "before"] bd_House__init
  kg_House__init : List Value → List Value → List Value
  kb_House__init : KBn K fd_House__init ["self", "size", "place", "next_house", "before"] 4 ["before"] kg_House__init (fun vs zs => vs ++ zs)
  a_House__tell_letter : Addr
  fd_House__tell_letter : FuncData
  F_House__tell_letter : Fun K "tell_letter" "House.tell_letter" s_House__tell_letter a_House__tell_letter fd_House__tell_letter
  b_House__tell_letter : Binds K fd_House__tell_letter ["self"] []
  a_House__ask_letter : Addr
  fd_House__ask_letter : FuncData
  F_House__ask_letter : Fun K "ask_letter" "House.ask_letter" s_House__ask_letter a_House__ask_letter fd_House__ask_letter
  b_House__ask_letter : Binds K fd_House__ask_letter ["self"] []
  a_House__answer_to : Addr
  fd_House__answer_to : FuncData
  F_House__answer_to : Fun K "_answer_to" "House._answer_to" s_House__answer_to a_House__answer_to fd_House__answer_to
  b_House__answer_to : Binds K fd_House__answer_to ["self", "sender"] []
  a_House__hear_tell : Addr
  fd_House__hear_tell : FuncData
  F_House__hear_tell : Fun K "_hear_tell" "House._hear_tell" s_House__hear_tell a_House__hear_tell fd_House__hear_tell
  b_House__hear_tell : Binds K fd_House__hear_tell ["self", "sender"] []
  a_House__hear_answer : Addr
  fd_House__hear_answer : FuncData
  F_House__hear_answer : Fun K "_hear_answer" "House._hear_answer" s_House__hear_answer a_House__hear_answer fd_House__hear_answer
  b_House__hear_answer : Binds K fd_House__hear_answer ["self", "sender", "named"] []
  a_House__hear : Addr
  fd_House__hear : FuncData
  F_House__hear : Fun K "hear" "House.hear" s_House__hear a_House__hear fd_House__hear
  b_House__hear : Binds K fd_House__hear ["self", "letter"] []
  a_Net__houses : Addr
  fd_Net__houses : FuncData
  F_Net__houses : Fun K "houses" "Net.houses" s_Net__houses a_Net__houses fd_Net__houses
  b_Net__houses : Binds K fd_Net__houses ["self"] []
  a_Net__check_house : Addr
  fd_Net__check_house : FuncData
  F_Net__check_house : Fun K "check_house" "Net.check_house" s_Net__check_house a_Net__check_house fd_Net__check_house
  b_Net__check_house : Binds K fd_Net__check_house ["self", "place"] []
  a_check_on_circle : Addr
  fd_check_on_circle : FuncData
  F_check_on_circle : Fun K "check_on_circle" "check_on_circle" s_check_on_circle a_check_on_circle fd_check_on_circle
  b_check_on_circle : Binds K fd_check_on_circle ["size", "place"] []
  g_check_on_circle : mg "check_on_circle" = some (.ref a_check_on_circle)
  a_Net__check_letter : Addr
  fd_Net__check_letter : FuncData
  F_Net__check_letter : Fun K "_check_letter" "Net._check_letter" s_Net__check_letter a_Net__check_letter fd_Net__check_letter
  b_Net__check_letter : Binds K fd_Net__check_letter ["self", "at"] []
  a_Net__house_at : Addr
  fd_Net__house_at : FuncData
  F_Net__house_at : Fun K "_house_at" "Net._house_at" s_Net__house_at a_Net__house_at fd_Net__house_at
  b_Net__house_at : Binds K fd_Net__house_at ["self", "place"] []
  a_Net__send : Addr
  fd_Net__send : FuncData
  F_Net__send : Fun K "_send" "Net._send" s_Net__send a_Net__send fd_Net__send
  b_Net__send : Binds K fd_Net__send ["self", "letter"] []
  a_Net__letters : Addr
  fd_Net__letters : FuncData
  F_Net__letters : Fun K "letters" "Net.letters" s_Net__letters a_Net__letters fd_Net__letters
  b_Net__letters : Binds K fd_Net__letters ["self"] []
  a_Net__tell : Addr
  fd_Net__tell : FuncData
  F_Net__tell : Fun K "tell" "Net.tell" s_Net__tell a_Net__tell fd_Net__tell
  b_Net__tell : Binds K fd_Net__tell ["self", "house"] []
  a_Net__ask : Addr
  fd_Net__ask : FuncData
  F_Net__ask : Fun K "ask" "Net.ask" s_Net__ask a_Net__ask fd_Net__ask
  b_Net__ask : Binds K fd_Net__ask ["self", "house"] []
  a_Net__nexts : Addr
  fd_Net__nexts : FuncData
  F_Net__nexts : Fun K "nexts" "Net.nexts" s_Net__nexts a_Net__nexts fd_Net__nexts
  b_Net__nexts : Binds K fd_Net__nexts ["self"] []
  a_Net__befores : Addr
  fd_Net__befores : FuncData
  F_Net__befores : Fun K "befores" "Net.befores" s_Net__befores a_Net__befores fd_Net__befores
  b_Net__befores : Binds K fd_Net__befores ["self"] []
  a_Net__read : Addr
  fd_Net__read : FuncData
  F_Net__read : Fun K "read" "Net.read" s_Net__read a_Net__read fd_Net__read
  b_Net__read : Binds K fd_Net__read ["self", "at"] []
  a_Net__check_letters : Addr
  fd_Net__check_letters : FuncData
  F_Net__check_letters : Fun K "_check_letters" "Net._check_letters" s_Net__check_letters a_Net__check_letters fd_Net__check_letters
  b_Net__check_letters : Binds K fd_Net__check_letters ["self"] []
  a_Net__check_places : Addr
  fd_Net__check_places : FuncData
  F_Net__check_places : Fun K "_check_places" "Net._check_places" s_Net__check_places a_Net__check_places fd_Net__check_places
  b_Net__check_places : Binds K fd_Net__check_places ["self"] []
  a_Net__take_befores : Addr
  fd_Net__take_befores : FuncData
  F_Net__take_befores : Fun K "_take_befores" "Net._take_befores" s_Net__take_befores a_Net__take_befores fd_Net__take_befores
  b_Net__take_befores : Binds K fd_Net__take_befores ["self", "befores"] []
  a_Net__init : Addr
  fd_Net__init : FuncData
  F_Net__init : FunD K "__init__" "Net.__init__" (defArgs s_Net__init) (defBody s_Net__init) (defScope s_Net__init) [] [("befores", .non), ("letters", .non)] a_Net__init fd_Net__init
  kg_Net__init : List Value → List Value → List Value
  kb_Net__init : KBn K fd_Net__init ["self", "size", "nexts", "befores", "letters"] 3 ["befores", "letters"] kg_Net__init (fun vs zs => vs ++ zs)
  bd_Net__init : List Value
  bv_Net__init : Vals [.non, .non] bd_Net__init
  b1_Net__init : Binds K fd_Net__init ["self", "size", "nexts", "befores", "letters"] bd_Net__init
  a__law_far : Addr
  fd__law_far : FuncData
  F__law_far : Fun K "_law_far" "_law_far" s__law_far a__law_far fd__law_far
  b__law_far : Binds K fd__law_far ["size", "start", "end"] []
  g__law_far : mg "_law_far" = some (.ref a__law_far)
  a__law_between : Addr
  fd__law_between : FuncData
  F__law_between : Fun K "_law_between" "_law_between" s__law_between a__law_between fd__law_between
  b__law_between : Binds K fd__law_between ["size", "start", "place", "end"] []
  g__law_between : mg "_law_between" = some (.ref a__law_between)
  a_Net__snapshot : Addr
  fd_Net__snapshot : FuncData
  F_Net__snapshot : Fun K "snapshot" "Net.snapshot" s_Net__snapshot a_Net__snapshot fd_Net__snapshot
  b_Net__snapshot : Binds K fd_Net__snapshot ["self"] []
  a__law_ordered : Addr
  fd__law_ordered : FuncData
  F__law_ordered : Fun K "_law_ordered" "_law_ordered" s__law_ordered a__law_ordered fd__law_ordered
  b__law_ordered : Binds K fd__law_ordered ["table"] []
  g__law_ordered : mg "_law_ordered" = some (.ref a__law_ordered)
  a__lengths_from : Addr
  fd__lengths_from : FuncData
  F__lengths_from : Fun K "_lengths_from" "_lengths_from" s__lengths_from a__lengths_from fd__lengths_from
  b__lengths_from : Binds K fd__lengths_from ["net", "start"] []
  g__lengths_from : mg "_lengths_from" = some (.ref a__lengths_from)
  C_House : Addr
  mc_House : mg "House" = some (.ref C_House)
  cl_House : Cls K C_House
  na_House_size : NoAttr K C_House "size"
  na_House_place : NoAttr K C_House "place"
  na_House_next_house : NoAttr K C_House "next_house"
  na_House_before : NoAttr K C_House "before"
  mk_House : Mk K C_House a_House__init
  me_House__tell_letter : Meth K C_House "tell_letter" a_House__tell_letter
  me_House__ask_letter : Meth K C_House "ask_letter" a_House__ask_letter
  me_House__answer_to : Meth K C_House "_answer_to" a_House__answer_to
  me_House__hear_tell : Meth K C_House "_hear_tell" a_House__hear_tell
  me_House__hear_answer : Meth K C_House "_hear_answer" a_House__hear_answer
  me_House__hear : Meth K C_House "hear" a_House__hear
  C_Net : Addr
  mc_Net : mg "Net" = some (.ref C_Net)
  cl_Net : Cls K C_Net
  na_Net_size : NoAttr K C_Net "size"
  na_Net__nexts : NoAttr K C_Net "_nexts"
  na_Net__befores : NoAttr K C_Net "_befores"
  na_Net__letters : NoAttr K C_Net "_letters"
  me_Net__hold : Meth K C_Net "hold" a_Net__hold
  me_Net__next_of : Meth K C_Net "next_of" a_Net__next_of
  me_Net__clone : Meth K C_Net "clone" a_Net__clone
  me_Net__houses : Meth K C_Net "houses" a_Net__houses
  me_Net__check_house : Meth K C_Net "check_house" a_Net__check_house
  me_Net__check_letter : Meth K C_Net "_check_letter" a_Net__check_letter
  me_Net__house_at : Meth K C_Net "_house_at" a_Net__house_at
  me_Net__send : Meth K C_Net "_send" a_Net__send
  me_Net__letters : Meth K C_Net "letters" a_Net__letters
  me_Net__tell : Meth K C_Net "tell" a_Net__tell
  me_Net__ask : Meth K C_Net "ask" a_Net__ask
  me_Net__nexts : Meth K C_Net "nexts" a_Net__nexts
  me_Net__befores : Meth K C_Net "befores" a_Net__befores
  me_Net__read : Meth K C_Net "read" a_Net__read
  me_Net__check_letters : Meth K C_Net "_check_letters" a_Net__check_letters
  me_Net__check_places : Meth K C_Net "_check_places" a_Net__check_places
  me_Net__take_befores : Meth K C_Net "_take_befores" a_Net__take_befores
  mk_Net : Mk K C_Net a_Net__init
  me_Net__snapshot : Meth K C_Net "snapshot" a_Net__snapshot
  C_NoHouse : Addr
  mc_NoHouse : mg "NoHouse" = some (.ref C_NoHouse)
  C_OffCircle : Addr
  mc_OffCircle : mg "OffCircle" = some (.ref C_OffCircle)
  C_NoLetter : Addr
  mc_NoLetter : mg "NoLetter" = some (.ref C_NoLetter)
namespace T0
variable {K : PySem.W.Frag} {mg : Str → Option Value} (T : T0 K mg)
theorem k_Net__hold : PySem.W.keepIn K (.ref T.a_Net__hold) = true := T.F_Net__hold.kp
theorem k_Net__next_of : PySem.W.keepIn K (.ref T.a_Net__next_of) = true := T.F_Net__next_of.kp
theorem k_each_held_once : PySem.W.keepIn K (.ref T.a_each_held_once) = true := T.F_each_held_once.kp
theorem k_Net__clone : PySem.W.keepIn K (.ref T.a_Net__clone) = true := T.F_Net__clone.kp
theorem k_house_at : PySem.W.keepIn K (.ref T.a_house_at) = true := T.F_house_at.kp
theorem k_holds_true : PySem.W.keepIn K (.ref T.a_holds_true) = true := T.F_holds_true.kp
theorem k_is_faithful : PySem.W.keepIn K (.ref T.a_is_faithful) = true := T.F_is_faithful.kp
theorem k__law_places : PySem.W.keepIn K (.ref T.a__law_places) = true := T.F__law_places.kp
theorem k__law_nexts : PySem.W.keepIn K (.ref T.a__law_nexts) = true := T.F__law_nexts.kp
theorem k__law_behinds : PySem.W.keepIn K (.ref T.a__law_behinds) = true := T.F__law_behinds.kp
theorem k__law_letter : PySem.W.keepIn K (.ref T.a__law_letter) = true := T.F__law_letter.kp
theorem k__law_kept : PySem.W.keepIn K (.ref T.a__law_kept) = true := T.F__law_kept.kp
theorem k__law_held : PySem.W.keepIn K (.ref T.a__law_held) = true := T.F__law_held.kp
theorem k__law_stands : PySem.W.keepIn K (.ref T.a__law_stands) = true := T.F__law_stands.kp
theorem k_law : PySem.W.keepIn K (.ref T.a_law) = true := T.F_law.kp
theorem k__law_tape : PySem.W.keepIn K (.ref T.a__law_tape) = true := T.F__law_tape.kp
theorem k__law_pick : PySem.W.keepIn K (.ref T.a__law_pick) = true := T.F__law_pick.kp
theorem k__law_size : PySem.W.keepIn K (.ref T.a__law_size) = true := T.F__law_size.kp
theorem k__law_same : PySem.W.keepIn K (.ref T.a__law_same) = true := T.F__law_same.kp
theorem k_far : PySem.W.keepIn K (.ref T.a_far) = true := T.F_far.kp
theorem k_between : PySem.W.keepIn K (.ref T.a_between) = true := T.F_between.kp
theorem k_House__init : PySem.W.keepIn K (.ref T.a_House__init) = true := T.F_House__init.kp
theorem k_House__tell_letter : PySem.W.keepIn K (.ref T.a_House__tell_letter) = true := T.F_House__tell_letter.kp
theorem k_House__ask_letter : PySem.W.keepIn K (.ref T.a_House__ask_letter) = true := T.F_House__ask_letter.kp
theorem k_House__answer_to : PySem.W.keepIn K (.ref T.a_House__answer_to) = true := T.F_House__answer_to.kp
theorem k_House__hear_tell : PySem.W.keepIn K (.ref T.a_House__hear_tell) = true := T.F_House__hear_tell.kp
theorem k_House__hear_answer : PySem.W.keepIn K (.ref T.a_House__hear_answer) = true := T.F_House__hear_answer.kp
theorem k_House__hear : PySem.W.keepIn K (.ref T.a_House__hear) = true := T.F_House__hear.kp
theorem k_Net__houses : PySem.W.keepIn K (.ref T.a_Net__houses) = true := T.F_Net__houses.kp
theorem k_Net__check_house : PySem.W.keepIn K (.ref T.a_Net__check_house) = true := T.F_Net__check_house.kp
theorem k_check_on_circle : PySem.W.keepIn K (.ref T.a_check_on_circle) = true := T.F_check_on_circle.kp
theorem k_Net__check_letter : PySem.W.keepIn K (.ref T.a_Net__check_letter) = true := T.F_Net__check_letter.kp
theorem k_Net__house_at : PySem.W.keepIn K (.ref T.a_Net__house_at) = true := T.F_Net__house_at.kp
theorem k_Net__send : PySem.W.keepIn K (.ref T.a_Net__send) = true := T.F_Net__send.kp
theorem k_Net__letters : PySem.W.keepIn K (.ref T.a_Net__letters) = true := T.F_Net__letters.kp
theorem k_Net__tell : PySem.W.keepIn K (.ref T.a_Net__tell) = true := T.F_Net__tell.kp
theorem k_Net__ask : PySem.W.keepIn K (.ref T.a_Net__ask) = true := T.F_Net__ask.kp
theorem k_Net__nexts : PySem.W.keepIn K (.ref T.a_Net__nexts) = true := T.F_Net__nexts.kp
theorem k_Net__befores : PySem.W.keepIn K (.ref T.a_Net__befores) = true := T.F_Net__befores.kp
theorem k_Net__read : PySem.W.keepIn K (.ref T.a_Net__read) = true := T.F_Net__read.kp
theorem k_Net__check_letters : PySem.W.keepIn K (.ref T.a_Net__check_letters) = true := T.F_Net__check_letters.kp
theorem k_Net__check_places : PySem.W.keepIn K (.ref T.a_Net__check_places) = true := T.F_Net__check_places.kp
theorem k_Net__take_befores : PySem.W.keepIn K (.ref T.a_Net__take_befores) = true := T.F_Net__take_befores.kp
theorem k_Net__init : PySem.W.keepIn K (.ref T.a_Net__init) = true := T.F_Net__init.kp
theorem k__law_far : PySem.W.keepIn K (.ref T.a__law_far) = true := T.F__law_far.kp
theorem k__law_between : PySem.W.keepIn K (.ref T.a__law_between) = true := T.F__law_between.kp
theorem k_Net__snapshot : PySem.W.keepIn K (.ref T.a_Net__snapshot) = true := T.F_Net__snapshot.kp
theorem k__law_ordered : PySem.W.keepIn K (.ref T.a__law_ordered) = true := T.F__law_ordered.kp
theorem k__lengths_from : PySem.W.keepIn K (.ref T.a__lengths_from) = true := T.F__lengths_from.kp
end T0
theorem un1 {k : Nat} {A : Around} (r : Room k A) : A.units + 1 < cLine := by have := r.un; omega
theorem iteT' {b : Bool} {A B : Prop} (h : b = true) (a : A) : if b = true then A else B := by rw [if_pos h]; exact a
theorem iteF' {b : Bool} {A B : Prop} (h : b = false) (a : B) : if b = true then A else B := by rw [if_neg (by rw [h]; exact Bool.false_ne_true)]; exact a
theorem small1000' {n : Nat} (h : n ≤ 100000) : n < sizeLine := Nat.lt_of_le_of_lt h (by decide)
theorem upd_self {H : Hp} {t : Addr} {o : HO} (h : H t = Option.some o) : H = upd H t o := by
  funext b
  unfold upd
  split
  · rename_i e
    rw [e, h]
  · rfl
theorem at_ints {cs : List Int} {a : Nat} (h : a < cs.length) : atI (cs.map V.int) (a : Int) = Option.some (.int (cs[a])) := by
  refine atI_nat ?_
  rw [List.getElem?_map, List.getElem?_eq_getElem h]
  rfl
theorem at_getD {cs : List Int} {a : Nat} (h : a < cs.length) : atI (cs.map V.int) (a : Int) = Option.some (.int (cs.getD a 0)) := by
  refine atI_nat ?_
  rw [List.getElem?_map, List.getElem?_eq_getElem h, List.getD_eq_getElem?_getD, List.getElem?_eq_getElem h]
  rfl
theorem fmod_range (x : Int) {n : Int} (h : 0 < n) : 0 ≤ x.fmod n ∧ x.fmod n < n := ⟨Int.fmod_nonneg_of_pos x h, Int.fmod_lt_of_pos x h⟩
theorem mod_small (x : Int) {m : Int} (h : 0 < m) (h2 : m ≤ 9223372036854775808) : -(2 ^ 64) < x.fmod m ∧ x.fmod m < 2 ^ 64 := by
  have h3 := Int.fmod_nonneg_of_pos x h
  have h4 := Int.fmod_lt_of_pos x h
  constructor <;> omega
theorem cdivn (x : Int) {n : Int} (h : 0 < n) (h2 : n ≤ 1000000001) : CDivN x n := ⟨by omega, by omega⟩
theorem cdivw (x : Int) {n : Int} (h : 0 < n) (h2 : n ≤ 4000000000) : CDivW x n := wide_div (b := 63) h (by omega) (by decide) (by decide)
local macro_rules | `(tactic| walk_at "side") => `(tactic| first
  | with_reducible assumption
  | decide
  | ((with_reducible apply mod_small) <;> decide)
  | exact Or.inl ⟨by decide, by decide⟩
  | (apply Or.inl; (with_reducible apply mod_small) <;> decide)
  | exact Or.inr ⟨by decide, by decide⟩
  | ((with_reducible apply cdivn) <;> first | decide | omega)
  | ((with_reducible apply cdivw) <;> first | decide | omega)
  | (dsimp only; first | decide | omega)
  | exact ⟨by dsimp only; first | decide | omega, by dsimp only; first | decide | omega⟩)
local macro_rules | `(tactic| walk_at "go1") => `(tactic| first
  | refine ⟨_, rfl, ?_⟩
  | refine ⟨_, _, rfl, rfl, ?_⟩
  | refine Or.inl ⟨_, rfl, ?_⟩
  | refine ⟨_, _, _, _, rfl, rfl, (by first | assumption | exact SqL.of (by assumption) | exact upd_same | exact SqL.of upd_same), (by rfl), ?_⟩
  | refine ⟨rfl, ?_⟩
  | refine ⟨(show (_ : Prop) from by walk_at "side"), ?_⟩)
local macro_rules | `(tactic| walk_at "go") => `(tactic| repeat (walk_at "go1"))
section
variable {X : Cx} {K : PySem.W.Frag}
theorem ix_listK (h : X.K = K := by rfl) : IxR X (rIxL K) := by subst h; exact ix_list
theorem ix_tupK (h : X.K = K := by rfl) : IxR X (rIxT K) := by subst h; exact ix_tup
theorem ix_seqK (h : X.K = K := by rfl) : IxR X (rIx K) := by subst h; exact ix_seq
theorem sl_listK (h : X.K = K := by rfl) : SlR X (rSlL K) := by subst h; exact sl_list
theorem sl_tupK (h : X.K = K := by rfl) : SlR X (rSlT K) := by subst h; exact sl_tup
theorem op_in_seqK (h : X.K = K := by rfl) : OpR X (compareOp .In) (rIn K false) := by subst h; exact op_in_seq
theorem op_notIn_seqK (h : X.K = K := by rfl) : OpR X (compareOp .NotIn) (rIn K true) := by subst h; exact op_notIn_seq
def rLen (K : PySem.W.Frag) : List V → Hp → VK → Prop := fun xs H Q => ∃ p ys, xs = [.ref p] ∧ (SqL K H p ys ∨ SqT K H p ys) ∧ Q (.int ys.length) H
theorem call_lenK (h : X.K = K := by rfl) : CallR X (.builtin "len") (rLen K) := by subst h; exact call_len_seq
def rListOf (K : PySem.W.Frag) : List V → Hp → VK → Prop := fun xs H Q => ∃ p ys, xs = [.ref p] ∧ (SqL K H p ys ∨ SqT K H p ys) ∧ ∀ l, H l = none → Q (.ref l) (upd H l (.lst ys))
theorem call_list_ofK (h : X.K = K := by rfl) : CallR X (.type "list") (rListOf K) := by subst h; exact call_list_of
def rTupleOf (K : PySem.W.Frag) : List V → Hp → VK → Prop := fun xs H Q => ∃ p ys, xs = [.ref p] ∧ ((SqL K H p ys ∧ ∀ l, H l = none → Q (.ref l) (upd H l (.tup ys))) ∨ (SqT K H p ys ∧ Q (.ref p) H))
theorem call_tuple_ofK (h : X.K = K := by rfl) : CallR X (.type "tuple") (rTupleOf K) := by subst h; exact call_tuple_of
theorem call_isinstK (h : X.K = K := by rfl) : CallR X (.builtin "isinstance") (rIsi K) := by subst h; exact call_isi
theorem cr_sortedK (h : X.K = K := by rfl) : CallR X (.builtin "sorted") (rSorted K) := by subst h; exact cr_sorted
theorem call_sumK (hc : X.calm = true := by rfl) (h : X.K = K := by rfl) : CallR X (.builtin "sum") (rSum K) := by subst h; exact cr_sum hc
end
section
variable {σ : L2.St} {H : Hp} {ta tb tc : TE} {x y z : V}
theorem val_I0 {g : Int → Int → V} {i j : Int} (ha : Val ta σ H (.int i)) (hb : Val tb σ H (.int j)) : Val (tOp (rI0 g) ta tb) σ H (g i j) := fun _ q => ha _ (hb _ ⟨i, j, rfl, rfl, q⟩)
theorem val_I {C : Int → Int → Prop} {g : Int → Int → V} {i j : Int} (ha : Val ta σ H (.int i)) (hb : Val tb σ H (.int j)) (hc : C i j) : Val (tOp (rI C g) ta tb) σ H (g i j) := fun _ q => ha _ (hb _ ⟨i, j, rfl, rfl, hc, q⟩)
theorem val_eq (ha : Val ta σ H x) (hb : Val tb σ H y) (hs : scal x y = true) : Val (tOp rEq ta tb) σ H (.bl (decide (x = y))) := fun _ q => ha _ (hb _ ⟨hs, q⟩)
theorem val_ne (ha : Val ta σ H x) (hb : Val tb σ H y) (hs : scal x y = true) : Val (tOp rNe ta tb) σ H (.bl (!decide (x = y))) := fun _ q => ha _ (hb _ ⟨hs, q⟩)
theorem val_chain {g : Int → Int → Bool} {g' : Int → Int → Bool} {i j k : Int} (ha : Val ta σ H (.int i)) (hb : Val tb σ H (.int j)) (hc : Val tc σ H (.int k)) :
    Val (tChain (rI0 fun i j => .bl (g i j)) (rI0 fun i j => .bl (g' i j)) ta tb tc) σ H (.bl (g i j && g' j k)) := fun Q q => ha _ (hb _ ⟨i, j, rfl, rfl, _, rfl, by
  cases e : g i j with
  | true =>
    refine iteT (hc _ ⟨j, k, rfl, rfl, ?_⟩)
    rw [e] at q
    exact q
  | false =>
    rw [e] at q
    exact iteF q⟩)
theorem val_ixL {K : PySem.W.Frag} {p : Addr} {xs : List V} {i : Int} (ha : Val ta σ H (.ref p)) (hb : Val tb σ H (.int i)) (h : SqL K H p xs) (h2 : atI xs i = Option.some x) : Val (tOp (rIxL K) ta tb) σ H x := fun _ q => ha _ (hb _ ⟨p, xs, i, x, rfl, rfl, h, h2, q⟩)
theorem val_ixT {K : PySem.W.Frag} {p : Addr} {xs : List V} {i : Int} (ha : Val ta σ H (.ref p)) (hb : Val tb σ H (.int i)) (h : SqT K H p xs) (h2 : atI xs i = Option.some x) : Val (tOp (rIxT K) ta tb) σ H x := fun _ q => ha _ (hb _ ⟨p, xs, i, x, rfl, rfl, h, h2, q⟩)
theorem val_andV {a b : Bool} (ha : Val ta σ H (.bl a)) (hb : a = true → Val tb σ H (.bl b)) : Val (tAndV ta tb) σ H (.bl (a && b)) := fun Q q => ha _ ⟨a, rfl, by
  cases a with
  | true => exact iteT (hb rfl _ q)
  | false => exact iteF q⟩
theorem val_orV {a b : Bool} (ha : Val ta σ H (.bl a)) (hb : a = false → Val tb σ H (.bl b)) : Val (tOrV ta tb) σ H (.bl (a || b)) := fun Q q => ha _ ⟨a, rfl, by
  cases a with
  | true => exact iteT q
  | false => exact iteF (hb rfl _ q)⟩
theorem val_notV {a : Bool} (ha : Val ta σ H (.bl a)) : Val (tNotV ta) σ H (.bl (!a)) := fun _ q => ha _ ⟨a, rfl, q⟩
def ValA (ta : TA) (σ : L2.St) (H : Hp) (vs : List V) : Prop := ∀ Q : List V → Hp → Prop, Q vs H → ta σ H Q
theorem valA_nil : ValA tNil σ H [] := fun _ q => q
theorem valA_cons {tr : TA} {vs : List V} (h : Val ta σ H x) (hr : ValA tr σ H vs) : ValA (tCons ta tr) σ H (x :: vs) := fun _ q => h _ (hr _ q)
theorem go_lst {tr : TA} {vs : List V} {Q : VK} (h : ValA tr σ H vs) (hz : vs.length ≤ 100000) (q : ∀ p, H p = none → Q (.ref p) (upd H p (.lst vs))) : tLst tr σ H Q := h _ ⟨Nat.le_trans hz (by decide), q⟩
theorem go_tup {tr : TA} {vs : List V} {Q : VK} (h : ValA tr σ H vs) (hz : vs.length ≤ 100000) (q : ∀ p, H p = none → Q (.ref p) (upd H p (.tup vs))) : tTup tr σ H Q := h _ ⟨Nat.le_trans hz (by decide), q⟩
theorem val_call {tr : TA} {vs : List V} {sp : Sp} {dvs : List V} {E : XK} (h : ValA tr σ H vs) (hs : ∀ Q : VK, Q x H → sp (vs ++ dvs) H Q E) : Val (tCall sp dvs E tr) σ H x := fun _ q => h _ (hs _ q)
theorem val_cb {tr : TA} {vs : List V} {r : List V → Hp → VK → Prop} (h : ValA tr σ H vs) (hs : ∀ Q : VK, Q x H → r vs H Q) : Val (tCB r tr) σ H x := fun _ q => h _ (hs _ q)
variable {D : Ends} {tz tu tw : TS} {i : Nat} {tt tv : TT}
theorem o_asg (h : ta σ H fun v H' => tz D (σ.set i (some v)) H') : tSeq (tAsg ta (gName i)) tz D σ H := h
theorem o_ret (h : ta σ H D.rt) : tRet ta D σ H := h
theorem o_drop (h : ta σ H fun _ H' => tz D σ H') : tSeq (tDrop ta) tz D σ H := h
theorem v_asg (h : Val ta σ H x) (k : tz D (σ.set i (some x)) H) : tSeq (tAsg ta (gName i)) tz D σ H := h _ k
theorem v_asg1 (h : Val ta σ H x) (k : D.nx (σ.set i (some x)) H) : tAsg ta (gName i) D σ H := h _ k
theorem lc_yes {A B : Hp → Prop} (h : A H) : tYes σ H (fun b H3 => if b = true then A H3 else B H3) := by show (if true = true then A H else B H); exact iteT h
theorem g_name {v : V} {Q : L2.St → Hp → Prop} (h : Q (σ.set i (some v)) H) : gName i v σ H Q := h
theorem v_ret (h : Val ta σ H x) (k : D.rt x H) : tRet ta D σ H := h _ k
theorem v_if {b : Bool} (h : Ans tt σ H b) (h1 : b = true → tu { D with nx := tz D } σ H) (h2 : b = false → tw { D with nx := tz D } σ H) : tSeq (tIfS tt tu tw) tz D σ H := h _ (by
  cases b with
  | true => exact iteT (h1 rfl)
  | false => exact iteF (h2 rfl))
theorem v_if1 {b : Bool} (h : Ans tt σ H b) (h1 : b = true → tu D σ H) (h2 : b = false → tw D σ H) : tIfS tt tu tw D σ H := h _ (by
  cases b with
  | true => exact iteT (h1 rfl)
  | false => exact iteF (h2 rfl))
/-- an if without else: the rest once more where the test says no -/
theorem v_when {b : Bool} (h : Ans tt σ H b) (h1 : b = true → tu { D with nx := tz D } σ H) (h2 : b = false → tz D σ H) : tSeq (tIfS tt tu tNext) tz D σ H := v_if h h1 h2
theorem ans_t {b : Bool} (h : Val ta σ H (.bl b)) : Ans (tTest ta) σ H b := fun _ q => h _ ⟨b, rfl, q⟩
theorem ans_b {b : Bool} (h : Val ta σ H (.bl b)) : Ans (tB ta) σ H b := fun _ q => h _ ⟨b, rfl, q⟩
theorem ans_a {a b : Bool} (h : Ans tt σ H a) (h2 : a = true → Ans tv σ H b) : Ans (tAnd tt tv) σ H (a && b) := fun _ q => h _ (by
  cases a with
  | true => exact iteT (h2 rfl _ q)
  | false => exact iteF q)
theorem ans_o {a b : Bool} (h : Ans tt σ H a) (h2 : a = false → Ans tv σ H b) : Ans (tOr tt tv) σ H (a || b) := fun _ q => h _ (by
  cases a with
  | true => exact iteT q
  | false => exact iteF (h2 rfl _ q))
theorem ans_n {a : Bool} (h : Ans tt σ H a) : Ans (tNot tt) σ H (!a) := fun _ q => h _ q
theorem Val.to (h : Val ta σ H x) (e : x = y) : Val ta σ H y := e ▸ h
theorem Val.go {Q : VK} (h : Val ta σ H x) (q : Q x H) : ta σ H Q := h Q q
end
local macro_rules | `(tactic| walk_at "sql") => `(tactic| first
  | with_reducible assumption
  | exact SqL.of (by assumption)
  | exact SqL.of upd_same)
local macro_rules | `(tactic| walk_at "sqt") => `(tactic| first
  | with_reducible assumption
  | exact SqT.of (by assumption)
  | exact SqT.of upd_same)
local macro_rules | `(tactic| walk_at "at") => `(tactic| first
  | with_reducible assumption
  | exact at_getD (by omega)
  | exact at_ints (by assumption)
  | rfl)
local macro_rules | `(tactic| walk_at "val") => `(tactic| first
  | with_reducible assumption
  | with_reducible exact val_c
  | ((with_reducible apply val_var); rfl)
  | ((with_reducible apply val_I0); (· walk_at "val"); (· walk_at "val"))
  | ((with_reducible apply val_I); (· walk_at "val"); (· walk_at "val"); (· walk_at "side"))
  | ((with_reducible apply val_eq); (· walk_at "val"); (· walk_at "val"); (· rfl))
  | ((with_reducible apply val_ne); (· walk_at "val"); (· walk_at "val"); (· rfl))
  | ((with_reducible apply val_chain); (· walk_at "val"); (· walk_at "val"); (· walk_at "val"))
  | ((with_reducible apply val_andV); (· walk_at "val"); (· intro _; walk_at "val"))
  | ((with_reducible apply val_orV); (· walk_at "val"); (· intro _; walk_at "val"))
  | ((with_reducible apply val_notV); (· walk_at "val"))
  | ((with_reducible apply val_ixL); (· walk_at "val"); (· walk_at "val"); (· walk_at "sql"); (· walk_at "at"))
  | ((with_reducible apply val_ixT); (· walk_at "val"); (· walk_at "val"); (· walk_at "sqt"); (· walk_at "at"))
  | with_reducible exact valA_nil
  | ((with_reducible apply valA_cons); (· walk_at "val"); (· walk_at "val"))
  | ((with_reducible apply val_cb); (· walk_at "val"); (· intro _ q; exact Or.inl ⟨_, rfl, q⟩))
  | ((with_reducible apply val_call); (· walk_at "val"); (· intro _ q; walk_at "sp")))
local macro_rules | `(tactic| walk_at "ans") => `(tactic| first
  | ((with_reducible apply ans_t); (· walk_at "val"))
  | ((with_reducible apply ans_b); (· walk_at "val"))
  | ((with_reducible apply ans_a); (· walk_at "ans"); (· intro _; walk_at "ans"))
  | ((with_reducible apply ans_o); (· walk_at "ans"); (· intro _; walk_at "ans"))
  | ((with_reducible apply ans_n); (· walk_at "ans")))
local macro_rules | `(tactic| walk_at "len") => `(tactic| first
  | (simp only [List.length_cons, List.length_nil, List.length_map, List.length_append]; omega)
  | assumption)
theorem Same.fresh {H H' : Hp} {p : Addr} {o : HO} (e : Same H H') (h : H p = Option.none) : Same H (upd H' p o) := fun a u ha => by
  rw [upd_ne (ne_of_none ha h)]
  exact e a u ha
theorem take_map_succ {xs : List Int} {j : Nat} {x : Int} (h : xs[j]? = Option.some x) : ((xs.take j).map V.int) ++ [.int x] = (xs.take (j + 1)).map V.int := by
  rw [List.take_add_one, h, List.map_append]
  rfl
theorem lenL {n : Nat} (h : n ≤ 100000) : n ≤ sizeLine := Nat.le_trans h (by decide)
theorem dec_int (i j : Int) : decide (V.int i = V.int j) = decide (i = j) := decide_eq_decide.mpr ⟨V.int.inj, congrArg V.int⟩
local macro_rules | `(tactic| walk_at "nf") => `(tactic| ((try refine g_name ?_); dsimp only [List.set_cons_zero, List.set_cons_succ]))
theorem lk0 {a : Str} {v : V} {r : List (Str × V)} : ((a, v) :: r).lookup a = Option.some v := by rw [List.lookup_cons_self]
theorem lk1 {a b : Str} {v : V} {r : List (Str × V)} (h : (a == b) = false) : ((b, v) :: r).lookup a = r.lookup a := by rw [List.lookup_cons, h]
theorem pf0 {a : Str} {v u : V} {r : List (Str × V)} : putF a v ((a, u) :: r) = (a, v) :: r := by
  unfold putF
  rw [if_pos rfl]
theorem pf1 {a b : Str} {v u : V} {r : List (Str × V)} (h : ¬ b = a) : putF a v ((b, u) :: r) = (b, u) :: putF a v r := by
  rw [putF, if_neg h]
theorem pfN {a : Str} {v : V} : putF a v [] = [(a, v)] := rfl
local macro_rules | `(tactic| walk_at "lk") => `(tactic| (repeat (rw [lk1 (by decide +kernel)])); first | exact lk0 | rfl)
local macro_rules | `(tactic| walk_at "pf") => `(tactic| repeat (first | rw [pfN] | rw [pf0] | rw [pf1 (by decide +kernel)]))
/- (pss_cons (ps_expr (pe_meth (pv 0) T.cl_Net T.me_Net__check_house T.ok_Net__check_house hr T.b_Net__check_house .nil pass0 (pa_cons (pv 1) pa_nil)))
        (pss_cons (ps_expr (pe_meth (pv 0) T.cl_Net T.me_Net__check_house T.ok_Net__check_house hr T.b_Net__check_house .nil pass0 (pa_cons (pv 2) pa_nil)))
        (pss_cons (ps_set (i := 3) sc_Net__hold.nd rfl (Or.inl rfl) (pe_dget (un1 hr) (show PE _ _ (tFld K _ _) from pe_fld (pv 0) rfl) (pv 1) (fun _ _ => rfl)))
        (pss_cons (ps_asg (pv 2) (pg_sub (show PE _ _ (tFld K _ _) from pe_fld (pv 0) rfl) (pv 1) (set_dict (un1 hr))))
        (pss_one (ps_ret (pv 3))))))) (pss_cons (ps_expr (pe_meth (pv 0) T.cl_Net T.me_Net__check_house T.ok_Net__check_house hr T.b_Net__check_house .nil pass0 (pa_cons (pv 1) pa_nil)))
        (pss_one (ps_ret (pe_dget (un1 hr) (show PE _ _ (tFld K _ _) from pe_fld (pv 0) rfl) (pv 1) (fun _ _ => rfl))))) (pss_one (ps_ret (pe_cmpR (op_eqD hr.units) (pe_sortedVals rfl (by rfl) T.m_sorted (pe_meth0 (pv 0) T.cl_Net T.me_Net__nexts T.ok_Net__nexts hr T.b_Net__nexts .nil pass0)) (pe_meth0 (pv 0) T.cl_Net T.me_Net__houses T.ok_Net__houses (hr.mono (by decide)) T.b_Net__houses .nil pass0) (nomark _)))) (pss_one (ps_ret (pe_makeK T.mk_Net T.ok_Net__init hr (by rfl) T.mc_Net T.kb_Net__init pass0 (pa_cons (show PE _ _ (tFld K _ _) from pe_fld (pv 0) rfl) (pa_cons (show PE _ _ (tFld K _ _) from pe_fld (pv 0) rfl) pa_nil)) (pk_cons (pe_meth0 (pv 0) T.cl_Net T.me_Net__befores T.ok_Net__befores (hr.mono (by decide)) T.b_Net__befores .nil pass0) (pk_cons (show PE _ _ (tFld K _ _) from pe_fld (pv 0) rfl) pk_nil))))) (pss_cons (ps_set (i := 3) sc_house_at.nd rfl (Or.inl rfl) (pe_call T.ok__lengths_from hr (by rfl) T.g__lengths_from T.k__lengths_from T.b__lengths_from .nil pass0 (pa_cons (pv 0) (pa_cons (pv 1) pa_nil))))
        (pss_cons (ps_set (i := 4) sc_house_at.nd rfl (Or.inl rfl) (pe_ix (ix_listK (K := K)) (pe_callTy (call_list_dK rfl) (by rfl) T.m_list (by decide +kernel) (pa_cons (pv 3) pa_nil)) (pe_un un_neg pe_int) (fun _ _ => rfl)))
        (pss_cons (ps_set (i := 5) sc_house_at.nd rfl (Or.inl rfl) (pe_meth (pv 0) T.cl_Net T.me_Net__next_of T.ok_Net__next_of (hr.mono (by decide)) T.b_Net__next_of .nil pass0 (pa_cons (pv 4) pa_nil)))
        (pss_cons (ps_set (i := 6) sc_house_at.nd rfl (Or.inl rfl) (pe_op op_sub (pe_op op_add (pe_dget (un1 hr) (pv 3) (pv 4) (fun _ _ => rfl)) (pe_call T.ok_far (hr.mono (by decide)) (by rfl) T.g_far T.k_far T.b_far .nil pass0 (pa_cons (show PE _ _ (tFld K _ _) from pe_fld (pv 0) rfl) (pa_cons (pv 4) (pa_cons (pv 5) pa_nil))))) (pe_dget (un1 hr) (pv 3) (pv 5) (fun _ _ => rfl))))
        (pss_cons (ps_set (i := 7) sc_house_at.nd rfl (Or.inl rfl) (pe_op op_mul ((pe_op op_fdivW (pe_callB (call_max2 rfl) (by rfl) T.m_max (by decide +kernel) (pa_cons pe_int (pa_cons (pe_op op_sub (pv 2) (pe_dget (un1 hr) (pv 3) (pv 5) (fun _ _ => rfl))) pa_nil))) (pv 6))) (pv 6)))
        (pss_cons (show PS _ _ (L2.tLock _) from L2.ps_lock (ps_for PassesOwn.never rfl (pi_items (pv 3)) (pg_tup rfl (pgs_cons (pg_name (i := 8) sc_house_at.nd rfl (Or.inl rfl)) (pgs_cons (pg_name (i := 9) sc_house_at.nd rfl (Or.inl rfl)) pgs_nil))) (pss_one (ps_if (pt_cmpR op_ge (pe_op op_add (pv 9) (pv 7)) (pv 2) (nomark _)) (pss_one (ps_ret (pe_tup (pa_cons (pv 8) (pa_cons (pe_op op_add (pv 9) (pv 7)) pa_nil))))) pss_nil))))
        (pss_one (ps_ret (pe_tup (pa_cons (pv 5) (pa_cons (pe_op op_add (pe_op op_add (pe_dget (un1 hr) (pv 3) (pv 5) (fun _ _ => rfl)) (pv 6)) (pv 7)) pa_nil))))))))))) (pss_cons (ps_asg (pv 1) (pg_tup rfl (pgs_cons (pg_name (i := 2) sc_holds_true.nd rfl (Or.inl rfl)) (pgs_cons (pg_name (i := 3) sc_holds_true.nd rfl (Or.inl rfl)) (pgs_cons (pg_name (i := 4) sc_holds_true.nd rfl (Or.inl rfl)) pgs_nil)))))
        (pss_one (ps_ret (pe_and (pe_cmpR op_ge (pv 4) pe_int (nomark _)) (pe_one (pe_cmpR (op_eqD hr.units) (pe_call T.ok_house_at hr (by rfl) T.g_house_at T.k_house_at T.b_house_at .nil pass0 (pa_cons (pv 0) (pa_cons (pv 2) (pa_cons (pv 4) pa_nil)))) (pe_tup (pa_cons (pv 3) (pa_cons (pv 4) pa_nil))) (nomark _))))))) (pss_cons (ps_set (i := 3) sc_is_faithful.nd rfl (Or.inl rfl) (pe_meth (pv 0) T.cl_Net T.me_Net__next_of T.ok_Net__next_of (hr.mono (by decide)) T.b_Net__next_of .nil pass0 (pa_cons (pv 1) pa_nil)))
        (pss_cons (ps_expr (pe_meth (pv 0) T.cl_Net T.me_Net__check_house T.ok_Net__check_house (hr.mono (by decide)) T.b_Net__check_house .nil pass0 (pa_cons (pv 2) pa_nil)))
        (pss_cons (ps_if (pt_not (pt_val (pe_call T.ok_between (hr.mono (by decide)) (by rfl) T.g_between T.k_between T.b_between .nil pass0 (pa_cons (show PE _ _ (tFld K _ _) from pe_fld (pv 0) rfl) (pa_cons (pv 1) (pa_cons (pv 2) (pa_cons (pv 3) pa_nil))))))) (pss_one (ps_ret pe_bl)) pss_nil)
        (pss_one (ps_ret (pe_call T.ok_holds_true hr (by rfl) T.g_holds_true T.k_holds_true T.b_holds_true .nil pass0 (pa_cons (pv 0) (pa_cons (pe_tup (pa_cons (pv 2) (pa_cons (pv 3) (pa_cons (pe_call T.ok_far (hr.mono (by decide)) (by rfl) T.g_far T.k_far T.b_far .nil pass0 (pa_cons (show PE _ _ (tFld K _ _) from pe_fld (pv 0) rfl) (pa_cons (pv 2) (pa_cons (pv 3) pa_nil)))) pa_nil)))) pa_nil)))))))) (pss_cons (ps_set (i := 3) sc__law_places.nd rfl (Or.inl rfl) (pe_lst pa_nil))
        (pss_cons (ps_for PassesOwn.never rfl (pi_range1 (by rfl) T.m_range (pa_cons (pv 2) pa_nil)) (pg_name (i := 4) sc__law_places.nd rfl (Or.inl rfl)) (pss_cons (ps_set (i := 5) sc__law_places.nd rfl (Or.inl rfl) (pe_call T.ok__law_pick hr (by rfl) T.g__law_pick T.k__law_pick T.b__law_pick .nil pass0 (pa_cons (pv 0) (pa_cons (pe_op op_sub (pv 1) (pv 4)) pa_nil))))
        (pss_cons (ps_for PassesOwn.never rfl (pi_list (pe_callB (cr_sortedK (K := K)) (by rfl) T.m_sorted (by decide +kernel) (pa_cons (pv 3) pa_nil))) (pg_name (i := 6) sc__law_places.nd rfl (Or.inl rfl)) (pss_one (ps_if (pt_cmpR op_le (pv 6) (pv 5) (nomark _)) (pss_one (ps_set (i := 5) sc__law_places.nd rfl (Or.inl rfl) (pe_op op_add (pv 5) pe_int))) pss_nil)))
        (pss_one (ps_expr (pe_bm PySem.F.plainAttrs_list PySem.F.slot_list_append PySem.F.type_list_append mt_append (pv 3) (pa_cons (pv 5) pa_nil)))))))
        (pss_one (ps_ret (pv 3))))) (pss_cons (ps_set (i := 2) sc__law_nexts.nd rfl (Or.inl rfl) pe_dnewK)
        (pss_cons (ps_set (i := 3) sc__law_nexts.nd rfl (Or.inl rfl) (pe_callB (call_lenK (K := K)) (by rfl) T.m_len PySem.boot_len (pa_cons (pv 1) pa_nil)))
        (pss_cons (ps_set (i := 4) sc__law_nexts.nd rfl (Or.inl rfl) pe_int)
        (pss_cons (ps_set (i := 5) sc__law_nexts.nd rfl (Or.inl rfl) pe_int)
        (pss_cons (ps_set (i := 6) sc__law_nexts.nd rfl (Or.inl rfl) pe_int)
        (pss_cons (ps_for PassesOwn.never rfl (pi_range1 (by rfl) T.m_range (pa_cons (pv 3) pa_nil)) (pg_name (i := 7) sc__law_nexts.nd rfl (Or.inl rfl)) (C8.pss_cut (ps_if (pt_cmpR op_eq (pv 7) (pv 5) (nomark _)) (pss_cons (ps_set (i := 4) sc__law_nexts.nd rfl (Or.inl rfl) (pv 7))
        (pss_cons (ps_set (i := 5) sc__law_nexts.nd rfl (Or.inl rfl) (pv 3))
        (C8.pss_cut (ps_if (pt_cmpR op_eq (pe_call T.ok__law_pick hr (by rfl) T.g__law_pick T.k__law_pick T.b__law_pick .nil pass0 (pa_cons (pv 0) (pa_cons pe_int pa_nil))) pe_int (nomark _)) (pss_one (ps_set (i := 5) sc__law_nexts.nd rfl (Or.inl rfl) (pe_op op_add (pe_op op_add (pv 7) pe_int) (pe_call T.ok__law_pick hr (by rfl) T.g__law_pick T.k__law_pick T.b__law_pick .nil pass0 (pa_cons (pv 0) (pa_cons (pe_op op_sub (pv 3) (pv 7)) pa_nil)))))) pss_nil)
        (pss_one (ps_set (i := 6) sc__law_nexts.nd rfl (Or.inl rfl) (pe_op op_add pe_int (pe_call T.ok__law_pick hr (by rfl) T.g__law_pick T.k__law_pick T.b__law_pick .nil pass0 (pa_cons (pv 0) (pa_cons (pe_op op_sub (pv 5) (pv 4)) pa_nil))))))))) pss_nil)
        (pss_one (ps_if (pt_cmpR op_lt (pe_op op_sub (pv 7) (pv 4)) (pe_op op_sub (pv 6) pe_int) (nomark _)) (pss_one (ps_asg (pe_ix (ix_listK (K := K)) (pv 1) (pe_op op_add (pv 7) pe_int) (fun _ _ => rfl)) (pg_sub (pv 2) (pe_ix (ix_listK (K := K)) (pv 1) (pv 7) (fun _ _ => rfl)) (set_dict (un1 hr))))) (pss_one (ps_if (pt_cmpR op_eq (pe_op op_sub (pv 7) (pv 4)) (pe_op op_sub (pv 6) pe_int) (nomark _)) (pss_one (ps_asg (pe_ix (ix_listK (K := K)) (pv 1) (pv 4) (fun _ _ => rfl)) (pg_sub (pv 2) (pe_ix (ix_listK (K := K)) (pv 1) (pv 7) (fun _ _ => rfl)) (set_dict (un1 hr))))) (pss_one (ps_asg (pe_ix (ix_listK (K := K)) (pv 1) (pe_op op_add (pv 4) (pe_call T.ok__law_pick hr (by rfl) T.g__law_pick T.k__law_pick T.b__law_pick .nil pass0 (pa_cons (pv 0) (pa_cons (pe_op op_sub (pv 7) (pv 4)) pa_nil)))) (fun _ _ => rfl)) (pg_sub (pv 2) (pe_ix (ix_listK (K := K)) (pv 1) (pv 7) (fun _ _ => rfl)) (set_dict (un1 hr)))))))))))
        (pss_one (ps_ret (pv 2))))))))) (pss_cons (ps_set (i := 2) sc__law_behinds.nd rfl (Or.inl rfl) pe_dnewK)
        (pss_cons (ps_for PassesOwn.never rfl (pi_list (pv 1)) (pg_name (i := 3) sc__law_behinds.nd rfl (Or.inl rfl)) (pss_one (ps_if (pt_cmpR op_gt (pe_call T.ok__law_pick hr (by rfl) T.g__law_pick T.k__law_pick T.b__law_pick .nil pass0 (pa_cons (pv 0) (pa_cons pe_int pa_nil))) pe_int (nomark _)) (pss_one (ps_asg (pe_ix (ix_listK (K := K)) (pv 1) (pe_call T.ok__law_pick hr (by rfl) T.g__law_pick T.k__law_pick T.b__law_pick .nil pass0 (pa_cons (pv 0) (pa_cons (pe_callB (call_lenK (K := K)) (by rfl) T.m_len PySem.boot_len (pa_cons (pv 1) pa_nil)) pa_nil))) (fun _ _ => rfl)) (pg_sub (pv 2) (pv 3) (set_dict (un1 hr))))) pss_nil)))
        (pss_one (ps_ret (pv 2))))) (pss_cons (ps_set (i := 2) sc__law_letter.nd rfl (Or.inl rfl) (pe_ix (ix_listK (K := K)) (pv 1) (pe_call T.ok__law_pick hr (by rfl) T.g__law_pick T.k__law_pick T.b__law_pick .nil pass0 (pa_cons (pv 0) (pa_cons (pe_callB (call_lenK (K := K)) (by rfl) T.m_len PySem.boot_len (pa_cons (pv 1) pa_nil)) pa_nil))) (fun _ _ => rfl)))
        (pss_cons (ps_set (i := 3) sc__law_letter.nd rfl (Or.inl rfl) (pe_ix (ix_listK (K := K)) (pv 1) (pe_call T.ok__law_pick hr (by rfl) T.g__law_pick T.k__law_pick T.b__law_pick .nil pass0 (pa_cons (pv 0) (pa_cons (pe_callB (call_lenK (K := K)) (by rfl) T.m_len PySem.boot_len (pa_cons (pv 1) pa_nil)) pa_nil))) (fun _ _ => rfl)))
        (pss_cons (ps_set (i := 4) sc__law_letter.nd rfl (Or.inl rfl) (pe_ix (ix_listK (K := K)) (pv 1) (pe_call T.ok__law_pick hr (by rfl) T.g__law_pick T.k__law_pick T.b__law_pick .nil pass0 (pa_cons (pv 0) (pa_cons (pe_callB (call_lenK (K := K)) (by rfl) T.m_len PySem.boot_len (pa_cons (pv 1) pa_nil)) pa_nil))) (fun _ _ => rfl)))
        (pss_cons (ps_set (i := 5) sc__law_letter.nd rfl (Or.inl rfl) (pe_call T.ok__law_pick hr (by rfl) T.g__law_pick T.k__law_pick T.b__law_pick .nil pass0 (pa_cons (pv 0) (pa_cons pe_int pa_nil))))
        (pss_cons (ps_if (pt_cmpR op_eq (pv 5) pe_int (nomark _)) (pss_one (ps_ret (pe_tup (pa_cons pe_str (pa_cons (pv 2) (pa_cons (pv 3) pa_nil)))))) pss_nil)
        (pss_cons (ps_if (pt_cmpR op_eq (pv 5) pe_int (nomark _)) (pss_one (ps_ret (pe_tup (pa_cons pe_str (pa_cons (pv 2) (pa_cons (pv 3) pa_nil)))))) pss_nil)
        (pss_one (ps_ret (pe_tup (pa_cons pe_str (pa_cons (pv 2) (pa_cons (pv 3) (pa_cons (pv 4) pa_nil))))))))))))) (pss_cons (ps_for PassesOwn.never rfl (pi_list (pe_callB (call_sortedDI rfl) (by rfl) T.m_sorted (by decide +kernel) (pa_cons (pv 1) pa_nil))) (pg_name (i := 3) sc__law_kept.nd rfl (Or.inl rfl)) (pss_cons (ps_set (i := 4) sc__law_kept.nd rfl (Or.inl rfl) (pv 3))
        (pss_cons (ps_set (i := 5) sc__law_kept.nd rfl (Or.inl rfl) pe_int)
        (pss_cons (ps_set (i := 6) sc__law_kept.nd rfl (Or.inl rfl) (pv 3))
        (pss_cons (ps_set (i := 7) sc__law_kept.nd rfl (Or.inl rfl) pe_int)
        (pss_one (ps_for PassesOwn.never rfl (pi_range1 (by rfl) T.m_range (pa_cons (pe_op op_mul pe_int (pe_callB call_lenD (by rfl) T.m_len PySem.boot_len (pa_cons (pv 1) pa_nil))) pa_nil)) (pg_name (i := 8) sc__law_kept.nd rfl (Or.inl rfl)) (pss_cons (ps_set (i := 5) sc__law_kept.nd rfl (Or.inl rfl) (pe_op op_add (pv 5) (pe_call T.ok__law_far hr (by rfl) T.g__law_far T.k__law_far T.b__law_far .nil pass0 (pa_cons (pv 0) (pa_cons (pv 4) (pa_cons (pe_dget (un1 hr) (pv 1) (pv 4) (fun _ _ => rfl)) pa_nil))))))
        (pss_cons (ps_set (i := 4) sc__law_kept.nd rfl (Or.inl rfl) (pe_dget (un1 hr) (pv 1) (pv 4) (fun _ _ => rfl)))
        (C8.pss_cut (ps_for PassesOwn.never rfl (pi_range1 (by rfl) T.m_range (pa_cons (pe_callB call_lenD (by rfl) T.m_len PySem.boot_len (pa_cons (pv 2) pa_nil)) pa_nil)) (pg_name (i := 9) sc__law_kept.nd rfl (Or.inl rfl)) (pss_cons (ps_if (pt_cmpR op_ge (pv 7) (pv 5) (nomark _)) (pss_one ps_break) pss_nil)
        (pss_cons (ps_set (i := 7) sc__law_kept.nd rfl (Or.inl rfl) (pe_op op_add (pv 7) (pe_call T.ok__law_far hr (by rfl) T.g__law_far T.k__law_far T.b__law_far .nil pass0 (pa_cons (pv 0) (pa_cons (pv 6) (pa_cons (pe_dget (un1 hr) (pv 2) (pv 6) (fun _ _ => rfl)) pa_nil))))))
        (pss_one (ps_set (i := 6) sc__law_kept.nd rfl (Or.inl rfl) (pe_dget (un1 hr) (pv 2) (pv 6) (fun _ _ => rfl)))))))
        (pss_one (ps_if (PW.pt (pw_or (pt_cmpR op_ne (pv 6) (pv 4) (nomark _)) (pw_or1 (pt_cmpR op_ne (pv 7) (pv 5) (nomark _))))) (pss_one (ps_ret pe_bl)) pss_nil))))))))))))
        (pss_one (ps_ret pe_bl))) (pss_cons (ps_set (i := 6) sc__law_held.nd rfl (Or.inl rfl) (pe_meth0 (pv 0) T.cl_Net T.me_Net__clone T.ok_Net__clone (hr.mono (by decide)) T.b_Net__clone .nil pass0))
        (pss_cons (ps_set (i := 7) sc__law_held.nd rfl (Or.inl rfl) (pe_dget (un1 hr) (pv 2) (pv 3) (fun _ _ => rfl)))
        (pss_cons (ps_set (i := 8) sc__law_held.nd rfl (Or.inl rfl) (pe_callTy call_dictD (by rfl) T.m_dict (by decide +kernel) (pa_cons (pv 2) pa_nil)))
        (pss_cons (ps_asg (pv 4) (pg_sub (pv 8) (pv 3) (set_dict (un1 hr))))
        (pss_cons (ps_if (pt_not (pt_val (pe_call (T.ok__law_same 5) (hr.mono (by decide)) (by rfl) T.g__law_same T.k__law_same T.b__law_same .nil pass0 (pa_cons (pe_meth (pv 6) T.cl_Net T.me_Net__hold T.ok_Net__hold (hr.mono (by decide)) T.b_Net__hold .nil pass0 (pa_cons (pv 3) (pa_cons (pv 4) pa_nil))) (pa_cons (pv 7) pa_nil))))) (pss_one (ps_ret pe_bl)) pss_nil)
        (pss_cons (ps_if (pt_not (pt_val (pe_call (T.ok__law_same 5) (hr.mono (by decide)) (by rfl) T.g__law_same T.k__law_same T.b__law_same .nil pass0 (pa_cons (pe_meth0 (pv 6) T.cl_Net T.me_Net__nexts T.ok_Net__nexts (hr.mono (by decide)) T.b_Net__nexts .nil pass0) (pa_cons (pe_call T.ok__law_ordered (hr.mono (by decide)) (by rfl) T.g__law_ordered T.k__law_ordered T.b__law_ordered .nil pass0 (pa_cons (pv 8) pa_nil)) pa_nil))))) (pss_one (ps_ret pe_bl)) pss_nil)
        (pss_cons (ps_set (i := 9) sc__law_held.nd rfl (Or.inl rfl) (pe_tup (pa_cons (pv 3) (pa_cons (pv 7) (pa_cons (pe_call T.ok__law_far (hr.mono (by decide)) (by rfl) T.g__law_far T.k__law_far T.b__law_far .nil pass0 (pa_cons (pv 1) (pa_cons (pv 3) (pa_cons (pv 7) pa_nil)))) pa_nil)))))
        (pss_one (ps_ret (pe_call (T.ok__law_same 5) (hr.mono (by decide)) (by rfl) T.g__law_same T.k__law_same T.b__law_same .nil pass0 (pa_cons (pe_call T.ok_holds_true (hr.mono (by decide)) (by rfl) T.g_holds_true T.k_holds_true T.b_holds_true .nil pass0 (pa_cons (pv 6) (pa_cons (pv 9) pa_nil))) (pa_cons (pv 5) pa_nil)))))))))))) (pss_cons (ps_if (pt_not (pt_val (pe_call (T.ok__law_same 5) (hr.mono (by decide)) (by rfl) T.g__law_same T.k__law_same T.b__law_same .nil pass0 (pa_cons (pe_meth0 (pv 0) T.cl_Net T.me_Net__nexts T.ok_Net__nexts (hr.mono (by decide)) T.b_Net__nexts .nil pass0) (pa_cons (pe_call T.ok__law_ordered (hr.mono (by decide)) (by rfl) T.g__law_ordered T.k__law_ordered T.b__law_ordered .nil pass0 (pa_cons (pv 1) pa_nil)) pa_nil))))) (pss_one (ps_ret pe_bl)) pss_nil)
        (pss_one (ps_ret (pe_and (pe_call (T.ok__law_same 5) (hr.mono (by decide)) (by rfl) T.g__law_same T.k__law_same T.b__law_same .nil pass0 (pa_cons (pe_meth0 (pv 0) T.cl_Net T.me_Net__befores T.ok_Net__befores (hr.mono (by decide)) T.b_Net__befores .nil pass0) (pa_cons (pe_call T.ok__law_ordered (hr.mono (by decide)) (by rfl) T.g__law_ordered T.k__law_ordered T.b__law_ordered .nil pass0 (pa_cons (pv 2) pa_nil)) pa_nil))) (pe_one (pe_call (T.ok__law_same 5) (hr.mono (by decide)) (by rfl) T.g__law_same T.k__law_same T.b__law_same .nil pass0 (pa_cons (pe_meth0 (pv 0) T.cl_Net T.me_Net__letters T.ok_Net__letters (hr.mono (by decide)) T.b_Net__letters .nil pass0) (pa_cons (pv 3) pa_nil)))))))) (pss_cons (ps_set (i := 1) sc_law.nd rfl (Or.inr rfl) (pe_call T.ok__law_tape (hr.mono (by decide)) (by rfl) T.g__law_tape T.k__law_tape T.b__law_tape .nil pass0 (pa_cons (pv 0) pa_nil)))
        (pss_cons (ps_set (i := 2) sc_law.nd rfl (Or.inl rfl) (pe_call T.ok__law_pick (hr.mono (by decide)) (by rfl) T.g__law_pick T.k__law_pick T.b__law_pick .nil pass0 (pa_cons (pv 1) (pa_cons pe_int pa_nil))))
        (pss_cons (ps_set (i := 3) sc_law.nd rfl (Or.inl rfl) (pe_op op_add pe_int (pe_op op_modN (pe_callTy call_int1 (by rfl) T.m_int (by decide +kernel) (pa_cons (pv 2) pa_nil)) pe_int)))
        (pss_cons (ps_set (i := 4) sc_law.nd rfl (Or.inl rfl) (pe_call T.ok__law_size (hr.mono (by decide)) (by rfl) T.g__law_size T.k__law_size T.b__law_size .nil pass0 (pa_cons (pv 1) (pa_cons (pv 3) pa_nil))))
        (pss_cons (ps_set (i := 5) sc_law.nd rfl (Or.inr rfl) (pe_call T.ok__law_places (hr.mono (by decide)) (by rfl) T.g__law_places T.k__law_places T.b__law_places .nil pass0 (pa_cons (pv 1) (pa_cons (pv 4) (pa_cons (pv 3) pa_nil)))))
        (C8.pss_cut (ps_if (pt_cmpR op_lt (pv 2) pe_int (nomark _)) (pss_one (ps_set (i := 5) sc_law.nd rfl (Or.inr rfl) (pe_callB (cr_sortedK (K := K)) (by rfl) T.m_sorted (by decide +kernel) (pa_cons (pv 5) pa_nil)))) pss_nil)
        (pss_cons (ps_set (i := 6) sc_law.nd rfl (Or.inl rfl) (pe_call T.ok__law_nexts (hr.mono (by decide)) (by rfl) T.g__law_nexts T.k__law_nexts T.b__law_nexts .nil pass0 (pa_cons (pv 1) (pa_cons (pv 5) pa_nil))))
        (pss_cons (ps_set (i := 7) sc_law.nd rfl (Or.inl rfl) (pe_call T.ok__law_behinds (hr.mono (by decide)) (by rfl) T.g__law_behinds T.k__law_behinds T.b__law_behinds .nil pass0 (pa_cons (pv 1) (pa_cons (pv 5) pa_nil))))
        (pss_cons (ps_setLc (i := 8) (own := [("k", 15)]) (g := gName 15) (by rfl) sc_law.nd rfl rfl (sw_true rfl rfl rfl (by decide +kernel)) (pi_range1 (by rfl) T.m_range (pa_cons (pe_call T.ok__law_pick (hr.mono (by decide)) (by rfl) T.g__law_pick T.k__law_pick T.b__law_pick .nil pass0 (pa_cons (pv 1) (pa_cons pe_int pa_nil))) pa_nil)) (blkOk_by (own := [("k", 15)]) (N := ["script", "tape", "mode", "count", "size", "places", "nexts", "behinds", "post", "net", "left", "house", "target", "kept", "table", "k"]) (sc := defScope s_law) (by decide +kernel)) (fun _ _ _ _ _ => pg_name (i := 15) sc_law.nd rfl (Or.inl rfl)) (fun _ _ _ _ _ => pts_nil) (fun _ _ _ _ _ => (pe_call T.ok__law_letter (hr.mono (by decide)) (by rfl) T.g__law_letter T.k__law_letter T.b__law_letter .nil pass0 (pa_cons (pv 1) (pa_cons (pv 5) pa_nil)))))
        (pss_cons (ps_set (i := 9) sc_law.nd rfl (Or.inl rfl) (pe_makeK T.mk_Net T.ok_Net__init (hr.mono (by decide)) (by rfl) T.mc_Net T.kb_Net__init pass0 (pa_cons (pv 4) (pa_cons (pe_callTy call_dictD (by rfl) T.m_dict (by decide +kernel) (pa_cons (pv 6) pa_nil)) pa_nil)) (pk_cons (pe_callTy call_dictD (by rfl) T.m_dict (by decide +kernel) (pa_cons (pv 7) pa_nil)) (pk_cons (pe_callTy (call_list_ofK (K := K)) (by rfl) T.m_list (by decide +kernel) (pa_cons (pv 8) pa_nil)) pk_nil))))
        (pss_cons (ps_set (i := 10) sc_law.nd rfl (Or.inl rfl) pe_int)
        (pss_cons (ps_for PassesOwn.never rfl (pi_list (pe_callB (call_sortedDI rfl) (by rfl) T.m_sorted (by decide +kernel) (pa_cons (pv 6) pa_nil))) (pg_name (i := 11) sc_law.nd rfl (Or.inl rfl)) (pss_one (ps_for PassesOwn.never rfl (pi_list (pe_callB (call_sortedDI rfl) (by rfl) T.m_sorted (by decide +kernel) (pa_cons (pv 6) pa_nil))) (pg_name (i := 12) sc_law.nd rfl (Or.inl rfl)) (pss_cons (ps_set (i := 13) sc_law.nd rfl (Or.inl rfl) pe_bl)
        (C8.pss_cut (ps_if (pt_val (pe_call T.ok__law_between (hr.mono (by decide)) (by rfl) T.g__law_between T.k__law_between T.b__law_between .nil pass0 (pa_cons (pv 4) (pa_cons (pv 11) (pa_cons (pv 12) (pa_cons (pe_dget (un1 hr) (pv 6) (pv 11) (fun _ _ => rfl)) pa_nil)))))) (pss_cons (ps_set (i := 14) sc_law.nd rfl (Or.inl rfl) (pe_callTy call_dictD (by rfl) T.m_dict (by decide +kernel) (pa_cons (pv 6) pa_nil)))
        (pss_cons (ps_asg (pv 12) (pg_sub (pv 14) (pv 11) (set_dict (un1 hr))))
        (pss_cons (ps_set (i := 13) sc_law.nd rfl (Or.inl rfl) (pe_call T.ok__law_kept (hr.mono (by decide)) (by rfl) T.g__law_kept T.k__law_kept T.b__law_kept .nil pass0 (pa_cons (pv 4) (pa_cons (pv 6) (pa_cons (pv 14) pa_nil)))))
        (pss_one (ps_if (pt_not (pt_val (pe_call T.ok__law_held hr (by rfl) T.g__law_held T.k__law_held T.b__law_held .nil pass0 (pa_cons (pv 9) (pa_cons (pv 4) (pa_cons (pv 6) (pa_cons (pv 11) (pa_cons (pv 12) (pa_cons (pv 13) pa_nil))))))))) (pss_one (ps_ret pe_bl)) pss_nil))))) pss_nil)
        (pss_cons (ps_if (pt_not (pt_val (pe_call (T.ok__law_same 1) (hr.mono (by decide)) (by rfl) T.g__law_same T.k__law_same T.b__law_same .nil pass0 (pa_cons (pe_call T.ok_is_faithful (hr.mono (by decide)) (by rfl) T.g_is_faithful T.k_is_faithful T.b_is_faithful .nil pass0 (pa_cons (pv 9) (pa_cons (pv 11) (pa_cons (pv 12) pa_nil)))) (pa_cons (pv 13) pa_nil))))) (pss_one (ps_ret pe_bl)) pss_nil)
        (pss_one (ps_set (i := 10) sc_law.nd rfl (Or.inl rfl) (pe_op op_add (pv 10) (pe_callTy call_int1 (by rfl) T.m_int (by decide +kernel) (pa_cons (pv 13) pa_nil)))))))))))
        (pss_cons (ps_if (pt_not (pt_val (pe_call (T.ok__law_same 1) (hr.mono (by decide)) (by rfl) T.g__law_same T.k__law_same T.b__law_same .nil pass0 (pa_cons (pe_call T.ok_each_held_once (hr.mono (by decide)) (by rfl) T.g_each_held_once T.k_each_held_once T.b_each_held_once .nil pass0 (pa_cons (pv 9) pa_nil)) (pa_cons (pe_cmpR op_eq (pv 10) pe_int (nomark _)) pa_nil))))) (pss_one (ps_ret pe_bl)) pss_nil)
        (pss_one (ps_ret (pe_call T.ok__law_stands (hr.mono (by decide)) (by rfl) T.g__law_stands T.k__law_stands T.b__law_stands .nil pass0 (pa_cons (pv 9) (pa_cons (pv 6) (pa_cons (pv 7) (pa_cons (pv 8) pa_nil)))))))))))))))))))) -/
/-! ### a, b, *c = a tuple -/
theorem un_starT {prog : Program} {w : World} {A : Around} {E : Value → Shared → Prop} {s : Shared} {l : Addr} {items : Array Value} {i : Nat} {Q : List Value → Shared → Prop} (hl : IsTup s.heap l items) (hh : A.handled = none) (hi : i ≤ items.size) (hz : items.size ≤ 16384)
    (h : ∀ h₂ tk, Heap.ExtBut s.heap.objs.size s.heap h₂ → Q (items.toList.take i ++ [.ref h₂.objs.size]) { s with heap := h₂.push (seqObj "list" (items.toList.drop i).toArray 0), toks := tk }) : wpAny (model prog w) A (unpackItems (.ref l) (i + 1) (some i)) Q E s := by
  have hlt : l ≠ s.heap.objs.size := by obtain ⟨o, ho, _⟩ := hl; exact Nat.ne_of_lt (Heap.lt_size ho)
  have hll : l < s.heap.objs.size := by obtain ⟨o, ho, _⟩ := hl; exact Heap.lt_size ho
  unfold unpackItems
  refine wpAny_bind ?_
  unfold notIterableAtAll
  refine wpAny_bind (wpAny_specialOf hl.typeIs slot_tuple_iter.lookup ?_)
  refine wpAny_pure ?_
  simp only [Bool.false_eq_true, if_false]
  refine wpAny_bind (wpAny_holding (iter_tuple hl ?_))
  refine wpAny_bind (wpAny_holding (draw_tuple hlt i 0 _ _ ⟨_, Heap.get?_push_size _ rfl, rfl, rfl⟩ (hl.push _) (by omega) fun h₁ hit₁ hs₁ => ?_))
  have hl₁ : IsTup h₁ l items := (hl.push _).extBut hs₁.extBut hlt
  rw [Nat.zero_add] at hit₁
  have hit₁' := hit₁
  obtain ⟨oi, hoi, _⟩ := hit₁'
  have hl₁' := hl₁
  obtain ⟨ol, hol, _⟩ := hl₁'
  rw [List.drop_zero]
  have hfl : (items.toList.take i).length = i := by rw [List.length_take, Array.length_toList]; omega
  rw [if_neg (show ¬ ((items.toList.take i).length < i) by rw [hfl]; omega)]
  refine wpAny_bind (wpAny_holding (PySem.W.kun_collect (s := { s with heap := h₁ }) (T := "tuple_iterator") (.inr (.inr (.inr rfl))) (Walks.tuple (A := A.in1) hh s.heap.objs.size l hlt items) (fun j u st => st.1.typeIs) (k := i) (by omega) ⟨hit₁, hl₁⟩ (Heap.lt_size hoi) (Heap.lt_size hol) (fun h₂ tk hk => ?_) (by rw [sizeLine_eq]; omega)))
  have hrl : (items.toList.drop i).length = items.size - i := by rw [List.length_drop, Array.length_toList]
  show wpAny _ _ (if (items.toList.drop i).length < i + 1 - 1 - i then _ else _) _ _ _
  rw [if_neg (by rw [hrl]; omega)]
  show wpAny _ _ (newList ((items.toList.drop i).take ((items.toList.drop i).length - (i + 1 - 1 - i))) >>= fun d => pure (items.toList.take i ++ [d] ++ (items.toList.drop i).drop ((items.toList.drop i).length - (i + 1 - 1 - i)))) _ _ _
  have e0 : (items.toList.drop i).length - (i + 1 - 1 - i) = (items.toList.drop i).length := by omega
  rw [e0, List.take_length, List.drop_length]
  simp only [List.append_nil]
  have he : Heap.ExtBut s.heap.objs.size s.heap h₂ := fun b o hb e => hk b o hb (hs₁.extBut b o hb (Heap.get?_push_of_some _ e))
  exact wpAny_bind (wpAny_newList (wpAny_pure (h h₂ tk he)) (by rw [hrl, sizeLine_eq]; omega))
section
variable {X : Cx}
theorem pgs_star {t : Expr} {g : TG} {p : Pos} (h : PG X t g) (hs : (assignEach [.Starred t p] X.env).map (·.2) = [assign t X.env] := by rfl) : PGs X [.Starred t p] (gCons g gNil) := by
  refine ⟨fun pins s σ H vs us Q I r h' => ?_⟩
  obtain ⟨v, vr, e1, h'⟩ := h'
  subst e1
  cases r with
  | cons r rr =>
    rw [hs]
    refine assignInOrder_cons (thn (h.run pins s σ H _ _ _ I r h') fun _ s1 ⟨σ1, H1, I1, q1⟩ => ?_)
    obtain ⟨e, q1⟩ := q1
    subst e
    cases rr
    exact assignInOrder_nil ⟨σ1, H1, I1, q1⟩
def gStar (K : PySem.W.Frag) (i : Nat) (t : TGs) : TG := fun v σ H Q => ∃ a xs, v = .ref a ∧ SqT K H a xs ∧ i ≤ xs.length ∧ xs.length ≤ 1000 ∧ ∀ D, H D = none → t (xs.take i ++ [.ref D]) σ (upd H D (.lst (xs.drop i))) Q
theorem pg_star {es : List Expr} {k : Nat} {t : TGs} {i : Nat} {pos : Pos} (hc : X.calm = true) (h : PGs X es t) (hn : (assignEach es X.env).length = i + 1 := by rfl) (hst : (assignEach es X.env).findIdx? (·.1) = some i := by rfl) : PG X (.Tuple es k pos) (gStar X.K i t) := by
  refine ⟨fun pins s σ H v u Q I r hw => ?_⟩
  obtain ⟨a, xs, e1, hq, hi, hl, hw⟩ := hw
  subst e1
  cases r
  obtain ⟨its, rv, ht, hz⟩ := I.tuple hq
  rw [assign_Tuple]
  refine wpAny_bind (wpAny_standAt ?_)
  unfold unpack
  rw [hn, hst]
  have hlen : its.length = xs.length := rv.length.symm
  refine wpAny_bind (wpAny_holding (un_starT ht (I.ok.hd hc) (by simp [hlen, hi]) (by simp [hlen]; omega) fun h₂ tk he => ?_))
  have I1 : Inv X pins σ H { s with heap := h₂, toks := tk } := I.kept (t' := tk) fun b o e => he b o (Nat.ne_of_lt (Heap.lt_size e)) e
  have vd : Vals (xs.drop i) (its.drop i) := rv.drop i
  have hD : H h₂.objs.size = none := I1.hok.fresh (Nat.le_refl _)
  have I2 : Inv X pins σ (upd H h₂.objs.size (.lst (xs.drop i))) { s with heap := h₂.push (seqObj "list" (its.drop i).toArray 0), toks := tk } := I1.laid (t' := tk) (fun b u e => Heap.get?_push_of_some _ e) (Nat.le_refl _)
    (show ObjOk X.prog X.w _ _ _ (.lst (xs.drop i)) from ⟨by rw [List.length_drop, sizeLine_eq]; omega, its.drop i, 0, vd, Heap.get?_push_size _ rfl⟩)
  have vt : Vals (xs.take i ++ [.ref h₂.objs.size]) (its.take i ++ [.ref h₂.objs.size]) := (rv.take i).append (.cons rfl .nil)
  exact h.run pins _ σ _ _ _ Q I2 (by simpa using vt) (hw _ hD)
end
/-! ### sorted(d.values()) -/
def tSortedVals (td : TE) : TE := fun σ H Q => td σ H fun x H1 => ∃ (a : Addr) (kvs : List (Key × V)) (is : List Int), x = V.ref a ∧ H1 a = some (.dK kvs) ∧ kvs.map (·.2) = is.map V.int ∧ is.length < 64 ∧ ∀ (ys : List Int) (p : Addr), ys.Perm is → ys.Pairwise (· ≤ ·) → H1 p = none → Q (.ref p) (upd H1 p (.lst (ys.map V.int)))
theorem kv_at {κ : Type} {kvs : List (κ × V)} {vs : List (κ × Value)} (r : KV kvs vs) : ∀ {i : Nat} {k : κ} {v : Value}, vs[i]? = some (k, v) → ∃ x, kvs[i]? = some (k, x) ∧ RelV x v := by
  unfold KV at r
  induction r with
  | nil =>
    intro i k v e
    simp at e
  | cons r t ih =>
    intro i k v e
    cases i with
    | zero =>
      have e' := Option.some.inj (show some _ = some (k, v) from e)
      rw [e'] at r
      exact ⟨_, (show some _ = some (k, _) from congrArg some (Prod.ext r.1 rfl)), r.2⟩
    | succ i =>
      obtain ⟨x, h1, h2⟩ := ih (i := i) (k := k) (v := v) (by simpa using e)
      exact ⟨x, by simpa using h1, h2⟩
theorem pe_sortedVals {X : Cx} {o : Expr} {p pos apos mpos : Pos} {td : TE} (hc : X.calm = true) (hg : Gl X "sorted") (hm : X.mg "sorted" = none) (hd : PE X o td) (hbase : attributeBase o "values" X.env (eval o X.env) = eval o X.env := by rfl) (hline : (apos.endLine == mpos.line) = true := by rfl)
    (hse : starEach [Expr.Call (.Attribute o "values" apos) [] [] mpos] X.env = [(false, eval (Expr.Call (.Attribute o "values" apos) [] [] mpos) X.env)] := by rfl) :
    PE X (.Call (.Name "sorted" p) [.Call (.Attribute o "values" apos) [] [] mpos] [] pos) (tSortedVals td) := by
  refine ⟨fun pins s σ H Q I h => ?_⟩
  refine wpAny_Call_Name_kw (ld_blt I hg hm (u := .builtin "sorted") (by first | rfl | decide +kernel) ?_ (by first | decide +kernel | decide) (by first | decide +kernel | decide))
  rw [hse]
  refine PySem.callWith_builtin1 (wpAny_Call_method0_late hbase hline (thn (hd.run pins s σ H _ I h) fun v s1 ⟨x, H1, I1, r1, a, kvs, is, ex, ha, hv, h64, q⟩ => ?_))
  subst ex
  obtain rfl : v = Value.ref a := r1
  obtain ⟨_, hsys, vs, rel, dof⟩ := dk_of I1.hok ha
  obtain ⟨ep, dat⟩ := dof.dictAt
  have dat' := dat
  obtain ⟨ob, es, ho, ex, hdat, hko, hpr, hnd⟩ := dat'
  refine ⟨"dict", "dict.values", PySem.F.plainAttrs_dict, PySem.F.slot_dict_values, PySem.F.type_dict_values, ⟨ob, ho, ex.1⟩, fun b e => ?_, Calls.callWith_builtin rfl (PySem.evalArgs_none ?_)⟩
  · cases e
    exact ⟨ob, ho, ex.2.1⟩
  refine call_meetsIn PySem.F.slot_dict_values ⟨ob, ho, ex.1⟩ PySem.F.entry_dict_values (PySem.F.args_dict_values_1 _) (meets_dict_values (mixKind X.prog X.w) a hsys) ⟨⟨vs, dof⟩, ?_⟩
  have k1 : ∀ b u, s1.heap.get? b = some u → (s1.heap.push { cls := .type "dict_values", data := .fields #[.ref a] }).get? b = some u := fun b u e => Heap.get?_push_of_some _ e
  have dat1 : (s1.heap.push { cls := .type "dict_values", data := .fields #[.ref a] }).DictAt (mixKind X.prog X.w) a vs ep := dat.keep k1
  have hlv : vs.length = is.length := by
    have e1 := congrArg List.length hv
    rw [List.length_map, List.length_map] at e1
    rw [← e1]
    exact (KV.length rel).symm
  have h16 : vs.length ≤ sizeLine := by rw [hlv, sizeLine_eq]; omega
  refine Calls.call_function_entry PyProof.Rows.kind_sorted PyProof.Rows.plain_sorted PyProof.Rows.entry_sorted (PyProof.Rows.args_sorted1 _) ?_
  unfold Builtin.«sorted»
  refine wpAny_bind (m := checkCount "sorted" 1 1 _) (wpAny_pure ?_)
  refine wpAny_bind (PySem.W.kdu_collect (A := X.A.in1) (PySem.W.kdl_values (knd := mixKind X.prog X.w) (r := s1.heap.objs.size) (d := a) (kvs := vs) (ep := ep)) (I.ok.hd hc) ⟨⟨_, Heap.get?_push_size _ rfl, rfl, rfl⟩, dat1⟩ h16 fun h' tk acc hk hacc => ?_)
  have hal : acc.toList.length = is.length := by rw [Array.length_toList, hacc.1, hlv]
  have hS : IntsAre acc.toList is := ints_each hal fun j v e => by
    obtain ⟨k, e1⟩ := hacc.2 j v (by rw [← Array.getElem?_toList]; exact e)
    obtain ⟨x, h1, h2⟩ := kv_at rel e1
    have e2 : (kvs.map (·.2))[j]? = some x := by rw [List.getElem?_map, h1] <;> rfl
    rw [hv, List.getElem?_map] at e2
    obtain ⟨y, hy, e3⟩ := Option.map_eq_some_iff.mp e2
    subst e3
    obtain ⟨t, e4⟩ := h2
    exact ⟨y, t, hy, e4⟩
  have kk : ∀ b u, s1.heap.get? b = some u → h'.get? b = some u := fun b u e => hk b u (k1 b u e)
  have I2 : Inv X pins σ H1 { s1 with heap := h', toks := tk } := I1.kept kk
  refine wpAny_bind (wpAny_newList ?_ (by rw [hal, sizeLine_eq]; omega))
  have hoL : (h'.push (seqObj "list" acc.toList.toArray 0)).get? h'.objs.size = some (seqObj "list" acc.toList.toArray 0) := Heap.get?_push_size _ rfl
  show wpAny _ _ _ _ _ { s1 with heap := h'.push (seqObj "list" acc.toList.toArray 0), toks := tk }
  refine wpAny_bind (wpAny_holding (wpAny_call_entry PyProof.Rows.slot_list_sort ⟨_, hoL, rfl⟩ PyProof.Rows.entry_list_sort
    (PyProof.Rows.list_sort_tree (s := { s1 with heap := h'.push (seqObj "list" acc.toList.toArray 0), toks := tk }) hoL hS (by rw [hal]; exact h64) fun out ys g1 g2 g3 => ⟨_, rfl, ?_⟩) (PyProof.Rows.args_list_sort _)))
  obtain ⟨e', he'⟩ := PyProof.Rows.sortedHeap_at (vs := acc.toList) (out := out) hoL
  have hlen : (ys.map V.int).length ≤ sizeLine := by
    rw [List.length_map, g2.length_eq]
    exact Nat.le_trans (Nat.le_of_lt h64) (by decide)
  refine wpAny_pure ⟨_, rfl, .ref h'.objs.size, upd H1 h'.objs.size (.lst (ys.map V.int)), I2.laid (t' := tk) (fun b u e => ?_) (Nat.le_refl _)
    (show ObjOk X.prog X.w _ _ _ (.lst (ys.map V.int)) from ⟨hlen, out.toList, e', vals_of_ints g1, by rw [Array.toArray_toList]; exact he'⟩), rfl, q ys _ g2 g3 (I2.hok.fresh (Nat.le_refl _))⟩
  have hb : b < h'.objs.size := Heap.lt_size e
  rw [PyProof.Rows.sortedHeap_old (Nat.ne_of_lt hb) (by rw [size_push']; exact Nat.lt_succ_of_lt hb)]
  exact Heap.get?_push_of_some _ e
/-! ### dicts of ints -/
theorem seq_nat {n k : Nat} (h : k < n) : seqIndex? (k : Int) n = some k := by
  refine (ixN_seq (n := n) (i := k) (j := k) ?_).1
  unfold ixN
  rw [if_pos (by omega), if_pos (by omega), Int.toNat_natCast]
/-- a key that a row of pairs over a list without doubles does not have yet -/
theorem valV_none_of {f : Int → V} {ys : List Int} {y : Int} (h : y ∉ ys) : valV (ys.map fun z => ((Sum.inl z : Key), f z)) (Sum.inl y) = none := by
  induction ys with
  | nil => rfl
  | cons z r ih =>
    rw [List.map_cons, valV_neg (fun e => h (List.mem_cons.mpr (Or.inl (Sum.inl.inj e).symm))), ih (fun e => h (List.mem_cons_of_mem _ e))]
theorem not_in_take {ys : List Int} {i : Nat} {y : Int} (hn : ys.Nodup) (h : ys[i]? = some y) : y ∉ ys.take i := by
  intro hm
  obtain ⟨j, hj⟩ := List.mem_iff_getElem?.mp hm
  obtain ⟨hi, e⟩ := List.getElem?_eq_some_iff.mp h
  rw [List.getElem?_take] at hj
  split at hj
  · rename_i hlt
    obtain ⟨hj', e2⟩ := List.getElem?_eq_some_iff.mp hj
    have z : ys[j] = ys[i] := by rw [e2, e]
    have := (List.getElem_inj hn).mp z
    omega
  · cases hj
/-- a dict block over any walk -/
theorem dc_it {J : It} {n : Nat} {G : Hp → Prop} {Y : Nat → Hp → V → Hp → Prop} (w : Walk J n G Y) {g : TG} {tt : TT} {tk tv : TE} {vs : List Nat} {σ : L2.St} {H1 : Hp} {D : Addr} {Qd : Hp → Prop} (Pv : Nat → Hp → Prop) (h0 : Pv 0 (upd H1 D (.dK []))) (hG : ∀ i H, i ≤ n → Pv i H → G H)
    (hs : ∀ i x H H', i < n → Pv i H → Y i H x H' → g x (wipe σ vs) H' fun σ2 H2 => wipe σ2 vs = wipe σ vs ∧ tt σ2 H2 fun b H3 =>
      if b = true then tk σ2 H3 fun y H4 => tv σ2 H4 fun z H5 => ∃ kvs k, y = kV k ∧ H5 D = some (.dK kvs) ∧ kvs.length < sizeLine ∧ Pv (i + 1) (upd H5 D (.dK (putK kvs k z))) else Pv (i + 1) H3) (hd : ∀ H, Pv n H → Qd H) :
    ∃ W : Nat → Nat → Hp → Prop, (∃ m, W 0 m (upd H1 D (.dK []))) ∧ ∀ i m H, W i m H →
      (J.stop i H ∧ Qd H) ∨ (J.go i H ∧ ∃ Nx : Hp → Prop, (∀ H', Nx H' → ∃ m', m' < m ∧ W (i + 1) m' H') ∧ ∀ x H', J.yld i H x H' → g x (wipe σ vs) H' fun σ2 H2 => wipe σ2 vs = wipe σ vs ∧ tt σ2 H2 fun b H3 =>
        if b = true then tk σ2 H3 fun y H4 => tv σ2 H4 fun z H5 => ∃ kvs k, y = kV k ∧ H5 D = some (.dK kvs) ∧ kvs.length < sizeLine ∧ Nx (upd H5 D (.dK (putK kvs k z))) else Nx H3) := by
  refine ⟨fun i m H => i + m = n ∧ Pv i H, ⟨n, Nat.zero_add n, h0⟩, fun i m H hp => ?_⟩
  have q := hG i H (hp.1 ▸ Nat.le_add_right i m) hp.2
  cases m with
  | zero =>
    obtain ⟨rfl, p⟩ := hp
    exact .inl ⟨w.stops H q, hd H p⟩
  | succ m =>
    obtain ⟨e, p⟩ := hp
    have hi : i < n := by omega
    exact .inr ⟨w.goes i H hi q, Pv (i + 1), fun H' p' => ⟨m, Nat.lt_succ_self m, by omega, p'⟩, fun x H' y => hs i x H H' hi p (w.yields i H x H' hi q y)⟩
/-- a dict block over a list that the block leaves as it is -/
theorem dc_list {K : PySem.W.Frag} {a : Addr} {xs : List V} {g : TG} {tt : TT} {tk tv : TE} {vs : List Nat} {σ : L2.St} {H1 : Hp} {D : Addr} {Qd : Hp → Prop} (Pv : Nat → Hp → Prop) (h0 : Pv 0 (upd H1 D (.dK []))) (hl : ∀ i H, i ≤ xs.length → Pv i H → SqL K H a xs)
    (hs : ∀ i x H, xs[i]? = some x → Pv i H → g x (wipe σ vs) H fun σ2 H2 => wipe σ2 vs = wipe σ vs ∧ tt σ2 H2 fun b H3 =>
      if b = true then tk σ2 H3 fun y H4 => tv σ2 H4 fun z H5 => ∃ kvs k, y = kV k ∧ H5 D = some (.dK kvs) ∧ kvs.length < sizeLine ∧ Pv (i + 1) (upd H5 D (.dK (putK kvs k z))) else Pv (i + 1) H3) (hd : ∀ H, Pv xs.length H → Qd H) :
    ∃ W : Nat → Nat → Hp → Prop, (∃ m, W 0 m (upd H1 D (.dK []))) ∧ ∀ i m H, W i m H →
      ((Itl K a).stop i H ∧ Qd H) ∨ ((Itl K a).go i H ∧ ∃ Nx : Hp → Prop, (∀ H', Nx H' → ∃ m', m' < m ∧ W (i + 1) m' H') ∧ ∀ x H', (Itl K a).yld i H x H' → g x (wipe σ vs) H' fun σ2 H2 => wipe σ2 vs = wipe σ vs ∧ tt σ2 H2 fun b H3 =>
        if b = true then tk σ2 H3 fun y H4 => tv σ2 H4 fun z H5 => ∃ kvs k, y = kV k ∧ H5 D = some (.dK kvs) ∧ kvs.length < sizeLine ∧ Nx (upd H5 D (.dK (putK kvs k z))) else Nx H3) :=
  dc_it walk_list Pv h0 hl (fun i x H H' _ p y => by
    obtain ⟨rfl, e⟩ := y
    exact hs i x _ e p) hd
/-- an expression over a dict that is locked meanwhile -/
def tLock (te : TE) : TE := fun σ H Q => ∃ (d : Addr) (kvs : List (Key × V)), H d = some (.dK kvs) ∧ ∀ od, te σ (upd H d (.frz od (.dK kvs))) fun x H' => H' d = some (.frz od (.dK kvs)) ∧ Q x (upd H' d (.dK kvs))
theorem pe_lock {X : Cx} {e : Expr} {te : TE} (he : PE X e te) : PE X e (tLock te) := by
  refine ⟨fun pins s σ H Q I h => ?_⟩
  obtain ⟨d, kvs, hd, q⟩ := h
  have nf := I.nofrz hd trivial
  obtain ⟨od, J⟩ := I.lock hd trivial
  exact thn (he.run pins s σ _ _ J (q od)) fun u s1 ⟨x, H1, I1, r, h1, q1⟩ => ⟨x, _, I1.unlock h1 nf, r, q1⟩
/-! ### the tape of drawn numbers -/
/-- all that was tracked stays, but what stands at t -/
def Kp (t : Addr) (H H' : Hp) : Prop := ∀ b o, b ≠ t → H b = some o → H' b = some o
theorem Kp.refl (t : Addr) (H : Hp) : Kp t H H := fun _ _ _ h => h
theorem Kp.trans {t : Addr} {H H1 H2 : Hp} (a : Kp t H H1) (b : Kp t H1 H2) : Kp t H H2 := fun c o n h => b c o n (a c o n h)
theorem Kp.of_same {t : Addr} {H H' : Hp} (a : Same H H') : Kp t H H' := fun c o _ h => a c o h
theorem Kp.put {t : Addr} {H : Hp} {o : HO} : Kp t H (upd H t o) := fun b u n h => by rw [upd_ne n]; exact h
theorem same_upd {H : Hp} {p : Addr} {o : HO} (h : H p = none) : Same H (upd H p o) := fun b x e => by
  rw [upd_ne (ne_of_none e h)]
  exact e
theorem Kp.new {t : Addr} {H H' : Hp} {p : Addr} {o : HO} (a : Kp t H H') (h : H' p = none) : Kp t H (upd H' p o) := a.trans (.of_same (same_upd h))
def Tape (H : Hp) (t c : Addr) : Prop := ∃ (cs : List Int) (a : Nat) (b k r : Int), H t = some (.lst [.ref c, .int a, .int b, .int k, .int r]) ∧ H c = some (.lst (cs.map V.int)) ∧ c ≠ t ∧ a < cs.length
theorem Tape.same {H H' : Hp} {t c : Addr} (h : Tape H t c) (s : Same H H') : Tape H' t c := by
  obtain ⟨cs, a, b, k, r, h1, h2, h3, h4⟩ := h
  exact ⟨cs, a, b, k, r, s _ _ h1, s _ _ h2, h3, h4⟩
theorem Tape.off {H : Hp} {t c m : Addr} (h : Tape H t c) (n : H m = none) : m ≠ t ∧ m ≠ c := by
  obtain ⟨cs, a, b, k, r, h1, h2, h3, h4⟩ := h
  exact ⟨fun e => ne_of_none h1 n e.symm, fun e => ne_of_none h2 n e.symm⟩
theorem Tape.put {H : Hp} {t c m : Addr} {o : HO} (h : Tape H t c) (n : m ≠ t ∧ m ≠ c) : Tape (upd H m o) t c := by
  obtain ⟨cs, a, b, k, r, h1, h2, h3, h4⟩ := h
  exact ⟨cs, a, b, k, r, by rw [upd_ne n.1.symm]; exact h1, by rw [upd_ne n.2.symm]; exact h2, h3, h4⟩
theorem Tape.set {H : Hp} {t c : Addr} {cs : List Int} {a : Nat} {b k r : Int} (h2 : H c = Option.some (.lst (cs.map V.int))) (h3 : c ≠ t) (h4 : a < cs.length) : Tape (upd H t (.lst [.ref c, .int a, .int b, .int k, .int r])) t c :=
  ⟨cs, a, b, k, r, upd_same, by rw [upd_ne h3]; exact h2, h3, h4⟩
theorem ix5 (a b c d e : V) : ixN [a, b, c, d, e].length 0 = Option.some 0 ∧ ixN [a, b, c, d, e].length 1 = Option.some 1 ∧ ixN [a, b, c, d, e].length 2 = Option.some 2 ∧ ixN [a, b, c, d, e].length 3 = Option.some 3 ∧ ixN [a, b, c, d, e].length 4 = Option.some 4 := ⟨rfl, rfl, rfl, rfl, rfl⟩
theorem sz5 (a b c d e : V) : [a, b, c, d, e].length ≤ sizeLine := by show 5 ≤ sizeLine; decide
section
variable {P : Program} {w : World} {K : PySem.W.Frag} {mg : Str → Option Value} {base : Heap}
def sp__law_tape (K : PySem.W.Frag) : Sp := fun vs H Q _ => ∃ (a : Addr) (ns : List Int), vs = [.ref a] ∧ SqL K H a (ns.map V.int) ∧ ns.length ≤ 1000 ∧ ∀ H' t c, Same H H' → H t = none → Tape H' t c → Q (.ref t) H'
theorem T0.ok__law_tape (T : T0 K mg) : FnOk P w K mg base CX0 1 T.a__law_tape T.fd__law_tape ["script"] (sp__law_tape K) := by
  refine T.F__law_tape.ok sc__law_tape (fun vs H Q E h => ?_) (fun cdv A outer s H vs Q E hr h => ?_)
  · obtain ⟨a, ns, rfl, _⟩ := h
    rfl
  · obtain ⟨a, ns, rfl, hS, hlen, q⟩ := h
    refine ⟨_, (pss_cons (ps_setLc (i := 1) (own := [("cell", 2)]) (g := gName 2) (by rfl) sc__law_tape.nd rfl rfl (sw_true rfl rfl rfl (by decide +kernel)) (pi_list (pv 0)) (blkOk_by (own := [("cell", 2)]) (N := ["script", "cells", "cell"]) (sc := defScope s__law_tape) (by decide +kernel)) (fun _ _ _ _ _ => pg_name (i := 2) sc__law_tape.nd rfl (Or.inl rfl)) (fun _ _ _ _ _ => pts_nil) (fun _ _ _ _ _ => (pe_callB call_abs (by rfl) T.m_abs (by decide +kernel) (pa_cons (pe_callTy call_int1 (by rfl) T.m_int (by decide +kernel) (pa_cons (pv 2) pa_nil)) pa_nil))))
        (C8.pss_cut (ps_if (pt_cmpR op_eq (pe_callB (call_lenK (K := K)) (by rfl) T.m_len PySem.boot_len (pa_cons (pv 1) pa_nil)) pe_int (nomark _)) (pss_one (ps_set (i := 1) sc__law_tape.nd rfl (Or.inl rfl) (pe_lst (pa_cons pe_int pa_nil)))) pss_nil)
        (pss_one (ps_ret (pe_lst (pa_cons (pv 1) (pa_cons pe_int (pa_cons (pe_ix (ix_listK (K := K)) (pv 1) pe_int (fun _ _ => rfl)) (pa_cons pe_int (pa_cons pe_int pa_nil)))))))))), ?_⟩
    -- cells = [..]
    refine ⟨.ref a, rfl, a, rfl, ⟨_, hS⟩, fun D hD => lc_list (K := K) (a := a) (xs := ns.map V.int) (fun i H' => Same H H' ∧ ∃ ms : List Int, ms.length = i ∧ H' D = some (.lst (ms.map V.int))) ⟨same_upd hD, [], rfl, upd_same⟩ (fun i H' _ p => p.1.seq hS) (fun i x H' hx p => ?_) (fun H1 p => ?_)⟩
    · obtain ⟨sm, ms, e1, e2⟩ := p
      rw [List.getElem?_map] at hx
      obtain ⟨n, hn, rfl⟩ := Option.map_eq_some_iff.mp hx
      refine ⟨rfl, ?_⟩
      refine ⟨_, rfl, .inl ⟨_, rfl, _, rfl, ms.map V.int, e2, ?_, ?_⟩⟩
      · have hi : i < ns.length := (List.getElem?_eq_some_iff.mp hn).1
        rw [List.length_map]
        exact small1000' (by omega)
      · refine ⟨fun b o h => ?_, ms ++ [if n < 0 then -n else n], ?_, ?_⟩
        · rw [upd_ne (ne_of_none h hD)]
          exact sm b o h
        · rw [List.length_append, e1]
          rfl
        · rw [upd_same, List.map_append]
          rfl
    · obtain ⟨sm, ms, e1, e2⟩ := p
      rw [List.length_map] at e1
      -- if len(cells) == 0
      refine ⟨fun σ' H' => ∃ (c : Addr) (cs : List Int) (x2 : Option V), σ' = [some (.ref a), some (.ref c), x2] ∧ Same H H' ∧ H c = none ∧ H' c = some (.lst (cs.map V.int)) ∧ 0 < cs.length, ?_, fun σ' H' hM => ?_⟩
      · refine ⟨.ref D, rfl, D, ms.map V.int, rfl, .inl (SqL.of e2), rfl, _, rfl, ite2 (fun e => ?_) (fun e => ?_)⟩
        · refine ⟨by decide, fun p np => ?_⟩
          refine ⟨p, [0], none, rfl, ?_, ?_, upd_same, by decide⟩
          · exact sm.trans (same_upd np)
          · exact sm.free np
        · have h0 : ((ms.map V.int).length : Int) ≠ 0 := fun z => e (decide_eq_true (congrArg V.int z))
          rw [List.length_map] at h0
          exact ⟨D, ms, none, rfl, sm, hD, e2, by omega⟩
      · obtain ⟨c, cs, x2, rfl, sm2, nc, e3, hp⟩ := hM
        refine ⟨.ref c, rfl, .ref c, rfl, c, cs.map V.int, 0, .int (cs[0]), rfl, rfl, SqL.of e3, at_ints hp, sz5 _ _ _ _ _, fun t nt => ?_⟩
        refine q _ t c (sm2.trans (same_upd nt)) (sm2.free nt) (Tape.set (a := 0) e3 (ne_of_none e3 nt) hp)
def sp__law_pick (K : PySem.W.Frag) : Sp := fun vs H Q _ => ∃ (t c : Addr) (n : Int), vs = [.ref t, .int n] ∧ Tape H t c ∧ 0 < n ∧ n ≤ 4000000000 ∧ ∀ x H', 0 ≤ x → x < n → Kp t H H' → Tape H' t c → Q (.int x) H'
theorem T0.ok__law_pick (T : T0 K mg) : FnOk P w K mg base CX0 1 T.a__law_pick T.fd__law_pick ["tape", "size"] (sp__law_pick K) := by
  refine T.F__law_pick.ok sc__law_pick (fun vs H Q E h => ?_) (fun cdv A outer s H vs Q E hr h => ?_)
  · obtain ⟨t, c, n, rfl, _⟩ := h
    rfl
  · obtain ⟨t, c, n, rfl, ⟨cs, a, b, k, r, hT, hC, nct, ha⟩, hn0, hn1, q⟩ := h
    refine ⟨_, (pss_cons (ps_set (i := 2) sc__law_pick.nd rfl (Or.inl rfl) (pe_ix (ix_listK (K := K)) (pv 0) pe_int (fun _ _ => rfl)))
        (pss_cons (ps_set (i := 3) sc__law_pick.nd rfl (Or.inl rfl) (pe_ix (ix_listK (K := K)) (pv 2) (pe_ix (ix_listK (K := K)) (pv 0) pe_int (fun _ _ => rfl)) (fun _ _ => rfl)))
        (pss_cons (ps_set (i := 4) sc__law_pick.nd rfl (Or.inl rfl) (pe_op op_add (pe_ix (ix_listK (K := K)) (pv 0) pe_int (fun _ _ => rfl)) (pe_op op_mul pe_int (pe_ix (ix_listK (K := K)) (pv 0) pe_int (fun _ _ => rfl)))))
        (C8.pss_cut (ps_if (PW.pt (pw_and (pt_cmpR op_ge (pv 3) (pe_op op_pow pe_int pe_int) (nomark _)) (pw_and1 (pt_cmpR op_eq (pe_ix (ix_listK (K := K)) (pv 0) pe_int (fun _ _ => rfl)) pe_int (nomark _))))) (pss_cons (ps_set (i := 5) sc__law_pick.nd rfl (Or.inl rfl) (pe_op op_modN (pe_callTy call_int1 (by rfl) T.m_int (by decide +kernel) (pa_cons (pe_ix (ix_listK (K := K)) (pv 0) pe_int (fun _ _ => rfl)) pa_nil)) (pv 1)))
        (pss_cons (ps_asg ((pe_op op_fdivW (pe_ix (ix_listK (K := K)) (pv 0) pe_int (fun _ _ => rfl)) (pv 1))) (pg_sub (pv 0) pe_int set_list))
        (pss_one (ps_set (i := 6) sc__law_pick.nd rfl (Or.inl rfl) (pe_cmpR op_eq (pe_ix (ix_listK (K := K)) (pv 0) pe_int (fun _ _ => rfl)) pe_int (nomark _)))))) (pss_cons (ps_set (i := 7) sc__law_pick.nd rfl (Or.inl rfl) (pe_op op_modN (pe_callTy call_int1 (by rfl) T.m_int (by decide +kernel) (pa_cons (pe_op op_add (pe_op op_add (pv 3) (pe_op op_mul pe_int (pv 4))) pe_int) pa_nil)) pe_int))
        (pss_cons (ps_set (i := 7) sc__law_pick.nd rfl (Or.inl rfl) (pe_op op_modN (pe_callTy call_int1 (by rfl) T.m_int (by decide +kernel) (pa_cons (pe_op op_mul (pv 7) (pe_op op_add (pv 7) pe_int)) pa_nil)) pe_int))
        (pss_cons (ps_set (i := 7) sc__law_pick.nd rfl (Or.inl rfl) (pe_op op_modN (pe_callTy call_int1 (by rfl) T.m_int (by decide +kernel) (pa_cons (pe_op op_add (pe_op op_mul (pv 7) (pe_op op_add (pv 7) pe_int)) (pe_op op_mul pe_int (pv 4))) pa_nil)) pe_int))
        (pss_cons (ps_set (i := 5) sc__law_pick.nd rfl (Or.inl rfl) (pe_op op_modN (pe_callTy call_int1 (by rfl) T.m_int (by decide +kernel) (pa_cons (pe_op op_fdivN (pv 7) pe_int) pa_nil)) (pv 1)))
        (pss_one (ps_set (i := 6) sc__law_pick.nd rfl (Or.inl rfl) (pe_cmpR op_eq (pe_op op_modN (pe_callTy call_int1 (by rfl) T.m_int (by decide +kernel) (pa_cons (pv 4) pa_nil)) pe_int) pe_int (nomark _)))))))))
        (pss_cons (ps_asg (pe_op op_add (pe_ix (ix_listK (K := K)) (pv 0) pe_int (fun _ _ => rfl)) pe_int) (pg_sub (pv 0) pe_int set_list))
        (C8.pss_cut (ps_if (pt_val (pv 6)) (pss_cons (ps_asg pe_int (pg_sub (pv 0) pe_int set_list))
        (pss_cons (ps_asg (pe_op op_add (pe_ix (ix_listK (K := K)) (pv 0) pe_int (fun _ _ => rfl)) pe_int) (pg_sub (pv 0) pe_int set_list))
        (C8.pss_cut (ps_if (pt_cmpR op_eq (pe_ix (ix_listK (K := K)) (pv 0) pe_int (fun _ _ => rfl)) (pe_callB (call_lenK (K := K)) (by rfl) T.m_len PySem.boot_len (pa_cons (pv 2) pa_nil)) (nomark _)) (pss_cons (ps_asg pe_int (pg_sub (pv 0) pe_int set_list))
        (pss_one (ps_asg (pe_op op_add (pe_ix (ix_listK (K := K)) (pv 0) pe_int (fun _ _ => rfl)) pe_int) (pg_sub (pv 0) pe_int set_list)))) pss_nil)
        (pss_one (ps_asg (pe_ix (ix_listK (K := K)) (pv 2) (pe_ix (ix_listK (K := K)) (pv 0) pe_int (fun _ _ => rfl)) (fun _ _ => rfl)) (pg_sub (pv 0) pe_int set_list)))))) pss_nil)
        (pss_one (ps_ret (pv 5))))))))), ?_⟩
    have st : SqL K H t [.ref c, .int a, .int b, .int k, .int r] := SqL.of hT
    have sc : SqL K H c (cs.map V.int) := SqL.of hC
    -- cells = tape[0]; cell = cells[tape[1]]
    refine ⟨.ref t, rfl, t, _, 0, .ref c, rfl, rfl, st, rfl, ?_⟩
    refine ⟨.ref c, rfl, .ref t, rfl, t, _, 1, .int a, rfl, rfl, st, rfl, c, _, a, .int (cs[a]), rfl, rfl, sc, at_ints ha, ?_⟩
    -- k = tape[3] + 61 * tape[4]
    refine ⟨.ref t, rfl, t, _, 3, .int k, rfl, rfl, st, rfl, .ref t, rfl, t, _, 4, .int r, rfl, rfl, st, rfl, 61, r, rfl, rfl, .inl (by decide), _, _, rfl, rfl, ?_⟩
    refine ⟨fun σ' H' => ∃ (x : Int) (u : Bool) (b' : Int) (y : Option V), σ' = [some (.ref t), some (.int n), some (.ref c), some (.int cs[a]), some (.int (k + 61 * r)), some (.int x), some (.bl u), y] ∧ 0 ≤ x ∧ x < n ∧ H' = upd H t (.lst [.ref c, .int a, .int b', .int k, .int r]), ?_, fun σ' H' hM => ?_⟩
    · -- if cell >= 10 ** 18 and tape[4] == 0
      have hn : n ≠ 0 := by omega
      have fm : ∀ x : Int, 0 ≤ x.fmod n ∧ x.fmod n < n := fun x => fmod_range x hn0
      refine ⟨.int cs[a], rfl, 10, 18, rfl, rfl, ⟨by decide, by decide, by decide⟩, _, _, rfl, rfl, _, rfl, ite2 (fun _ => ?A) (fun _ => ?no1)⟩
      case' A => refine ⟨.ref t, rfl, t, _, 4, .int r, rfl, rfl, st, rfl, rfl, _, rfl, ite2 (fun _ => ?yes) (fun _ => ?no2)⟩
      case yes =>
        walk_at "go"
        exact ⟨_, _, _, none, rfl, (fm _).1, (fm _).2, rfl⟩
      case no1 | no2 =>
        walk_at "go"
        exact ⟨_, _, b, _, rfl, (fm _).1, (fm _).2, upd_self hT⟩
    · obtain ⟨x, u, b', y, rfl, hx0, hx1, rfl⟩ := hM
      have sc' : ∀ xs, SqL K (upd H t (.lst xs)) c (cs.map V.int) := fun xs => SqL.of ((upd_ne nct).trans hC)
      -- tape[3] = tape[3] + 1
      walk_at "go"
      rw [upd_upd]
      refine ⟨fun σ' H' => ∃ (a' : Nat) (b2 k2 r2 : Int), a' < cs.length ∧ σ' = [some (.ref t), some (.int n), some (.ref c), some (.int cs[a]), some (.int (k + 61 * r)), some (.int x), some (.bl u), y] ∧ H' = upd H t (.lst [.ref c, .int a', .int b2, .int k2, .int r2]), ?_, fun σ' H' hM => ?_⟩
      · refine ⟨_, rfl, _, rfl, ?_⟩
        cases u with
        | false => exact iteF ⟨a, b', k + 1, r, ha, rfl, rfl⟩
        | true =>
          refine iteT ?_
          -- tape[3] = 0; tape[1] = tape[1] + 1
          walk_at "go"
          rw [upd_upd]
          walk_at "go"
          rw [upd_upd]
          refine ⟨fun σ' H' => ∃ (a' : Nat) (r2 : Int), a' < cs.length ∧ σ' = [some (.ref t), some (.int n), some (.ref c), some (.int cs[a]), some (.int (k + 61 * r)), some (.int x), some (.bl true), y] ∧ H' = upd H t (.lst [.ref c, .int a', .int b', .int 0, .int r2]), ?_, fun σ' H' hM => ?_⟩
          · -- if tape[1] == len(cells)
            refine ⟨_, rfl, t, _, 1, .int (a + 1), rfl, rfl, SqL.of upd_same, rfl, ?_⟩
            refine ⟨_, rfl, c, _, rfl, .inl (sc' _), rfl, _, rfl, ite2 (fun e => ?_) (fun e => ?_)⟩
            · walk_at "go"
              rw [upd_upd]
              walk_at "go"
              rw [upd_upd]
              exact ⟨0, r + 1, by omega, rfl, rfl⟩
            · rw [List.length_map] at e
              refine ⟨a + 1, r, ?_, rfl, rfl⟩
              have h0 : ((a : Int) + 1) ≠ (cs.length : Int) := fun z => e (decide_eq_true (congrArg V.int z))
              omega
          · obtain ⟨a', r2, ha2, rfl, rfl⟩ := hM
            -- tape[2] = cells[tape[1]]
            refine ⟨_, rfl, _, rfl, t, _, 1, .int a', rfl, rfl, SqL.of upd_same, rfl, c, _, a', .int cs[a'], rfl, rfl, sc' _, at_ints ha2, ?_⟩
            walk_at "go"
            exact ⟨a', _, _, _, ha2, rfl, upd_upd⟩
      · obtain ⟨a', b2, k2, r2, ha2, rfl, rfl⟩ := hM
        exact ⟨_, rfl, q _ _ hx0 hx1 .put (Tape.set hC nct ha2)⟩
local macro_rules | `(tactic| walk_at "kp") => `(tactic| first
  | exact Kp.refl _ _
  | assumption
  | (refine Kp.trans ?_ (by assumption); walk_at "kp"))
local macro_rules | `(tactic| walk_at "pick") => `(tactic|
  refine ⟨_, _, _, rfl, (by assumption), (by first | decide | omega), (by first | decide | omega), fun x H' h0 h1 kp hT => ?_⟩)
def sp__law_size (K : PySem.W.Frag) : Sp := fun vs H Q _ => ∃ (t c : Addr) (n : Int), vs = [.ref t, .int n] ∧ Tape H t c ∧ n ≤ 100 ∧ ∀ x H', 1 ≤ x → n ≤ x → x ≤ 1000000000 → Kp t H H' → Tape H' t c → Q (.int x) H'
theorem T0.ok__law_size (T : T0 K mg) : FnOk P w K mg base CX0 2 T.a__law_size T.fd__law_size ["tape", "count"] (sp__law_size K) := by
  refine T.F__law_size.ok sc__law_size (fun vs H Q E h => ?_) (fun cdv A outer s H vs Q E hr h => ?_)
  · obtain ⟨t, c, n, rfl, _⟩ := h
    rfl
  · obtain ⟨t, c, n, rfl, hT, hn, q⟩ := h
    refine ⟨_, (pss_cons (ps_set (i := 2) sc__law_size.nd rfl (Or.inl rfl) (pe_call T.ok__law_pick hr (by rfl) T.g__law_pick T.k__law_pick T.b__law_pick .nil pass0 (pa_cons (pv 0) (pa_cons pe_int pa_nil))))
        (pss_cons (ps_set (i := 3) sc__law_size.nd rfl (Or.inl rfl) (pe_callB (call_max2 rfl) (by rfl) T.m_max (by decide +kernel) (pa_cons pe_int (pa_cons (pv 1) pa_nil))))
        (pss_cons (ps_if (pt_cmpR op_eq (pv 2) pe_int (nomark _)) (pss_one (ps_ret (pv 3))) pss_nil)
        (pss_cons (ps_if (pt_cmpR op_eq (pv 2) pe_int (nomark _)) (pss_one (ps_ret (pe_op op_add (pv 3) (pe_call T.ok__law_pick hr (by rfl) T.g__law_pick T.k__law_pick T.b__law_pick .nil pass0 (pa_cons (pv 0) (pa_cons pe_int pa_nil)))))) pss_nil)
        (pss_cons (ps_if (pt_cmpR op_eq (pv 2) pe_int (nomark _)) (pss_one (ps_ret (pe_op op_add (pv 3) (pe_call T.ok__law_pick hr (by rfl) T.g__law_pick T.k__law_pick T.b__law_pick .nil pass0 (pa_cons (pv 0) (pa_cons pe_int pa_nil)))))) pss_nil)
        (pss_one (ps_ret (pe_op op_add (pe_op op_add (pv 3) pe_int) (pe_call T.ok__law_pick hr (by rfl) T.g__law_pick T.k__law_pick T.b__law_pick .nil pass0 (pa_cons (pv 0) (pa_cons pe_int pa_nil))))))))))), ?_⟩
    refine ⟨_, rfl, ?_⟩
    walk_at "pick"
    rename_i x H1 h0 h1 kp hT1
    refine ⟨.int n, rfl, 1, n, rfl, ?_⟩
    have l1 : 1 ≤ (if n > 1 then n else (1 : Int)) ∧ n ≤ (if n > 1 then n else (1 : Int)) ∧ (if n > 1 then n else (1 : Int)) ≤ 100 := by split <;> omega
    revert l1
    generalize (if n > 1 then n else (1 : Int)) = l
    intro l1
    refine ⟨_, rfl, rfl, _, rfl, ite2 (fun _ => ?_) (fun _ => ?_)⟩
    · exact ⟨_, rfl, q _ _ (by omega) (by omega) (by omega) (by walk_at "kp") hT1⟩
    refine ⟨_, rfl, rfl, _, rfl, ite2 (fun _ => ?_) (fun _ => ?_)⟩
    · refine ⟨_, rfl, _, rfl, ?_⟩
      walk_at "pick"
      exact ⟨_, _, rfl, rfl, q _ _ (by omega) (by omega) (by omega) (by walk_at "kp") (by assumption)⟩
    refine ⟨_, rfl, rfl, _, rfl, ite2 (fun _ => ?_) (fun _ => ?_)⟩
    · refine ⟨_, rfl, _, rfl, ?_⟩
      walk_at "pick"
      exact ⟨_, _, rfl, rfl, q _ _ (by omega) (by omega) (by omega) (by walk_at "kp") (by assumption)⟩
    · refine ⟨_, rfl, _, _, rfl, rfl, _, rfl, ?_⟩
      walk_at "pick"
      exact ⟨_, _, rfl, rfl, q _ _ (by omega) (by omega) (by omega) (by walk_at "kp") (by assumption)⟩
/-! ### _law_same -/
theorem op_isB {X : Cx} : OpR X (compareOp .Is) (fun x y H Q => ∃ b, y = .bl b ∧ Q (.bl (decide (x = .bl b))) H) := by
  intro pins s σ H x y v u Q I rx ry h
  obtain ⟨b, rfl, q⟩ := h
  cases (show u = Value.bool b from ry)
  cases x with
  | bl c =>
    cases (show v = Value.bool c from rx)
    refine is_bool (fin_bl I q ?_)
    cases b <;> cases c <;> rfl
  | non => cases rx; exact wpAny_is_plain rfl (fin_bl I q rfl)
  | int _ => obtain ⟨t, rfl⟩ := rx; exact wpAny_is_plain rfl (fin_bl I q rfl)
  | str _ => obtain ⟨t, rfl⟩ := rx; exact wpAny_is_plain rfl (fin_bl I q rfl)
  | byt _ => obtain ⟨t, rfl⟩ := rx; exact wpAny_is_plain rfl (fin_bl I q rfl)
  | flt _ => obtain ⟨t, rfl⟩ := rx; exact wpAny_is_plain rfl (fin_bl I q rfl)
  | ref _ => cases rx; exact wpAny_is_plain rfl (fin_bl I q rfl)
  | ty _ => cases rx; exact wpAny_is_plain rfl (fin_bl I q rfl)
def atomV : V → Bool
  | .non => true
  | .bl _ => true
  | .int _ => true
  | .str _ => true
  | _ => false
/-- the same data, of at most this depth -/
inductive Sm (K : PySem.W.Frag) : Nat → Hp → V → V → Prop
  | atom {d : Nat} {H : Hp} {x : V} : atomV x = true → Sm K (d + 1) H x x
  | lst {d : Nat} {H : Hp} {a b : Addr} {xs ys : List V} : SqL K H a xs → SqL K H b ys → xs.length = ys.length → ys.length ≤ 100000 → (∀ (i : Nat) x y, xs[i]? = some x → ys[i]? = some y → Sm K d H x y) → Sm K (d + 1) H (.ref a) (.ref b)
  | tup {d : Nat} {H : Hp} {a b : Addr} {xs ys : List V} : SqT K H a xs → SqT K H b ys → xs.length = ys.length → ys.length ≤ 100000 → (∀ (i : Nat) x y, xs[i]? = some x → ys[i]? = some y → Sm K d H x y) → Sm K (d + 1) H (.ref a) (.ref b)
  | dic {d : Nat} {H : Hp} {a b : Addr} {xs ys : List (Key × V)} : H a = some (.dK xs) → H b = some (.dK ys) → xs.length = ys.length → ys.length ≤ 100000 → (∀ (i : Nat) x y, xs[i]? = some x → ys[i]? = some y → x.1 = y.1) →
      (∀ (i : Nat) x y, xs[i]? = some x → ys[i]? = some y → Sm K (d + 1) H x.2 y.2) → Sm K (d + 4) H (.ref a) (.ref b)
theorem same_t {K : PySem.W.Frag} {H H' : Hp} {a : Addr} {xs : List V} (e : Same H H') (h : SqT K H a xs) : SqT K H' a xs := by
  rcases h with (h | ⟨o, h⟩) | h
  · exact .inl (.inl (e _ _ h))
  · exact .inl (.inr ⟨o, e _ _ h⟩)
  · exact .inr h
theorem Sm.same {K : PySem.W.Frag} {d : Nat} {H : Hp} {x y : V} (h : Sm K d H x y) : ∀ {H' : Hp}, Same H H' → Sm K d H' x y := by
  induction h with
  | atom h => exact fun _ => .atom h
  | lst h1 h2 h3 h4 _ ih => exact fun s => .lst (s.seq h1) (s.seq h2) h3 h4 fun i x y e1 e2 => ih i x y e1 e2 s
  | tup h1 h2 h3 h4 _ ih => exact fun s => .tup (same_t s h1) (same_t s h2) h3 h4 fun i x y e1 e2 => ih i x y e1 e2 s
  | dic h1 h2 h3 h4 h5 _ ih => exact fun s => .dic (s _ _ h1) (s _ _ h2) h3 h4 h5 fun i x y e1 e2 => ih i x y e1 e2 s
theorem Sm.succ {K : PySem.W.Frag} {d : Nat} {H : Hp} {x y : V} (h : Sm K d H x y) : Sm K (d + 1) H x y := by
  induction h with
  | atom h => exact .atom h
  | lst h1 h2 h3 h4 _ ih => exact .lst h1 h2 h3 h4 ih
  | tup h1 h2 h3 h4 _ ih => exact .tup h1 h2 h3 h4 ih
  | dic h1 h2 h3 h4 h5 _ ih => exact .dic h1 h2 h3 h4 h5 ih
theorem Sm.int {K : PySem.W.Frag} {d : Nat} {H : Hp} {i j : Int} (h : i = j) : Sm K (d + 1) H (.int i) (.int j) := by subst h; exact .atom rfl
theorem Sm.bl {K : PySem.W.Frag} {d : Nat} {H : Hp} {i j : Bool} (h : i = j) : Sm K (d + 1) H (.bl i) (.bl j) := by subst h; exact .atom rfl
theorem tyx_l {K : PySem.W.Frag} {H : Hp} {a : Addr} {xs : List V} (h : SqL K H a xs) : TyX K H (.ref a) (.type "list") := by
  rcases h with (h | ⟨o, h⟩) | ⟨o, its, n, h1, h2, _⟩
  · exact .base (.lst h)
  · exact .base (.frz h)
  · exact .kList h1 h2
theorem tyx_t {K : PySem.W.Frag} {H : Hp} {a : Addr} {xs : List V} (h : SqT K H a xs) : TyX K H (.ref a) (.type "tuple") := by
  rcases h with (h | ⟨o, h⟩) | ⟨o, its, n, h1, h2, _⟩
  · exact .base (.tup h)
  · exact .fTuple h
  · exact .kTuple h1 h2
theorem pair_ix {R : V → V → Prop} : ∀ {xs ys : List V}, Paired R xs ys → ∀ (i : Nat) x y, xs[i]? = some x → ys[i]? = some y → R x y
  | _, _, .nil, i, x, y, h, _ => by simp at h
  | _, _, .cons r _, 0, x, y, h, g => by
    cases h
    cases g
    exact r
  | _, _, .cons _ t, i + 1, x, y, h, g => pair_ix t i x y h g
theorem Sm.lstP {K : PySem.W.Frag} {d : Nat} {H : Hp} {a b : Addr} {xs ys : List V} (h1 : SqL K H a xs) (h2 : SqL K H b ys) (h3 : ys.length ≤ 100000) (p : Paired (Sm K d H) xs ys) : Sm K (d + 1) H (.ref a) (.ref b) :=
  .lst h1 h2 p.length h3 (pair_ix p)
theorem Sm.tupP {K : PySem.W.Frag} {d : Nat} {H : Hp} {a b : Addr} {xs ys : List V} (h1 : SqT K H a xs) (h2 : SqT K H b ys) (h3 : ys.length ≤ 100000) (p : Paired (Sm K d H) xs ys) : Sm K (d + 1) H (.ref a) (.ref b) :=
  .tup h1 h2 p.length h3 (pair_ix p)
def sp__law_same (d : Nat) (K : PySem.W.Frag) : Sp := fun vs H Q _ => ∃ x y, vs = [x, y] ∧ Sm K d H x y ∧ ∀ H', Same H H' → Q (.bl true) H'
theorem fnok_never {CX : CXT} {k : Nat} {f : Addr} {fd : FuncData} {ps : List Str} {sp : Sp} (h : ∀ vs H Q E, ¬ sp vs H Q E) : FnOk P w K mg base CX k f fd ps sp where
  len := fun vs H Q E z => (h vs H Q E z).elim
  run := fun A outer s H args us vs Q E hr h0 hb hv z => (h vs H Q E z).elim
theorem T0.ok__law_same_succ (T : T0 K mg) {d : Nat} (G : FnOk P w K mg base CX0 d T.a__law_same T.fd__law_same ["actual", "due"] (sp__law_same d K)) : FnOk P w K mg base CX0 (d + 1) T.a__law_same T.fd__law_same ["actual", "due"] (sp__law_same (d + 1) K) := by
  refine T.F__law_same.ok sc__law_same (fun vs H Q E h => ?_) (fun cdv A outer s H vs Q E hr h => ?_)
  · obtain ⟨x, y, rfl, _⟩ := h
    rfl
  · obtain ⟨x, y, rfl, hS, q⟩ := h
    refine ⟨_, (pss_cons (ps_if (pt_cmpR op_isN (pv 1) pe_non (nomark _)) (pss_one (ps_ret (pe_cmpR op_isN (pv 0) pe_non (nomark _)))) pss_nil)
        (pss_cons (ps_if (pt_cmpR op_isB (pv 1) pe_bl (nomark _)) (pss_one (ps_ret (pe_cmpR op_isB (pv 0) pe_bl (nomark _)))) pss_nil)
        (pss_cons (ps_if (pt_cmpR op_isB (pv 1) pe_bl (nomark _)) (pss_one (ps_ret (pe_cmpR op_isB (pv 0) pe_bl (nomark _)))) pss_nil)
        (pss_cons (ps_if (pt_val (pe_callB (call_isinstK (K := K)) (by rfl) T.m_isinstance (by decide +kernel) (pa_cons (pv 1) (pa_cons (pe_bltn (v := .ty "int") (by rfl) T.m_int (by decide +kernel) rfl) pa_nil)))) (pss_one (ps_ret (pe_and (pe_callB (call_isinstK (K := K)) (by rfl) T.m_isinstance (by decide +kernel) (pa_cons (pv 0) (pa_cons (pe_bltn (v := .ty "int") (by rfl) T.m_int (by decide +kernel) rfl) pa_nil))) (pe_and (pe_not (pe_callB (call_isinstK (K := K)) (by rfl) T.m_isinstance (by decide +kernel) (pa_cons (pv 0) (pa_cons (pe_bltn (v := .ty "bool") (by rfl) T.m_bool (by decide +kernel) rfl) pa_nil)))) (pe_one (pe_cmpR op_eq (pv 0) (pv 1) (nomark _))))))) pss_nil)
        (pss_cons (ps_if (pt_val (pe_callB (call_isinstK (K := K)) (by rfl) T.m_isinstance (by decide +kernel) (pa_cons (pv 1) (pa_cons (pe_bltn (v := .ty "str") (by rfl) T.m_str (by decide +kernel) rfl) pa_nil)))) (pss_one (ps_ret (pe_and (pe_callB (call_isinstK (K := K)) (by rfl) T.m_isinstance (by decide +kernel) (pa_cons (pv 0) (pa_cons (pe_bltn (v := .ty "str") (by rfl) T.m_str (by decide +kernel) rfl) pa_nil))) (pe_one (pe_cmpR op_eq (pv 0) (pv 1) (nomark _)))))) pss_nil)
        (pss_cons (ps_if (pt_val (pe_callB (call_isinstK (K := K)) (by rfl) T.m_isinstance (by decide +kernel) (pa_cons (pv 1) (pa_cons (pe_bltn (v := .ty "dict") (by rfl) T.m_dict (by decide +kernel) rfl) pa_nil)))) (pss_one (ps_ret (pe_and (pe_callB (call_isinstK (K := K)) (by rfl) T.m_isinstance (by decide +kernel) (pa_cons (pv 0) (pa_cons (pe_bltn (v := .ty "dict") (by rfl) T.m_dict (by decide +kernel) rfl) pa_nil))) (pe_one (pe_call G hr (by rfl) T.g__law_same T.k__law_same T.b__law_same .nil pass0 (pa_cons (LiI.pe_listItems rfl (pv 0) (by rfl) T.m_list (by decide +kernel)) (pa_cons (LiI.pe_listItems rfl (pv 1) (by rfl) T.m_list (by decide +kernel)) pa_nil))))))) pss_nil)
        (C8.pss_cut (ps_if (PW.pt (pw_and (pt_val (pe_callB (call_isinstK (K := K)) (by rfl) T.m_isinstance (by decide +kernel) (pa_cons (pv 1) (pa_cons (pe_bltn (v := .ty "tuple") (by rfl) T.m_tuple (by decide +kernel) rfl) pa_nil)))) (pw_and1 (pt_not (pt_val (pe_callB (call_isinstK (K := K)) (by rfl) T.m_isinstance (by decide +kernel) (pa_cons (pv 0) (pa_cons (pe_bltn (v := .ty "tuple") (by rfl) T.m_tuple (by decide +kernel) rfl) pa_nil)))))))) (pss_one (ps_ret pe_bl)) pss_nil)
        (C8.pss_cut (ps_if (PW.pt (pw_and (pt_val (pe_callB (call_isinstK (K := K)) (by rfl) T.m_isinstance (by decide +kernel) (pa_cons (pv 1) (pa_cons (pe_bltn (v := .ty "list") (by rfl) T.m_list (by decide +kernel) rfl) pa_nil)))) (pw_and1 (pt_not (pt_val (pe_callB (call_isinstK (K := K)) (by rfl) T.m_isinstance (by decide +kernel) (pa_cons (pv 0) (pa_cons (pe_bltn (v := .ty "list") (by rfl) T.m_list (by decide +kernel) rfl) pa_nil)))))))) (pss_one (ps_ret pe_bl)) pss_nil)
        (pss_cons (ps_if (pt_cmpR op_ne (pe_callB (call_lenK (K := K)) (by rfl) T.m_len PySem.boot_len (pa_cons (pv 0) pa_nil)) (pe_callB (call_lenK (K := K)) (by rfl) T.m_len PySem.boot_len (pa_cons (pv 1) pa_nil)) (nomark _)) (pss_one (ps_ret pe_bl)) pss_nil)
        (pss_cons (ps_for PassesOwn.never rfl (pi_range1 (by rfl) T.m_range (pa_cons (pe_callB (call_lenK (K := K)) (by rfl) T.m_len PySem.boot_len (pa_cons (pv 1) pa_nil)) pa_nil)) (pg_name (i := 2) sc__law_same.nd rfl (Or.inl rfl)) (pss_one (ps_if (pt_not (pt_val (pe_call G hr (by rfl) T.g__law_same T.k__law_same T.b__law_same .nil pass0 (pa_cons (pe_ix ix_seq (pv 0) (pv 2) (fun _ _ => rfl)) (pa_cons (pe_ix ix_seq (pv 1) (pv 2) (fun _ _ => rfl)) pa_nil))))) (pss_one (ps_ret pe_bl)) pss_nil)))
        (pss_one (ps_ret pe_bl)))))))))))), ?_⟩
    refine ⟨_, rfl, rfl, _, rfl, ite2 (fun e => ?_) (fun e => ?_)⟩
    · have e := of_decide_eq_true e
      subst e
      cases hS with
      | atom _ => exact ⟨_, rfl, rfl, q _ (.refl _)⟩
    refine ⟨_, rfl, _, rfl, _, rfl, ite2 (fun e => ?_) (fun e => ?_)⟩
    · have e := of_decide_eq_true e
      subst e
      cases hS with
      | atom _ => exact ⟨_, rfl, _, rfl, q _ (.refl _)⟩
    refine ⟨_, rfl, _, rfl, _, rfl, ite2 (fun e => ?_) (fun e => ?_)⟩
    · have e := of_decide_eq_true e
      subst e
      cases hS with
      | atom _ => exact ⟨_, rfl, _, rfl, q _ (.refl _)⟩
    rename_i hn ht
    have hS' : (x = y ∧ atomV x = true) ∨ (∃ (T : String) (a b : Addr) (xs ys : List V), x = .ref a ∧ y = .ref b ∧ (T = "list" ∧ SqL K H a xs ∧ SqL K H b ys ∨ T = "tuple" ∧ SqT K H a xs ∧ SqT K H b ys) ∧ xs.length = ys.length ∧ ys.length ≤ 100000 ∧ ∀ (i : Nat) x y, xs[i]? = some x → ys[i]? = some y → Sm K d H x y) ∨
        (∃ (e : Nat) (a b : Addr) (xs ys : List (Key × V)), d = e + 3 ∧ x = .ref a ∧ y = .ref b ∧ H a = some (.dK xs) ∧ H b = some (.dK ys) ∧ xs.length = ys.length ∧ ys.length ≤ 100000 ∧ (∀ (i : Nat) x y, xs[i]? = some x → ys[i]? = some y → x.1 = y.1) ∧
          ∀ (i : Nat) x y, xs[i]? = some x → ys[i]? = some y → Sm K (e + 1) H x.2 y.2) := by
      cases hS with
      | atom h => exact .inl ⟨rfl, h⟩
      | lst h1 h2 h3 h4 h5 => exact .inr (.inl ⟨"list", _, _, _, _, rfl, rfl, .inl ⟨rfl, h1, h2⟩, h3, h4, h5⟩)
      | tup h1 h2 h3 h4 h5 => exact .inr (.inl ⟨"tuple", _, _, _, _, rfl, rfl, .inr ⟨rfl, h1, h2⟩, h3, h4, h5⟩)
      | dic h1 h2 h3 h4 h5 h6 => exact .inr (.inr ⟨_, _, _, _, _, rfl, rfl, rfl, h1, h2, h3, h4, h5, h6⟩)
    rcases hS' with ⟨rfl, hx⟩ | ⟨t, a, b, xs, ys, rfl, rfl, hk, hl, hz, hi⟩ | ⟨c, a, b, xs, ys, rfl, rfl, rfl, h1, h2, hl, hz, hk, hi⟩
    · cases x with
      | non => exact absurd (decide_eq_true rfl) hn
      | bl b => cases b with
        | true => exact absurd (decide_eq_true rfl) ht
        | false => exact absurd (decide_eq_true rfl) e
      | int i =>
        refine ⟨_, rfl, _, _, _, _, true, rfl, .ty "int", .base (.int _), kit_ty (by decide +kernel), _, rfl, iteT ?_⟩
        refine ⟨_, rfl, _, _, _, _, true, rfl, .ty "int", .base (.int _), kit_ty (by decide +kernel), _, rfl, iteT ?_⟩
        refine ⟨_, rfl, _, _, _, _, false, rfl, .ty "bool", .base (.int _), kit_ty (by decide +kernel), _, rfl, _, rfl, iteT ?_⟩
        refine ⟨_, rfl, _, rfl, rfl, ?_⟩
        rw [decide_eq_true rfl]
        exact q _ (.refl _)
      | str i =>
        refine ⟨_, rfl, _, _, _, _, false, rfl, .ty "int", .base (.str _), kit_ty (by decide +kernel), _, rfl, iteF ?_⟩
        refine ⟨_, rfl, _, _, _, _, true, rfl, .ty "str", .base (.str _), kit_ty (by decide +kernel), _, rfl, iteT ?_⟩
        refine ⟨_, rfl, _, _, _, _, true, rfl, .ty "str", .base (.str _), kit_ty (by decide +kernel), _, rfl, iteT ?_⟩
        refine ⟨_, rfl, _, rfl, rfl, ?_⟩
        rw [decide_eq_true rfl]
        exact q _ (.refl _)
      | _ => cases hx
    · have tb : TyX K H (.ref b) (.type t) := by
        rcases hk with ⟨rfl, _, h⟩ | ⟨rfl, _, h⟩
        · exact tyx_l h
        · exact tyx_t h
      have ta : TyX K H (.ref a) (.type t) := by
        rcases hk with ⟨rfl, h, _⟩ | ⟨rfl, h, _⟩
        · exact tyx_l h
        · exact tyx_t h
      have tt : t = "list" ∨ t = "tuple" := hk.imp (fun h => h.1) (fun h => h.1)
      refine ⟨_, rfl, _, _, _, _, false, rfl, .ty "int", tb, kit_ty (by rcases tt with rfl | rfl <;> decide +kernel), _, rfl, iteF ?_⟩
      refine ⟨_, rfl, _, _, _, _, false, rfl, .ty "str", tb, kit_ty (by rcases tt with rfl | rfl <;> decide +kernel), _, rfl, iteF ?_⟩
      refine ⟨_, rfl, _, _, _, _, false, rfl, .ty "dict", tb, kit_ty (by rcases tt with rfl | rfl <;> decide +kernel), _, rfl, iteF ?_⟩
      refine ⟨fun σ' H' => σ' = [some (.ref a), some (.ref b), none] ∧ H = H', ?_, ?_⟩
      · rcases tt with rfl | rfl
        · refine ⟨_, rfl, _, _, _, _, false, rfl, .ty "tuple", tb, kit_ty (by decide +kernel), _, rfl, iteF (iteF ⟨rfl, rfl⟩)⟩
        · refine ⟨_, rfl, _, _, _, _, true, rfl, .ty "tuple", tb, kit_ty (by decide +kernel), _, rfl, iteT ?_⟩
          refine ⟨_, rfl, _, _, _, _, true, rfl, .ty "tuple", ta, kit_ty (by decide +kernel), _, rfl, iteF ⟨rfl, rfl⟩⟩
      rintro _ _ ⟨rfl, rfl⟩
      refine ⟨fun σ' H' => σ' = [some (.ref a), some (.ref b), none] ∧ H = H', ?_, ?_⟩
      · rcases tt with rfl | rfl
        · refine ⟨_, rfl, _, _, _, _, true, rfl, .ty "list", tb, kit_ty (by decide +kernel), _, rfl, iteT ?_⟩
          refine ⟨_, rfl, _, _, _, _, true, rfl, .ty "list", ta, kit_ty (by decide +kernel), _, rfl, iteF ⟨rfl, rfl⟩⟩
        · refine ⟨_, rfl, _, _, _, _, false, rfl, .ty "list", tb, kit_ty (by decide +kernel), _, rfl, iteF (iteF ⟨rfl, rfl⟩)⟩
      rintro _ _ ⟨rfl, rfl⟩
      have la : SqL K H a xs ∨ SqT K H a xs := hk.imp (fun h => h.2.1) (fun h => h.2.1)
      have lb : SqL K H b ys ∨ SqT K H b ys := hk.imp (fun h => h.2.2) (fun h => h.2.2)
      refine ⟨_, rfl, a, xs, rfl, la, _, rfl, b, ys, rfl, lb, rfl, _, rfl, ?_⟩
      rw [hl, decide_eq_true rfl]
      refine iteF ?_
      -- for k in range(len(due))
      refine ⟨_, rfl, b, ys, rfl, lb, (ys.length : Int), rfl, by omega, by omega, ?_⟩
      rw [Int.toNat_natCast]
      refine for_range (lo := 0) (n := ys.length) (fun _ σ' H' => (∃ o, σ' = [some (.ref a), some (.ref b), o]) ∧ Same H H') ⟨⟨none, rfl⟩, .refl _⟩ (fun i σ' H' hlt p => ?_) (fun σ' H' p => ?_)
      · obtain ⟨⟨o, rfl⟩, sm⟩ := p
        obtain ⟨u, hu⟩ : ∃ u, xs[i]? = some u := ⟨_, List.getElem?_eq_getElem (by omega)⟩
        obtain ⟨v, hv⟩ : ∃ v, ys[i]? = some v := ⟨_, List.getElem?_eq_getElem (by omega)⟩
        rw [Int.zero_add]
        have sa : ∀ Q : VK, Q u H' → rIx K (.ref a) (.int (i : Int)) H' Q := fun Q h => by
          rcases la with l | l
          · exact .inl ⟨a, xs, i, u, rfl, rfl, sm.seq l, atI_nat hu, h⟩
          · exact .inr (.inl ⟨a, xs, i, u, rfl, rfl, same_t sm l, atI_nat hu, h⟩)
        have sb : ∀ Q : VK, Q v H' → rIx K (.ref b) (.int (i : Int)) H' Q := fun Q h => by
          rcases lb with l | l
          · exact .inl ⟨b, ys, i, v, rfl, rfl, sm.seq l, atI_nat hv, h⟩
          · exact .inr (.inl ⟨b, ys, i, v, rfl, rfl, same_t sm l, atI_nat hv, h⟩)
        refine ⟨_, rfl, _, rfl, sa _ ⟨_, rfl, _, rfl, sb _ ⟨u, v, rfl, (hi i u v hu hv).same sm, fun H2 s2 => ⟨true, rfl, iteF ?_⟩⟩⟩⟩
        exact ⟨⟨_, rfl⟩, sm.trans s2⟩
      · obtain ⟨⟨o, rfl⟩, sm⟩ := p
        exact q _ sm
    · have tb : TyX K H (.ref b) (.type "dict") := .base (.dK h2)
      have ta : TyX K H (.ref a) (.type "dict") := .base (.dK h1)
      refine ⟨_, rfl, _, _, _, _, false, rfl, .ty "int", tb, kit_ty (by decide +kernel), _, rfl, iteF ?_⟩
      refine ⟨_, rfl, _, _, _, _, false, rfl, .ty "str", tb, kit_ty (by decide +kernel), _, rfl, iteF ?_⟩
      refine ⟨_, rfl, _, _, _, _, true, rfl, .ty "dict", tb, kit_ty (by decide +kernel), _, rfl, iteT ?_⟩
      refine ⟨_, rfl, _, _, _, _, true, rfl, .ty "dict", ta, kit_ty (by decide +kernel), _, rfl, iteT ?_⟩
      refine ⟨_, rfl, a, xs, rfl, h1, fun H2 p1 t1 s2 n1 nt1 np1 e1 pr1 => ?_⟩
      refine ⟨_, rfl, b, ys, rfl, s2 _ _ h2, fun H3 p2 t2 s3 n2 nt2 np2 e2 pr2 => ?_⟩
      have l1 : t1.length = xs.length := pr1.length
      have l2 : t2.length = ys.length := pr2.length
      refine ⟨_, _, rfl, .lst (SqL.of (s3 _ _ e1)) (SqL.of e2) (by rw [List.length_map, List.length_map]; omega) (by rw [List.length_map]; omega) (fun i u v hu hv => ?_), fun H4 s4 => q _ (Same.trans (Same.trans s2 s3) s4)⟩
      rw [List.getElem?_map] at hu hv
      obtain ⟨u1, hu1, rfl⟩ := Option.map_eq_some_iff.mp hu
      obtain ⟨v1, hv1, rfl⟩ := Option.map_eq_some_iff.mp hv
      obtain ⟨x1, hx1, r1⟩ := paired_get pr1 hu1
      obtain ⟨x2, hx2, r2⟩ := paired_get pr2 hv1
      refine .tup (SqT.of (s3 _ _ r1)) (SqT.of r2) rfl (by show 2 ≤ 100000; decide) (fun j y z hy hz => ?_)
      have e12 := hk i x1 x2 hx1 hx2
      match j with
      | 0 =>
        cases hy
        cases hz
        rw [e12]
        exact .atom (by cases x2.1 <;> rfl)
      | 1 =>
        cases hy
        cases hz
        exact (hi i x1 x2 hx1 hx2).same (Same.trans s2 s3)
      | j + 2 => cases hy
theorem T0.ok__law_same (T : T0 K mg) : ∀ d : Nat, FnOk P w K mg base CX0 d T.a__law_same T.fd__law_same ["actual", "due"] (sp__law_same d K)
  | 0 => fnok_never fun vs H Q E h => by
    obtain ⟨x, y, _, h, _⟩ := h
    cases h
  | d + 1 => T.ok__law_same_succ (T.ok__law_same d)
/-! ### far -/
def farL (n a b : Int) : Int := (b - a - 1).fmod n + 1
def sp_far (K : PySem.W.Frag) : Sp := fun vs H Q _ => ∃ n a b : Int, vs = [.int n, .int a, .int b] ∧ 0 < n ∧ Q (.int (farL n a b)) H
theorem T0.ok_far (T : T0 K mg) : FnOk P w K mg base CX0 1 T.a_far T.fd_far ["size", "start", "end"] (sp_far K) := by
  refine T.F_far.ok sc_far (fun vs H Q E h => ?_) (fun cdv A outer s H vs Q E hr h => ?_)
  · obtain ⟨n, a, b, rfl, _⟩ := h
    rfl
  · obtain ⟨n, a, b, rfl, hn, q⟩ := h
    refine ⟨_, (pss_one (ps_ret (pe_op op_add (pe_op op_modN (pe_op op_sub (pe_op op_sub (pv 2) (pv 1)) pe_int) (pv 0)) pe_int))), ?_⟩
    exact ⟨_, rfl, _, rfl, _, _, rfl, rfl, _, _, rfl, rfl, _, rfl, _, _, rfl, rfl, by omega, _, _, rfl, rfl, q⟩
theorem far_range (a b : Int) {n : Int} (h : 0 < n) : 1 ≤ farL n a b ∧ farL n a b ≤ n := by
  have := fmod_range (b - a - 1) h
  unfold farL
  omega
theorem far_emod (a b : Int) {n : Int} (h : 0 < n) : farL n a b = (b - a - 1) % n + 1 := by
  unfold farL
  rw [Int.fmod_eq_emod_of_nonneg _ (by omega)]
theorem far_eq (a b : Int) {n : Int} (h : 0 < n) : farL n a b = if (b - a).fmod n = 0 then n else (b - a).fmod n := by
  rw [far_emod a b h, Int.fmod_eq_emod_of_nonneg _ (by omega)]
  have e := Int.emod_add_mul_ediv (b - a) n
  have h0 := Int.emod_nonneg (b - a) (by omega : n ≠ 0)
  have h1 := Int.emod_lt_of_pos (b - a) h
  by_cases z : (b - a) % n = 0
  · rw [if_pos z]
    rw [z] at e
    rw [show b - a - 1 = (n - 1) + n * ((b - a) / n - 1) by rw [Int.mul_sub]; omega, Int.add_mul_emod_self_left, Int.emod_eq_of_lt (by omega) (by omega)]
    omega
  · rw [if_neg z]
    rw [show b - a - 1 = ((b - a) % n - 1) + n * ((b - a) / n) by omega, Int.add_mul_emod_self_left, Int.emod_eq_of_lt (by omega) (by omega)]
    omega
def sp_between (K : PySem.W.Frag) : Sp := fun vs H Q _ => ∃ n a p b : Int, vs = [.int n, .int a, .int p, .int b] ∧ 0 < n ∧ Q (.bl (decide (farL n a p < farL n a b))) H
theorem T0.ok_between (T : T0 K mg) : FnOk P w K mg base CX0 2 T.a_between T.fd_between ["size", "start", "place", "end"] (sp_between K) := by
  refine T.F_between.ok sc_between (fun vs H Q E h => ?_) (fun cdv A outer s H vs Q E hr h => ?_)
  · obtain ⟨n, a, p, b, rfl, _⟩ := h
    rfl
  · obtain ⟨n, a, p, b, rfl, hn, q⟩ := h
    refine ⟨_, (pss_one (ps_ret (pe_cmpR op_lt (pe_call T.ok_far hr (by rfl) T.g_far T.k_far T.b_far .nil pass0 (pa_cons (pv 0) (pa_cons (pv 1) (pa_cons (pv 2) pa_nil)))) (pe_call T.ok_far hr (by rfl) T.g_far T.k_far T.b_far .nil pass0 (pa_cons (pv 0) (pa_cons (pv 1) (pa_cons (pv 3) pa_nil)))) (nomark _)))), ?_⟩
    exact ⟨_, rfl, _, rfl, _, rfl, _, _, _, rfl, hn, _, rfl, _, rfl, _, rfl, _, _, _, rfl, hn, _, _, rfl, rfl, q⟩
/-! ### a house -/
def hf (n p x : Int) (b : V) : List (Str × V) := [("size", .int n), ("place", .int p), ("next_house", .int x), ("before", b)]
theorem hf_size {n p x : Int} {b : V} : (hf n p x b).lookup ("size" : Str) = some (.int n) := by unfold hf; walk_at "lk"
theorem hf_place {n p x : Int} {b : V} : (hf n p x b).lookup ("place" : Str) = some (.int p) := by unfold hf; walk_at "lk"
theorem hf_next {n p x : Int} {b : V} : (hf n p x b).lookup ("next_house" : Str) = some (.int x) := by unfold hf; walk_at "lk"
theorem hf_before {n p x : Int} {b : V} : (hf n p x b).lookup ("before" : Str) = some b := by unfold hf; walk_at "lk"
def HouseAt (C : Addr) (H : Hp) (a : Addr) (n p x : Int) (b : V) : Prop := ∃ dx, H a = some (.ins C dx (hf n p x b))
def sp_House__init (C : Addr) : Sp := fun vs H Q _ => ∃ (h dx : Addr) (n p x : Int) (b : V), vs = [.ref h, .int n, .int p, .int x, b] ∧ H h = some (.ins C dx []) ∧ ∀ H', HouseAt C H' h n p x b → Kp h H H' → Q .non H'
theorem T0.ok_House__init (T : T0 K mg) : FnOk P w K mg base CX0 1 T.a_House__init T.fd_House__init ["self", "size", "place", "next_house", "before"] (sp_House__init T.C_House) := by
  refine T.F_House__init.ok sc_House__init (fun vs H Q E h => ?_) (fun cdv A outer s H vs Q E hr h => ?_)
  · obtain ⟨h, dx, n, p, x, b, rfl, _⟩ := h
    rfl
  · obtain ⟨h, dx, n, p, x, b, rfl, hh, q⟩ := h
    refine ⟨_, (pss_cons (ps_fld (pv 0) (pv 1) rfl)
        (pss_cons (ps_fld (pv 0) (pv 2) rfl)
        (pss_cons (ps_fld (pv 0) (pv 3) rfl)
        (pss_one (ps_fld (pv 0) (pv 4) rfl))))), ?_⟩
    refine ⟨_, rfl, _, rfl, h, _, dx, [], rfl, hh, T.cl_House, T.na_House_size, (by show 0 < 1000; decide), ?_⟩
    refine ⟨_, rfl, _, rfl, h, _, dx, _, rfl, upd_same, T.cl_House, T.na_House_place, (by show 1 < 1000; decide), ?_⟩
    refine ⟨_, rfl, _, rfl, h, _, dx, _, rfl, upd_same, T.cl_House, T.na_House_next_house, (by show 2 < 1000; decide), ?_⟩
    refine ⟨_, rfl, _, rfl, h, _, dx, _, rfl, upd_same, T.cl_House, T.na_House_before, (by show 3 < 1000; decide), ?_⟩
    refine q _ ⟨dx, ?_⟩ (fun b' o ne e => ?_)
    · rw [upd_same]
      have e : putF "before" b (putF "next_house" (.int x) (putF "place" (.int p) (putF "size" (.int n) []))) = hf n p x b := by
        walk_at "pf"
        rfl
      exact congrArg (fun z => some (HO.ins _ _ z)) e
    · rw [upd_ne ne, upd_ne ne, upd_ne ne, upd_ne ne]
      exact e
def sp_letter (C : Addr) (z : Str) : Sp := fun vs H Q _ => ∃ (h : Addr) (n p x : Int) (b : V), vs = [.ref h] ∧ HouseAt C H h n p x b ∧ ∀ l, H l = none → Q (.ref l) (upd H l (.tup [.str z, .int x, .int p]))
theorem T0.ok_House__tell_letter (T : T0 K mg) : FnOk P w K mg base CX0 1 T.a_House__tell_letter T.fd_House__tell_letter ["self"] (sp_letter T.C_House "tell") := by
  refine T.F_House__tell_letter.ok sc_House__tell_letter (fun vs H Q E h => ?_) (fun cdv A outer s H vs Q E hr h => ?_)
  · obtain ⟨h, n, p, x, b, rfl, _⟩ := h
    rfl
  · obtain ⟨h, n, p, x, b, rfl, ⟨dx, hh⟩, q⟩ := h
    refine ⟨_, (pss_one (ps_ret (pe_tup (pa_cons pe_str (pa_cons (show PE _ _ (tFld K _ _) from pe_fld (pv 0) rfl) (pa_cons (show PE _ _ (tFld K _ _) from pe_fld (pv 0) rfl) pa_nil)))))), ?_⟩
    refine ⟨_, rfl, h, _, dx, _, _, rfl, hh, T.cl_House, T.na_House_next_house, hf_next, ?_⟩
    refine ⟨_, rfl, h, _, dx, _, _, rfl, hh, T.cl_House, T.na_House_place, hf_place, lenL (by show 3 ≤ 100000; decide), q⟩
theorem T0.ok_House__ask_letter (T : T0 K mg) : FnOk P w K mg base CX0 1 T.a_House__ask_letter T.fd_House__ask_letter ["self"] (sp_letter T.C_House "ask") := by
  refine T.F_House__ask_letter.ok sc_House__ask_letter (fun vs H Q E h => ?_) (fun cdv A outer s H vs Q E hr h => ?_)
  · obtain ⟨h, n, p, x, b, rfl, _⟩ := h
    rfl
  · obtain ⟨h, n, p, x, b, rfl, ⟨dx, hh⟩, q⟩ := h
    refine ⟨_, (pss_one (ps_ret (pe_tup (pa_cons pe_str (pa_cons (show PE _ _ (tFld K _ _) from pe_fld (pv 0) rfl) (pa_cons (show PE _ _ (tFld K _ _) from pe_fld (pv 0) rfl) pa_nil)))))), ?_⟩
    refine ⟨_, rfl, h, _, dx, _, _, rfl, hh, T.cl_House, T.na_House_next_house, hf_next, ?_⟩
    refine ⟨_, rfl, h, _, dx, _, _, rfl, hh, T.cl_House, T.na_House_place, hf_place, lenL (by show 3 ≤ 100000; decide), q⟩
/-- what a house without a before, or with one, answers -/
def okB (b : V) : Prop := b = .non ∨ ∃ z : Int, b = .int z
def sp_House__answer_to (C : Addr) : Sp := fun vs H Q _ => ∃ (h : Addr) (n p x u : Int) (b : V), vs = [.ref h, .int u] ∧ HouseAt C H h n p x b ∧ (b = .non → Q .non H) ∧ (∀ z : Int, b = .int z → ∀ l, H l = none → Q (.ref l) (upd H l (.tup [.str "answer", .int u, .int p, .int z]))) ∧ okB b
theorem T0.ok_House__answer_to (T : T0 K mg) : FnOk P w K mg base CX0 1 T.a_House__answer_to T.fd_House__answer_to ["self", "sender"] (sp_House__answer_to T.C_House) := by
  refine T.F_House__answer_to.ok sc_House__answer_to (fun vs H Q E h => ?_) (fun cdv A outer s H vs Q E hr h => ?_)
  · obtain ⟨h, n, p, x, u, b, rfl, _⟩ := h
    rfl
  · obtain ⟨h, n, p, x, u, b, rfl, ⟨dx, hh⟩, q0, q1, ob⟩ := h
    refine ⟨_, (pss_cons (ps_if (pt_cmpR op_isN (show PE _ _ (tFld K _ _) from pe_fld (pv 0) rfl) pe_non (nomark _)) (pss_one (ps_ret pe_non)) pss_nil)
        (pss_one (ps_ret (pe_tup (pa_cons pe_str (pa_cons (pv 1) (pa_cons (show PE _ _ (tFld K _ _) from pe_fld (pv 0) rfl) (pa_cons (show PE _ _ (tFld K _ _) from pe_fld (pv 0) rfl) pa_nil)))))))), ?_⟩
    refine ⟨_, rfl, h, _, dx, _, _, rfl, hh, T.cl_House, T.na_House_before, hf_before, rfl, _, rfl, ite2 (fun e => ?_) (fun e => ?_)⟩
    · exact q0 (of_decide_eq_true e)
    · rcases ob with rfl | ⟨z, rfl⟩
      · exact absurd (decide_eq_true rfl) e
      · refine ⟨_, rfl, _, rfl, h, _, dx, _, _, rfl, hh, T.cl_House, T.na_House_place, hf_place, ?_⟩
        exact ⟨_, rfl, h, _, dx, _, _, rfl, hh, T.cl_House, T.na_House_before, hf_before, lenL (by show 4 ≤ 100000; decide), q1 z rfl⟩
def hTell (n p u : Int) (b : V) : V := match b with
  | .int z => if farL n z u < farL n z p then .int u else .int z
  | _ => .int u
def hAns (n p x u m : Int) : Int := if x = u ∧ farL n p m < farL n p u then m else x
theorem hf_pb {n p x : Int} {b c : V} : putF "before" c (hf n p x b) = hf n p x c := by
  unfold hf
  walk_at "pf"
theorem hf_pn {n p x y : Int} {b : V} : putF "next_house" (.int y) (hf n p x b) = hf n p y b := by
  unfold hf
  walk_at "pf"
def sp_House__hear_tell (C : Addr) : Sp := fun vs H Q _ => ∃ (h : Addr) (n p x u : Int) (b : V), vs = [.ref h, .int u] ∧ HouseAt C H h n p x b ∧ okB b ∧ 0 < n ∧ ∀ H', HouseAt C H' h n p x (hTell n p u b) → Kp h H H' → Q .non H'
theorem T0.ok_House__hear_tell (T : T0 K mg) : FnOk P w K mg base CX0 3 T.a_House__hear_tell T.fd_House__hear_tell ["self", "sender"] (sp_House__hear_tell T.C_House) := by
  refine T.F_House__hear_tell.ok sc_House__hear_tell (fun vs H Q E h => ?_) (fun cdv A outer s H vs Q E hr h => ?_)
  · obtain ⟨h, n, p, x, u, b, rfl, _⟩ := h
    rfl
  · obtain ⟨h, n, p, x, u, b, rfl, ⟨dx, hh⟩, ob, hn, q⟩ := h
    refine ⟨_, (pss_one (ps_if (PW.pt (pw_or (pt_cmpR op_isN (show PE _ _ (tFld K _ _) from pe_fld (pv 0) rfl) pe_non (nomark _)) (pw_or1 (pt_val (pe_call T.ok_between hr (by rfl) T.g_between T.k_between T.b_between .nil pass0 (pa_cons (show PE _ _ (tFld K _ _) from pe_fld (pv 0) rfl) (pa_cons (show PE _ _ (tFld K _ _) from pe_fld (pv 0) rfl) (pa_cons (pv 1) (pa_cons (show PE _ _ (tFld K _ _) from pe_fld (pv 0) rfl) pa_nil))))))))) (pss_one (ps_fld (pv 0) (pv 1) rfl)) pss_nil)), ?_⟩
    have set : ∀ Q' : L2.St → Hp → Prop, (∀ H', HouseAt T.C_House H' h n p x (.int u) → Kp h H H' → Q' [some (.ref h), some (.int u)] H') → sFld K (tVar 0) (tVar 1) "before" { nx := Q', rt := Q } [some (.ref h), some (.int u)] H := fun Q' k =>
      ⟨_, rfl, _, rfl, h, _, dx, _, rfl, hh, T.cl_House, T.na_House_before, (by show 4 < 1000; decide), k _ ⟨dx, by rw [upd_same, hf_pb]⟩ .put⟩
    refine ⟨_, rfl, h, _, dx, _, _, rfl, hh, T.cl_House, T.na_House_before, hf_before, rfl, _, rfl, ite2 (fun e => ?_) (fun e => ?_)⟩
    · have e := of_decide_eq_true e
      subst e
      exact iteT (set _ fun H' h1 h2 => q H' h1 h2)
    · rcases ob with rfl | ⟨z, rfl⟩
      · exact absurd (decide_eq_true rfl) e
      · refine ⟨_, rfl, h, _, dx, _, _, rfl, hh, T.cl_House, T.na_House_size, hf_size, _, rfl, h, _, dx, _, _, rfl, hh, T.cl_House, T.na_House_before, hf_before, ?_⟩
        refine ⟨_, rfl, _, rfl, h, _, dx, _, _, rfl, hh, T.cl_House, T.na_House_place, hf_place, n, z, u, p, rfl, hn, _, rfl, ite2 (fun f => ?_) (fun f => ?_)⟩
        · refine set _ fun H' h1 h2 => q H' ?_ h2
          have f := of_decide_eq_true f
          rw [show hTell n p u (.int z) = .int u from if_pos f]
          exact h1
        · have f : ¬ (farL n z u < farL n z p) := fun g => f (decide_eq_true g)
          refine q H ?_ (.refl _ _)
          rw [show hTell n p u (.int z) = .int z from if_neg f]
          exact ⟨dx, hh⟩
def sp_House__hear_answer (C : Addr) : Sp := fun vs H Q _ => ∃ (h : Addr) (n p x u m : Int) (b : V), vs = [.ref h, .int u, .int m] ∧ HouseAt C H h n p x b ∧ 0 < n ∧ ∀ H', HouseAt C H' h n p (hAns n p x u m) b → Kp h H H' → Q .non H'
theorem T0.ok_House__hear_answer (T : T0 K mg) : FnOk P w K mg base CX0 3 T.a_House__hear_answer T.fd_House__hear_answer ["self", "sender", "named"] (sp_House__hear_answer T.C_House) := by
  refine T.F_House__hear_answer.ok sc_House__hear_answer (fun vs H Q E h => ?_) (fun cdv A outer s H vs Q E hr h => ?_)
  · obtain ⟨h, n, p, x, u, m, b, rfl, _⟩ := h
    rfl
  · obtain ⟨h, n, p, x, u, m, b, rfl, ⟨dx, hh⟩, hn, q⟩ := h
    refine ⟨_, (pss_one (ps_if (PW.pt (pw_and (pt_cmpR op_eq (show PE _ _ (tFld K _ _) from pe_fld (pv 0) rfl) (pv 1) (nomark _)) (pw_and1 (pt_val (pe_call T.ok_between hr (by rfl) T.g_between T.k_between T.b_between .nil pass0 (pa_cons (show PE _ _ (tFld K _ _) from pe_fld (pv 0) rfl) (pa_cons (show PE _ _ (tFld K _ _) from pe_fld (pv 0) rfl) (pa_cons (pv 2) (pa_cons (pv 1) pa_nil))))))))) (pss_one (ps_fld (pv 0) (pv 2) rfl)) pss_nil)), ?_⟩
    refine ⟨_, rfl, h, _, dx, _, _, rfl, hh, T.cl_House, T.na_House_next_house, hf_next, _, rfl, rfl, _, rfl, ite2 (fun e => ?_) (fun e => ?_)⟩
    · have e := V.int.inj (of_decide_eq_true e)
      refine ⟨_, rfl, h, _, dx, _, _, rfl, hh, T.cl_House, T.na_House_size, hf_size, _, rfl, h, _, dx, _, _, rfl, hh, T.cl_House, T.na_House_place, hf_place, ?_⟩
      refine ⟨_, rfl, _, rfl, n, p, m, u, rfl, hn, _, rfl, ite2 (fun f => ?_) (fun f => ?_)⟩
      · have f := of_decide_eq_true f
        have g : hAns n p x u m = m := if_pos ⟨e, f⟩
        rw [g] at q
        exact ⟨_, rfl, _, rfl, h, _, dx, _, rfl, hh, T.cl_House, T.na_House_next_house, (by show 4 < 1000; decide), q _ ⟨dx, by rw [upd_same, hf_pn]⟩ .put⟩
      · have f : ¬ (farL n p m < farL n p u) := fun g => f (decide_eq_true g)
        have g : hAns n p x u m = x := if_neg (fun z => f z.2)
        rw [g] at q
        exact q H ⟨dx, hh⟩ (.refl _ _)
    · have e : ¬ x = u := fun g => e (decide_eq_true (congrArg V.int g))
      have g : hAns n p x u m = x := if_neg (fun z => e z.1)
      rw [g] at q
      exact q H ⟨dx, hh⟩ (.refl _ _)
/-- a letter as a row of values -/
inductive Let where
  | tell (r u : Int) | ask (r u : Int) | answer (r u m : Int)
def Let.vals : Let → List V
  | .tell r u => [.str "tell", .int r, .int u]
  | .ask r u => [.str "ask", .int r, .int u]
  | .answer r u m => [.str "answer", .int r, .int u, .int m]
/-- the before, the next behind the letter, and the answer -/
def hB (n p : Int) (b : V) : Let → V
  | .tell _ u => hTell n p u b
  | _ => b
def hN (n p x : Int) : Let → Int
  | .answer _ u m => hAns n p x u m
  | _ => x
def hA (p : Int) (b : V) : Let → Option (List V)
  | .ask _ u => match b with
    | .int z => some [.str "answer", .int u, .int p, .int z]
    | _ => none
  | _ => none
def sp_House__hear (K : PySem.W.Frag) (C : Addr) : Sp := fun vs H Q _ => ∃ (h l : Addr) (n p x : Int) (b : V) (L : Let), vs = [.ref h, .ref l] ∧ HouseAt C H h n p x b ∧ okB b ∧ 0 < n ∧ SqT K H l L.vals ∧
  ∀ v H', HouseAt C H' h n p (hN n p x L) (hB n p b L) → Kp h H H' → (match hA p b L with | none => v = .non | some ys => ∃ a, v = .ref a ∧ H' a = some (.tup ys)) → Q v H'
theorem T0.ok_House__hear (T : T0 K mg) : FnOk P w K mg base CX0 4 T.a_House__hear T.fd_House__hear ["self", "letter"] (sp_House__hear K T.C_House) := by
  refine T.F_House__hear.ok sc_House__hear (fun vs H Q E h => ?_) (fun cdv A outer s H vs Q E hr h => ?_)
  · obtain ⟨h, l, n, p, x, b, L, rfl, _⟩ := h
    rfl
  · obtain ⟨h, l, n, p, x, b, L, rfl, hh, ob, hn, hl, q⟩ := h
    refine ⟨_, (pss_cons (ps_set (i := 2) sc_House__hear.nd rfl (Or.inl rfl) (pe_ix (ix_tupK (K := K)) (pv 1) pe_int (fun _ _ => rfl)))
        (pss_cons (ps_set (i := 3) sc_House__hear.nd rfl (Or.inl rfl) (pe_ix (ix_tupK (K := K)) (pv 1) pe_int (fun _ _ => rfl)))
        (pss_cons (ps_if (pt_cmpR op_eq (pv 2) pe_str (nomark _)) (pss_one (ps_ret (pe_meth (pv 0) T.cl_House T.me_House__answer_to T.ok_House__answer_to (hr.mono (by decide)) T.b_House__answer_to .nil pass0 (pa_cons (pv 3) pa_nil)))) pss_nil)
        (pss_cons (ps_if (pt_cmpR op_eq (pv 2) pe_str (nomark _)) (pss_one (ps_expr (pe_meth (pv 0) T.cl_House T.me_House__hear_tell T.ok_House__hear_tell hr T.b_House__hear_tell .nil pass0 (pa_cons (pv 3) pa_nil)))) (pss_one (ps_expr (pe_meth (pv 0) T.cl_House T.me_House__hear_answer T.ok_House__hear_answer hr T.b_House__hear_answer .nil pass0 (pa_cons (pv 3) (pa_cons (pe_ix (ix_tupK (K := K)) (pv 1) pe_int (fun _ _ => rfl)) pa_nil))))))
        (pss_one (ps_ret pe_non)))))), ?_⟩
    cases L with
    | tell r u =>
      refine ⟨_, rfl, l, _, 0, .str "tell", rfl, rfl, hl, rfl, _, rfl, l, _, 2, .int u, rfl, rfl, hl, rfl, ?_⟩
      refine ⟨_, rfl, rfl, _, rfl, ?_⟩
      rw [show decide (V.str "tell" = V.str "ask") = false by decide +kernel]
      refine iteF ⟨_, rfl, rfl, _, rfl, ?_⟩
      rw [show decide (V.str "tell" = V.str "tell") = true by decide +kernel]
      obtain ⟨dx, hh'⟩ := hh
      refine iteT ⟨_, rfl, h, dx, _, rfl, hh', ?_, _, rfl, h, n, p, x, u, b, rfl, ⟨dx, hh'⟩, ob, hn, fun H' h1 h2 => ?_⟩
      · unfold hf; walk_at "lk"
      · exact q .non H' h1 h2 rfl
    | ask r u =>
      refine ⟨_, rfl, l, _, 0, .str "ask", rfl, rfl, hl, rfl, _, rfl, l, _, 2, .int u, rfl, rfl, hl, rfl, ?_⟩
      refine ⟨_, rfl, rfl, _, rfl, ?_⟩
      rw [show decide (V.str "ask" = V.str "ask") = true by decide +kernel]
      obtain ⟨dx, hh'⟩ := hh
      refine iteT ⟨_, rfl, h, dx, _, rfl, hh', ?_, _, rfl, h, n, p, x, u, b, rfl, ⟨dx, hh'⟩, fun e => ?_, fun z e l' nl => ?_, ob⟩
      · unfold hf; walk_at "lk"
      · subst e
        exact q .non H ⟨dx, hh'⟩ (.refl _ _) rfl
      · subst e
        refine q (.ref l') _ ⟨dx, ?_⟩ (Kp.of_same (same_upd nl)) ⟨l', rfl, upd_same⟩
        rw [upd_ne (ne_of_none hh' nl)]
        exact hh'
    | answer r u m =>
      refine ⟨_, rfl, l, _, 0, .str "answer", rfl, rfl, hl, rfl, _, rfl, l, _, 2, .int u, rfl, rfl, hl, rfl, ?_⟩
      refine ⟨_, rfl, rfl, _, rfl, ?_⟩
      rw [show decide (V.str "answer" = V.str "ask") = false by decide +kernel]
      refine iteF ⟨_, rfl, rfl, _, rfl, ?_⟩
      rw [show decide (V.str "answer" = V.str "tell") = false by decide +kernel]
      obtain ⟨dx, hh'⟩ := hh
      refine iteF ⟨_, rfl, h, dx, _, rfl, hh', ?_, _, rfl, _, rfl, l, _, 3, .int m, rfl, rfl, hl, rfl, h, n, p, x, u, m, b, rfl, ⟨dx, hh'⟩, hn, fun H' h1 h2 => ?_⟩
      · unfold hf; walk_at "lk"
      · exact q .non H' h1 h2 rfl
--CUT
--CUT
/-! ### a net -/
def nf (n : Int) (dn db dl : Addr) : List (Str × V) := [("size", .int n), ("_nexts", .ref dn), ("_befores", .ref db), ("_letters", .ref dl)]
theorem nf_size {n : Int} {dn db dl : Addr} : (nf n dn db dl).lookup ("size" : Str) = some (.int n) := by unfold nf; walk_at "lk"
theorem nf_nexts {n : Int} {dn db dl : Addr} : (nf n dn db dl).lookup ("_nexts" : Str) = some (.ref dn) := by unfold nf; walk_at "lk"
theorem nf_befores {n : Int} {dn db dl : Addr} : (nf n dn db dl).lookup ("_befores" : Str) = some (.ref db) := by unfold nf; walk_at "lk"
theorem nf_letters {n : Int} {dn db dl : Addr} : (nf n dn db dl).lookup ("_letters" : Str) = some (.ref dl) := by unfold nf; walk_at "lk"
/-- the net at a; ks its houses in the order in which they came -/
structure NetAt (C : Addr) (H : Hp) (a : Addr) (n : Int) (dn db dl : Addr) (nx bf : List (Key × V)) (ls : List V) : Prop where
  me : ∃ dx, H a = some (.ins C dx (nf n dn db dl))
  hn : H dn = some (.dK nx)
  hb : H db = some (.dK bf)
  hl : H dl = some (.lst ls)
theorem none_back {H H1 : Hp} {p : Addr} (s : Same H H1) (h : H1 p = none) : H p = none := by
  cases e : H p with
  | none => rfl
  | some o => rw [s _ _ e] at h; cases h
theorem NetAt.same {C a dn db dl : Addr} {H H' : Hp} {n : Int} {nx bf : List (Key × V)} {ls : List V} (N : NetAt C H a n dn db dl nx bf ls) (s : Same H H') : NetAt C H' a n dn db dl nx bf ls :=
  ⟨let ⟨dx, e⟩ := N.me; ⟨dx, s _ _ e⟩, s _ _ N.hn, s _ _ N.hb, s _ _ N.hl⟩
def sp_Net__houses (C : Addr) : Sp := fun vs H Q _ => ∃ (h dn db dl : Addr) (n : Int) (nx bf : List (Key × V)) (ls : List V) (ks : List Int), vs = [.ref h] ∧ NetAt C H h n dn db dl nx bf ls ∧ nx.map (·.1) = ks.map Sum.inl ∧ ks.length < 64 ∧
  ∀ (ys : List Int) (p : Addr), ys.Perm ks → ys.Pairwise (· ≤ ·) → H p = none → Q (.ref p) (upd H p (.lst (ys.map V.int)))
theorem T0.ok_Net__houses (T : T0 K mg) : FnOk P w K mg base CX0 1 T.a_Net__houses T.fd_Net__houses ["self"] (sp_Net__houses T.C_Net) := by
  refine T.F_Net__houses.ok sc_Net__houses (fun vs H Q E h => ?_) (fun cdv A outer s H vs Q E hr h => ?_)
  · obtain ⟨h, dn, db, dl, n, nx, bf, ls, ks, rfl, _⟩ := h
    rfl
  · obtain ⟨h, dn, db, dl, n, nx, bf, ls, ks, rfl, hN, hk, h64, q⟩ := h
    obtain ⟨dx, hh⟩ := hN.me
    refine ⟨_, (pss_one (ps_ret (pe_callB (call_sortedDI rfl) (by rfl) T.m_sorted (by decide +kernel) (pa_cons (show PE _ _ (tFld K _ _) from pe_fld (pv 0) rfl) pa_nil)))), ?_⟩
    exact ⟨_, rfl, h, _, dx, _, _, rfl, hh, T.cl_Net, T.na_Net__nexts, nf_nexts, dn, nx, ks, rfl, .inl hN.hn, hk, h64, q⟩
def sp_Net__check_house (C : Addr) : Sp := fun vs H Q _ => ∃ (h dn db dl : Addr) (n p : Int) (nx bf : List (Key × V)) (ls : List V), vs = [.ref h, .int p] ∧ NetAt C H h n dn db dl nx bf ls ∧ (valV nx (.inl p)).isSome = true ∧ Q .non H
theorem T0.ok_Net__check_house (T : T0 K mg) : FnOk P w K mg base CX0 1 T.a_Net__check_house T.fd_Net__check_house ["self", "place"] (sp_Net__check_house T.C_Net) := by
  refine T.F_Net__check_house.ok sc_Net__check_house (fun vs H Q E h => ?_) (fun cdv A outer s H vs Q E hr h => ?_)
  · obtain ⟨h, dn, db, dl, n, p, nx, bf, ls, rfl, _⟩ := h
    rfl
  · obtain ⟨h, dn, db, dl, n, p, nx, bf, ls, rfl, hN, hk, q⟩ := h
    obtain ⟨dx, hh⟩ := hN.me
    refine ⟨_, (pss_one (ps_if (pt_cmp (pc_dnotin (un1 hr) (pv 1) (show PE _ _ (tFld K _ _) from pe_fld (pv 0) rfl))) (pss_one (ps_never)) pss_nil)), ?_⟩
    refine ⟨_, rfl, _, rfl, h, _, dx, _, _, rfl, hh, T.cl_Net, T.na_Net__nexts, nf_nexts, dn, _, rfl, DGet.k (k := Sum.inl p) hN.hn, _, rfl, ?_⟩
    rw [hk]
    exact iteF q
def sp_check_on_circle : Sp := fun vs H Q _ => ∃ (n p : Int), vs = [.int n, .int p] ∧ 0 ≤ p ∧ p < n ∧ Q .non H
theorem T0.ok_check_on_circle (T : T0 K mg) : FnOk P w K mg base CX0 1 T.a_check_on_circle T.fd_check_on_circle ["size", "place"] sp_check_on_circle := by
  refine T.F_check_on_circle.ok sc_check_on_circle (fun vs H Q E h => ?_) (fun cdv A outer s H vs Q E hr h => ?_)
  · obtain ⟨n, p, rfl, _⟩ := h
    rfl
  · obtain ⟨n, p, rfl, p0, p1, q⟩ := h
    refine ⟨_, (pss_one (ps_if (PW.pt (pw_or (pt_cmpR op_lt (pv 1) pe_int (nomark _)) (pw_or1 (pt_cmpR op_ge (pv 1) (pv 0) (nomark _))))) (pss_one (ps_never)) pss_nil)), ?_⟩
    refine ⟨_, rfl, _, _, rfl, rfl, _, rfl, ite2 (fun e => absurd (of_decide_eq_true e) (by omega)) (fun _ => ?_)⟩
    refine ⟨_, rfl, _, rfl, _, _, rfl, rfl, _, rfl, ite2 (fun e => absurd (of_decide_eq_true e) (by omega)) (fun _ => ?_)⟩
    exact q
def sp_Net__check_letter (C : Addr) : Sp := fun vs H Q _ => ∃ (h dn db dl : Addr) (n p : Int) (nx bf : List (Key × V)) (ls : List V), vs = [.ref h, .int p] ∧ NetAt C H h n dn db dl nx bf ls ∧ 0 ≤ p ∧ p < ls.length ∧ Q .non H
theorem T0.ok_Net__check_letter (T : T0 K mg) : FnOk P w K mg base CX0 1 T.a_Net__check_letter T.fd_Net__check_letter ["self", "at"] (sp_Net__check_letter T.C_Net) := by
  refine T.F_Net__check_letter.ok sc_Net__check_letter (fun vs H Q E h => ?_) (fun cdv A outer s H vs Q E hr h => ?_)
  · obtain ⟨h, dn, db, dl, n, p, nx, bf, ls, rfl, _⟩ := h
    rfl
  · obtain ⟨h, dn, db, dl, n, p, nx, bf, ls, rfl, hN, p0, p1, q⟩ := h
    obtain ⟨dx, hh⟩ := hN.me
    refine ⟨_, (pss_one (ps_if (PW.pt (pw_or (pt_cmpR op_lt (pv 1) pe_int (nomark _)) (pw_or1 (pt_cmpR op_ge (pv 1) (pe_callB (call_lenK (K := K)) (by rfl) T.m_len PySem.boot_len (pa_cons (show PE _ _ (tFld K _ _) from pe_fld (pv 0) rfl) pa_nil)) (nomark _))))) (pss_one (ps_never)) pss_nil)), ?_⟩
    refine ⟨_, rfl, _, _, rfl, rfl, _, rfl, ite2 (fun e => absurd (of_decide_eq_true e) (by omega)) (fun _ => ?_)⟩
    refine ⟨_, rfl, _, rfl, h, _, dx, _, _, rfl, hh, T.cl_Net, T.na_Net__letters, nf_letters, dl, ls, rfl, .inl (SqL.of hN.hl), _, _, rfl, rfl, _, rfl, ite2 (fun e => absurd (of_decide_eq_true e) (by omega)) (fun _ => ?_)⟩
    exact q
theorem dget_of {H : Hp} {a : Addr} {kvs : List (Key × V)} {k : Key} {v : V} (e : H a = some (.dK kvs)) (h : valV kvs k = some v) : DGet H a (kV k) (some v) := h ▸ DGet.k e
def sp_Net__house_at (C D : Addr) : Sp := fun vs H Q _ => ∃ (h dn db dl : Addr) (n p x : Int) (b : V) (nx bf : List (Key × V)) (ls : List V), vs = [.ref h, .int p] ∧ NetAt C H h n dn db dl nx bf ls ∧ valV nx (.inl p) = some (.int x) ∧ valV bf (.inl p) = some b ∧
  ∀ H' r, Same H H' → H r = none → HouseAt D H' r n p x b → Q (.ref r) H'
theorem T0.ok_Net__house_at (T : T0 K mg) : FnOk P w K mg base CX0 3 T.a_Net__house_at T.fd_Net__house_at ["self", "place"] (sp_Net__house_at T.C_Net T.C_House) := by
  refine T.F_Net__house_at.ok sc_Net__house_at (fun vs H Q E h => ?_) (fun cdv A outer s H vs Q E hr h => ?_)
  · obtain ⟨h, dn, db, dl, n, p, x, b, nx, bf, ls, rfl, _⟩ := h
    rfl
  · obtain ⟨h, dn, db, dl, n, p, x, b, nx, bf, ls, rfl, hN, hx, hb, q⟩ := h
    obtain ⟨dx, hh⟩ := hN.me
    refine ⟨_, (pss_one (ps_ret (pe_make T.mk_House T.ok_House__init hr (by rfl) T.mc_House T.b_House__init .nil pass0 (pa_cons (show PE _ _ (tFld K _ _) from pe_fld (pv 0) rfl) (pa_cons (pv 1) (pa_cons (pe_dget (un1 hr) (show PE _ _ (tFld K _ _) from pe_fld (pv 0) rfl) (pv 1) (fun _ _ => rfl)) (pa_cons (pe_dget (un1 hr) (show PE _ _ (tFld K _ _) from pe_fld (pv 0) rfl) (pv 1) (fun _ _ => rfl)) pa_nil))))))), ?_⟩
    refine ⟨_, rfl, h, _, dx, _, _, rfl, hh, T.cl_Net, T.na_Net_size, nf_size, _, rfl, ?_⟩
    refine ⟨_, rfl, h, _, dx, _, _, rfl, hh, T.cl_Net, T.na_Net__nexts, nf_nexts, _, rfl, dn, _, rfl, dget_of hN.hn hx, ?_⟩
    refine ⟨_, rfl, h, _, dx, _, _, rfl, hh, T.cl_Net, T.na_Net__befores, nf_befores, _, rfl, db, _, rfl, dget_of hN.hb hb, ?_⟩
    refine fun r dx' nr ndx ne => ⟨r, dx', n, p, x, b, rfl, upd_same, fun H' hA k => ⟨rfl, q H' r (fun c o e => ?_) nr hA⟩⟩
    refine k c o (ne_of_none e nr) ?_
    rw [upd_ne (ne_of_none e nr), upd_ne (ne_of_none e ndx)]
    exact e
def sp_Net__send (C : Addr) : Sp := fun vs H Q _ => ∃ (h dn db dl : Addr) (n : Int) (nx bf : List (Key × V)) (ls : List V) (v : V), vs = [.ref h, v] ∧ NetAt C H h n dn db dl nx bf ls ∧ ls.length ≤ 100000 ∧ Q v (upd H dl (.lst (ls ++ [v])))
theorem T0.ok_Net__send (T : T0 K mg) : FnOk P w K mg base CX0 1 T.a_Net__send T.fd_Net__send ["self", "letter"] (sp_Net__send T.C_Net) := by
  refine T.F_Net__send.ok sc_Net__send (fun vs H Q E h => ?_) (fun cdv A outer s H vs Q E hr h => ?_)
  · obtain ⟨h, dn, db, dl, n, nx, bf, ls, v, rfl, _⟩ := h
    rfl
  · obtain ⟨h, dn, db, dl, n, nx, bf, ls, v, rfl, hN, hz, q⟩ := h
    obtain ⟨dx, hh⟩ := hN.me
    refine ⟨_, (pss_cons (ps_expr (pe_bm PySem.F.plainAttrs_list PySem.F.slot_list_append PySem.F.type_list_append mt_append (show PE _ _ (tFld K _ _) from pe_fld (pv 0) rfl) (pa_cons (pv 1) pa_nil)))
        (pss_one (ps_ret (pv 1)))), ?_⟩
    refine ⟨_, rfl, h, _, dx, _, _, rfl, hh, T.cl_Net, T.na_Net__letters, nf_letters, ?_⟩
    exact ⟨.inl ⟨rfl, _, SqL.of hN.hl⟩, _, rfl, dl, ls, v, rfl, rfl, hN.hl, small1000' hz, _, rfl, q⟩
def sp_Net__letters (C : Addr) : Sp := fun vs H Q _ => ∃ (h dn db dl : Addr) (n : Int) (nx bf : List (Key × V)) (ls : List V), vs = [.ref h] ∧ NetAt C H h n dn db dl nx bf ls ∧ ∀ p, H p = none → Q (.ref p) (upd H p (.lst ls))
theorem T0.ok_Net__letters (T : T0 K mg) : FnOk P w K mg base CX0 1 T.a_Net__letters T.fd_Net__letters ["self"] (sp_Net__letters T.C_Net) := by
  refine T.F_Net__letters.ok sc_Net__letters (fun vs H Q E h => ?_) (fun cdv A outer s H vs Q E hr h => ?_)
  · obtain ⟨h, dn, db, dl, n, nx, bf, ls, rfl, _⟩ := h
    rfl
  · obtain ⟨h, dn, db, dl, n, nx, bf, ls, rfl, hN, q⟩ := h
    obtain ⟨dx, hh⟩ := hN.me
    refine ⟨_, (pss_one (ps_ret (pe_callTy (call_list_ofK (K := K)) (by rfl) T.m_list (by decide +kernel) (pa_cons (show PE _ _ (tFld K _ _) from pe_fld (pv 0) rfl) pa_nil)))), ?_⟩
    exact ⟨_, rfl, h, _, dx, _, _, rfl, hh, T.cl_Net, T.na_Net__letters, nf_letters, dl, ls, rfl, .inl (SqL.of hN.hl), q⟩
def sp_Net__say (C : Addr) (z : Str) : Sp := fun vs H Q _ => ∃ (h dn db dl : Addr) (n p x : Int) (b : V) (nx bf : List (Key × V)) (ls : List V), vs = [.ref h, .int p] ∧ NetAt C H h n dn db dl nx bf ls ∧ valV nx (.inl p) = some (.int x) ∧ valV bf (.inl p) = some b ∧ ls.length ≤ 1000 ∧
  ∀ H' l, Same H H' → H l = none → H' l = some (.tup [.str z, .int x, .int p]) → Q (.ref l) (upd H' dl (.lst (ls ++ [.ref l])))
theorem T0.ok_Net__tell (T : T0 K mg) : FnOk P w K mg base CX0 4 T.a_Net__tell T.fd_Net__tell ["self", "house"] (sp_Net__say T.C_Net "tell") := by
  refine T.F_Net__tell.ok sc_Net__tell (fun vs H Q E h => ?_) (fun cdv A outer s H vs Q E hr h => ?_)
  · obtain ⟨h, dn, db, dl, n, p, x, b, nx, bf, ls, rfl, _⟩ := h
    rfl
  · obtain ⟨h, dn, db, dl, n, p, x, b, nx, bf, ls, rfl, hN, hx, hb, hz, q⟩ := h
    obtain ⟨dx, hh⟩ := hN.me
    refine ⟨_, (pss_cons (ps_expr (pe_meth (pv 0) T.cl_Net T.me_Net__check_house T.ok_Net__check_house (hr.mono (by decide)) T.b_Net__check_house .nil pass0 (pa_cons (pv 1) pa_nil)))
        (pss_one (ps_ret (pe_meth (pv 0) T.cl_Net T.me_Net__send T.ok_Net__send (hr.mono (by decide)) T.b_Net__send .nil pass0 (pa_cons (pe_meth0 (pe_meth (pv 0) T.cl_Net T.me_Net__house_at T.ok_Net__house_at hr T.b_Net__house_at .nil pass0 (pa_cons (pv 1) pa_nil)) T.cl_House T.me_House__tell_letter T.ok_House__tell_letter (hr.mono (by decide)) T.b_House__tell_letter .nil pass0) pa_nil))))), ?_⟩
    refine ⟨_, rfl, h, dx, _, rfl, hh, (by unfold nf; walk_at "lk"), _, rfl, h, dn, db, dl, n, p, nx, bf, ls, rfl, hN, (by rw [hx]; rfl), ?_⟩
    refine ⟨_, rfl, h, dx, _, rfl, hh, (by unfold nf; walk_at "lk"), _, rfl, h, dx, _, rfl, hh, (by unfold nf; walk_at "lk"), _, rfl, h, dn, db, dl, n, p, x, b, nx, bf, ls, rfl, hN, hx, hb, fun H1 r sm nr hA => ?_⟩
    obtain ⟨d2, hA2⟩ := id hA
    refine ⟨r, d2, _, rfl, hA2, (by unfold hf; walk_at "lk"), r, n, p, x, b, rfl, hA, fun l nl => ?_⟩
    refine ⟨h, dn, db, dl, n, nx, bf, ls, .ref l, rfl, (hN.same sm).same (same_upd nl), by omega, q _ l (Same.trans sm (same_upd nl)) ?_ upd_same⟩
    cases e : H l with
    | none => rfl
    | some o => rw [sm _ _ e] at nl; cases nl
theorem T0.ok_Net__ask (T : T0 K mg) : FnOk P w K mg base CX0 4 T.a_Net__ask T.fd_Net__ask ["self", "house"] (sp_Net__say T.C_Net "ask") := by
  refine T.F_Net__ask.ok sc_Net__ask (fun vs H Q E h => ?_) (fun cdv A outer s H vs Q E hr h => ?_)
  · obtain ⟨h, dn, db, dl, n, p, x, b, nx, bf, ls, rfl, _⟩ := h
    rfl
  · obtain ⟨h, dn, db, dl, n, p, x, b, nx, bf, ls, rfl, hN, hx, hb, hz, q⟩ := h
    obtain ⟨dx, hh⟩ := hN.me
    refine ⟨_, (pss_cons (ps_expr (pe_meth (pv 0) T.cl_Net T.me_Net__check_house T.ok_Net__check_house (hr.mono (by decide)) T.b_Net__check_house .nil pass0 (pa_cons (pv 1) pa_nil)))
        (pss_one (ps_ret (pe_meth (pv 0) T.cl_Net T.me_Net__send T.ok_Net__send (hr.mono (by decide)) T.b_Net__send .nil pass0 (pa_cons (pe_meth0 (pe_meth (pv 0) T.cl_Net T.me_Net__house_at T.ok_Net__house_at hr T.b_Net__house_at .nil pass0 (pa_cons (pv 1) pa_nil)) T.cl_House T.me_House__ask_letter T.ok_House__ask_letter (hr.mono (by decide)) T.b_House__ask_letter .nil pass0) pa_nil))))), ?_⟩
    refine ⟨_, rfl, h, dx, _, rfl, hh, (by unfold nf; walk_at "lk"), _, rfl, h, dn, db, dl, n, p, nx, bf, ls, rfl, hN, (by rw [hx]; rfl), ?_⟩
    refine ⟨_, rfl, h, dx, _, rfl, hh, (by unfold nf; walk_at "lk"), _, rfl, h, dx, _, rfl, hh, (by unfold nf; walk_at "lk"), _, rfl, h, dn, db, dl, n, p, x, b, nx, bf, ls, rfl, hN, hx, hb, fun H1 r sm nr hA => ?_⟩
    obtain ⟨d2, hA2⟩ := id hA
    refine ⟨r, d2, _, rfl, hA2, (by unfold hf; walk_at "lk"), r, n, p, x, b, rfl, hA, fun l nl => ?_⟩
    refine ⟨h, dn, db, dl, n, nx, bf, ls, .ref l, rfl, (hN.same sm).same (same_upd nl), by omega, q _ l (Same.trans sm (same_upd nl)) ?_ upd_same⟩
    cases e : H l with
    | none => rfl
    | some o => rw [sm _ _ e] at nl; cases nl
def sp_Net__lose (C : Addr) : Sp := fun vs H Q _ => ∃ (h dn db dl : Addr) (n : Int) (k : Nat) (v : V) (nx bf : List (Key × V)) (ls : List V), vs = [.ref h, .int k] ∧ NetAt C H h n dn db dl nx bf ls ∧ ls[k]? = some v ∧ ls.length ≤ 1000 ∧ Q v (upd H dl (.lst (ls.eraseIdx k)))
def sp_Net__repeat (C : Addr) : Sp := fun vs H Q _ => ∃ (h dn db dl : Addr) (n : Int) (k : Nat) (v : V) (nx bf : List (Key × V)) (ls : List V), vs = [.ref h, .int k] ∧ NetAt C H h n dn db dl nx bf ls ∧ ls[k]? = some v ∧ ls.length ≤ 1000 ∧ Q v (upd H dl (.lst (ls ++ [v])))
def sp_Net__nexts (C : Addr) : Sp := fun vs H Q _ => ∃ (h dn db dl : Addr) (n : Int) (nx bf : List (Key × V)) (ls : List V) (ks : List Int) (f : Int → V), vs = [.ref h] ∧ NetAt C H h n dn db dl nx bf ls ∧ nx.map (·.1) = ks.map Sum.inl ∧ ks.length < 64 ∧ ks.Nodup ∧ (∀ k ∈ ks, valV nx (.inl k) = some (f k)) ∧
  ∀ (ys : List Int) (p : Addr) (H' : Hp), ys.Perm ks → ys.Pairwise (· ≤ ·) → Same H H' → H p = none → H' p = some (.dK (ys.map fun y => (.inl y, f y))) → Q (.ref p) H'
theorem T0.ok_Net__nexts (T : T0 K mg) : FnOk P w K mg base CX0 2 T.a_Net__nexts T.fd_Net__nexts ["self"] (sp_Net__nexts T.C_Net) := by
  refine T.F_Net__nexts.ok sc_Net__nexts (fun vs H Q E h => ?_) (fun cdv A outer s H vs Q E hr h => ?_)
  · obtain ⟨h, dn, db, dl, n, nx, bf, ls, ks, f, rfl, _⟩ := h
    rfl
  · obtain ⟨h, dn, db, dl, n, nx, bf, ls, ks, f, rfl, hN, hk, h64, hnd, hf, q⟩ := h
    obtain ⟨dx, hh⟩ := hN.me
    refine ⟨_, (pss_one (ps_ret (pe_dc (own := [("house", 1)]) (g := gName 1) (by rfl) sc_Net__nexts.nd (pi_list (pe_meth0 (pv 0) T.cl_Net T.me_Net__houses T.ok_Net__houses hr T.b_Net__houses .nil pass0)) (blkOk_by (own := [("house", 1)]) (N := ["self", "house"]) (sc := defScope s_Net__nexts) (by decide +kernel)) (fun _ _ _ _ _ => pg_name (i := 1) sc_Net__nexts.nd rfl (Or.inl rfl)) (fun _ _ _ _ _ => pts_nil) (fun _ _ _ _ _ => (pv 1)) (fun _ _ _ _ _ => (pe_dget (un1 hr) (show PE _ _ (tFld K _ _) from pe_fld (pv 0) rfl) (pv 1) (fun _ _ => rfl)))))), ?_⟩
    refine ⟨_, rfl, h, dx, _, rfl, hh, (by unfold nf; walk_at "lk"), h, dn, db, dl, n, nx, bf, ls, ks, rfl, hN, hk, h64, fun ys l perm pw nl => ?_⟩
    have hl : upd H l (.lst (ys.map V.int)) l = some (.lst (ys.map V.int)) := upd_same
    have sm := same_upd (o := .lst (ys.map V.int)) nl
    generalize upd H l (.lst (ys.map V.int)) = H1 at hl sm
    have ynd : ys.Nodup := perm.nodup_iff.mpr hnd
    have ylen := perm.length_eq
    refine ⟨l, rfl, ⟨_, SqL.of hl⟩, fun D hD => ?_⟩
    refine dc_list (K := K) (a := l) (xs := ys.map V.int) (fun i H' => Same H1 H' ∧ H' D = some (.dK ((ys.take i).map fun y => (.inl y, f y)))) ⟨same_upd hD, upd_same⟩ (fun i H' _ p => SqL.of (p.1 _ _ hl)) (fun i x H' hx pv => ?_) (fun H2 pv => ?_)
    · obtain ⟨s2, e2⟩ := pv
      rw [List.getElem?_map] at hx
      obtain ⟨y, hy, rfl⟩ := Option.map_eq_some_iff.mp hx
      have hN2 := (hN.same sm).same s2
      obtain ⟨dx, hh⟩ := hN2.me
      refine ⟨rfl, lc_yes ?_⟩
      refine ⟨_, rfl, _, rfl, h, _, dx, _, _, rfl, hh, T.cl_Net, T.na_Net__nexts, nf_nexts, _, rfl, dn, _, rfl, dget_of (k := Sum.inl y) hN2.hn (hf y (perm.mem_iff.mp (List.mem_of_getElem? hy))), _, Sum.inl y, rfl, e2, small1000' (by rw [List.length_map, List.length_take]; omega), fun b o e => ?_, ?_⟩
      · rw [upd_ne (ne_of_none e hD)]
        exact s2 b o e
      · rw [upd_same, putK_new _ (valV_none_of (not_in_take ynd hy)), List.take_add_one, hy, List.map_append]
        rfl
    · obtain ⟨s2, e2⟩ := pv
      rw [List.length_map, List.take_length] at e2
      exact q ys D H2 perm pw (Same.trans sm s2) (none_back sm hD) e2
def sp_Net__befores (C : Addr) : Sp := fun vs H Q _ => ∃ (h dn db dl : Addr) (n : Int) (nx bf : List (Key × V)) (ls : List V) (ks : List Int) (f : Int → V), vs = [.ref h] ∧ NetAt C H h n dn db dl nx bf ls ∧ nx.map (·.1) = ks.map Sum.inl ∧ ks.length < 64 ∧ ks.Nodup ∧ (∀ k ∈ ks, valV bf (.inl k) = some (f k)) ∧
  ∀ (ys : List Int) (p : Addr) (H' : Hp), ys.Perm ks → ys.Pairwise (· ≤ ·) → Same H H' → H p = none → H' p = some (.dK ((ys.filter fun y => decide (f y ≠ .non)).map fun y => (.inl y, f y))) → Q (.ref p) H'
theorem filter_step {f : Int → V} {ys : List Int} {i : Nat} {y : Int} (h : ys[i]? = some y) : (ys.take (i + 1)).filter (fun y => decide (f y ≠ .non)) = if f y = .non then (ys.take i).filter (fun y => decide (f y ≠ .non)) else (ys.take i).filter (fun y => decide (f y ≠ .non)) ++ [y] := by
  rw [List.take_add_one, h, List.filter_append]
  show _ ++ List.filter _ [y] = _
  by_cases e : f y = .non
  · rw [if_pos e]
    simp only [List.filter_cons, List.filter_nil, e, ne_eq, not_true_eq_false, decide_false, Bool.false_eq_true, if_false, List.append_nil]
  · rw [if_neg e]
    simp only [List.filter_cons, List.filter_nil, e, ne_eq, not_false_eq_true, decide_true, if_true]
theorem T0.ok_Net__befores (T : T0 K mg) : FnOk P w K mg base CX0 2 T.a_Net__befores T.fd_Net__befores ["self"] (sp_Net__befores T.C_Net) := by
  refine T.F_Net__befores.ok sc_Net__befores (fun vs H Q E h => ?_) (fun cdv A outer s H vs Q E hr h => ?_)
  · obtain ⟨h, dn, db, dl, n, nx, bf, ls, ks, f, rfl, _⟩ := h
    rfl
  · obtain ⟨h, dn, db, dl, n, nx, bf, ls, ks, f, rfl, hN, hk, h64, hnd, hf, q⟩ := h
    obtain ⟨dx, hh⟩ := hN.me
    refine ⟨_, (pss_cons (ps_set (i := 1) sc_Net__befores.nd rfl (Or.inr rfl) (show PE _ _ (tFld K _ _) from pe_fld (pv 0) rfl))
        (pss_one (ps_ret (pe_dc (own := [("house", 2)]) (g := gName 2) (by rfl) sc_Net__befores.nd (pi_list (pe_meth0 (pv 0) T.cl_Net T.me_Net__houses T.ok_Net__houses hr T.b_Net__houses .nil pass0)) (blkOk_by (own := [("house", 2)]) (N := ["self", "befores", "house"]) (sc := defScope s_Net__befores) (by decide +kernel)) (fun _ _ _ _ _ => pg_name (i := 2) sc_Net__befores.nd rfl (Or.inl rfl)) (fun _ _ _ _ _ => pts_one (pt_cmpR op_notN (pe_dget (un1 hr) (pv 1) (pv 2) (fun _ _ => rfl)) pe_non (nomark _))) (fun _ _ _ _ _ => (pv 2)) (fun _ _ _ _ _ => (pe_dget (un1 hr) (pv 1) (pv 2) (fun _ _ => rfl))))))), ?_⟩
    refine ⟨_, rfl, h, _, dx, _, _, rfl, hh, T.cl_Net, T.na_Net__befores, nf_befores, ?_⟩
    refine ⟨_, rfl, h, dx, _, rfl, hh, (by unfold nf; walk_at "lk"), h, dn, db, dl, n, nx, bf, ls, ks, rfl, hN, hk, h64, fun ys l perm pw nl => ?_⟩
    have hl : upd H l (.lst (ys.map V.int)) l = some (.lst (ys.map V.int)) := upd_same
    have sm := same_upd (o := .lst (ys.map V.int)) nl
    generalize upd H l (.lst (ys.map V.int)) = H1 at hl sm
    have ynd : ys.Nodup := perm.nodup_iff.mpr hnd
    have ylen := perm.length_eq
    refine ⟨l, rfl, ⟨_, SqL.of hl⟩, fun D hD => ?_⟩
    refine dc_list (K := K) (a := l) (xs := ys.map V.int) (fun i H' => Same H1 H' ∧ H' D = some (.dK (((ys.take i).filter fun y => decide (f y ≠ .non)).map fun y => (.inl y, f y)))) ⟨same_upd hD, upd_same⟩ (fun i H' _ p => SqL.of (p.1 _ _ hl)) (fun i x H' hx pv => ?_) (fun H2 pv => ?_)
    · obtain ⟨s2, e2⟩ := pv
      rw [List.getElem?_map] at hx
      obtain ⟨y, hy, rfl⟩ := Option.map_eq_some_iff.mp hx
      have hN2 := (hN.same sm).same s2
      have g := dget_of (k := Sum.inl y) hN2.hb (hf y (perm.mem_iff.mp (List.mem_of_getElem? hy)))
      have fs := filter_step (f := f) hy
      refine ⟨rfl, _, rfl, _, rfl, db, _, rfl, g, ?_⟩
      refine ⟨rfl, _, rfl, ?_⟩
      by_cases e : f y = .non
      · rw [if_pos e] at fs
        refine iteF' (by rw [decide_eq_true e]; rfl) ?_
        rw [fs]
        exact ⟨s2, e2⟩
      · rw [if_neg e] at fs
        refine iteT' (by rw [decide_eq_false e]; rfl) ?_
        have nin : y ∉ (ys.take i).filter fun y => decide (f y ≠ .non) := fun m => not_in_take ynd hy (List.mem_filter.mp m).1
        refine ⟨_, rfl, _, rfl, _, rfl, db, _, rfl, g, _, Sum.inl y, rfl, e2, small1000' ?_, fun b o e => ?_, ?_⟩
        · rw [List.length_map]
          refine Nat.le_trans (List.length_filter_le _ _) ?_
          rw [List.length_take]
          omega
        · rw [upd_ne (ne_of_none e hD)]
          exact s2 b o e
        · rw [upd_same, putK_new _ (valV_none_of nin), fs, List.map_append]
          rfl
    · obtain ⟨s2, e2⟩ := pv
      rw [List.length_map, List.take_length] at e2
      exact q ys D H2 perm pw (Same.trans sm s2) (none_back sm hD) e2
theorem NetAt.setl {C a dn db dl : Addr} {H : Hp} {n : Int} {nx bf : List (Key × V)} {ls ls' : List V} (N : NetAt C H a n dn db dl nx bf ls) : NetAt C (upd H dl (.lst ls')) a n dn db dl nx bf ls' where
  me := let ⟨dx, e⟩ := N.me; ⟨dx, (upd_ne (fun z => by rw [z, N.hl] at e; cases e)).trans e⟩
  hn := (upd_ne (fun z => by have e := N.hn; rw [z, N.hl] at e; cases e)).trans N.hn
  hb := (upd_ne (fun z => by have e := N.hb; rw [z, N.hl] at e; cases e)).trans N.hb
  hl := upd_same
theorem NetAt.setb {C a dn db dl : Addr} {H : Hp} {n : Int} {nx bf bf' : List (Key × V)} {ls : List V} (N : NetAt C H a n dn db dl nx bf ls) (ne : db ≠ dn) : NetAt C (upd H db (.dK bf')) a n dn db dl nx bf' ls where
  me := let ⟨dx, e⟩ := N.me; ⟨dx, (upd_ne (fun z => by rw [z, N.hb] at e; cases e)).trans e⟩
  hn := (upd_ne (Ne.symm ne)).trans N.hn
  hb := upd_same
  hl := (upd_ne (fun z => by have e := N.hl; rw [z, N.hb] at e; cases e)).trans N.hl
theorem NetAt.setn {C a dn db dl : Addr} {H : Hp} {n : Int} {nx nx' bf : List (Key × V)} {ls : List V} (N : NetAt C H a n dn db dl nx bf ls) (ne : db ≠ dn) : NetAt C (upd H dn (.dK nx')) a n dn db dl nx' bf ls where
  me := let ⟨dx, e⟩ := N.me; ⟨dx, (upd_ne (fun z => by rw [z, N.hn] at e; cases e)).trans e⟩
  hn := upd_same
  hb := (upd_ne ne).trans N.hb
  hl := (upd_ne (fun z => by have e := N.hl; rw [z, N.hn] at e; cases e)).trans N.hl
theorem scal_ok {x y : V} (h : okB x) (g : okB y) : scal x y = true := by
  rcases h with rfl | ⟨i, rfl⟩ <;> rcases g with rfl | ⟨j, rfl⟩ <;> rfl
theorem okB_hB {n p : Int} {b : V} {L : Let} (h : okB b) : okB (hB n p b L) := by
  cases L with
  | tell r u =>
    show okB (hTell n p u b)
    unfold hTell
    split <;> first | exact .inr ⟨_, rfl⟩ | assumption | (split <;> first | exact .inr ⟨_, rfl⟩ | assumption)
  | ask r u => exact h
  | answer r u m => exact h
def Let.to : Let → Int
  | .tell r _ => r
  | .ask r _ => r
  | .answer r _ _ => r
theorem Let.at1 (L : Let) : atI L.vals (1 : Int) = some (.int L.to) := by cases L <;> rfl
/-- what reading leaves: the two dicts, the letters, what is returned -/
structure RdPost (C h dn db dl : Addr) (n r x : Int) (b : V) (L : Let) (nx bf : List (Key × V)) (ls : List V) (H H' : Hp) (v : V) : Prop where
  keep : ∀ a o, a ≠ dn → a ≠ db → a ≠ dl → H a = some o → H' a = some o
  net : NetAt C H' h n dn db dl (if hA r b L = none ∧ hB n r b L = b ∧ hN n r x L ≠ x then putK nx (.inl r) (.int (hN n r x L)) else nx) (if hA r b L = none ∧ hB n r b L ≠ b then putK bf (.inl r) (hB n r b L) else bf) ls
  told : ∃ a, v = .ref a ∧ H' a = some (.tup (if hA r b L ≠ none then [.str "wrote", .int r, hB n r b L] else if hB n r b L ≠ b then [.str "before", .int r, hB n r b L] else if hN n r x L ≠ x then [.str "next", .int r, .int (hN n r x L)] else [.str "kept", .int r, .non]))
def sp_Net__read (K : PySem.W.Frag) (C : Addr) : Sp := fun vs H Q _ => ∃ (h dn db dl lt : Addr) (n x : Int) (b : V) (k : Nat) (L : Let) (nx bf : List (Key × V)) (ls : List V), vs = [.ref h, .int k] ∧ NetAt C H h n dn db dl nx bf ls ∧ ls[k]? = some (.ref lt) ∧ H lt = some (.tup L.vals) ∧ valV nx (.inl L.to) = some (.int x) ∧ valV bf (.inl L.to) = some b ∧ okB b ∧ 0 < n ∧ db ≠ dn ∧ nx.length ≤ 1000 ∧ bf.length ≤ 1000 ∧ ls.length ≤ 1000 ∧
  ∀ H' v ls', (match hA L.to b L with | none => ls' = ls.eraseIdx k | some ys => ∃ a, ls' = ls.eraseIdx k ++ [.ref a] ∧ H' a = some (.tup ys)) → RdPost C h dn db dl n L.to x b L nx bf ls' H H' v → Q v H'
theorem T0.ok_Net__read (T : T0 K mg) : FnOk P w K mg base CX0 5 T.a_Net__read T.fd_Net__read ["self", "at"] (sp_Net__read K T.C_Net) := by
  refine T.F_Net__read.ok sc_Net__read (fun vs H Q E h => ?_) (fun cdv A outer s H vs Q E hr h => ?_)
  · obtain ⟨h, dn, db, dl, lt, n, x, b, k, L, nx, bf, ls, rfl, _⟩ := h
    rfl
  · obtain ⟨h, dn, db, dl, lt, n, x, b, k, L, nx, bf, ls, rfl, hN, hv, hlt, hx, hb, ob, hn, ne, z1, z2, z3, q⟩ := h
    obtain ⟨dx, hh⟩ := hN.me
    have hk := (List.getElem?_eq_some_iff.mp hv).1
    refine ⟨_, (pss_cons (ps_expr (pe_meth (pv 0) T.cl_Net T.me_Net__check_letter T.ok_Net__check_letter (hr.mono (by decide)) T.b_Net__check_letter .nil pass0 (pa_cons (pv 1) pa_nil)))
        (pss_cons (ps_set (i := 2) sc_Net__read.nd rfl (Or.inl rfl) (pe_bm PySem.F.plainAttrs_list PySem.F.slot_list_pop PySem.F.type_list_pop mt_popAt (show PE _ _ (tFld K _ _) from pe_fld (pv 0) rfl) (pa_cons (pv 1) pa_nil)))
        (pss_cons (ps_set (i := 3) sc_Net__read.nd rfl (Or.inl rfl) (pe_ix (ix_tupK (K := K)) (pv 2) pe_int (fun _ _ => rfl)))
        (pss_cons (ps_set (i := 4) sc_Net__read.nd rfl (Or.inl rfl) (pe_meth (pv 0) T.cl_Net T.me_Net__house_at T.ok_Net__house_at (hr.mono (by decide)) T.b_Net__house_at .nil pass0 (pa_cons (pv 3) pa_nil)))
        (pss_cons (ps_set (i := 5) sc_Net__read.nd rfl (Or.inl rfl) (pe_meth (pv 4) T.cl_House T.me_House__hear T.ok_House__hear hr T.b_House__hear .nil pass0 (pa_cons (pv 2) pa_nil)))
        (pss_cons (ps_if (pt_cmpR op_notN (pv 5) pe_non (nomark _)) (pss_cons (ps_expr (pe_meth (pv 0) T.cl_Net T.me_Net__send T.ok_Net__send (hr.mono (by decide)) T.b_Net__send .nil pass0 (pa_cons (pv 5) pa_nil)))
        (pss_one (ps_ret (pe_tup (pa_cons pe_str (pa_cons (pv 3) (pa_cons (show PE _ _ (tFld K _ _) from pe_fld (pv 4) rfl) pa_nil))))))) pss_nil)
        (pss_cons (ps_if (pt_cmpR op_ne (show PE _ _ (tFld K _ _) from pe_fld (pv 4) rfl) (pe_dget (un1 hr) (show PE _ _ (tFld K _ _) from pe_fld (pv 0) rfl) (pv 3) (fun _ _ => rfl)) (nomark _)) (pss_cons (ps_asg (show PE _ _ (tFld K _ _) from pe_fld (pv 4) rfl) (pg_sub (show PE _ _ (tFld K _ _) from pe_fld (pv 0) rfl) (pv 3) (set_dict (un1 hr))))
        (pss_one (ps_ret (pe_tup (pa_cons pe_str (pa_cons (pv 3) (pa_cons (show PE _ _ (tFld K _ _) from pe_fld (pv 4) rfl) pa_nil))))))) pss_nil)
        (pss_cons (ps_if (pt_cmpR op_ne (show PE _ _ (tFld K _ _) from pe_fld (pv 4) rfl) (pe_dget (un1 hr) (show PE _ _ (tFld K _ _) from pe_fld (pv 0) rfl) (pv 3) (fun _ _ => rfl)) (nomark _)) (pss_cons (ps_asg (show PE _ _ (tFld K _ _) from pe_fld (pv 4) rfl) (pg_sub (show PE _ _ (tFld K _ _) from pe_fld (pv 0) rfl) (pv 3) (set_dict (un1 hr))))
        (pss_one (ps_ret (pe_tup (pa_cons pe_str (pa_cons (pv 3) (pa_cons (show PE _ _ (tFld K _ _) from pe_fld (pv 4) rfl) pa_nil))))))) pss_nil)
        (pss_one (ps_ret (pe_tup (pa_cons pe_str (pa_cons (pv 3) (pa_cons pe_non pa_nil)))))))))))))), ?_⟩
    refine ⟨_, rfl, h, dx, _, rfl, hh, (by unfold nf; walk_at "lk"), _, rfl, h, dn, db, dl, n, k, nx, bf, ls, rfl, hN, by omega, by omega, ?_⟩
    refine ⟨_, rfl, h, _, dx, _, _, rfl, hh, T.cl_Net, T.na_Net__letters, nf_letters, .inl ⟨rfl, _, SqL.of hN.hl⟩, _, rfl, dl, ls, k, k, .ref lt, rfl, rfl, hN.hl, by omega, by omega, seq_nat hk, hv, ?_⟩
    have off : ∀ {a : Addr} {o : HO}, H a = some o → (∀ xs, o ≠ .lst xs) → a ≠ dl := fun e no z => by rw [z, hN.hl] at e; exact no _ (Option.some.inj e).symm
    have k1 : ∀ a o, a ≠ dl → H a = some o → upd H dl (.lst (ls.eraseIdx k)) a = some o := fun a o na e => (upd_ne na).trans e
    have N1 : NetAt T.C_Net (upd H dl (.lst (ls.eraseIdx k))) h n dn db dl nx bf (ls.eraseIdx k) := ⟨⟨dx, k1 _ _ (off hh fun _ z => nomatch z) hh⟩, k1 _ _ (off hN.hn fun _ z => nomatch z) hN.hn, k1 _ _ (off hN.hb fun _ z => nomatch z) hN.hb, upd_same⟩
    have lt1 := k1 _ _ (off hlt fun _ z => nomatch z) hlt
    generalize upd H dl (.lst (ls.eraseIdx k)) = H1 at k1 N1 lt1
    obtain ⟨dx, hh1⟩ := N1.me
    refine ⟨_, rfl, lt, _, 1, _, rfl, rfl, SqT.of lt1, L.at1, ?_⟩
    refine ⟨_, rfl, h, dx, _, rfl, hh1, (by unfold nf; walk_at "lk"), _, rfl, h, dn, db, dl, n, L.to, x, b, nx, bf, _, rfl, N1, hx, hb, fun H2 r2 sm nr hA1 => ?_⟩
    obtain ⟨d2, hA2⟩ := id hA1
    refine ⟨_, rfl, r2, d2, _, rfl, hA2, (by unfold hf; walk_at "lk"), _, rfl, r2, lt, n, L.to, x, b, L, rfl, hA1, ob, hn, SqT.of (sm _ _ lt1), fun v H3 hA3 k3 post => ?_⟩
    have k2 : ∀ a o, a ≠ dl → H a = some o → H3 a = some o := fun a o na e => k3 _ _ (ne_of_none (k1 _ _ na e) nr) (sm _ _ (k1 _ _ na e))
    have kp3 : Same H1 H3 := fun a o e => k3 _ _ (ne_of_none e nr) (sm _ _ e)
    have N3 := N1.same kp3
    obtain ⟨dx, hh3⟩ := N3.me
    have nd : r2 ≠ dl := fun z => by rw [z, N1.hl] at nr; cases nr
    have ndb : r2 ≠ db := fun z => by rw [z, N1.hb] at nr; cases nr
    have ndn : r2 ≠ dn := fun z => by rw [z, N1.hn] at nr; cases nr
    have le : (ls.eraseIdx k).length ≤ 1000 := Nat.le_trans (List.length_eraseIdx_le _ _) z3
    obtain ⟨d3, hA3'⟩ := id hA3
    cases eA : hA L.to b L with
    | some ys =>
      rw [eA] at post
      obtain ⟨a, rfl, hy⟩ := post
      refine ⟨_, rfl, rfl, _, rfl, ?_⟩
      refine iteT' (by rw [decide_eq_false (fun z => nomatch z)]; rfl) ?_
      refine ⟨_, rfl, h, dx, _, rfl, hh3, (by unfold nf; walk_at "lk"), _, rfl, h, dn, db, dl, n, nx, bf, _, .ref a, rfl, N3, by omega, ?_⟩
      refine ⟨_, rfl, _, rfl, r2, _, d3, _, _, rfl, (upd_ne nd).trans hA3', T.cl_House, T.na_House_before, hf_before, lenL (by show 3 ≤ 100000; decide), fun p np => ?_⟩
      have ap : a ≠ dl := fun z => by rw [z, N3.hl] at hy; cases hy
      have hy4 : upd H3 dl (.lst (ls.eraseIdx k ++ [.ref a])) a = some (.tup ys) := (upd_ne ap).trans hy
      refine q _ _ (ls.eraseIdx k ++ [.ref a]) ?_ ⟨fun c o n1 n2 n3 e => ?_, ?_, p, rfl, ?_⟩
      · rw [eA]
        exact ⟨a, rfl, (upd_ne (ne_of_none hy4 np)).trans hy4⟩
      · have e4 : upd H3 dl (.lst (ls.eraseIdx k ++ [.ref a])) c = some o := (upd_ne n3).trans (k2 c o n3 e)
        exact (upd_ne (ne_of_none e4 np)).trans e4
      · rw [eA]
        rw [if_neg (fun z => nomatch z.1), if_neg (fun z => nomatch z.1)]
        exact (N3.setl).same (same_upd np)
      · rw [eA, upd_same, if_pos (fun z => nomatch z)]
    | none =>
      rw [eA] at post
      subst post
      refine ⟨_, rfl, rfl, _, rfl, ?_⟩
      refine iteF' (by rfl) ?_
      have okb := okB_hB (n := n) (p := L.to) (L := L) ob
      refine ⟨_, rfl, r2, _, d3, _, _, rfl, hA3', T.cl_House, T.na_House_before, hf_before, _, rfl, h, _, dx, _, _, rfl, hh3, T.cl_Net, T.na_Net__befores, nf_befores, _, rfl, db, b, rfl, dget_of N3.hb hb, scal_ok okb ob, _, rfl, ?_⟩
      by_cases eb : hB n L.to b L = b
      · refine iteF' (by rw [decide_eq_true eb]; rfl) ?_
        refine ⟨_, rfl, r2, _, d3, _, _, rfl, hA3', T.cl_House, T.na_House_next_house, hf_next, _, rfl, h, _, dx, _, _, rfl, hh3, T.cl_Net, T.na_Net__nexts, nf_nexts, _, rfl, dn, _, rfl, dget_of N3.hn hx, rfl, _, rfl, ?_⟩
        by_cases ex : Z.hN n L.to x L = x
        · refine iteF' (by rw [decide_eq_true (congrArg V.int ex)]; rfl) ?_
          refine ⟨_, rfl, lenL (by show 3 ≤ 100000; decide), fun p np => q _ _ (ls.eraseIdx k) (by rw [eA]) ⟨fun c o n1 n2 n3 e => ?_, ?_, p, rfl, ?_⟩⟩
          · exact (upd_ne (ne_of_none (k2 c o n3 e) np)).trans (k2 c o n3 e)
          · rw [if_neg (fun z => z.2.2 ex), if_neg (fun z => z.2 eb)]
            exact N3.same (same_upd np)
          · rw [upd_same, if_neg (fun z => z eA), if_neg (fun z => z eb), if_neg (fun z => z ex)]
        · refine iteT' (by rw [decide_eq_false (fun z => ex (V.int.inj z))]; rfl) ?_
          refine ⟨_, rfl, r2, _, d3, _, _, rfl, hA3', T.cl_House, T.na_House_next_house, hf_next, ?_⟩
          refine ⟨_, rfl, h, _, dx, _, _, rfl, hh3, T.cl_Net, T.na_Net__nexts, nf_nexts, _, rfl, dn, _, rfl, DPut.k (k := Sum.inl L.to) N3.hn (small1000' (by omega)), ?_⟩
          refine ⟨_, rfl, _, rfl, r2, _, d3, _, _, rfl, (upd_ne ndn).trans hA3', T.cl_House, T.na_House_next_house, hf_next, lenL (by show 3 ≤ 100000; decide), fun p np => q _ _ (ls.eraseIdx k) (by rw [eA]) ⟨fun c o n1 n2 n3 e => ?_, ?_, p, rfl, ?_⟩⟩
          · have e4 := (upd_ne (o := .dK (putK nx (Sum.inl L.to) (.int (Z.hN n L.to x L)))) n1).trans (k2 c o n3 e)
            exact (upd_ne (ne_of_none e4 np)).trans e4
          · rw [if_pos ⟨eA, eb, ex⟩, if_neg (fun z => z.2 eb)]
            exact (N3.setn ne).same (same_upd np)
          · rw [upd_same, if_neg (fun z => z eA), if_neg (fun z => z eb), if_pos ex]
      · refine iteT' (by rw [decide_eq_false eb]; rfl) ?_
        refine ⟨_, rfl, r2, _, d3, _, _, rfl, hA3', T.cl_House, T.na_House_before, hf_before, ?_⟩
        refine ⟨_, rfl, h, _, dx, _, _, rfl, hh3, T.cl_Net, T.na_Net__befores, nf_befores, _, rfl, db, _, rfl, DPut.k (k := Sum.inl L.to) N3.hb (small1000' (by omega)), ?_⟩
        refine ⟨_, rfl, _, rfl, r2, _, d3, _, _, rfl, (upd_ne ndb).trans hA3', T.cl_House, T.na_House_before, hf_before, lenL (by show 3 ≤ 100000; decide), fun p np => q _ _ (ls.eraseIdx k) (by rw [eA]) ⟨fun c o n1 n2 n3 e => ?_, ?_, p, rfl, ?_⟩⟩
        · have e4 := (upd_ne (o := .dK (putK bf (Sum.inl L.to) (hB n L.to b L))) n2).trans (k2 c o n3 e)
          exact (upd_ne (ne_of_none e4 np)).trans e4
        · rw [if_neg (fun z => eb z.2.1), if_pos ⟨eA, eb⟩]
          exact (N3.setb ne).same (same_upd np)
        · rw [upd_same, if_neg (fun z => z eA), if_pos eb]
def sp_Net__check_letters (K : PySem.W.Frag) (C : Addr) : Sp := fun vs H Q _ => ∃ (h dn db dl : Addr) (n : Int) (nx bf : List (Key × V)) (ls : List V), vs = [.ref h] ∧ NetAt C H h n dn db dl nx bf ls ∧ ls.length ≤ 1000 ∧ (∀ v ∈ ls, ∃ (a : Addr) (z : Str) (qs : List Int), v = .ref a ∧ H a = some (.tup (.str z :: qs.map V.int)) ∧ ∀ q ∈ qs, (valV nx (.inl q)).isSome = true) ∧ ∀ H', Same H H' → Q .non H'
theorem T0.ok_Net__check_letters (T : T0 K mg) : FnOk P w K mg base CX0 2 T.a_Net__check_letters T.fd_Net__check_letters ["self"] (sp_Net__check_letters K T.C_Net) := by
  refine T.F_Net__check_letters.ok sc_Net__check_letters (fun vs H Q E h => ?_) (fun cdv A outer s H vs Q E hr h => ?_)
  · obtain ⟨h, dn, db, dl, n, nx, bf, ls, rfl, _⟩ := h
    rfl
  · obtain ⟨h, dn, db, dl, n, nx, bf, ls, rfl, hN, hz, hl, q⟩ := h
    obtain ⟨dx, hh⟩ := hN.me
    refine ⟨_, (pss_one (ps_for PassesOwn.never rfl (pi_list (show PE _ _ (tFld K _ _) from pe_fld (pv 0) rfl)) (pg_name (i := 1) sc_Net__check_letters.nd rfl (Or.inl rfl)) (pss_one (ps_for PassesOwn.never rfl (pi_tup (pe_slice (sl_tupK (K := K)) (pv 1) (po_some pe_int) po_none)) (pg_name (i := 2) sc_Net__check_letters.nd rfl (Or.inl rfl)) (pss_one (ps_expr (pe_meth (pv 0) T.cl_Net T.me_Net__check_house T.ok_Net__check_house hr T.b_Net__check_house .nil pass0 (pa_cons (pv 2) pa_nil)))))))), ?_⟩
    refine ⟨_, rfl, h, _, dx, _, _, rfl, hh, T.cl_Net, T.na_Net__letters, nf_letters, dl, rfl, ⟨_, SqL.of hN.hl⟩, ?_⟩
    refine for_list (K := K) (a := dl) (xs := ls) (fun i σ' H' => ∃ o1 o2, σ' = [some (.ref h), o1, o2] ∧ Same H H') ⟨none, none, rfl, fun _ _ e => e⟩ (fun i σ' H' _ p => by obtain ⟨_, _, _, s⟩ := p; exact SqL.of (s _ _ hN.hl)) (fun i v σ' H1 hv p => ?_) (fun σ' H1 p => ?_)
    · obtain ⟨o1, o2, rfl, s1⟩ := p
      obtain ⟨a, z, qs, rfl, ha, hq⟩ := hl v (List.mem_of_getElem? hv)
      have i1 : HT.sIx (V.str z :: qs.map V.int).length 0 (some (1 : Int)) = 1 := by rw [show (1 : Int) = ((1 : Nat) : Int) from rfl, HT.sIx_nat, List.length_cons]; omega
      have cut : cutV (V.str z :: qs.map V.int) (some 1) none = qs.map V.int := by
        unfold cutV
        rw [i1, HT.sIx_none, List.take_of_length_le (by rw [List.length_drop]; exact Nat.le_refl _)]
        rfl
      refine ⟨_, rfl, 1, rfl, a, _, rfl, SqT.of (s1 _ _ ha), (fun y => by rw [i1] at y; exact absurd y.1 (by decide)), fun u nu => ?_⟩
      rw [cut]
      have hu : upd H1 u (.tup (qs.map V.int)) u = some (.tup (qs.map V.int)) := upd_same
      have s2 := Same.trans s1 (same_upd (o := .tup (qs.map V.int)) nu)
      generalize upd H1 u (.tup (qs.map V.int)) = H2 at hu s2
      refine ⟨u, rfl, ⟨_, SqT.of hu⟩, ?_⟩
      refine for_tup (K := K) (a := u) (xs := qs.map V.int) (fun j σ' H' => ∃ o2, σ' = [some (.ref h), some (.ref a), o2] ∧ Same H2 H') ⟨o2, rfl, fun _ _ e => e⟩ (fun j σ' H' _ p => by obtain ⟨_, _, s⟩ := p; exact SqT.of (s _ _ hu)) (fun j v σ' H3 hv p => ?_) (fun σ' H3 p => ?_)
      · obtain ⟨o2, rfl, s3⟩ := p
        rw [List.getElem?_map] at hv
        obtain ⟨y, hy, rfl⟩ := Option.map_eq_some_iff.mp hv
        have N3 := hN.same (Same.trans s2 s3)
        obtain ⟨dx, hh⟩ := N3.me
        exact ⟨_, rfl, h, dx, _, rfl, hh, (by unfold nf; walk_at "lk"), _, rfl, h, dn, db, dl, n, y, nx, bf, ls, rfl, N3, hq y (List.mem_of_getElem? hy), _, rfl, s3⟩
      · obtain ⟨o2, rfl, s3⟩ := p
        exact ⟨_, _, rfl, Same.trans s2 s3⟩
    · obtain ⟨o1, o2, rfl, s1⟩ := p
      exact q H1 s1
def sp_Net__check_places (C : Addr) : Sp := fun vs H Q _ => ∃ (h dn db dl : Addr) (n : Int) (nx bf : List (Key × V)) (ls : List V) (ks : List Int), vs = [.ref h] ∧ NetAt C H h n dn db dl nx bf ls ∧ nx.map (·.1) = ks.map Sum.inl ∧ ks.length < 64 ∧ (∀ k ∈ ks, 0 ≤ k ∧ k < n ∧ ∃ x, valV nx (.inl k) = some (.int x) ∧ (valV nx (.inl x)).isSome = true) ∧ ∀ H', Same H H' → Q .non H'
theorem T0.ok_Net__check_places (T : T0 K mg) : FnOk P w K mg base CX0 2 T.a_Net__check_places T.fd_Net__check_places ["self"] (sp_Net__check_places T.C_Net) := by
  refine T.F_Net__check_places.ok sc_Net__check_places (fun vs H Q E h => ?_) (fun cdv A outer s H vs Q E hr h => ?_)
  · obtain ⟨h, dn, db, dl, n, nx, bf, ls, ks, rfl, _⟩ := h
    rfl
  · obtain ⟨h, dn, db, dl, n, nx, bf, ls, ks, rfl, hN, hk, h64, hv, q⟩ := h
    obtain ⟨dx, hh⟩ := hN.me
    refine ⟨_, (pss_cons (ps_for PassesOwn.never rfl (pi_list (pe_meth0 (pv 0) T.cl_Net T.me_Net__houses T.ok_Net__houses hr T.b_Net__houses .nil pass0)) (pg_name (i := 1) sc_Net__check_places.nd rfl (Or.inl rfl)) (pss_one (ps_expr (pe_call T.ok_check_on_circle hr (by rfl) T.g_check_on_circle T.k_check_on_circle T.b_check_on_circle .nil pass0 (pa_cons (show PE _ _ (tFld K _ _) from pe_fld (pv 0) rfl) (pa_cons (pv 1) pa_nil))))))
        (pss_one (ps_for PassesOwn.never rfl (pi_list (pe_meth0 (pv 0) T.cl_Net T.me_Net__houses T.ok_Net__houses hr T.b_Net__houses .nil pass0)) (pg_name (i := 1) sc_Net__check_places.nd rfl (Or.inl rfl)) (pss_one (ps_expr (pe_meth (pv 0) T.cl_Net T.me_Net__check_house T.ok_Net__check_house hr T.b_Net__check_house .nil pass0 (pa_cons (pe_dget (un1 hr) (show PE _ _ (tFld K _ _) from pe_fld (pv 0) rfl) (pv 1) (fun _ _ => rfl)) pa_nil))))))), ?_⟩
    refine ⟨_, rfl, h, dx, _, rfl, hh, (by unfold nf; walk_at "lk"), h, dn, db, dl, n, nx, bf, ls, ks, rfl, hN, hk, h64, fun ys l perm pw nl => ?_⟩
    have hl : upd H l (.lst (ys.map V.int)) l = some (.lst (ys.map V.int)) := upd_same
    have sm := same_upd (o := .lst (ys.map V.int)) nl
    generalize upd H l (.lst (ys.map V.int)) = H1 at hl sm
    refine ⟨l, rfl, ⟨_, SqL.of hl⟩, ?_⟩
    refine for_list (K := K) (a := l) (xs := ys.map V.int) (fun i σ' H' => ∃ o1, σ' = [some (.ref h), o1] ∧ H1 = H') ⟨none, rfl, rfl⟩ (fun i σ' H' _ p => by obtain ⟨_, _, rfl⟩ := p; exact SqL.of hl) (fun i v σ' H' hv' p => ?_) (fun σ' H' p => ?_)
    · obtain ⟨o1, rfl, rfl⟩ := p
      rw [List.getElem?_map] at hv'
      obtain ⟨y, hy, rfl⟩ := Option.map_eq_some_iff.mp hv'
      have N1 := hN.same sm
      obtain ⟨dx, hh⟩ := N1.me
      obtain ⟨y0, y1, _⟩ := hv y (perm.mem_iff.mp (List.mem_of_getElem? hy))
      exact ⟨_, rfl, h, _, dx, _, _, rfl, hh, T.cl_Net, T.na_Net_size, nf_size, _, rfl, n, y, rfl, y0, y1, _, rfl, rfl⟩
    obtain ⟨o1, rfl, rfl⟩ := p
    have N1 := hN.same sm
    obtain ⟨dx, hh⟩ := N1.me
    refine ⟨_, rfl, h, dx, _, rfl, hh, (by unfold nf; walk_at "lk"), h, dn, db, dl, n, nx, bf, ls, ks, rfl, N1, hk, h64, fun ys l perm pw nl => ?_⟩
    have hl : upd H1 l (.lst (ys.map V.int)) l = some (.lst (ys.map V.int)) := upd_same
    have sm2 := Same.trans sm (same_upd (o := .lst (ys.map V.int)) nl)
    generalize upd H1 l (.lst (ys.map V.int)) = H2 at hl sm2
    refine ⟨l, rfl, ⟨_, SqL.of hl⟩, ?_⟩
    refine for_list (K := K) (a := l) (xs := ys.map V.int) (fun i σ' H' => ∃ o1, σ' = [some (.ref h), o1] ∧ H2 = H') ⟨_, rfl, rfl⟩ (fun i σ' H' _ p => by obtain ⟨_, _, rfl⟩ := p; exact SqL.of hl) (fun i v σ' H' hv' p => ?_) (fun σ' H' p => ?_)
    · obtain ⟨o1, rfl, rfl⟩ := p
      rw [List.getElem?_map] at hv'
      obtain ⟨y, hy, rfl⟩ := Option.map_eq_some_iff.mp hv'
      have N2 := hN.same sm2
      obtain ⟨dx, hh⟩ := N2.me
      obtain ⟨_, _, x, hx, hx2⟩ := hv y (perm.mem_iff.mp (List.mem_of_getElem? hy))
      refine ⟨_, rfl, h, dx, _, rfl, hh, (by unfold nf; walk_at "lk"), _, rfl, h, _, dx, _, _, rfl, hh, T.cl_Net, T.na_Net__nexts, nf_nexts, _, rfl, dn, _, rfl, dget_of (k := Sum.inl y) N2.hn hx, h, dn, db, dl, n, x, nx, bf, ls, rfl, N2, hx2, _, rfl, rfl⟩
    · obtain ⟨o1, rfl, rfl⟩ := p
      exact q _ sm2
def sp_Net__take_befores (C : Addr) : Sp := fun vs H Q _ => ∃ (h dn db dl d : Addr) (n : Int) (nx bf bs : List (Key × V)) (ls : List V) (js : List Int), vs = [.ref h, .ref d] ∧ NetAt C H h n dn db dl nx bf ls ∧ H d = some (.dK bs) ∧ bs.map (·.1) = js.map Sum.inl ∧ js.length < 64 ∧ (∀ j ∈ js, (valV nx (.inl j)).isSome = true ∧ ∃ x, valV bs (.inl j) = some (.int x) ∧ (valV nx (.inl x)).isSome = true) ∧ d ≠ db ∧ db ≠ dn ∧ bf.length ≤ 1000 ∧
  ∀ H' bf', NetAt C H' h n dn db dl nx bf' ls → (∀ a o, a ≠ db → H a = some o → H' a = some o) → (∀ p : Int, valV bf' (.inl p) = if p ∈ js then valV bs (.inl p) else valV bf (.inl p)) → bf'.length ≤ bf.length + js.length → Q .non H'
theorem T0.ok_Net__take_befores (T : T0 K mg) : FnOk P w K mg base CX0 2 T.a_Net__take_befores T.fd_Net__take_befores ["self", "befores"] (sp_Net__take_befores T.C_Net) := by
  refine T.F_Net__take_befores.ok sc_Net__take_befores (fun vs H Q E h => ?_) (fun cdv A outer s H vs Q E hr h => ?_)
  · obtain ⟨h, dn, db, dl, d, n, nx, bf, bs, ls, js, rfl, _⟩ := h
    rfl
  · obtain ⟨h, dn, db, dl, d, n, nx, bf, bs, ls, js, rfl, hN, hd, hk, h64, hv, ned, ne, hz, q⟩ := h
    refine ⟨_, (pss_one (ps_for PassesOwn.never rfl (pi_list (pe_callB (call_sortedDI rfl) (by rfl) T.m_sorted (by decide +kernel) (pa_cons (pv 1) pa_nil))) (pg_name (i := 2) sc_Net__take_befores.nd rfl (Or.inl rfl)) (pss_cons (ps_expr (pe_meth (pv 0) T.cl_Net T.me_Net__check_house T.ok_Net__check_house hr T.b_Net__check_house .nil pass0 (pa_cons (pv 2) pa_nil)))
        (pss_cons (ps_expr (pe_meth (pv 0) T.cl_Net T.me_Net__check_house T.ok_Net__check_house hr T.b_Net__check_house .nil pass0 (pa_cons (pe_dget (un1 hr) (pv 1) (pv 2) (fun _ _ => rfl)) pa_nil)))
        (pss_one (ps_asg (pe_dget (un1 hr) (pv 1) (pv 2) (fun _ _ => rfl)) (pg_sub (show PE _ _ (tFld K _ _) from pe_fld (pv 0) rfl) (pv 2) (set_dict (un1 hr))))))))), ?_⟩
    refine ⟨_, rfl, d, bs, js, rfl, .inl hd, hk, h64, fun ys l perm pw nl => ?_⟩
    have hl : upd H l (.lst (ys.map V.int)) l = some (.lst (ys.map V.int)) := upd_same
    have sm := same_upd (o := .lst (ys.map V.int)) nl
    generalize upd H l (.lst (ys.map V.int)) = H1 at hl sm
    have ylen := perm.length_eq
    have nldb : l ≠ db := fun z => by rw [z, hN.hb] at nl; cases nl
    refine ⟨l, rfl, ⟨_, SqL.of hl⟩, ?_⟩
    refine for_list (K := K) (a := l) (xs := ys.map V.int) (fun i σ' H' => ∃ o1 bf', σ' = [some (.ref h), some (.ref d), o1] ∧ NetAt T.C_Net H' h n dn db dl nx bf' ls ∧ (∀ a o, a ≠ db → H1 a = some o → H' a = some o) ∧ (∀ p : Int, valV bf' (.inl p) = if p ∈ ys.take i then valV bs (.inl p) else valV bf (.inl p)) ∧ bf'.length ≤ bf.length + i)
      ⟨none, bf, rfl, hN.same sm, fun _ _ _ e => e, fun p => by rw [List.take_zero, if_neg (List.not_mem_nil)], Nat.le_refl _⟩ (fun i σ' H' _ p => by obtain ⟨_, _, _, _, k, _⟩ := p; exact SqL.of (k _ _ nldb hl)) (fun i v σ' H' hv' p => ?_) (fun σ' H' p => ?_)
    · obtain ⟨o1, bf', rfl, N1, k1, vl, ln⟩ := p
      rw [List.getElem?_map] at hv'
      obtain ⟨y, hy, rfl⟩ := Option.map_eq_some_iff.mp hv'
      have hi : i < ys.length := (List.getElem?_eq_some_iff.mp hy).1
      obtain ⟨dx, hh⟩ := N1.me
      obtain ⟨y0, x, hx, hx2⟩ := hv y (perm.mem_iff.mp (List.mem_of_getElem? hy))
      have hd1 := k1 _ _ ned (sm _ _ hd)
      refine ⟨_, rfl, h, dx, _, rfl, hh, (by unfold nf; walk_at "lk"), _, rfl, h, dn, db, dl, n, y, nx, bf', ls, rfl, N1, y0, ?_⟩
      refine ⟨_, rfl, h, dx, _, rfl, hh, (by unfold nf; walk_at "lk"), _, rfl, _, rfl, d, _, rfl, dget_of (k := Sum.inl y) hd1 hx, h, dn, db, dl, n, x, nx, bf', ls, rfl, N1, hx2, ?_⟩
      refine ⟨_, rfl, _, rfl, d, _, rfl, dget_of (k := Sum.inl y) hd1 hx, ?_⟩
      refine ⟨_, rfl, h, _, dx, _, _, rfl, hh, T.cl_Net, T.na_Net__befores, nf_befores, _, rfl, db, _, rfl, DPut.k (k := Sum.inl y) N1.hb (small1000' (by omega)), ?_⟩
      refine ⟨_, _, rfl, N1.setb ne, fun a o na e => (upd_ne na).trans (k1 _ _ na e), fun p => ?_, ?_⟩
      · rw [valV_put, vl p, List.take_add_one, hy, Option.toList_some]
        by_cases e : p = y
        · subst e
          rw [if_pos rfl, if_pos (List.mem_append_right _ (List.mem_singleton.mpr rfl)), hx]
        · have e1 : ¬ (Sum.inl p : Key) = Sum.inl y := fun z => e (Sum.inl.inj z)
          rw [if_neg e1]
          by_cases g : p ∈ ys.take i
          · rw [if_pos g, if_pos (List.mem_append_left _ g)]
          · rw [if_neg g, if_neg (fun z => (List.mem_append.mp z).elim g (fun z => e (List.mem_singleton.mp z)))]
      · have := length_putK bf' (Sum.inl y : Key) (.int x)
        omega
    · obtain ⟨o1, bf', rfl, N1, k1, vl, ln⟩ := p
      refine q H' bf' N1 (fun a o na e => k1 a o na (sm _ _ e)) (fun p => ?_) (by rw [List.length_map] at ln; omega)
      rw [vl p, List.length_map, List.take_length]
      by_cases g : p ∈ ys
      · rw [if_pos g, if_pos (perm.mem_iff.mp g)]
      · rw [if_neg g, if_neg (fun z => g (perm.mem_iff.mpr z))]
def bef (bs : List (Key × V)) (k : Int) : V := (valV bs (.inl k)).getD .non
theorem valV_none_keys {kvs : List (Key × V)} {js : List Int} {p : Int} (h : kvs.map (·.1) = js.map Sum.inl) (hp : p ∉ js) : valV kvs (.inl p) = none := by
  induction kvs generalizing js with
  | nil => rfl
  | cons kv r ih =>
    cases js with
    | nil => cases h
    | cons j js =>
      obtain ⟨k, v⟩ := kv
      have h1 : k = Sum.inl j := (List.cons.inj h).1
      rw [valV_neg (fun e => hp (by rw [h1] at e; rw [Sum.inl.inj e]; exact List.mem_cons_self)), ih (List.cons.inj h).2 (fun m => hp (List.mem_cons_of_mem _ m))]
theorem valV_all_non {ks : List Int} {k : Int} (h : k ∈ ks) : valV (ks.map fun z => ((Sum.inl z : Key), V.non)) (Sum.inl k) = some .non := by
  induction ks with
  | nil => cases h
  | cons z r ih =>
    rw [List.map_cons]
    by_cases e : z = k
    · subst e
      exact valV_pos (p := ((Sum.inl z : Key), V.non)) rfl
    · rw [valV_neg (fun g => e (Sum.inl.inj g))]
      exact ih ((List.mem_cons.mp h).resolve_left (fun g => e g.symm))
def sp_Net__init (K : PySem.W.Frag) (C : Addr) : Sp := fun vs H Q _ => ∃ (h dx d1 d2 pl : Addr) (n : Int) (nx bs : List (Key × V)) (ls : List V) (ks js : List Int), vs = [.ref h, .int n, .ref d1, .ref d2, .ref pl] ∧ H h = some (.ins C dx []) ∧ H d1 = some (.dK nx) ∧ H d2 = some (.dK bs) ∧ H pl = some (.lst ls) ∧
  nx.map (·.1) = ks.map Sum.inl ∧ ks.length < 64 ∧ ks.Nodup ∧ bs.map (·.1) = js.map Sum.inl ∧ js.length < 64 ∧ ls.length ≤ 1000 ∧
  (∀ k ∈ ks, 0 ≤ k ∧ k < n ∧ ∃ x, valV nx (.inl k) = some (.int x) ∧ (valV nx (.inl x)).isSome = true) ∧ (∀ j ∈ js, (valV nx (.inl j)).isSome = true ∧ ∃ x, valV bs (.inl j) = some (.int x) ∧ (valV nx (.inl x)).isSome = true) ∧
  (∀ v ∈ ls, ∃ (a : Addr) (z : Str) (qs : List Int), v = .ref a ∧ H a = some (.tup (.str z :: qs.map V.int)) ∧ ∀ q ∈ qs, (valV nx (.inl q)).isSome = true) ∧
  ∀ H' dn db dl bf, NetAt C H' h n dn db dl nx bf ls → (∀ a o, a ≠ h → H a = some o → H' a = some o) → H dn = none → H db = none → H dl = none → db ≠ dn → (∀ p ∈ ks, valV bf (.inl p) = some (bef bs p)) → bf.length ≤ ks.length + js.length → Q .non H'
theorem T0.ok_Net__init (T : T0 K mg) : FnOk P w K mg base CX0 3 T.a_Net__init T.fd_Net__init ["self", "size", "nexts", "befores", "letters"] (sp_Net__init K T.C_Net) := by
  refine T.F_Net__init.ok sc_Net__init (fun vs H Q E h => ?_) (fun cdv A outer s H vs Q E hr h => ?_)
  · obtain ⟨h, dx, d1, d2, pl, n, nx, bs, ls, ks, js, rfl, _⟩ := h
    rfl
  · obtain ⟨h, dx, d1, d2, pl, n, nx, bs, ls, ks, js, rfl, hh, h1, h2, hpl, hk, h64, hnd, hj, hj64, hz, hv, hw, hu, q⟩ := h
    refine ⟨_, (pss_cons (ps_fld (pv 0) (pv 1) rfl)
        (pss_cons (ps_fld (pv 0) (pe_callTy call_dictD (by rfl) T.m_dict (by decide +kernel) (pa_cons (pv 2) pa_nil)) rfl)
        (pss_cons (ps_fld (pv 0) (pe_lock <| pe_dc (own := [("house", 5)]) (g := gName 5) (by rfl) sc_Net__init.nd (pi_keys (show PE _ _ (tFld K _ _) from pe_fld (pv 0) rfl)) (blkOk_by (own := [("house", 5)]) (N := ["self", "size", "nexts", "befores", "letters", "house"]) (sc := defScope s_Net__init) (by decide +kernel)) (fun _ _ _ _ _ => pg_name (i := 5) sc_Net__init.nd rfl (Or.inl rfl)) (fun _ _ _ _ _ => pts_nil) (fun _ _ _ _ _ => (pv 5)) (fun _ _ _ _ _ => pe_non)) rfl)
        (C8.pss_cut (ps_fld (pv 0) (pe_callTy (call_list_ofK (K := K)) (by rfl) T.m_list (by decide +kernel) (pa_cons (show PE _ _ (tOrT K _ _) from pe_orT (pv 4) (pe_one (pe_lst pa_nil))) pa_nil)) rfl)
        (pss_cons (ps_expr (pe_meth0 (pv 0) T.cl_Net T.me_Net__check_places T.ok_Net__check_places hr T.b_Net__check_places .nil pass0))
        (C8.pss_cut (ps_expr (pe_meth (pv 0) T.cl_Net T.me_Net__take_befores T.ok_Net__take_befores hr T.b_Net__take_befores .nil pass0 (pa_cons (show PE _ _ (tOrT K _ _) from pe_orT (pv 3) (pe_one pe_dnewK)) pa_nil)))
        (pss_one (ps_expr (pe_meth0 (pv 0) T.cl_Net T.me_Net__check_letters T.ok_Net__check_letters hr T.b_Net__check_letters .nil pass0))))))))), ?_⟩
    have nd1 : h ≠ d1 := fun e => by rw [e, h1] at hh; cases hh
    have nd2 : h ≠ d2 := fun e => by rw [e, h2] at hh; cases hh
    have npl : h ≠ pl := fun e => by rw [e, hpl] at hh; cases hh
    refine ⟨_, rfl, _, rfl, h, _, dx, [], rfl, hh, T.cl_Net, T.na_Net_size, (by show 0 < 1000; decide), ?_⟩
    refine ⟨_, rfl, d1, nx, rfl, .inl ((upd_ne nd1.symm).trans h1), fun dn ndn => ?_⟩
    have e1 : h ≠ dn := fun e => by rw [← e, upd_same] at ndn; cases ndn
    have ndn0 : H dn = none := by rw [upd_ne e1.symm] at ndn; exact ndn
    refine ⟨_, rfl, h, _, dx, _, rfl, (upd_ne e1).trans upd_same, T.cl_Net, T.na_Net__nexts, (by show 1 < 1000; decide), ?_⟩
    have k3 : ∀ a o, a ≠ h → H a = some o → upd (upd (upd H h (.ins T.C_Net dx (putF "size" (.int n) []))) dn (.dK nx)) h (.ins T.C_Net dx (putF "_nexts" (.ref dn) (putF "size" (.int n) []))) a = some o := fun a o na e => by
      rw [upd_ne na, upd_ne (ne_of_none e ndn0), upd_ne na]
      exact e
    have hdn : upd (upd (upd H h (.ins T.C_Net dx (putF "size" (.int n) []))) dn (.dK nx)) h (.ins T.C_Net dx (putF "_nexts" (.ref dn) (putF "size" (.int n) []))) dn = some (.dK nx) := (upd_ne e1.symm).trans upd_same
    have hh3 : upd (upd (upd H h (.ins T.C_Net dx (putF "size" (.int n) []))) dn (.dK nx)) h (.ins T.C_Net dx (putF "_nexts" (.ref dn) (putF "size" (.int n) []))) h = some (.ins T.C_Net dx (putF "_nexts" (.ref dn) (putF "size" (.int n) []))) := upd_same
    generalize upd (upd (upd H h (.ins T.C_Net dx (putF "size" (.int n) []))) dn (.dK nx)) h (.ins T.C_Net dx (putF "_nexts" (.ref dn) (putF "size" (.int n) []))) = H3 at k3 hdn hh3
    refine ⟨dn, nx, hdn, fun od => ?_⟩
    refine ⟨_, rfl, h, _, dx, _, _, rfl, (upd_ne e1).trans hh3, T.cl_Net, T.na_Net__nexts, (by walk_at "pf"; walk_at "lk"), dn, od, rfl, .inl ⟨nx, upd_same, fun D hD => ?_⟩⟩
    have nDdn : D ≠ dn := fun z => by rw [z, upd_same] at hD; cases hD
    refine dc_it walk_keys (fun i H' => Same (upd H3 dn (.frz od (.dK nx))) H' ∧ H' D = some (.dK ((ks.take i).map fun k => (.inl k, .non)))) ⟨same_upd hD, upd_same⟩ (fun i H' _ p => p.1 _ _ upd_same) (fun i x H4 H5 hi pv hy => ?_) (fun H4 pv => ?_)
    · obtain ⟨rfl, k, v, hkv, rfl⟩ := hy
      obtain ⟨s4, e4⟩ := pv
      have hki : ks[i]?.map (Sum.inl : Int → Key) = some k := by rw [← List.getElem?_map, ← hk, List.getElem?_map, hkv]; rfl
      obtain ⟨y, hy, rfl⟩ := Option.map_eq_some_iff.mp hki
      refine ⟨rfl, lc_yes ?_⟩
      refine ⟨_, rfl, _, Sum.inl y, rfl, e4, small1000' (by rw [List.length_map, List.length_take]; omega), fun b o e => ?_, ?_⟩
      · rw [upd_ne (ne_of_none e hD)]
        exact s4 b o e
      · rw [upd_same, putK_new _ (valV_none_of (f := fun _ => V.non) (not_in_take hnd hy)), List.take_add_one, hy, List.map_append]
        rfl
    · obtain ⟨s4, e4⟩ := pv
      refine ⟨s4 _ _ upd_same, ?_⟩
      have nl : nx.length = ks.length := by have := congrArg List.length hk; rw [List.length_map, List.length_map] at this; exact this
      rw [nl, List.take_length] at e4
      have h5 := (upd_ne (o := .dK nx) e1).trans (s4 _ _ ((upd_ne e1).trans hh3))
      have k5 : ∀ a o, a ≠ h → H a = some o → upd H4 dn (.dK nx) a = some o := fun a o na e => (upd_ne (ne_of_none e ndn0)).trans (s4 _ _ ((upd_ne (ne_of_none e ndn0)).trans (k3 a o na e)))
      have d5 : upd H4 dn (.dK nx) dn = some (.dK nx) := upd_same
      have D5 := (upd_ne (o := .dK nx) nDdn).trans e4
      have nDh : D ≠ h := fun z => by rw [z, (upd_ne e1 : upd H3 dn _ h = _), hh3] at hD; cases hD
      have nD0 : H D = none := by
        cases e : H D with
        | none => rfl
        | some o => rw [upd_ne nDdn, k3 D o nDh e] at hD; cases hD
      generalize upd H4 dn (.dK nx) = H5 at h5 k5 d5 D5
      refine ⟨_, rfl, h, _, dx, _, rfl, h5, T.cl_Net, T.na_Net__befores, (by show 2 < 1000; decide), ?_⟩
      have h6 : upd H5 h (.ins T.C_Net dx (putF "_befores" (.ref D) (putF "_nexts" (.ref dn) (putF "size" (.int n) [])))) h = _ := upd_same
      have k6 : ∀ a o, a ≠ h → H a = some o → upd H5 h (.ins T.C_Net dx (putF "_befores" (.ref D) (putF "_nexts" (.ref dn) (putF "size" (.int n) [])))) a = some o := fun a o na e => (upd_ne na).trans (k5 a o na e)
      have d6 := (upd_ne (o := .ins T.C_Net dx (putF "_befores" (.ref D) (putF "_nexts" (.ref dn) (putF "size" (.int n) [])))) e1.symm).trans d5
      have D6 := (upd_ne (o := .ins T.C_Net dx (putF "_befores" (.ref D) (putF "_nexts" (.ref dn) (putF "size" (.int n) [])))) nDh).trans D5
      generalize upd H5 h (.ins T.C_Net dx (putF "_befores" (.ref D) (putF "_nexts" (.ref dn) (putF "size" (.int n) [])))) = H6 at h6 k6 d6 D6
      have nn : (bef [] 0 : V) = .non := rfl
      refine ⟨fun σ' H' => σ' = [some (.ref h), some (.int n), some (.ref d1), some (.ref d2), some (.ref pl), none] ∧ ∃ dl, NetAt T.C_Net H' h n dn D dl nx (ks.map fun k => (.inl k, .non)) ls ∧ (∀ a o, a ≠ h → H a = some o → H' a = some o) ∧ H dl = none, ?_, ?_⟩
      · have fin : ∀ (Hq : Hp) (l : Addr), Same H6 Hq → Hq l = none → ∃ dl, NetAt T.C_Net (upd (upd Hq l (.lst ls)) h (.ins T.C_Net dx (putF "_letters" (.ref l) (putF "_befores" (.ref D) (putF "_nexts" (.ref dn) (putF "size" (.int n) [])))))) h n dn D dl nx (ks.map fun k => (.inl k, .non)) ls ∧ (∀ a o, a ≠ h → H a = some o → upd (upd Hq l (.lst ls)) h (.ins T.C_Net dx (putF "_letters" (.ref l) (putF "_befores" (.ref D) (putF "_nexts" (.ref dn) (putF "size" (.int n) []))))) a = some o) ∧ H dl = none := fun Hq l sq nl => by
          have nlh : l ≠ h := fun z => by rw [z, sq _ _ h6] at nl; cases nl
          have nD : D ≠ l := fun z => by rw [← z, sq _ _ D6] at nl; cases nl
          have ndl : dn ≠ l := fun z => by rw [← z, sq _ _ d6] at nl; cases nl
          refine ⟨l, ⟨⟨dx, ?_⟩, (upd_ne e1.symm).trans ((upd_ne ndl).trans (sq _ _ d6)), (upd_ne nDh).trans ((upd_ne nD).trans (sq _ _ D6)), (upd_ne nlh).trans upd_same⟩, fun a o na e => ?_, ?_⟩
          · rw [upd_same]
            have e : putF "_letters" (.ref l) (putF "_befores" (.ref D) (putF "_nexts" (.ref dn) (putF "size" (.int n) []))) = nf n dn D l := by
              walk_at "pf"
              rfl
            exact congrArg (fun z => some (HO.ins _ _ z)) e
          · have e2 := sq _ _ (k6 a o na e)
            exact (upd_ne na).trans ((upd_ne (ne_of_none e2 nl)).trans e2)
          · cases e : H l with
            | none => rfl
            | some o => rw [sq _ _ (k6 l o nlh e)] at nl; cases nl
        refine ⟨_, rfl, !ls.isEmpty, .inl ⟨ls, SqL.of (k6 _ _ npl.symm hpl), rfl⟩, ite2 (fun e => ?_) (fun e => ?_)⟩
        · refine ⟨pl, ls, rfl, .inl (SqL.of (k6 _ _ npl.symm hpl)), fun l nl => ?_⟩
          have nlh : h ≠ l := fun z => by rw [← z, h6] at nl; cases nl
          exact ⟨_, rfl, h, _, dx, _, rfl, (upd_ne nlh).trans h6, T.cl_Net, T.na_Net__letters, (by show 3 < 1000; decide), rfl, fin H6 l (fun _ _ e => e) nl⟩
        · have e : ls = [] := by
            cases ls with
            | nil => rfl
            | cons a b => exact absurd rfl e
          subst e
          refine ⟨Nat.zero_le _, fun p np => ?_⟩
          have s7 := same_upd (o := .lst []) np
          have p7 : upd H6 p (.lst []) p = some (.lst []) := upd_same
          generalize upd H6 p (.lst []) = H7 at s7 p7
          refine ⟨p, [], rfl, .inl (SqL.of p7), fun l nl => ?_⟩
          have nlh : h ≠ l := fun z => by rw [← z, s7 _ _ h6] at nl; cases nl
          exact ⟨_, rfl, h, _, dx, _, rfl, (upd_ne nlh).trans (s7 _ _ h6), T.cl_Net, T.na_Net__letters, (by show 3 < 1000; decide), rfl, fin H7 l s7 nl⟩
      rintro _ H8 ⟨rfl, dl, N8, k8, ndl0⟩
      have nDn : D ≠ dn := nDdn
      obtain ⟨dx8, hh8⟩ := N8.me
      refine ⟨_, rfl, h, dx8, _, rfl, hh8, (by unfold nf; walk_at "lk"), h, dn, D, dl, n, nx, _, ls, ks, rfl, N8, hk, h64, hv, fun H9 s9 => ?_⟩
      have N9 := N8.same s9
      have k9 : ∀ a o, a ≠ h → H a = some o → H9 a = some o := fun a o na e => s9 _ _ (k8 a o na e)
      obtain ⟨dx9, hh9⟩ := N9.me
      refine ⟨fun σ' H' => σ' = [some (.ref h), some (.int n), some (.ref d1), some (.ref d2), some (.ref pl), none] ∧ ∃ bf, NetAt T.C_Net H' h n dn D dl nx bf ls ∧ (∀ a o, a ≠ h → H a = some o → H' a = some o) ∧ (∀ p ∈ ks, valV bf (.inl p) = some (bef bs p)) ∧ bf.length ≤ ks.length + js.length, ?_, ?_⟩
      · have lj : bs.length = js.length := by have := congrArg List.length hj; rw [List.length_map, List.length_map] at this; exact this
        refine ⟨_, rfl, h, dx9, _, rfl, hh9, (by unfold nf; walk_at "lk"), _, rfl, !bs.isEmpty, .inr (.inr ⟨bs, k9 _ _ nd2.symm h2, rfl⟩), ite2 (fun e => ?_) (fun e => ?_)⟩
        · refine ⟨h, dn, D, dl, d2, n, nx, _, bs, ls, js, rfl, N9, k9 _ _ nd2.symm h2, hj, hj64, hw, fun z => ?_, nDn, by rw [List.length_map]; omega, fun H' bf' N' k' v' l' => ⟨rfl, bf', N', fun a o na e => k' _ _ (fun z => by rw [z] at e; rw [e] at nD0; cases nD0) (k9 a o na e), fun p hp => ?_, by rw [List.length_map] at l'; exact l'⟩⟩
          · rw [z] at h2; rw [h2] at nD0; cases nD0
          · rw [v' p]
            by_cases g : p ∈ js
            · obtain ⟨_, x, hx, _⟩ := hw p g
              rw [if_pos g, bef, hx]; rfl
            · rw [if_neg g, bef, valV_none_keys hj g, valV_all_non hp]; rfl
        · have e : bs = [] := by
            cases bs with
            | nil => rfl
            | cons a b => exact absurd rfl e
          subst e
          have ej : js = [] := by
            cases js with
            | nil => rfl
            | cons a b => cases lj
          subst ej
          intro p np
          have s10 := same_upd (o := .dK []) np
          have p10 : upd H9 p (.dK []) p = some (.dK []) := upd_same
          have npD : p ≠ D := fun z => by rw [z, N9.hb] at np; cases np
          generalize upd H9 p (.dK []) = H10 at s10 p10
          refine ⟨h, dn, D, dl, p, n, nx, _, [], ls, [], rfl, N9.same s10, p10, rfl, by decide, (fun j hj => nomatch hj), npD, nDn, by rw [List.length_map]; omega, fun H' bf' N' k' v' l' => ⟨rfl, bf', N', fun a o na e => k' _ _ (fun z => by rw [z] at e; rw [e] at nD0; cases nD0) (s10 _ _ (k9 a o na e)), fun p hp => ?_, by rw [List.length_map] at l'; exact l'⟩⟩
          rw [v' p, if_neg (fun z => nomatch z), valV_all_non hp]
          rfl
      rintro _ H11 ⟨rfl, bf, N11, k11, v11, l11⟩
      obtain ⟨dx11, hh11⟩ := N11.me
      refine ⟨_, rfl, h, dx11, _, rfl, hh11, (by unfold nf; walk_at "lk"), h, dn, D, dl, n, nx, bf, ls, rfl, N11, hz, fun v hv => ?_, fun H12 s12 => ?_⟩
      · obtain ⟨a, z, qs, rfl, ha, hq⟩ := hu v hv
        exact ⟨a, z, qs, rfl, k11 _ _ (fun e => by rw [e, hh] at ha; cases ha) ha, hq⟩
      · exact q H12 dn D dl bf (N11.same s12) (fun a o na e => s12 _ _ (k11 a o na e)) ndn0 nD0 ndl0 nDn v11 l11
def sp_Net__next_of (C : Addr) : Sp := fun vs H Q _ => ∃ (h dn db dl : Addr) (n p : Int) (v : V) (nx bf : List (Key × V)) (ls : List V), vs = [.ref h, .int p] ∧ NetAt C H h n dn db dl nx bf ls ∧ valV nx (.inl p) = some v ∧ Q v H
theorem T0.ok_Net__next_of (T : T0 K mg) : FnOk P w K mg base CX0 2 T.a_Net__next_of T.fd_Net__next_of ["self", "house"] (sp_Net__next_of T.C_Net) := by
  refine T.F_Net__next_of.ok sc_Net__next_of (fun vs H Q E h => ?_) (fun cdv A outer s H vs Q E hr h => ?_)
  · obtain ⟨h, dn, db, dl, n, p, v, nx, bf, ls, rfl, _⟩ := h
    rfl
  · obtain ⟨h, dn, db, dl, n, p, v, nx, bf, ls, rfl, hN, hv, q⟩ := h
    obtain ⟨dx, hh⟩ := hN.me
    refine ⟨_, (pss_cons (ps_expr (pe_meth (pv 0) T.cl_Net T.me_Net__check_house T.ok_Net__check_house hr T.b_Net__check_house .nil pass0 (pa_cons (pv 1) pa_nil)))
        (pss_one (ps_ret (pe_dget (un1 hr) (show PE _ _ (tFld K _ _) from pe_fld (pv 0) rfl) (pv 1) (fun _ _ => rfl))))), ?_⟩
    refine ⟨_, rfl, h, dx, _, rfl, hh, (by unfold nf; walk_at "lk"), _, rfl, h, dn, db, dl, n, p, nx, bf, ls, rfl, hN, (by rw [hv]; rfl), ?_⟩
    exact ⟨_, rfl, h, _, dx, _, _, rfl, hh, T.cl_Net, T.na_Net__nexts, nf_nexts, _, rfl, dn, _, rfl, dget_of (k := Sum.inl p) hN.hn hv, q⟩
def sp_Net__before_of (C : Addr) : Sp := fun vs H Q _ => ∃ (h dn db dl : Addr) (n p : Int) (v : V) (nx bf : List (Key × V)) (ls : List V), vs = [.ref h, .int p] ∧ NetAt C H h n dn db dl nx bf ls ∧ (valV nx (.inl p)).isSome = true ∧ valV bf (.inl p) = some v ∧ Q v H
--CUT
theorem okB.atom {b : V} (h : okB b) : atomV b = true := by
  rcases h with rfl | ⟨z, rfl⟩ <;> rfl
theorem okB.tell {n p u : Int} {b : V} : okB (hTell n p u b) := by
  cases b with
  | int z =>
    unfold hTell
    dsimp only
    split
    · exact .inr ⟨_, rfl⟩
    · exact .inr ⟨_, rfl⟩
  | _ => exact .inr ⟨_, rfl⟩
theorem okB.hB {n p : Int} {b : V} (o : okB b) : ∀ L : Let, okB (hB n p b L)
  | .tell _ _ => okB.tell
  | .ask _ _ => o
  | .answer _ _ _ => o
theorem ans_atoms {p : Int} {b : V} {ys : List V} : ∀ L : Let, hA p b L = some ys → ys.length ≤ 100000 ∧ ∀ y ∈ ys, atomV y = true := by
  intro L h
  cases L with
  | ask r u =>
    cases b with
    | int z =>
      cases h
      refine ⟨by show 4 ≤ 100000; decide, fun y hy => ?_⟩
      simp only [List.mem_cons, List.not_mem_nil, or_false] at hy
      rcases hy with rfl | rfl | rfl | rfl <;> rfl
    | _ => cases h
  | tell _ _ => cases h
  | answer _ _ _ => cases h
/-- two answers are alike -/
theorem ans_same {H : Hp} {p : Int} {b : V} {L : Let} {v u : V} (h1 : match hA p b L with | none => v = .non | some ys => ∃ a, v = .ref a ∧ H a = some (.tup ys)) (h2 : match hA p b L with | none => u = .non | some ys => ∃ a, u = .ref a ∧ H a = some (.tup ys)) : Sm K 2 H v u := by
  cases e : hA p b L with
  | none =>
    rw [e] at h1 h2
    dsimp only at h1 h2
    rw [h1, h2]
    exact .atom rfl
  | some ys =>
    rw [e] at h1 h2
    obtain ⟨a, rfl, e1⟩ := h1
    obtain ⟨a2, rfl, e2⟩ := h2
    obtain ⟨l, m⟩ := ans_atoms L e
    refine .tup (SqT.of e1) (SqT.of e2) rfl l fun i x y hx hy => ?_
    rw [hx] at hy
    cases hy
    exact .atom (m x (List.mem_of_getElem? hx))
theorem ans_keep {H H' : Hp} {p : Int} {b : V} {L : Let} {v : V} (h : match hA p b L with | none => v = .non | some ys => ∃ a, v = .ref a ∧ H a = some (.tup ys)) (k : ∀ a ys, H a = some (.tup ys) → H' a = some (.tup ys)) :
    match hA p b L with | none => v = .non | some ys => ∃ a, v = .ref a ∧ H' a = some (.tup ys) := by
  cases e : hA p b L with
  | none => rw [e] at h; exact h
  | some ys =>
    rw [e] at h
    obtain ⟨a, rfl, e1⟩ := h
    exact ⟨a, rfl, k _ _ e1⟩
def sp__law_far (K : PySem.W.Frag) : Sp := fun vs H Q _ => ∃ n a b : Int, vs = [.int n, .int a, .int b] ∧ 0 < n ∧ Q (.int (farL n a b)) H
theorem T0.ok__law_far (T : T0 K mg) : FnOk P w K mg base CX0 1 T.a__law_far T.fd__law_far ["size", "start", "end"] (sp__law_far K) := by
  refine T.F__law_far.ok sc__law_far (fun vs H Q E h => ?_) (fun cdv A outer s H vs Q E hr h => ?_)
  · obtain ⟨n, a, b, rfl, _⟩ := h
    rfl
  · obtain ⟨n, a, b, rfl, hn, q⟩ := h
    refine ⟨_, (pss_cons (ps_set (i := 3) sc__law_far.nd rfl (Or.inl rfl) (pe_op op_modN (pe_callTy call_int1 (by rfl) T.m_int (by decide +kernel) (pa_cons (pe_op op_sub (pv 2) (pv 1)) pa_nil)) (pv 0)))
        (pss_cons (ps_if (pt_cmpR op_eq (pv 3) pe_int (nomark _)) (pss_one (ps_ret (pv 0))) pss_nil)
        (pss_one (ps_ret (pv 3))))), ?_⟩
    rw [far_eq a b hn] at q
    refine ⟨_, rfl, _, rfl, _, _, rfl, rfl, .inl ⟨_, rfl, _, rfl, _, _, rfl, rfl, by omega, ?_⟩⟩
    refine ⟨_, rfl, rfl, _, rfl, ite2 (fun e => ?_) (fun e => ?_)⟩
    · rw [if_pos (V.int.inj (of_decide_eq_true e))] at q
      exact ⟨_, rfl, q⟩
    · rw [if_neg (fun z => e (decide_eq_true (congrArg V.int z)))] at q
      exact ⟨_, rfl, q⟩
def sp__law_between (K : PySem.W.Frag) : Sp := fun vs H Q _ => ∃ n a p b : Int, vs = [.int n, .int a, .int p, .int b] ∧ 0 < n ∧ Q (.bl (decide (farL n a p < farL n a b))) H
theorem T0.ok__law_between (T : T0 K mg) : FnOk P w K mg base CX0 2 T.a__law_between T.fd__law_between ["size", "start", "place", "end"] (sp__law_between K) := by
  refine T.F__law_between.ok sc__law_between (fun vs H Q E h => ?_) (fun cdv A outer s H vs Q E hr h => ?_)
  · obtain ⟨n, a, p, b, rfl, _⟩ := h
    rfl
  · obtain ⟨n, a, p, b, rfl, hn, q⟩ := h
    refine ⟨_, (pss_cons (ps_if (PW.pt (pw_or (pt_cmpR op_eq (pv 2) (pv 1) (nomark _)) (pw_or1 (pt_cmpR op_eq (pv 2) (pv 3) (nomark _))))) (pss_one (ps_ret pe_bl)) pss_nil)
        (pss_one (ps_ret (pe_cmpR op_lt (pe_call T.ok__law_far hr (by rfl) T.g__law_far T.k__law_far T.b__law_far .nil pass0 (pa_cons (pv 0) (pa_cons (pv 1) (pa_cons (pv 2) pa_nil)))) (pe_call T.ok__law_far hr (by rfl) T.g__law_far T.k__law_far T.b__law_far .nil pass0 (pa_cons (pv 0) (pa_cons (pv 1) (pa_cons (pv 3) pa_nil)))) (nomark _))))), ?_⟩
    refine v_when (by walk_at "ans") (fun e => ?_) (fun e => ?_)
    · rw [dec_int, dec_int] at e
      have e : p = a ∨ p = b := by simpa using e
      have f : ¬ (farL n a p < farL n a b) := by
        rcases e with rfl | rfl
        · have h1 := far_range p b hn
          rw [far_eq p p hn, Int.sub_self, Int.zero_fmod, if_pos rfl]
          omega
        · omega
      rw [decide_eq_false f] at q
      exact q
    · exact ⟨_, rfl, _, rfl, _, rfl, n, a, p, rfl, hn, _, rfl, _, rfl, _, rfl, n, a, b, rfl, hn, _, _, rfl, rfl, q⟩
def Let.ns : Let → List Int
  | .tell r u => [r, u]
  | .ask r u => [r, u]
  | .answer r u m => [r, u, m]
def Let.fr : Let → Int
  | .tell _ u => u
  | .ask _ u => u
  | .answer _ u _ => u
def Let.wd : Let → Str
  | .tell _ _ => "tell"
  | .ask _ _ => "ask"
  | .answer _ _ _ => "answer"
theorem Let.at2 (L : Let) : atI L.vals (2 : Int) = some (.int L.fr) := by cases L <;> rfl
theorem Let.vals_eq (L : Let) : L.vals = .str L.wd :: L.ns.map V.int := by cases L <;> rfl
theorem Let.to_ns (L : Let) : L.to ∈ L.ns := by cases L <;> exact List.mem_cons_self
def nN (n r x : Int) (b : V) (L : Let) (nx : List (Key × V)) : List (Key × V) := if hA r b L = none ∧ hB n r b L = b ∧ hN n r x L ≠ x then putK nx (.inl r) (.int (hN n r x L)) else nx
def nB (n r : Int) (b : V) (L : Let) (bs : List (Key × V)) : List (Key × V) := if hA r b L = none ∧ hB n r b L ≠ b then putK bs (.inl r) (hB n r b L) else bs
def nT (n r x : Int) (b : V) (L : Let) : List V := if hA r b L ≠ none then [.str "wrote", .int r, hB n r b L] else if hB n r b L ≠ b then [.str "before", .int r, hB n r b L] else if hN n r x L ≠ x then [.str "next", .int r, .int (hN n r x L)] else [.str "kept", .int r, .non]
theorem far_self (z : Int) {n : Int} (hn : 0 < n) : farL n z z = n := by rw [far_eq z z hn, Int.sub_self, Int.zero_fmod, if_pos rfl]
theorem far_ne {n z u r : Int} (hn : 0 < n) (h : farL n z u < farL n z r) : u ≠ z := fun e => by
  subst e
  have := far_range u r hn
  have := far_self u hn
  omega
theorem far_ne2 {n z u r : Int} (h : farL n z u < farL n z r) : u ≠ r := fun e => by
  subst e
  omega
def sp__law_read (K : PySem.W.Frag) : Sp := fun vs H Q _ => ∃ (dN dB pO lt : Addr) (n x : Int) (k : Nat) (L : Let) (nx bs : List (Key × V)) (ps : List V), vs = [.int n, .ref dN, .ref dB, .ref pO, .int k] ∧ H dN = some (.dK nx) ∧ H dB = some (.dK bs) ∧ H pO = some (.lst ps) ∧ ps[k]? = some (.ref lt) ∧ H lt = some (.tup L.vals) ∧ valV nx (.inl L.to) = some (.int x) ∧ okB (bef bs L.to) ∧ 0 < n ∧ dN ≠ dB ∧ nx.length ≤ 1000 ∧ bs.length ≤ 1000 ∧ ps.length ≤ 1000 ∧
  ∀ H' v ps', (match hA L.to (bef bs L.to) L with | none => ps' = ps.eraseIdx k | some ys => ∃ a, ps' = ps.eraseIdx k ++ [.ref a] ∧ H' a = some (.tup ys)) → (∀ a o, a ≠ dN → a ≠ dB → a ≠ pO → H a = some o → H' a = some o) →
    H' dN = some (.dK (nN n L.to x (bef bs L.to) L nx)) → H' dB = some (.dK (nB n L.to (bef bs L.to) L bs)) → H' pO = some (.lst ps') → (∃ a, v = .ref a ∧ H' a = some (.tup (nT n L.to x (bef bs L.to) L))) → Q v H'
def LetSame (H : Hp) (ks : List Int) (a b : V) : Prop := ∃ (p q : Addr) (L : Let), a = .ref p ∧ b = .ref q ∧ H p = some (.tup L.vals) ∧ H q = some (.tup L.vals) ∧ ∀ k ∈ L.ns, k ∈ ks
def Alike (R : V → V → Prop) (xs ys : List V) : Prop := xs.length = ys.length ∧ ∀ (i : Nat) x y, xs[i]? = some x → ys[i]? = some y → R x y
theorem Alike.mono {R R' : V → V → Prop} {xs ys : List V} (h : Alike R xs ys) (f : ∀ x y, R x y → R' x y) : Alike R' xs ys := ⟨h.1, fun i x y e1 e2 => f _ _ (h.2 i x y e1 e2)⟩
theorem Alike.erase {R : V → V → Prop} {xs ys : List V} (h : Alike R xs ys) (k : Nat) : Alike R (xs.eraseIdx k) (ys.eraseIdx k) := by
  refine ⟨by rw [List.length_eraseIdx, List.length_eraseIdx, h.1], fun i x y e1 e2 => ?_⟩
  rw [List.getElem?_eraseIdx] at e1 e2
  split at e1
  · rename_i g
    rw [if_pos g] at e2
    exact h.2 _ _ _ e1 e2
  · rename_i g
    rw [if_neg g] at e2
    exact h.2 _ _ _ e1 e2
theorem Alike.app {R : V → V → Prop} {xs ys : List V} {a b : V} (h : Alike R xs ys) (r : R a b) : Alike R (xs ++ [a]) (ys ++ [b]) := by
  refine ⟨by rw [List.length_append, List.length_append, h.1]; rfl, fun i x y e1 e2 => ?_⟩
  rw [List.getElem?_append] at e1 e2
  by_cases g : i < xs.length
  · rw [if_pos g] at e1
    rw [if_pos (by rw [← h.1]; exact g)] at e2
    exact h.2 _ _ _ e1 e2
  · rw [if_neg g] at e1
    rw [if_neg (by rw [← h.1]; exact g)] at e2
    have e0 : i - xs.length = 0 := by
      have := (List.getElem?_eq_some_iff.mp e1).1
      simp only [List.length_cons, List.length_nil] at this
      omega
    rw [e0] at e1
    rw [← h.1, e0] at e2
    cases e1
    cases e2
    exact r
theorem Alike.get {R : V → V → Prop} {xs ys : List V} (h : Alike R xs ys) {k : Nat} (hk : k < xs.length) : ∃ a b, xs[k]? = some a ∧ ys[k]? = some b ∧ R a b := by
  have h2 : k < ys.length := by rw [← h.1]; exact hk
  exact ⟨_, _, List.getElem?_eq_getElem hk, List.getElem?_eq_getElem h2, h.2 k _ _ (List.getElem?_eq_getElem hk) (List.getElem?_eq_getElem h2)⟩
theorem LetSame.mono {H H' : Hp} {ks ks' : List Int} {a b : V} (h : LetSame H ks a b) (f : ∀ p xs, H p = some (.tup xs) → H' p = some (.tup xs)) (g : ∀ k ∈ ks, k ∈ ks') : LetSame H' ks' a b :=
  let ⟨p, q, L, e1, e2, e3, e4, e5⟩ := h
  ⟨p, q, L, e1, e2, f _ _ e3, f _ _ e4, fun k hk => g _ (e5 k hk)⟩
theorem vals_atom (L : Let) : L.vals.length ≤ 100000 ∧ ∀ y ∈ L.vals, atomV y = true := by
  cases L <;> exact ⟨by simp only [Let.vals, List.length_cons, List.length_nil]; omega, by simp [Let.vals, atomV]⟩
theorem tup_same {H : Hp} {a b : Addr} {xs : List V} (h1 : H a = some (.tup xs)) (h2 : H b = some (.tup xs)) (hl : xs.length ≤ 100000) (ha : ∀ y ∈ xs, atomV y = true) : Sm K 2 H (.ref a) (.ref b) :=
  .tup (SqT.of h1) (SqT.of h2) rfl hl fun i x y hx hy => by
    rw [hx] at hy
    cases hy
    exact .atom (ha x (List.mem_of_getElem? hx))
theorem LetSame.sm {H : Hp} {ks : List Int} {a b : V} (h : LetSame H ks a b) : Sm K 2 H a b := by
  obtain ⟨p, q, L, rfl, rfl, e3, e4, _⟩ := h
  exact tup_same e3 e4 (vals_atom L).1 (vals_atom L).2
theorem LetSame.sm' {H : Hp} {ks : List Int} {a b : V} (h : LetSame H ks a b) : Sm K 2 H b a := by
  obtain ⟨p, q, L, rfl, rfl, e3, e4, _⟩ := h
  exact tup_same e4 e3 (vals_atom L).1 (vals_atom L).2
theorem bef_ok {bs : List (Key × V)} {k : Int} (h : ∀ (p : Int) v, valV bs (.inl p) = some v → ∃ x : Int, v = .int x) : okB (bef bs k) := by
  unfold bef
  cases e : valV bs (.inl k) with
  | none => exact .inl rfl
  | some v =>
    obtain ⟨x, rfl⟩ := h _ _ e
    exact .inr ⟨x, rfl⟩
theorem tape_at {H : Hp} {t c : Addr} (h : Tape H t c) : (∃ xs, H t = some (.lst xs)) ∧ ∃ xs, H c = some (.lst xs) := by
  obtain ⟨_, _, _, _, _, e1, e2, _⟩ := h
  exact ⟨⟨_, e1⟩, ⟨_, e2⟩⟩
theorem hf_nf {n n' p x : Int} {b : V} {dn db dl : Addr} (h : hf n p x b = nf n' dn db dl) : False := by
  unfold hf nf at h
  have h1 := (List.cons.inj (List.cons.inj h).2).1
  have h2 : ("place" : Str) = "_nexts" := (Prod.mk.inj h1).1
  exact absurd h2 (by decide +kernel)
theorem keys_putK_old {kvs : List (Key × V)} {k : Key} {v : V} (h : (valV kvs k).isSome = true) : (putK kvs k v).map (·.1) = kvs.map (·.1) := by
  unfold putK
  rw [if_pos (by rw [valV_any]; exact h), List.map_map]
  refine List.map_congr_left fun kv _ => ?_
  show (if kv.1 = k then (kv.1, v) else kv).1 = kv.1
  split <;> rfl
theorem nN_val {n r x j : Int} {b : V} {L : Let} {nx : List (Key × V)} (hx : valV nx (.inl r) = some (.int x)) : valV (nN n r x b L nx) (.inl j) = if j = r then some (.int (hN n r x L)) else valV nx (.inl j) := by
  unfold nN
  split
  · rw [valV_put]
    by_cases e : j = r
    · rw [if_pos e, if_pos (by rw [e])]
    · rw [if_neg e, if_neg (fun z => e (Sum.inl.inj z))]
  · rename_i g
    by_cases e : j = r
    · rw [if_pos e, e, hx]
      have : hN n r x L = x := by
        cases L with
        | tell _ _ => rfl
        | ask _ _ => rfl
        | answer r' u m' => exact Decidable.byContradiction fun z => g ⟨rfl, rfl, z⟩
      rw [this]
    · rw [if_neg e]
theorem nB_val {n r j : Int} {b : V} {L : Let} {bf : List (Key × V)} (hb : valV bf (.inl r) = some b) : valV (nB n r b L bf) (.inl j) = if j = r then some (hB n r b L) else valV bf (.inl j) := by
  unfold nB
  split
  · rw [valV_put]
    by_cases e : j = r
    · rw [if_pos e, if_pos (by rw [e])]
    · rw [if_neg e, if_neg (fun z => e (Sum.inl.inj z))]
  · rename_i g
    by_cases e : j = r
    · rw [if_pos e, e, hb]
      have : hB n r b L = b := by
        cases L with
        | tell r' u => exact Decidable.byContradiction fun z => g ⟨rfl, z⟩
        | ask _ _ => rfl
        | answer _ _ _ => rfl
      rw [this]
    · rw [if_neg e]
theorem nB_bef {n r j : Int} {L : Let} {bs : List (Key × V)} : bef (nB n r (bef bs r) L bs) j = if j = r then hB n r (bef bs r) L else bef bs j := by
  unfold nB
  split
  · rw [bef, valV_put]
    by_cases e : j = r
    · rw [if_pos e, if_pos (by rw [e])]
      rfl
    · rw [if_neg e, if_neg (fun z => e (Sum.inl.inj z))]
      rfl
  · rename_i g
    by_cases e : j = r
    · rw [if_pos e, e]
      have : hB n r (bef bs r) L = bef bs r := by
        cases L with
        | tell r' u => exact Decidable.byContradiction fun z => g ⟨rfl, z⟩
        | ask _ _ => rfl
        | answer _ _ _ => rfl
      rw [this]
    · rw [if_neg e]
theorem hN_mem {n r x : Int} {L : Let} : hN n r x L = x ∨ hN n r x L ∈ L.ns := by
  cases L with
  | tell _ _ => exact .inl rfl
  | ask _ _ => exact .inl rfl
  | answer r' u m =>
    show hAns n r x u m = x ∨ _
    show hAns n r x u m = x ∨ hAns n r x u m ∈ [r', u, m]
    unfold hAns
    split
    · exact .inr (by simp)
    · exact .inl rfl
theorem hB_mem {n r : Int} {b : V} {L : Let} (ob : okB b) : hB n r b L = b ∨ ∃ u ∈ L.ns, hB n r b L = .int u := by
  cases L with
  | tell r' u =>
    show hTell n r u b = b ∨ ∃ u' ∈ [r', u], hTell n r u b = .int u'
    rcases ob with rfl | ⟨z, rfl⟩
    · exact .inr ⟨u, by simp, rfl⟩
    · unfold hTell
      dsimp only
      split
      · exact .inr ⟨u, by simp, rfl⟩
      · exact .inl rfl
  | ask _ _ => exact .inl rfl
  | answer _ _ _ => exact .inl rfl
theorem ne_kind {H : Hp} {a b : Addr} {o u : HO} (h : H a = some o) (g : H b = some u) (e : o ≠ u) : a ≠ b := fun z => by
  rw [z, g] at h
  exact e (Option.some.inj h).symm
theorem nT_head (n r x : Int) (b : V) (L : Let) : ∃ z : Str, atI (nT n r x b L) (0 : Int) = some (.str z) ∧ decide (V.str z = V.str "wrote") = decide (hA r b L ≠ none) := by
  unfold nT
  by_cases e : hA r b L = none
  · rw [if_neg (fun z => z e), decide_eq_false (fun z => z e)]
    split
    · exact ⟨"before", rfl, by decide +kernel⟩
    · split
      · exact ⟨"next", rfl, by decide +kernel⟩
      · exact ⟨"kept", rfl, by decide +kernel⟩
  · rw [if_pos e, decide_eq_true e]
    exact ⟨"wrote", rfl, by decide +kernel⟩
theorem nT_atom {n r x : Int} {b : V} {L : Let} (ob : okB b) : (nT n r x b L).length ≤ 100000 ∧ ∀ y ∈ nT n r x b L, atomV y = true := by
  have ab : atomV (hB n r b L) = true := by
    rcases okB.hB (n := n) (p := r) ob L with h | ⟨z, h⟩ <;> rw [h] <;> rfl
  unfold nT
  split
  · exact ⟨by show 3 ≤ 100000; decide, fun y hy => by
      simp only [List.mem_cons, List.not_mem_nil, or_false] at hy
      rcases hy with rfl | rfl | rfl <;> first | rfl | exact ab⟩
  · split
    · exact ⟨by show 3 ≤ 100000; decide, fun y hy => by
        simp only [List.mem_cons, List.not_mem_nil, or_false] at hy
        rcases hy with rfl | rfl | rfl <;> first | rfl | exact ab⟩
    · split
      · exact ⟨by show 3 ≤ 100000; decide, by simp [atomV]⟩
      · exact ⟨by show 3 ≤ 100000; decide, by simp [atomV]⟩
theorem hA_let {ks : List Int} {r : Int} {b : V} {L : Let} {ys : List V} (h : hA r b L = some ys) (hL : ∀ k ∈ L.ns, k ∈ ks) (hr : r ∈ ks) (hb : ∀ z : Int, b = .int z → z ∈ ks) : ∃ L' : Let, ys = L'.vals ∧ ∀ k ∈ L'.ns, k ∈ ks := by
  cases L with
  | ask r' u =>
    cases b with
    | int z =>
      cases h
      refine ⟨.answer u r z, rfl, fun k hk => ?_⟩
      have hk : k ∈ [u, r, z] := hk
      simp only [List.mem_cons, List.not_mem_nil, or_false] at hk
      rcases hk with rfl | rfl | rfl
      · exact hL _ (by show k ∈ [r', k]; simp)
      · exact hr
      · exact hb _ rfl
    | _ => cases h
  | tell _ _ => cases h
  | answer _ _ _ => cases h
theorem NetAt.but {C a dn db dl z : Addr} {H H' : Hp} {n : Int} {nx bf : List (Key × V)} {ls : List V} (N : NetAt C H a n dn db dl nx bf ls) (k : Kp z H H') (h1 : a ≠ z) (h2 : dn ≠ z) (h3 : db ≠ z) (h4 : dl ≠ z) : NetAt C H' a n dn db dl nx bf ls :=
  ⟨let ⟨dx, e⟩ := N.me; ⟨dx, k _ _ h1 e⟩, k _ _ h2 N.hn, k _ _ h3 N.hb, k _ _ h4 N.hl⟩
theorem perm_sorted_eq : ∀ {xs ys : List Int}, xs.Perm ys → xs.Pairwise (· ≤ ·) → ys.Pairwise (· ≤ ·) → xs = ys
  | [], ys, p, _, _ => by rw [List.nil_perm.mp p]
  | a :: r, [], p, _, _ => by have := p.length_eq; cases this
  | a :: r, b :: s, p, h1, h2 => by
    have ha : a ∈ b :: s := p.mem_iff.mp List.mem_cons_self
    have hb : b ∈ a :: r := p.mem_iff.mpr List.mem_cons_self
    obtain ⟨h3, h4⟩ := List.pairwise_cons.mp h1
    obtain ⟨h5, h6⟩ := List.pairwise_cons.mp h2
    have e : a = b := by
      rcases List.mem_cons.mp ha with e | e
      · exact e
      · rcases List.mem_cons.mp hb with g | g
        · exact g.symm
        · have := h5 a e
          have := h3 b g
          omega
    subst e
    rw [perm_sorted_eq (List.Perm.cons_inv p) h4 h6]
theorem dic_same {K : PySem.W.Frag} {H : Hp} {a b : Addr} {kvs : List (Key × V)} (h1 : H a = some (.dK kvs)) (h2 : H b = some (.dK kvs)) (hl : kvs.length ≤ 100000) (ha : ∀ kv ∈ kvs, atomV kv.2 = true) : Sm K 5 H (.ref a) (.ref b) :=
  .dic h1 h2 rfl hl (fun i x y hx hy => by rw [hx] at hy; cases hy; rfl) fun i x y hx hy => by
    rw [hx] at hy
    cases hy
    exact .atom (ha x (List.mem_of_getElem? hx))
/-! ### ways along the nexts: houses met, lengths, laps -/
def itr (f : Int → Int) (s : Int) : Nat → Int
  | 0 => s
  | i + 1 => f (itr f s i)
def wl (n : Int) (f : Int → Int) (s : Int) : Nat → Int
  | 0 => 0
  | i + 1 => wl n f s i + farL n (itr f s i) (f (itr f s i))
structure Lasso (f : Int → Int) (s : Int) (m : Nat) : Prop where
  dis : ∀ i j, i < m → j < m → itr f s i = itr f s j → i = j
  back : ∃ g, g < m ∧ itr f s m = itr f s g
section
variable {n s d : Int} {f : Int → Int} {ks : List Int} {m : Nat}
theorem itr_mem (cl : ∀ k ∈ ks, f k ∈ ks) (hs : s ∈ ks) : ∀ i, itr f s i ∈ ks
  | 0 => hs
  | i + 1 => cl _ (itr_mem cl hs i)
theorem itr_add (i : Nat) : ∀ j, itr f s (i + j) = itr f (itr f s i) j
  | 0 => rfl
  | j + 1 => congrArg f (itr_add i j)
theorem wl_add (i : Nat) : ∀ j, wl n f s (i + j) = wl n f s i + wl n f (itr f s i) j
  | 0 => (Int.add_zero _).symm
  | j + 1 => by
    show wl n f s (i + j) + farL n (itr f s (i + j)) (f (itr f s (i + j))) = wl n f s i + (wl n f (itr f s i) j + farL n (itr f (itr f s i) j) (f (itr f (itr f s i) j)))
    rw [wl_add i j, itr_add i j]
    omega
theorem wl_pos (h : 0 < n) : ∀ j : Nat, (j : Int) ≤ wl n f s j
  | 0 => Int.le_refl _
  | j + 1 => by
    have := wl_pos h j
    have := (far_range (itr f s j) (f (itr f s j)) h).1
    show ((j + 1 : Nat) : Int) ≤ wl n f s j + farL n (itr f s j) (f (itr f s j))
    omega
theorem wl_lt (h : 0 < n) {i j : Nat} (l : i < j) : wl n f s i < wl n f s j := by
  obtain ⟨t, rfl⟩ : ∃ t, j = i + t := ⟨j - i, by omega⟩
  rw [wl_add]
  have := wl_pos (f := f) (s := itr f s i) h t
  omega
theorem wl_le (h : 0 < n) {i j : Nat} (l : i ≤ j) : wl n f s i ≤ wl n f s j := by
  rcases Nat.lt_or_eq_of_le l with l | rfl
  · exact Int.le_of_lt (wl_lt h l)
  · exact Int.le_refl _
theorem nodup_len : ∀ {l ks : List Int}, l.Nodup → (∀ x ∈ l, x ∈ ks) → l.length ≤ ks.length
  | [], _, _, _ => Nat.zero_le _
  | a :: r, ks, h, hs => by
    obtain ⟨h1, h2⟩ := List.nodup_cons.mp h
    have ha := hs a List.mem_cons_self
    have := nodup_len (l := r) (ks := ks.erase a) h2 fun x hx => (List.mem_erase_of_ne (fun e => h1 (by rw [← e]; exact hx))).mpr (hs x (List.mem_cons_of_mem _ hx))
    rw [List.length_erase_of_mem ha] at this
    have := List.length_pos_of_mem ha
    rw [List.length_cons]
    omega
/-- the houses met so far -/
def met (f : Int → Int) (s : Int) (i : Nat) : List Int := (List.range i).map (itr f s)
theorem met_succ (i : Nat) : met f s (i + 1) = met f s i ++ [itr f s i] := by
  unfold met
  rw [List.range_succ, List.map_append]
  rfl
theorem met_len (i : Nat) : (met f s i).length = i := by unfold met; rw [List.length_map, List.length_range]
theorem met_get {i j : Nat} (h : j < i) : (met f s i)[j]? = some (itr f s j) := by
  unfold met
  rw [List.getElem?_map, List.getElem?_range h]
  rfl
theorem met_mem {i : Nat} {x : Int} : x ∈ met f s i ↔ ∃ j, j < i ∧ itr f s j = x := by
  unfold met
  rw [List.mem_map]
  exact ⟨fun ⟨j, h, e⟩ => ⟨j, List.mem_range.mp h, e⟩, fun ⟨j, h, e⟩ => ⟨j, List.mem_range.mpr h, e⟩⟩
theorem met_nodup_of {i : Nat} (h : ∀ a b, a < i → b < i → itr f s a = itr f s b → a = b) : (met f s i).Nodup := by
  induction i with
  | zero => exact List.nodup_nil
  | succ i ih =>
    rw [met_succ]
    refine List.nodup_append.mpr ⟨ih fun a b ha hb => h a b (by omega) (by omega), by simp, fun x hx y hy e => ?_⟩
    rw [List.mem_singleton] at hy
    obtain ⟨j, hj, ej⟩ := met_mem.mp hx
    have := h j i (by omega) (by omega) (by rw [ej, e, hy])
    omega
theorem met_dis {i : Nat} (h : (met f s i).Nodup) : ∀ a b, a < i → b < i → itr f s a = itr f s b → a = b := fun a b ha hb e => by
  have h1 := met_get (f := f) (s := s) ha
  have h2 := met_get (f := f) (s := s) hb
  have l1 : a < (met f s i).length := by rw [met_len]; exact ha
  have l2 : b < (met f s i).length := by rw [met_len]; exact hb
  rw [List.getElem?_eq_getElem l1] at h1
  rw [List.getElem?_eq_getElem l2] at h2
  exact (List.getElem_inj h).mp (by rw [Option.some.inj h1, Option.some.inj h2, e])
theorem met_le (cl : ∀ k ∈ ks, f k ∈ ks) (hs : s ∈ ks) {i : Nat} (h : (met f s i).Nodup) : i ≤ ks.length := by
  have := nodup_len (ks := ks) h fun x hx => let ⟨j, _, e⟩ := met_mem.mp hx; e ▸ itr_mem cl hs j
  rw [met_len] at this
  exact this
theorem Lasso.of (h : (met f s m).Nodup) (hm : itr f s m ∈ met f s m) : Lasso f s m := ⟨met_dis h, let ⟨g, l, e⟩ := met_mem.mp hm; ⟨g, l, e.symm⟩⟩
theorem Lasso.nodup (L : Lasso f s m) : (met f s m).Nodup := met_nodup_of L.dis
theorem Lasso.le (L : Lasso f s m) (cl : ∀ k ∈ ks, f k ∈ ks) (hs : s ∈ ks) : m ≤ ks.length := met_le cl hs L.nodup
theorem Lasso.pos (L : Lasso f s m) : 0 < m := let ⟨_, l, _⟩ := L.back; by omega
theorem lap_itr {g m : Nat} (e : itr f s m = itr f s g) (t : Nat) : itr f s (m + t) = itr f s (g + t) := by rw [itr_add, itr_add, e]
theorem lap_wl {g m : Nat} (e : itr f s m = itr f s g) (t : Nat) : wl n f s (m + t) = wl n f s (g + t) + (wl n f s m - wl n f s g) := by
  rw [wl_add, wl_add, e]
  omega
theorem laps_itr {g p : Nat} (e : itr f s (g + p) = itr f s g) (t : Nat) : ∀ c : Nat, itr f s (g + t + c * p) = itr f s (g + t)
  | 0 => by rw [Nat.zero_mul, Nat.add_zero]
  | c + 1 => by
    rw [Nat.succ_mul, show g + t + (c * p + p) = g + p + (t + c * p) by omega, lap_itr e, show g + (t + c * p) = g + t + c * p by omega, laps_itr e t c]
theorem laps_wl {g p : Nat} (e : itr f s (g + p) = itr f s g) (t : Nat) : ∀ c : Nat, wl n f s (g + t + c * p) = wl n f s (g + t) + c * (wl n f s (g + p) - wl n f s g)
  | 0 => by rw [Nat.zero_mul, Nat.add_zero]; omega
  | c + 1 => by
    rw [Nat.succ_mul, show g + t + (c * p + p) = g + p + (t + c * p) by omega, lap_wl e, show g + (t + c * p) = g + t + c * p by omega, laps_wl e t c, Int.natCast_succ, Int.add_mul, Int.one_mul]
    omega
theorem Lasso.all (L : Lasso f s m) : ∀ k, ∃ i, i < m ∧ itr f s k = itr f s i
  | 0 => ⟨0, L.pos, rfl⟩
  | k + 1 => by
    obtain ⟨i, hi, e⟩ := L.all k
    by_cases h : i + 1 < m
    · exact ⟨i + 1, h, congrArg f e⟩
    · obtain ⟨g, hg, eg⟩ := L.back
      have : m = i + 1 := by omega
      subst this
      exact ⟨g, hg, (congrArg f e).trans eg⟩
theorem far_dvd (a b : Int) (h : 0 < n) : ∃ q, farL n a b = b - a + n * q := by
  rw [far_emod a b h]
  have e := Int.emod_add_mul_ediv (b - a - 1) n
  refine ⟨- ((b - a - 1) / n), ?_⟩
  rw [Int.mul_neg]
  omega
theorem wl_dvd (h : 0 < n) : ∀ j : Nat, ∃ q, wl n f s j = itr f s j - s + n * q
  | 0 => ⟨0, by show (0 : Int) = s - s + n * 0; omega⟩
  | j + 1 => by
    obtain ⟨q, e⟩ := wl_dvd h j
    obtain ⟨r, e2⟩ := far_dvd (itr f s j) (f (itr f s j)) h
    refine ⟨q + r, ?_⟩
    show wl n f s j + farL n (itr f s j) (f (itr f s j)) = f (itr f s j) - s + n * (q + r)
    rw [e, e2, Int.mul_add]
    omega
/-- as many steps as there are houses go round at least once -/
theorem wl_round (h : 0 < n) (cl : ∀ k ∈ ks, f k ∈ ks) (hs : s ∈ ks) : n ≤ wl n f s ks.length := by
  have : ¬ (met f s (ks.length + 1)).Nodup := fun z => by
    have := met_le cl hs z
    omega
  have : ∃ a b, a < b ∧ b ≤ ks.length ∧ itr f s a = itr f s b := by
    refine Classical.byContradiction fun no => this (met_nodup_of fun a b ha hb e => ?_)
    rcases Nat.lt_trichotomy a b with l | l | l
    · exact (no ⟨a, b, l, by omega, e⟩).elim
    · exact l
    · exact (no ⟨b, a, l, by omega, e.symm⟩).elim
  obtain ⟨a, b, hab, hb, e⟩ := this
  obtain ⟨q, eq⟩ := wl_dvd (f := f) (s := itr f s a) h (b - a)
  have e2 : itr f (itr f s a) (b - a) = itr f s a := by rw [← itr_add, show a + (b - a) = b by omega, e]
  have e3 : wl n f s b = wl n f s a + wl n f (itr f s a) (b - a) := by rw [← wl_add, show a + (b - a) = b by omega]
  have p1 := wl_pos (f := f) (s := itr f s a) h (b - a)
  have p2 := wl_pos (f := f) (s := s) h a
  have p3 := wl_le (f := f) (s := s) h hb
  have eq : wl n f (itr f s a) (b - a) = n * q := by omega
  have : 1 ≤ q := by
    refine Classical.byContradiction fun z => ?_
    have : n * q ≤ 0 := Int.mul_nonpos_of_nonneg_of_nonpos (by omega) (by omega)
    omega
  have : n * 1 ≤ n * q := Int.mul_le_mul_of_nonneg_left this (by omega)
  omega
theorem wl_rounds (h : 0 < n) (cl : ∀ k ∈ ks, f k ∈ ks) (hs : s ∈ ks) : ∀ q : Nat, n * q ≤ wl n f s (ks.length * q)
  | 0 => by rw [Nat.mul_zero]; show n * 0 ≤ 0; omega
  | q + 1 => by
    have h1 := wl_rounds h cl hs q
    have h2 := wl_round (f := f) h cl (itr_mem cl hs (ks.length * q))
    rw [Nat.mul_succ, wl_add, Int.natCast_succ, Int.mul_add]
    omega
/-- where the way has at least the distance d first -/
def FirstAt (n : Int) (f : Int → Int) (s d : Int) (K : Nat) : Prop := d ≤ wl n f s K ∧ ∀ k, k < K → wl n f s k < d
theorem FirstAt.uniq (h : 0 < n) {a b : Nat} (x : FirstAt n f s d a) (y : FirstAt n f s d b) : a = b := by
  rcases Nat.lt_trichotomy a b with l | l | l
  · have := y.2 a l
    have := x.1
    omega
  · exact l
  · have := x.2 b l
    have := y.1
    omega
theorem firstAt_of (h : 0 < n) {K : Nat} (h1 : d ≤ wl n f s K) (h2 : K = 0 ∨ wl n f s (K - 1) < d) : FirstAt n f s d K := by
  refine ⟨h1, fun k hk => ?_⟩
  rcases h2 with rfl | h2
  · omega
  · exact Int.lt_of_le_of_lt (wl_le h (by omega)) h2
/-- whole laps need not be walked -/
theorem laps_first (h : 0 < n) {g j : Nat} (hg : g < m) (e : itr f s m = itr f s g) (hj : j ≤ m) (h1 : ∀ i, i < j → wl n f s i + max 0 (d - wl n f s g) / (wl n f s m - wl n f s g) * (wl n f s m - wl n f s g) < d)
    (h2 : j < m → d ≤ wl n f s j + max 0 (d - wl n f s g) / (wl n f s m - wl n f s g) * (wl n f s m - wl n f s g)) :
    ∃ K, FirstAt n f s d K ∧ itr f s K = itr f s j ∧ wl n f s K = wl n f s j + max 0 (d - wl n f s g) / (wl n f s m - wl n f s g) * (wl n f s m - wl n f s g) := by
  have lp := wl_lt (f := f) (s := s) h hg
  generalize ew : wl n f s m - wl n f s g = lap at *
  have lp : 0 < lap := by omega
  have q0 : 0 ≤ max 0 (d - wl n f s g) / lap := Int.ediv_nonneg (by omega) (by omega)
  have qe := Int.emod_add_mul_ediv (max 0 (d - wl n f s g)) lap
  have r0 := Int.emod_nonneg (max 0 (d - wl n f s g)) (by omega : lap ≠ 0)
  have r1 := Int.emod_lt_of_pos (max 0 (d - wl n f s g)) lp
  generalize max 0 (d - wl n f s g) / lap = q at *
  generalize max 0 (d - wl n f s g) % lap = r at *
  obtain ⟨c, rfl⟩ : ∃ c : Nat, q = c := ⟨q.toNat, by omega⟩
  rw [Int.mul_comm lap] at qe
  generalize ec : (c : Int) * lap = skip at *
  have k2 : d ≤ wl n f s j + skip := by
    by_cases l : j < m
    · exact h2 l
    · have : j = m := by omega
      subst this
      omega
  by_cases c0 : c = 0
  · subst c0
    have : skip = 0 := by rw [← ec]; exact Int.zero_mul _
    subst this
    exact ⟨j, ⟨by omega, fun k hk => by have := h1 k hk; omega⟩, rfl, by omega⟩
  · have : lap ≤ skip := by
      rw [← ec]
      have : (1 : Int) * lap ≤ c * lap := Int.mul_le_mul_of_nonneg_right (by omega) (by omega)
      omega
    have dg : wl n f s g + skip ≤ d := by omega
    have jg : g ≤ j := by
      refine Classical.byContradiction fun z => ?_
      have := wl_lt (f := f) (s := s) h (show j < g by omega)
      omega
    obtain ⟨t, rfl⟩ : ∃ t, j = g + t := ⟨j - g, by omega⟩
    obtain ⟨p, rfl⟩ : ∃ p, m = g + p := ⟨m - g, by omega⟩
    have e1 := laps_itr e t c
    have e2 := laps_wl (n := n) e t c
    rw [ew, ec] at e2
    refine ⟨g + t + c * p, firstAt_of h (by omega) ?_, e1, e2⟩
    by_cases t0 : t = 0
    · subst t0
      right
      have := wl_lt (f := f) (s := s) h (show g + 0 + c * p - 1 < g + 0 + c * p by
        have : 0 < c * p := Nat.mul_pos (by omega) (by omega)
        omega)
      rw [e2] at this
      have e0 : wl n f s (g + 0) = wl n f s g := rfl
      omega
    · right
      have e3 := laps_wl (n := n) e (t - 1) c
      rw [ew, ec] at e3
      rw [show g + t + c * p - 1 = g + (t - 1) + c * p by omega, e3]
      exact h1 _ (by omega)
end
/-! ### changes that keep all truths -/
theorem far_lin' (a b : Int) {n : Int} (hn : 0 < n) (a0 : 0 ≤ a) (a1 : a < n) (b0 : 0 ≤ b) (b1 : b < n) : (a < b ∧ farL n a b = b - a) ∨ (b ≤ a ∧ farL n a b = b - a + n) := by
  unfold farL
  by_cases h : a < b
  · left
    refine ⟨h, ?_⟩
    rw [Int.fmod_eq_emod_of_nonneg _ (by omega), Int.emod_eq_of_lt (by omega) (by omega)]
    omega
  · right
    refine ⟨by omega, ?_⟩
    rw [Int.fmod_eq_emod_of_nonneg _ (by omega), show b - a - 1 = (b - a - 1 + n) + n * (-1) by omega, Int.add_mul_emod_self_left, Int.emod_eq_of_lt (by omega) (by omega)]
    omega
/-- b lies between a and y -/
def Btw (n a b y : Int) : Prop := farL n a b < farL n a y
theorem Btw.sum {n a b y : Int} (h : Btw n a b y) (hn : 0 < n) (a0 : 0 ≤ a) (a1 : a < n) (b0 : 0 ≤ b) (b1 : b < n) (y0 : 0 ≤ y) (y1 : y < n) : farL n a y = farL n a b + farL n b y ∧ b ≠ y := by
  unfold Btw at h
  have h1 := far_lin' a b hn a0 a1 b0 b1
  have h2 := far_lin' b y hn b0 b1 y0 y1
  have h3 := far_lin' a y hn a0 a1 y0 y1
  omega
/-- f, but b behind a -/
def chg (f : Int → Int) (a b : Int) : Int → Int := fun k => if k = a then b else f k
theorem chg_at {f : Int → Int} {a b : Int} : chg f a b a = b := if_pos rfl
theorem chg_ne {f : Int → Int} {a b k : Int} (h : k ≠ a) : chg f a b k = f k := if_neg h
theorem agree {n a s : Int} {f g : Int → Int} (off : ∀ k, k ≠ a → g k = f k) : ∀ {K : Nat}, (∀ i, i < K → itr f s i ≠ a) → itr g s K = itr f s K ∧ wl n g s K = wl n f s K
  | 0, _ => ⟨rfl, rfl⟩
  | K + 1, h => by
    obtain ⟨h1, h2⟩ := agree (n := n) off (K := K) fun i hi => h i (by omega)
    have h3 := off _ (h K (by omega))
    refine ⟨?_, ?_⟩
    · show g (itr g s K) = f (itr f s K)
      rw [h1, h3]
    · show wl n g s K + farL n (itr g s K) (g (itr g s K)) = wl n f s K + farL n (itr f s K) (f (itr f s K))
      rw [h2, h1, h3]
/-- the way from b comes to the next of a with just their distance -/
def Fa (n : Int) (f : Int → Int) (a b : Int) : Prop := ∃ K, itr f b K = f a ∧ wl n f b K = farL n b (f a)
structure FaC (n : Int) (f : Int → Int) (a b : Int) : Prop where
  n0 : 0 < n
  sum : farL n a (f a) = farL n a b + farL n b (f a)
  ne : b ≠ f a
theorem FaC.path {n a b : Int} {f : Int → Int} (c : FaC n f a b) (h : Fa n f a b) : ∃ J, 0 < J ∧ itr (chg f a b) a J = f a ∧ wl n (chg f a b) a J = farL n a (f a) := by
  obtain ⟨K, h1, h2⟩ := h
  have off : ∀ k, k ≠ a → chg f a b k = f k := fun k hk => chg_ne hk
  have no : ∀ i, i < K → itr f b i ≠ a := fun i hi e => by
    have w := wl_le (f := f) (s := b) c.n0 (show i + 1 ≤ K by omega)
    have e1 : wl n f b (i + 1) = wl n f b i + farL n a (f a) := by
      show wl n f b i + farL n (itr f b i) (f (itr f b i)) = _
      rw [e]
    have p := wl_pos (f := f) (s := b) c.n0 i
    have := (far_range a b c.n0).1
    have := c.sum
    omega
  obtain ⟨g1, g2⟩ := agree (n := n) off no
  have e1 : itr (chg f a b) a 1 = b := chg_at
  refine ⟨1 + K, by omega, ?_, ?_⟩
  · rw [itr_add, e1, g1, h1]
  · rw [wl_add, e1, g2, h2, c.sum]
    show 0 + farL n a (chg f a b a) + _ = _
    rw [chg_at]
    omega
theorem FaC.back {n a b : Int} {f : Int → Int} (c : FaC n f a b) {J : Nat} (h1 : itr (chg f a b) a J = f a) (h2 : wl n (chg f a b) a J = farL n a (f a)) : Fa n f a b := by
  have e1 : itr (chg f a b) a 1 = b := chg_at
  have f1 := (far_range a (f a) c.n0).1
  have f2 := (far_range b (f a) c.n0).2
  match J, h1, h2 with
  | 0, h1, h2 =>
    have : (0 : Int) = farL n a (f a) := h2
    omega
  | K + 1, h1, h2 =>
    rw [Nat.add_comm, itr_add, e1] at h1
    rw [Nat.add_comm, wl_add, e1, c.sum] at h2
    have h2 : 0 + farL n a (chg f a b a) + wl n (chg f a b) b K = farL n a b + farL n b (f a) := h2
    rw [chg_at] at h2
    have h2 : wl n (chg f a b) b K = farL n b (f a) := by omega
    have no : ∀ i, i < K → itr (chg f a b) b i ≠ a := fun i hi e => by
      have eb : itr (chg f a b) b (i + 1) = b := by
        show chg f a b (itr (chg f a b) b i) = b
        rw [e, chg_at]
      obtain ⟨q, eq⟩ := wl_dvd (f := chg f a b) (s := b) c.n0 (i + 1)
      have p := wl_pos (f := chg f a b) (s := b) c.n0 (i + 1)
      have w := wl_le (f := chg f a b) (s := b) c.n0 (show i + 1 ≤ K by omega)
      rw [eb] at eq
      have eq : wl n (chg f a b) b (i + 1) = n * q := by omega
      have q1 : 1 ≤ q := by
        refine Classical.byContradiction fun z => ?_
        have : n * q ≤ 0 := Int.mul_nonpos_of_nonneg_of_nonpos (by have := c.n0; omega) (by omega)
        omega
      have q2 : n * 1 ≤ n * q := Int.mul_le_mul_of_nonneg_left q1 (by have := c.n0; omega)
      by_cases z : i + 1 = K
      · rw [z, h1] at eb
        exact c.ne eb.symm
      · have := wl_lt (f := chg f a b) (s := b) c.n0 (show i + 1 < K by omega)
        omega
    obtain ⟨g1, g2⟩ := agree (n := n) (f := chg f a b) (g := f) (fun k hk => (chg_ne hk).symm) no
    exact ⟨K, by rw [g1, h1], by rw [g2, h2]⟩
/-- each old step is a way of as much length -/
theorem FaC.step {n a b : Int} {f : Int → Int} (c : FaC n f a b) (h : Fa n f a b) (k : Int) : ∃ J, itr (chg f a b) k J = f k ∧ wl n (chg f a b) k J = farL n k (f k) := by
  by_cases e : k = a
  · obtain ⟨J, _, h1, h2⟩ := c.path h
    rw [e]
    exact ⟨J, h1, h2⟩
  · refine ⟨1, chg_ne e, ?_⟩
    show 0 + farL n k (chg f a b k) = _
    rw [chg_ne e]
    omega
theorem Fa.first {n a b : Int} {f : Int → Int} (h0 : 0 < n) {K : Nat} (F : FirstAt n f b (farL n b (f a)) K) : Fa n f a b ↔ (itr f b K = f a ∧ wl n f b K = farL n b (f a)) := by
  refine ⟨fun ⟨J, h1, h2⟩ => ?_, fun ⟨h1, h2⟩ => ⟨K, h1, h2⟩⟩
  have : FirstAt n f b (farL n b (f a)) J := ⟨by omega, fun k hk => by rw [← h2]; exact wl_lt h0 hk⟩
  rw [F.uniq h0 this]
  exact ⟨h1, h2⟩
/-- where no house is the next of two, nothing is faithful -/
theorem Fa.no {n a b : Int} {f : Int → Int} (c : FaC n f a b) (cl : ∀ k, itr f b k = a → True) (inj : ∀ i, f (itr f b i) = f a → itr f b i = a) : ¬ Fa n f a b := fun ⟨K, h1, h2⟩ => by
  match K, h1, h2 with
  | 0, h1, _ => exact c.ne h1
  | K + 1, h1, h2 =>
    have e := inj K h1
    have e1 : wl n f b (K + 1) = wl n f b K + farL n a (f a) := by
      show wl n f b K + farL n (itr f b K) (f (itr f b K)) = _
      rw [e]
    have p := wl_pos (f := f) (s := b) c.n0 K
    have := (far_range a b c.n0).1
    have := c.sum
    omega
/-- where two houses have one next, the one farther from it may take the other -/
theorem Fa.yes {n a b : Int} {f : Int → Int} (e : f b = f a) : Fa n f a b := ⟨1, e, by
  show 0 + farL n b (f b) = _
  rw [e]
  omega⟩
--CUT
/-! ### the two calm rounds, in plain words -/
def iN (nx : List (Key × V)) (y : Int) : Int := match valV nx (.inl y) with | some (.int x) => x | _ => 0
def zO : V → Int | .int z => z | _ => 0
theorem iN_of {nx : List (Key × V)} {y x : Int} (h : valV nx (.inl y) = some (.int x)) : iN nx y = x := by unfold iN; rw [h]
def tellB (n : Int) (nx bs : List (Key × V)) (y : Int) : List (Key × V) := nB n (iN nx y) (bef bs (iN nx y)) (.tell (iN nx y) y) bs
def tells (n : Int) (nx bs : List (Key × V)) (ys : List Int) : List (Key × V) := ys.foldl (tellB n nx) bs
def askL (bs nx : List (Key × V)) (y : Int) : Let := .answer y (iN nx y) (zO (bef bs (iN nx y)))
def askS (n : Int) (bs : List (Key × V)) (s : List (Key × V) × Int) (y : Int) : List (Key × V) × Int := (nN n y (iN s.1 y) (bef bs y) (askL bs s.1 y) s.1, if hN n y (iN s.1 y) (askL bs s.1 y) = iN s.1 y then s.2 else s.2 + 1)
def asks (n : Int) (bs nx : List (Key × V)) (ys : List Int) : List (Key × V) × Int := ys.foldl (askS n bs) (nx, 0)
/-- befores of houses alone -/
def GB (ks : List Int) (bs : List (Key × V)) : Prop := ∀ (p : Int) v, valV bs (.inl p) = some v → p ∈ ks ∧ ∃ x ∈ ks, v = .int x
def GN (ks : List Int) (nx : List (Key × V)) : Prop := nx.map (·.1) = ks.map Sum.inl ∧ ∀ k ∈ ks, ∃ x ∈ ks, valV nx (.inl k) = some (.int x)
def KB (bs : List (Key × V)) : Prop := ∃ js : List Int, bs.map (·.1) = js.map Sum.inl ∧ js.Nodup
theorem tells_succ {n : Int} {nx bs : List (Key × V)} {ys : List Int} {i : Nat} {y : Int} (h : ys[i]? = some y) : tells n nx bs (ys.take (i + 1)) = tellB n nx (tells n nx bs (ys.take i)) y := by
  unfold tells
  rw [List.take_add_one, h, Option.toList_some, List.foldl_append]
  rfl
theorem asks_succ {n : Int} {nx bs : List (Key × V)} {ys : List Int} {i : Nat} {y : Int} (h : ys[i]? = some y) : asks n bs nx (ys.take (i + 1)) = askS n bs (asks n bs nx (ys.take i)) y := by
  unfold asks
  rw [List.take_add_one, h, Option.toList_some, List.foldl_append]
  rfl
theorem GB.nB {ks : List Int} {bs : List (Key × V)} {n r : Int} {L : Let} (g : GB ks bs) (hL : ∀ k ∈ L.ns, k ∈ ks) (hr : r ∈ ks) : GB ks (nB n r (bef bs r) L bs) := fun p v e => by
  unfold Z.nB at e
  split at e
  · rename_i h
    rw [valV_put] at e
    by_cases z : p = r
    · rw [if_pos (by rw [z])] at e
      obtain ⟨u, mu, eu⟩ := (hB_mem (n := n) (r := r) (L := L) (bef_ok fun p v e => let ⟨_, x, _, e2⟩ := g p v e; ⟨x, e2⟩)).resolve_left h.2
      exact ⟨by rw [z]; exact hr, u, hL _ mu, by rw [← Option.some.inj e, eu]⟩
    · rw [if_neg (fun y => z (Sum.inl.inj y))] at e
      exact g p v e
  · exact g p v e
theorem GB.ok {ks : List Int} {bs : List (Key × V)} (g : GB ks bs) (k : Int) : okB (bef bs k) := bef_ok fun p v e => let ⟨_, x, _, e2⟩ := g p v e; ⟨x, e2⟩
theorem GB.some {ks : List Int} {bs : List (Key × V)} (g : GB ks bs) {k : Int} (h : bef bs k ≠ .non) : ∃ z ∈ ks, bef bs k = .int z := by
  unfold bef at h ⊢
  cases e : valV bs (.inl k) with
  | none => rw [e] at h; exact absurd rfl h
  | some v =>
    obtain ⟨_, x, mx, ex⟩ := g k v e
    exact ⟨x, mx, ex⟩
theorem valV_mem_keys {kvs : List (Key × V)} {js : List Int} {p : Int} (h : kvs.map (·.1) = js.map Sum.inl) (hp : p ∈ js) : (valV kvs (.inl p)).isSome = true := by
  induction kvs generalizing js with
  | nil =>
    cases js with
    | nil => cases hp
    | cons a b => cases h
  | cons kv r ih =>
    cases js with
    | nil => cases hp
    | cons j js =>
      obtain ⟨k, v⟩ := kv
      have h1 : k = Sum.inl j := (List.cons.inj h).1
      by_cases e : p = j
      · rw [valV_pos (by rw [h1, e])]
        rfl
      · rw [valV_neg (by rw [h1]; exact fun z => e (Sum.inl.inj z).symm)]
        exact ih (List.cons.inj h).2 ((List.mem_cons.mp hp).resolve_left e)
theorem KB.put {bs : List (Key × V)} {r : Int} {v : V} (h : KB bs) : KB (putK bs (.inl r) v) := by
  obtain ⟨js, e, nd⟩ := h
  by_cases m : r ∈ js
  · exact ⟨js, by rw [keys_putK_old (valV_mem_keys e m)]; exact e, nd⟩
  · refine ⟨js ++ [r], ?_, List.nodup_append.mpr ⟨nd, List.pairwise_singleton _ _, fun a ha b hb z => by rw [List.mem_singleton.mp hb] at z; rw [z] at ha; exact m ha⟩⟩
    rw [putK_new _ (valV_none_keys e m), List.map_append, List.map_append, e]
    rfl
theorem KB.nB {bs : List (Key × V)} {n r : Int} {b : V} {L : Let} (h : KB bs) : KB (nB n r b L bs) := by
  unfold Z.nB
  split
  · exact h.put
  · exact h
theorem GN.nN {ks : List Int} {nx : List (Key × V)} {n r x : Int} {b : V} {L : Let} (g : GN ks nx) (hL : ∀ k ∈ L.ns, k ∈ ks) (hr : r ∈ ks) (hx : valV nx (.inl r) = some (.int x)) : GN ks (nN n r x b L nx) := by
  refine ⟨?_, fun j hj => ?_⟩
  · unfold Z.nN
    split
    · rw [keys_putK_old (by rw [hx]; rfl)]
      exact g.1
    · exact g.1
  · rw [nN_val hx]
    by_cases e : j = r
    · rw [if_pos e]
      refine ⟨_, ?_, rfl⟩
      rcases hN_mem (n := n) (r := r) (x := x) (L := L) with z | z
      · rw [z]
        obtain ⟨y, my, ey⟩ := g.2 _ hr
        rw [hx] at ey
        rw [V.int.inj (Option.some.inj ey)]
        exact my
      · exact hL _ z
    · rw [if_neg e]
      exact g.2 j hj
theorem nodup_sub_len : ∀ {js ks : List Int}, js.Nodup → (∀ j ∈ js, j ∈ ks) → js.length ≤ ks.length
  | [], ks, _, _ => Nat.zero_le _
  | j :: js, ks, nd, h => by
    obtain ⟨h1, h2⟩ := List.nodup_cons.mp nd
    have m := h j List.mem_cons_self
    have := nodup_sub_len (js := js) (ks := ks.erase j) h2 fun k hk => (List.mem_erase_of_ne (fun z => h1 (by rw [← z]; exact hk))).mpr (h k (List.mem_cons_of_mem _ hk))
    rw [List.length_erase_of_mem m] at this
    have := List.length_pos_of_mem m
    show js.length + 1 ≤ ks.length
    omega
theorem KB.len {ks : List Int} {bs : List (Key × V)} (h : KB bs) (g : GB ks bs) : bs.length ≤ ks.length := by
  obtain ⟨js, e, nd⟩ := h
  have l : bs.length = js.length := by have := congrArg List.length e; rw [List.length_map, List.length_map] at this; exact this
  rw [l]
  refine nodup_sub_len nd fun j hj => ?_
  obtain ⟨v, hv⟩ := Option.isSome_iff_exists.mp (valV_mem_keys e hj)
  exact (g j v hv).1
theorem tell_bef {n : Int} {nx bs : List (Key × V)} {y k : Int} : bef (tellB n nx bs y) k = if k = iN nx y then hTell n (iN nx y) y (bef bs (iN nx y)) else bef bs k := nB_bef
theorem hTell_some {n p u : Int} {b : V} : hTell n p u b ≠ .non := by
  cases b with
  | int z =>
    unfold hTell
    dsimp only
    split <;> exact fun z => nomatch z
  | _ => exact fun z => nomatch z
theorem tells_keep {n : Int} {nx : List (Key × V)} {k : Int} : ∀ {ys : List Int} {bs : List (Key × V)}, bef bs k ≠ .non → bef (tells n nx bs ys) k ≠ .non
  | [], _, h => h
  | y :: ys, bs, h => by
    show bef (tells n nx (tellB n nx bs y) ys) k ≠ .non
    refine tells_keep ?_
    rw [tell_bef]
    split
    · exact hTell_some
    · exact h
theorem tells_has {n : Int} {nx : List (Key × V)} {y : Int} : ∀ {ys : List Int} {bs : List (Key × V)}, y ∈ ys → bef (tells n nx bs ys) (iN nx y) ≠ .non
  | a :: ys, bs, h => by
    show bef (tells n nx (tellB n nx bs a) ys) (iN nx y) ≠ .non
    by_cases e : y = a
    · subst e
      refine tells_keep ?_
      rw [tell_bef, if_pos rfl]
      exact hTell_some
    · exact tells_has ((List.mem_cons.mp h).resolve_left e)
section
variable {ks : List Int} {n : Int} {nx bs : List (Key × V)}
theorem tells_all (gn : GN ks nx) : ∀ {ys : List Int} {bs : List (Key × V)}, (∀ y ∈ ys, y ∈ ks) → GB ks bs → KB bs → GB ks (tells n nx bs ys) ∧ KB (tells n nx bs ys)
  | [], _, _, g, k => ⟨g, k⟩
  | y :: ys, bs, h, g, k => by
    have hy := h y List.mem_cons_self
    obtain ⟨x, mx, ex⟩ := gn.2 y hy
    show GB ks (tells n nx (tellB n nx bs y) ys) ∧ KB (tells n nx (tellB n nx bs y) ys)
    refine tells_all gn (ys := ys) (fun z hz => h z (List.mem_cons_of_mem _ hz)) (GB.nB g (fun k hk => ?_) (by rw [iN_of ex]; exact mx)) k.nB
    have hk : k ∈ [iN nx y, y] := hk
    simp only [List.mem_cons, List.not_mem_nil, or_false] at hk
    rcases hk with rfl | rfl
    · rw [iN_of ex]; exact mx
    · exact hy
/-- what the befores of the net and those beside say alike -/
def VF (ks : List Int) (bf bs : List (Key × V)) : Prop := ∀ k ∈ ks, valV bf (.inl k) = some (bef bs k)
theorem VF.nB {bf : List (Key × V)} {r : Int} {L : Let} (h : VF ks bf bs) (hr : r ∈ ks) : VF ks (nB n r (bef bs r) L bf) (nB n r (bef bs r) L bs) := fun j hj => by
  rw [nB_val (h _ hr), nB_bef]
  by_cases e : j = r
  · rw [if_pos e, if_pos e]
  · rw [if_neg e, if_neg e]
    exact h j hj
theorem nB_len {bf : List (Key × V)} {r : Int} {b : V} {L : Let} (h : (valV bf (.inl r)).isSome = true) : (nB n r b L bf).length = bf.length := by
  unfold Z.nB
  split
  · have := congrArg List.length (keys_putK_old (v := hB n r b L) h)
    rw [List.length_map, List.length_map] at this
    exact this
  · rfl
end
/-! ### a walk over a dict that has just been made -/
def tLk (td : TE) : TE := fun σ H Q => td σ H fun x H1 => ∃ (d : Addr) (kvs : List (Key × V)), x = .ref d ∧ H1 d = some (.dK kvs) ∧ ∀ o, Q x (upd H1 d (.frz o (.dK kvs)))
theorem pe_lk {X : Cx} {e : Expr} {td : TE} (he : PE X e td) : PE X e (tLk td) := by
  refine ⟨fun pins s σ H Q I h => ?_⟩
  refine thn (he.run pins s σ _ _ I h) fun u s1 ⟨x, H1, I1, r, d, kvs, ex, hd, q⟩ => ?_
  obtain ⟨od, I2⟩ := I1.lock hd trivial
  exact ⟨x, _, I2, r, q od⟩
/-- rows of tuples -/
def LAt {α : Type} (f : α → List V) (H : Hp) (vs : List V) (qs : List α) : Prop := vs.length = qs.length ∧ ∀ (i : Nat) v q, vs[i]? = some v → qs[i]? = some q → ∃ a, v = V.ref a ∧ H a = some (.tup (f q))
section
variable {α : Type} {f : α → List V} {H H' : Hp} {vs us : List V} {qs ps : List α}
theorem LAt.nil : LAt f H [] ([] : List α) := ⟨rfl, fun i v q h => by simp at h⟩
theorem LAt.mono (h : LAt f H vs qs) (k : ∀ a xs, H a = some (.tup xs) → H' a = some (.tup xs)) : LAt f H' vs qs := ⟨h.1, fun i v q e1 e2 => let ⟨a, e3, e4⟩ := h.2 i v q e1 e2; ⟨a, e3, k _ _ e4⟩⟩
theorem LAt.same (h : LAt f H vs qs) (s : Same H H') : LAt f H' vs qs := h.mono fun _ _ e => s _ _ e
theorem LAt.cat (h : LAt f H vs qs) (g : LAt f H us ps) : LAt f H (vs ++ us) (qs ++ ps) := by
  refine ⟨by rw [List.length_append, List.length_append, h.1, g.1], fun i v q e1 e2 => ?_⟩
  rw [List.getElem?_append] at e1 e2
  by_cases z : i < vs.length
  · rw [if_pos z] at e1
    rw [if_pos (by rw [← h.1]; exact z)] at e2
    exact h.2 i v q e1 e2
  · rw [if_neg z] at e1
    rw [if_neg (by rw [← h.1]; exact z), ← h.1] at e2
    exact g.2 _ v q e1 e2
theorem LAt.one {a : Addr} {q : α} (e : H a = some (.tup (f q))) : LAt f H [.ref a] [q] := ⟨rfl, fun i v q' e1 e2 => by
  match i with
  | 0 => cases e1; cases e2; exact ⟨a, rfl, e⟩
  | i + 1 => simp at e1⟩
theorem LAt.app {a : Addr} {q : α} (h : LAt f H vs qs) (e : H a = some (.tup (f q))) : LAt f H (vs ++ [.ref a]) (qs ++ [q]) := h.cat (.one e)
theorem LAt.at (h : LAt f H vs qs) {i : Nat} {v : V} (e : vs[i]? = some v) : ∃ a q, qs[i]? = some q ∧ v = .ref a ∧ H a = some (.tup (f q)) := by
  have hi : i < qs.length := by rw [← h.1]; exact (List.getElem?_eq_some_iff.mp e).1
  obtain ⟨a, e1, e2⟩ := h.2 i v _ e (List.getElem?_eq_getElem hi)
  exact ⟨a, _, List.getElem?_eq_getElem hi, e1, e2⟩
theorem LAt.sm {K : PySem.W.Frag} (h : LAt f H vs qs) (g : LAt f H us qs) (ha : ∀ q ∈ qs, (f q).length ≤ 100000 ∧ ∀ y ∈ f q, atomV y = true) : ∀ (i : Nat) x y, vs[i]? = some x → us[i]? = some y → Sm K 2 H x y := fun i x y hx hy => by
  obtain ⟨a, q, e0, rfl, e1⟩ := h.at hx
  obtain ⟨b, e2, e3⟩ := g.2 i y q hy e0
  rw [e2]
  exact tup_same e1 e3 (ha q (List.mem_of_getElem? e0)).1 (ha q (List.mem_of_getElem? e0)).2
end
def pV (q : Int × Int) : List V := [.int q.1, .int q.2]
def sV (n : Int) (q : Int × Int) : List V := [.int q.1, .int q.2, .int (farL n q.1 q.2)]
def rV (f g : Int → V) (y : Int) : List V := [.int y, f y, g y]
def LetP : Let → List (Int × Int)
  | .tell r u => [(u, r)]
  | .ask _ _ => []
  | .answer _ u m => [(m, u)]
/-- a snapshot -/
def Shot (n : Int) (f g : Int → V) (ys : List Int) (H : Hp) (p : Addr) (ls : List V) : Prop := ∃ (r l : Addr) (rs : List V), H p = some (.tup [.int n, .ref r, .ref l]) ∧ H l = some (.tup ls) ∧ H r = some (.tup rs) ∧ LAt (rV f g) H rs ys
def sp_Net__hold (C : Addr) : Sp := fun vs H Q _ => ∃ (h dn db dl : Addr) (n p x : Int) (v : V) (nx bf : List (Key × V)) (ls : List V), vs = [.ref h, .int p, .int x] ∧ NetAt C H h n dn db dl nx bf ls ∧ valV nx (.inl p) = some v ∧ (valV nx (.inl x)).isSome = true ∧ nx.length ≤ 1000 ∧ Q v (upd H dn (.dK (putK nx (.inl p) (.int x))))
theorem T0.ok_Net__hold (T : T0 K mg) : FnOk P w K mg base CX0 2 T.a_Net__hold T.fd_Net__hold ["self", "house", "target"] (sp_Net__hold T.C_Net) := by
  refine T.F_Net__hold.ok sc_Net__hold (fun vs H Q E h => ?_) (fun cdv A outer s H vs Q E hr h => ?_)
  · obtain ⟨h, dn, db, dl, n, p, x, v, nx, bf, ls, rfl, _⟩ := h
    rfl
  · obtain ⟨h, dn, db, dl, n, p, x, v, nx, bf, ls, rfl, hN, hp, hx, hz, q⟩ := h
    obtain ⟨dx, hh⟩ := hN.me
    refine ⟨_, (pss_cons (ps_expr (pe_meth (pv 0) T.cl_Net T.me_Net__check_house T.ok_Net__check_house hr T.b_Net__check_house .nil pass0 (pa_cons (pv 1) pa_nil)))
        (pss_cons (ps_expr (pe_meth (pv 0) T.cl_Net T.me_Net__check_house T.ok_Net__check_house hr T.b_Net__check_house .nil pass0 (pa_cons (pv 2) pa_nil)))
        (pss_cons (ps_set (i := 3) sc_Net__hold.nd rfl (Or.inl rfl) (pe_dget (un1 hr) (show PE _ _ (tFld K _ _) from pe_fld (pv 0) rfl) (pv 1) (fun _ _ => rfl)))
        (pss_cons (ps_asg (pv 2) (pg_sub (show PE _ _ (tFld K _ _) from pe_fld (pv 0) rfl) (pv 1) (set_dict (un1 hr))))
        (pss_one (ps_ret (pv 3))))))), ?_⟩
    refine ⟨_, rfl, h, dx, _, rfl, hh, (by unfold nf; walk_at "lk"), _, rfl, h, dn, db, dl, n, p, nx, bf, ls, rfl, hN, (by rw [hp]; rfl), ?_⟩
    refine ⟨_, rfl, h, dx, _, rfl, hh, (by unfold nf; walk_at "lk"), _, rfl, h, dn, db, dl, n, x, nx, bf, ls, rfl, hN, hx, ?_⟩
    refine ⟨_, rfl, h, _, dx, _, _, rfl, hh, T.cl_Net, T.na_Net__nexts, nf_nexts, _, rfl, dn, _, rfl, dget_of (k := Sum.inl p) hN.hn hp, ?_⟩
    refine ⟨_, rfl, _, rfl, h, _, dx, _, _, rfl, hh, T.cl_Net, T.na_Net__nexts, nf_nexts, _, rfl, dn, _, rfl, DPut.k (k := Sum.inl p) hN.hn (small1000' (by omega)), ?_⟩
    exact ⟨_, rfl, q⟩
def sp_Net__set_before (C : Addr) : Sp := fun vs H Q _ => ∃ (h dn db dl : Addr) (n p : Int) (b : V) (nx bf : List (Key × V)) (ls : List V), vs = [.ref h, .int p, b] ∧ NetAt C H h n dn db dl nx bf ls ∧ (valV nx (.inl p)).isSome = true ∧ (b = .non ∨ ∃ x : Int, b = .int x ∧ (valV nx (.inl x)).isSome = true) ∧ bf.length ≤ 1000 ∧ Q .non (upd H db (.dK (putK bf (.inl p) b)))
def sp_Net__snapshot (C : Addr) : Sp := fun vs H Q _ => ∃ (h dn db dl : Addr) (n : Int) (nx bf : List (Key × V)) (ls : List V) (ks : List Int) (f g : Int → V), vs = [.ref h] ∧ NetAt C H h n dn db dl nx bf ls ∧ nx.map (·.1) = ks.map Sum.inl ∧ ks.length < 64 ∧ (∀ k ∈ ks, valV nx (.inl k) = some (f k) ∧ valV bf (.inl k) = some (g k)) ∧
  ∀ (ys : List Int) p H', ys.Perm ks → ys.Pairwise (· ≤ ·) → Same H H' → Shot n f g ys H' p ls → Q (.ref p) H'
theorem T0.ok_Net__snapshot (T : T0 K mg) : FnOk P w K mg base CX0 2 T.a_Net__snapshot T.fd_Net__snapshot ["self"] (sp_Net__snapshot T.C_Net) := by
  refine T.F_Net__snapshot.ok sc_Net__snapshot (fun vs H Q E h => ?_) (fun cdv A outer s H vs Q E hr h => ?_)
  · obtain ⟨h, dn, db, dl, n, nx, bf, ls, ks, f, g, rfl, _⟩ := h
    rfl
  · obtain ⟨h, dn, db, dl, n, nx, bf, ls, ks, f, g, rfl, hN, hk, h64, hv, q⟩ := h
    obtain ⟨dx, hh⟩ := hN.me
    refine ⟨_, (pss_cons (ps_setLc (i := 1) (own := [("house", 2)]) (g := gName 2) (by rfl) sc_Net__snapshot.nd rfl rfl (sw_true rfl rfl rfl (by decide +kernel)) (pi_list (pe_meth0 (pv 0) T.cl_Net T.me_Net__houses T.ok_Net__houses hr T.b_Net__houses .nil pass0)) (blkOk_by (own := [("house", 2)]) (N := ["self", "rows", "house"]) (sc := defScope s_Net__snapshot) (by decide +kernel)) (fun _ _ _ _ _ => pg_name (i := 2) sc_Net__snapshot.nd rfl (Or.inl rfl)) (fun _ _ _ _ _ => pts_nil) (fun _ _ _ _ _ => (pe_tup (pa_cons (pv 2) (pa_cons (pe_dget (un1 hr) (show PE _ _ (tFld K _ _) from pe_fld (pv 0) rfl) (pv 2) (fun _ _ => rfl)) (pa_cons (pe_dget (un1 hr) (show PE _ _ (tFld K _ _) from pe_fld (pv 0) rfl) (pv 2) (fun _ _ => rfl)) pa_nil))))))
        (pss_one (ps_ret (pe_tup (pa_cons (show PE _ _ (tFld K _ _) from pe_fld (pv 0) rfl) (pa_cons (pe_callTy (call_tuple_ofK (K := K)) (by rfl) T.m_tuple (by decide +kernel) (pa_cons (pv 1) pa_nil)) (pa_cons (pe_callTy (call_tuple_ofK (K := K)) (by rfl) T.m_tuple (by decide +kernel) (pa_cons (show PE _ _ (tFld K _ _) from pe_fld (pv 0) rfl) pa_nil)) pa_nil))))))), ?_⟩
    refine ⟨_, rfl, h, dx, _, rfl, hh, (by unfold nf; walk_at "lk"), h, dn, db, dl, n, nx, bf, ls, ks, rfl, hN, hk, h64, fun ys l perm pw nl => ?_⟩
    have hl : upd H l (.lst (ys.map V.int)) l = some (.lst (ys.map V.int)) := upd_same
    have sm := same_upd (o := .lst (ys.map V.int)) nl
    generalize upd H l (.lst (ys.map V.int)) = H1 at hl sm
    have ylen := perm.length_eq
    refine ⟨l, rfl, ⟨_, SqL.of hl⟩, fun D hD => ?_⟩
    refine lc_list (K := K) (a := l) (xs := ys.map V.int) (fun i H' => Same H1 H' ∧ ∃ rs, H' D = some (.lst rs) ∧ LAt (rV f g) H' rs (ys.take i)) ⟨same_upd hD, [], upd_same, .nil⟩ (fun i H' _ p => SqL.of (p.1 _ _ hl)) (fun i x H2 hx pv => ?_) (fun H2 pv => ?_)
    · obtain ⟨s2, rs, e2, la⟩ := pv
      rw [List.getElem?_map] at hx
      obtain ⟨y, hy, rfl⟩ := Option.map_eq_some_iff.mp hx
      obtain ⟨v1, v2⟩ := hv y (perm.mem_iff.mp (List.mem_of_getElem? hy))
      have hN2 := (hN.same sm).same s2
      obtain ⟨dx, hh⟩ := hN2.me
      have lr := la.1
      rw [List.length_take] at lr
      refine ⟨rfl, lc_yes ?_⟩
      refine ⟨_, rfl, _, rfl, h, _, dx, _, _, rfl, hh, T.cl_Net, T.na_Net__nexts, nf_nexts, _, rfl, dn, _, rfl, dget_of (k := Sum.inl y) hN2.hn v1, _, rfl, h, _, dx, _, _, rfl, hh, T.cl_Net, T.na_Net__befores, nf_befores, _, rfl, db, _, rfl, dget_of (k := Sum.inl y) hN2.hb v2, lenL (by show 3 ≤ 100000; decide), fun p np => ?_⟩
      have s3 := same_upd (o := .tup [.int y, f y, g y]) np
      have e3 := s3 _ _ e2
      refine ⟨_, e3, small1000' (by omega), fun b o e => ?_, rs ++ [.ref p], upd_same, ?_⟩
      · exact (upd_ne (ne_of_none e hD)).trans (s3 _ _ (s2 _ _ e))
      · rw [List.take_add_one, hy]
        exact ((la.same s3).app (q := y) upd_same).mono fun a xs e => (upd_ne (ne_kind e e3 (fun z => nomatch z))).trans e
    · obtain ⟨s2, rs, e2, la⟩ := pv
      rw [List.length_map, List.take_length] at la
      have hN2 := (hN.same sm).same s2
      obtain ⟨dx, hh⟩ := hN2.me
      refine ⟨_, rfl, h, _, dx, _, _, rfl, hh, T.cl_Net, T.na_Net_size, nf_size, _, rfl, D, rs, rfl, .inl ⟨SqL.of e2, fun r nr => ?_⟩⟩
      have s3 := same_upd (o := .tup rs) nr
      have hr' : upd H2 r (.tup rs) r = some (.tup rs) := upd_same
      generalize upd H2 r (.tup rs) = H3 at s3 hr'
      have hN3 := hN2.same s3
      obtain ⟨dx, hh⟩ := hN3.me
      refine ⟨_, rfl, h, _, dx, _, _, rfl, hh, T.cl_Net, T.na_Net__letters, nf_letters, dl, ls, rfl, .inl ⟨SqL.of hN3.hl, fun l4 nl4 => ?_⟩⟩
      have s4 := same_upd (o := .tup ls) nl4
      have hl4 : upd H3 l4 (.tup ls) l4 = some (.tup ls) := upd_same
      generalize upd H3 l4 (.tup ls) = H4 at s4 hl4
      refine ⟨lenL (by show 3 ≤ 100000; decide), fun p np => ?_⟩
      have s5 := same_upd (o := .tup [.int n, .ref r, .ref l4]) np
      exact q ys p _ perm pw (Same.trans sm (Same.trans s2 (Same.trans s3 (Same.trans s4 s5)))) ⟨r, l4, rs, upd_same, s5 _ _ hl4, s5 _ _ (s4 _ _ hr'), ((la.same s3).same s4).same s5⟩
def sp__pairs_said_by (K : PySem.W.Frag) : Sp := fun vs H Q _ => ∃ (a : Addr) (L : Let), vs = [.ref a] ∧ H a = some (.tup L.vals) ∧ ∀ p us H', Same H H' → H p = none → H' p = some (.lst us) → LAt pV H' us (LetP L) → Q (.ref p) H'
--CUT
theorem valV_map_mem {f : Int → V} {ks : List Int} {k : Int} (h : k ∈ ks) : valV (ks.map fun z => ((Sum.inl z : Key), f z)) (Sum.inl k) = some (f k) := by
  induction ks with
  | nil => cases h
  | cons z r ih =>
    rw [List.map_cons]
    by_cases e : z = k
    · subst e
      exact valV_pos (p := ((Sum.inl z : Key), f z)) rfl
    · rw [valV_neg (fun g => e (Sum.inl.inj g))]
      exact ih ((List.mem_cons.mp h).resolve_left (fun g => e g.symm))
def gV (nx : List (Key × V)) (k : Int) : V := (valV nx (.inl k)).getD .non
theorem gV_of {nx : List (Key × V)} {k : Int} {v : V} (h : valV nx (.inl k) = some v) : gV nx k = v := by unfold gV; rw [h]; rfl
def LetIn (H : Hp) (ms : List Int) (v : V) : Prop := ∃ (p : Addr) (L : Let), v = .ref p ∧ H p = some (.tup L.vals) ∧ ∀ k ∈ L.ns, k ∈ ms
theorem LetIn.mono {H H' : Hp} {ms : List Int} {v : V} (h : LetIn H ms v) (f : ∀ p xs, H p = some (.tup xs) → H' p = some (.tup xs)) : LetIn H' ms v := let ⟨p, L, e1, e2, e3⟩ := h; ⟨p, L, e1, f _ _ e2, e3⟩
def sp_Net__clone (C : Addr) : Sp := fun vs H Q _ => ∃ (h dn db dl : Addr) (n : Int) (nx bf bs : List (Key × V)) (ls : List V) (ks : List Int), vs = [.ref h] ∧ NetAt C H h n dn db dl nx bf ls ∧ ks.length < 64 ∧ ks.Nodup ∧ (∀ k ∈ ks, 0 ≤ k ∧ k < n) ∧ GN ks nx ∧ VF ks bf bs ∧ GB ks bs ∧ ls.length ≤ 1000 ∧ (∀ v ∈ ls, LetIn H ks v) ∧
  ∀ H' h' dn' db' dl' bf', NetAt C H' h' n dn' db' dl' nx bf' ls → Same H H' → H h' = none → H dn' = none → H db' = none → H dl' = none → db' ≠ dn' → VF ks bf' bs → bf'.length ≤ 200 → Q (.ref h') H'
theorem T0.ok_Net__clone (T : T0 K mg) : FnOk P w K mg base CX0 5 T.a_Net__clone T.fd_Net__clone ["self"] (sp_Net__clone T.C_Net) := by
  refine T.F_Net__clone.ok sc_Net__clone (fun vs H Q E h => ?_) (fun cdv A outer s H vs Q E hr h => ?_)
  · obtain ⟨h, dn, db, dl, n, nx, bf, bs, ls, ks, rfl, _⟩ := h
    rfl
  · obtain ⟨h, dn, db, dl, n, nx, bf, bs, ls, ks, rfl, hN, h64, nd, rng, gn, vf, gb, hl, hlt, q⟩ := h
    obtain ⟨dx, hh⟩ := hN.me
    refine ⟨_, (pss_one (ps_ret (pe_makeK T.mk_Net T.ok_Net__init hr (by rfl) T.mc_Net T.kb_Net__init pass0 (pa_cons (show PE _ _ (tFld K _ _) from pe_fld (pv 0) rfl) (pa_cons (show PE _ _ (tFld K _ _) from pe_fld (pv 0) rfl) pa_nil)) (pk_cons (pe_meth0 (pv 0) T.cl_Net T.me_Net__befores T.ok_Net__befores (hr.mono (by decide)) T.b_Net__befores .nil pass0) (pk_cons (show PE _ _ (tFld K _ _) from pe_fld (pv 0) rfl) pk_nil))))), ?_⟩
    refine ⟨_, rfl, h, _, dx, _, _, rfl, hh, T.cl_Net, T.na_Net_size, nf_size, _, rfl, h, _, dx, _, _, rfl, hh, T.cl_Net, T.na_Net__nexts, nf_nexts, ?_⟩
    refine ⟨_, rfl, h, dx, _, rfl, hh, (by unfold nf; walk_at "lk"), h, dn, db, dl, n, nx, bf, ls, ks, bef bs, rfl, hN, gn.1, h64, nd, vf, fun ys p H1 perm pw s1 np ep => ?_⟩
    have hh1 := s1 _ _ hh
    refine ⟨_, rfl, h, _, dx, _, _, rfl, hh1, T.cl_Net, T.na_Net__letters, nf_letters, rfl, rfl, fun h' dx' nh ndx ne => ?_⟩
    have s2 : Same H1 (upd (upd H1 dx' (.own h')) h' (.ins T.C_Net dx' [])) := fun b o e => (upd_ne (ne_of_none e nh)).trans ((upd_ne (ne_of_none e ndx)).trans e)
    have hh2 : upd (upd H1 dx' (.own h')) h' (.ins T.C_Net dx' []) h' = some (.ins T.C_Net dx' []) := upd_same
    generalize upd (upd H1 dx' (.own h')) h' (.ins T.C_Net dx' []) = H2 at s2 hh2
    have s12 := Same.trans s1 s2
    have isS : ∀ k ∈ ks, (valV nx (.inl k)).isSome = true := fun k hk => by obtain ⟨x, _, e⟩ := gn.2 k hk; rw [e]; rfl
    have js : ∀ j, j ∈ ys.filter (fun y => decide (bef bs y ≠ .non)) ↔ j ∈ ks ∧ bef bs j ≠ .non := fun j => by
      rw [List.mem_filter, perm.mem_iff, decide_eq_true_eq]
    refine ⟨h', dx', dn, p, dl, n, nx, (ys.filter fun y => decide (bef bs y ≠ .non)).map fun y => (.inl y, bef bs y), ls, ks, ys.filter fun y => decide (bef bs y ≠ .non), rfl, hh2, s12 _ _ hN.hn, s2 _ _ ep, s12 _ _ hN.hl, gn.1, h64, nd, ?_, ?_, hl, fun k hk => ?_, fun j hj => ?_, fun v hv => ?_, fun H' dn' db' dl' bf' N' f' m1 m2 m3 ndb vF lbf => ⟨rfl, ?_⟩⟩
    · rw [List.map_map]
      rfl
    · exact Nat.lt_of_le_of_lt (List.length_filter_le _ _) (by rw [perm.length_eq]; exact h64)
    · obtain ⟨x, mx, e⟩ := gn.2 k hk
      exact ⟨(rng k hk).1, (rng k hk).2, x, e, isS x mx⟩
    · obtain ⟨hk, hb⟩ := (js j).mp hj
      obtain ⟨z, mz, ez⟩ := gb.some hb
      exact ⟨isS j hk, z, by rw [valV_map_mem hj, ez], isS z mz⟩
    · obtain ⟨a, L, rfl, ea, hL⟩ := hlt v hv
      exact ⟨a, L.wd, L.ns, rfl, by rw [← L.vals_eq]; exact s12 _ _ ea, fun k hk => isS k (hL k hk)⟩
    · refine q H' h' dn' db' dl' bf' N' (fun a o e => f' a o (ne_of_none (s1 _ _ e) nh) (s12 _ _ e)) (none_back s1 nh) (none_back s12 m1) (none_back s12 m2) (none_back s12 m3) ndb (fun k hk => ?_) ?_
      · rw [vF k hk]
        by_cases e : bef bs k = .non
        · rw [bef, valV_none_of (fun z => ((js k).mp z).2 e), e]
          rfl
        · rw [bef, valV_map_mem ((js k).mpr ⟨hk, e⟩)]
          rfl
      · have := List.length_filter_le (fun y => decide (bef bs y ≠ .non)) ys
        have := perm.length_eq
        omega
theorem shaped_is (ns : List Int) : SeqAt.shaped (.list (ns.map PyData.int)) = true := PySem.W.ke_shaped_ints ns
theorem dpAll_ints {H : Hp} : ∀ ns : List Int, DpAll K H (ns.map V.int) (ns.map PyData.int)
  | [] => .nil
  | n :: ns => .cons (.int n) (dpAll_ints ns)
def sp_each_held_once (C : Addr) : Sp := fun vs H Q _ => ∃ (h dn db dl : Addr) (n : Int) (nx bf : List (Key × V)) (ls : List V) (ks : List Int), vs = [.ref h] ∧ NetAt C H h n dn db dl nx bf ls ∧ ks.length < 64 ∧ ks.Nodup ∧ GN ks nx ∧
  ∀ (zs ys : List Int) H', zs.Perm (ks.map (iN nx)) → zs.Pairwise (· ≤ ·) → ys.Perm ks → ys.Pairwise (· ≤ ·) → Same H H' → Q (.bl (PyData.eqv (.list (zs.map PyData.int)) (.list (ys.map PyData.int)))) H'
theorem gV_iN {ks : List Int} {nx : List (Key × V)} (gn : GN ks nx) {k : Int} (hk : k ∈ ks) : gV nx k = .int (iN nx k) := by
  obtain ⟨x, _, e⟩ := gn.2 k hk
  rw [gV_of e, iN_of e]
theorem T0.ok_each_held_once (T : T0 K mg) : FnOk P w K mg base CX0 3 T.a_each_held_once T.fd_each_held_once ["net"] (sp_each_held_once T.C_Net) := by
  refine T.F_each_held_once.ok sc_each_held_once (fun vs H Q E h => ?_) (fun cdv A outer s H vs Q E hr h => ?_)
  · obtain ⟨h, dn, db, dl, n, nx, bf, ls, ks, rfl, _⟩ := h
    rfl
  · obtain ⟨h, dn, db, dl, n, nx, bf, ls, ks, rfl, hN, h64, nd, gn, q⟩ := h
    obtain ⟨dx, hh⟩ := hN.me
    refine ⟨_, (pss_one (ps_ret (pe_cmpR (op_eqD hr.units) (pe_sortedVals rfl (by rfl) T.m_sorted (pe_meth0 (pv 0) T.cl_Net T.me_Net__nexts T.ok_Net__nexts hr T.b_Net__nexts .nil pass0)) (pe_meth0 (pv 0) T.cl_Net T.me_Net__houses T.ok_Net__houses (hr.mono (by decide)) T.b_Net__houses .nil pass0) (nomark _)))), ?_⟩
    refine ⟨_, rfl, h, dx, _, rfl, hh, (by unfold nf; walk_at "lk"), h, dn, db, dl, n, nx, bf, ls, ks, gV nx, rfl, hN, gn.1, h64, nd, fun k hk => ?_, fun ys p H1 perm pw s1 np ep => ?_⟩
    · obtain ⟨x, _, e⟩ := gn.2 k hk
      rw [gV_of e, e]
    have ylen := perm.length_eq
    refine ⟨p, _, ys.map (iN nx), rfl, ep, ?_, by rw [List.length_map]; omega, fun zs l permz pwz nl => ?_⟩
    · rw [List.map_map, List.map_map]
      exact List.map_congr_left fun y hy => gV_iN gn (perm.mem_iff.mp hy)
    have s2 := Same.trans s1 (same_upd (o := .lst (zs.map V.int)) nl)
    have hl : upd H1 l (.lst (zs.map V.int)) l = some (.lst (zs.map V.int)) := upd_same
    generalize upd H1 l (.lst (zs.map V.int)) = H2 at s2 hl
    have N2 := hN.same s2
    obtain ⟨dx2, hh2⟩ := N2.me
    refine ⟨_, rfl, h, dx2, _, rfl, hh2, (by unfold nf; walk_at "lk"), h, dn, db, dl, n, nx, bf, ls, ks, rfl, N2, gn.1, h64, fun ys2 l2 perm2 pw2 nl2 => ?_⟩
    have s3 := same_upd (o := .lst (ys2.map V.int)) nl2
    refine ⟨_, _, .lst (SqL.of (s3 _ _ hl)) (dpAll_ints zs), .lst (SqL.of upd_same) (dpAll_ints ys2), shaped_is _, shaped_is _, ?_⟩
    exact q zs ys2 _ (permz.trans (perm.map _)) pwz perm2 pw2 (Same.trans s2 s3)
theorem erase_last {α : Type} (xs : List α) (a : α) : (xs ++ [a]).eraseIdx xs.length = xs := by
  induction xs with
  | nil => rfl
  | cons x r ih =>
    show x :: (r ++ [a]).eraseIdx r.length = x :: r
    rw [ih]
theorem nN_tell {n r r' x u : Int} {b : V} {nx : List (Key × V)} : nN n r x b (.tell r' u) nx = nx := if_neg (fun z => z.2.2 rfl)
theorem nN_ask {n r r' x u : Int} {b : V} {nx : List (Key × V)} : nN n r x b (.ask r' u) nx = nx := if_neg (fun z => z.2.2 rfl)
theorem nB_ask {n r r' u : Int} {b : V} {bs : List (Key × V)} : nB n r b (.ask r' u) bs = bs := if_neg (fun z => z.2 rfl)
theorem nB_ans {n r r' u m : Int} {b : V} {bs : List (Key × V)} : nB n r b (.answer r' u m) bs = bs := if_neg (fun z => z.2 rfl)
theorem nT_ans {n r x r' u m : Int} {b : V} : ∃ z : Str, atI (nT n r x b (.answer r' u m)) (0 : Int) = some (.str z) ∧ decide (V.str z = V.str "next") = !decide (hN n r x (.answer r' u m) = x) := by
  unfold nT
  rw [if_neg (fun z => z rfl), if_neg (fun z => z rfl)]
  by_cases e : hN n r x (.answer r' u m) = x
  · rw [if_neg (fun z => z e), decide_eq_true e]
    exact ⟨"kept", rfl, by decide +kernel⟩
  · rw [if_pos e, decide_eq_false e]
    exact ⟨"next", rfl, by decide +kernel⟩
/-- what a whole round of telling needs -/
structure CR (n : Int) (ks ys : List Int) (nx bs : List (Key × V)) : Prop where
  n0 : 0 < n
  l64 : ks.length < 64
  nd : ks.Nodup
  perm : ys.Perm ks
  pw : ys.Pairwise (· ≤ ·)
  gn : GN ks nx
  gb : GB ks bs
  kb : KB bs
section
variable {n : Int} {ks ys : List Int} {nx bs : List (Key × V)}
theorem CR.bsF (c : CR n ks ys nx bs) (i : Nat) : GB ks (tells n nx bs (ys.take i)) ∧ KB (tells n nx bs (ys.take i)) := tells_all c.gn (fun _ hy => c.perm.mem_iff.mp (List.mem_of_mem_take hy)) c.gb c.kb
theorem CR.has (c : CR n ks ys nx bs) {y : Int} (hy : y ∈ ks) : ∃ z ∈ ks, bef (tells n nx bs ys) (iN nx y) = .int z := by
  have g := c.bsF ys.length
  rw [List.take_length] at g
  exact g.1.some (tells_has (c.perm.mem_iff.mpr hy))
/-- the nexts while the houses ask -/
theorem CR.step (c : CR n ks ys nx bs) : ∀ i, i ≤ ys.length → GN ks (asks n (tells n nx bs ys) nx (ys.take i)).1 ∧ ∀ k ∈ ks, k ∉ ys.take i → valV (asks n (tells n nx bs ys) nx (ys.take i)).1 (.inl k) = valV nx (.inl k)
  | 0, _ => ⟨by rw [List.take_zero]; exact c.gn, fun k _ _ => by rw [List.take_zero]; rfl⟩
  | i + 1, hi => by
    obtain ⟨g, u⟩ := c.step i (by omega)
    have hyi : ys[i]? = some ys[i] := List.getElem?_eq_getElem (by omega)
    have hy : ys[i] ∈ ks := c.perm.mem_iff.mp (List.getElem_mem _)
    have ynd : ys.Nodup := c.perm.nodup_iff.mpr c.nd
    rw [asks_succ hyi]
    obtain ⟨x, mx, ex⟩ := g.2 _ hy
    have ex0 := ex
    rw [u _ hy (not_in_take ynd hyi)] at ex0
    obtain ⟨z, mz, ez⟩ := c.has hy
    rw [iN_of ex0] at ez
    refine ⟨?_, fun k hk nk => ?_⟩
    · show GN ks (nN n ys[i] (iN (asks n (tells n nx bs ys) nx (ys.take i)).1 ys[i]) _ (askL (tells n nx bs ys) (asks n (tells n nx bs ys) nx (ys.take i)).1 ys[i]) _)
      rw [askL, iN_of ex, ez]
      refine g.nN (fun k hk => ?_) hy ex
      have hk : k ∈ [ys[i], x, z] := hk
      simp only [List.mem_cons, List.not_mem_nil, or_false] at hk
      rcases hk with rfl | rfl | rfl
      · exact hy
      · exact mx
      · exact mz
    · rw [List.take_add_one, hyi, Option.toList_some] at nk
      have n1 : k ∉ ys.take i := fun h => nk (List.mem_append_left _ h)
      have n2 : k ≠ ys[i] := fun h => nk (List.mem_append_right _ (List.mem_singleton.mpr h))
      show valV (nN n ys[i] (iN (asks n (tells n nx bs ys) nx (ys.take i)).1 ys[i]) _ (askL (tells n nx bs ys) (asks n (tells n nx bs ys) nx (ys.take i)).1 ys[i]) _) (.inl k) = _
      rw [iN_of ex, nN_val ex, if_neg n2]
      exact u k hk n1
/-- one house asks -/
theorem CR.at (c : CR n ks ys nx bs) {i : Nat} (hi : i < ys.length) : ∃ x z : Int, ys[i] ∈ ks ∧ x ∈ ks ∧ z ∈ ks ∧ valV (asks n (tells n nx bs ys) nx (ys.take i)).1 (.inl ys[i]) = some (.int x) ∧ bef (tells n nx bs ys) x = .int z ∧
    asks n (tells n nx bs ys) nx (ys.take (i + 1)) = (nN n ys[i] x (bef (tells n nx bs ys) ys[i]) (.answer ys[i] x z) (asks n (tells n nx bs ys) nx (ys.take i)).1, if hN n ys[i] x (.answer ys[i] x z) = x then (asks n (tells n nx bs ys) nx (ys.take i)).2 else (asks n (tells n nx bs ys) nx (ys.take i)).2 + 1) := by
  obtain ⟨g, u⟩ := c.step i (by omega)
  have hyi : ys[i]? = some ys[i] := List.getElem?_eq_getElem hi
  have hy : ys[i] ∈ ks := c.perm.mem_iff.mp (List.getElem_mem _)
  have ynd : ys.Nodup := c.perm.nodup_iff.mpr c.nd
  obtain ⟨x, mx, ex⟩ := g.2 _ hy
  have ex0 := ex
  rw [u _ hy (not_in_take ynd hyi)] at ex0
  obtain ⟨z, mz, ez⟩ := c.has hy
  rw [iN_of ex0] at ez
  refine ⟨x, z, hy, mx, mz, ex, ez, ?_⟩
  rw [asks_succ hyi]
  unfold askS askL
  rw [iN_of ex, ez]
  rfl
end
--CUT
/-! ### the law's own defs -/
def BI (x : Int) (ys : List Int) (j : Nat) (y : Int) : Prop := x ≤ y ∧ y ≤ x + j ∧ ((∀ e ∈ ys.take j, e < y) ∨ ∃ e ∈ ys.take j, y < e ∧ ∀ f ∈ ys.take j, f ≠ y)
theorem BI.zero {x : Int} {ys : List Int} : BI x ys 0 x := ⟨Int.le_refl _, by omega, .inl fun e h => by rw [List.take_zero] at h; cases h⟩
theorem mem_take_le {ys : List Int} (pw : ys.Pairwise (· ≤ ·)) {j : Nat} {z e : Int} (hz : ys[j]? = some z) (he : e ∈ ys.take j) : e ≤ z := by
  obtain ⟨i, hi⟩ := List.mem_iff_getElem?.mp he
  rw [List.getElem?_take] at hi
  split at hi
  · rename_i lt
    obtain ⟨h1, rfl⟩ := List.getElem?_eq_some_iff.mp hi
    obtain ⟨h2, rfl⟩ := List.getElem?_eq_some_iff.mp hz
    exact List.pairwise_iff_getElem.mp pw i j h1 h2 lt
  · cases hi
theorem BI.step {x : Int} {ys : List Int} {j : Nat} {y z : Int} (pw : ys.Pairwise (· ≤ ·)) (hz : ys[j]? = some z) (h : BI x ys j y) : BI x ys (j + 1) (if z ≤ y then y + 1 else y) := by
  obtain ⟨a, b, c⟩ := h
  have mt : ∀ f, f ∈ ys.take (j + 1) ↔ f ∈ ys.take j ∨ f = z := fun f => by rw [List.take_add_one, hz, Option.toList_some, List.mem_append, List.mem_singleton]
  by_cases e : z ≤ y
  · rw [if_pos e]
    refine ⟨by omega, by omega, ?_⟩
    rcases c with c | ⟨f, hf, hy, _⟩
    · refine .inl fun g hg => ?_
      rcases (mt g).mp hg with hg | rfl
      · have := c g hg
        omega
      · omega
    · have := mem_take_le pw hz hf
      omega
  · rw [if_neg e]
    refine ⟨a, by omega, .inr ?_⟩
    rcases c with c | ⟨f, hf, hy, hn⟩
    · refine ⟨z, (mt z).mpr (.inr rfl), by omega, fun g hg => ?_⟩
      rcases (mt g).mp hg with hg | rfl
      · have := c g hg
        omega
      · omega
    · refine ⟨f, (mt f).mpr (.inl hf), hy, fun g hg => ?_⟩
      rcases (mt g).mp hg with hg | rfl
      · exact hn g hg
      · omega
theorem BI.done {x : Int} {ys : List Int} {y : Int} (h : BI x ys ys.length y) : y ∉ ys := by
  obtain ⟨_, _, c⟩ := h
  rw [List.take_length] at c
  intro m
  rcases c with c | ⟨f, hf, hy, hn⟩
  · have := c y m
    omega
  · exact hn y m rfl
theorem Kp.free {t c l : Addr} {H H' : Hp} (k : Kp t H H') (T : Tape H' t c) (nl : H' l = none) : H l = none := by
  cases e : H l with
  | none => rfl
  | some o =>
    by_cases z : l = t
    · obtain ⟨_, _, _, _, _, e1, _⟩ := T
      rw [z, e1] at nl
      cases nl
    · rw [k _ _ z e] at nl
      cases nl
def sp__law_places (K : PySem.W.Frag) : Sp := fun vs H Q _ => ∃ (t c : Addr) (n m : Int), vs = [.ref t, .int n, .int m] ∧ Tape H t c ∧ 0 ≤ m ∧ m ≤ n ∧ m ≤ 60 ∧ n ≤ 1000000000 ∧ ∀ p (ms : List Int) H', H p = none → H' p = some (.lst (ms.map V.int)) → (ms.length : Int) = m → ms.Nodup → (∀ k ∈ ms, 0 ≤ k ∧ k < n) → Kp t H H' → Tape H' t c → Q (.ref p) H'
theorem T0.ok__law_places (T : T0 K mg) : FnOk P w K mg base CX0 2 T.a__law_places T.fd__law_places ["tape", "size", "count"] (sp__law_places K) := by
  refine T.F__law_places.ok sc__law_places (fun vs H Q E h => ?_) (fun cdv A outer s H vs Q E hr h => ?_)
  · obtain ⟨t, c, n, m, rfl, _⟩ := h
    rfl
  · obtain ⟨t, c, n, m, rfl, hT, hm0, hmn, hm6, hn9, q⟩ := h
    refine ⟨_, (pss_cons (ps_set (i := 3) sc__law_places.nd rfl (Or.inl rfl) (pe_lst pa_nil))
        (pss_cons (ps_for PassesOwn.never rfl (pi_range1 (by rfl) T.m_range (pa_cons (pv 2) pa_nil)) (pg_name (i := 4) sc__law_places.nd rfl (Or.inl rfl)) (pss_cons (ps_set (i := 5) sc__law_places.nd rfl (Or.inl rfl) (pe_call T.ok__law_pick hr (by rfl) T.g__law_pick T.k__law_pick T.b__law_pick .nil pass0 (pa_cons (pv 0) (pa_cons (pe_op op_sub (pv 1) (pv 4)) pa_nil))))
        (pss_cons (ps_for PassesOwn.never rfl (pi_list (pe_callB (cr_sortedK (K := K)) (by rfl) T.m_sorted (by decide +kernel) (pa_cons (pv 3) pa_nil))) (pg_name (i := 6) sc__law_places.nd rfl (Or.inl rfl)) (pss_one (ps_if (pt_cmpR op_le (pv 6) (pv 5) (nomark _)) (pss_one (ps_set (i := 5) sc__law_places.nd rfl (Or.inl rfl) (pe_op op_add (pv 5) pe_int))) pss_nil)))
        (pss_one (ps_expr (pe_bm PySem.F.plainAttrs_list PySem.F.slot_list_append PySem.F.type_list_append mt_append (pv 3) (pa_cons (pv 5) pa_nil)))))))
        (pss_one (ps_ret (pv 3))))), ?_⟩
    refine ⟨Nat.zero_le _, fun p np => ?_⟩
    have off := hT.off np
    refine ⟨_, rfl, m, rfl, by omega, by omega, ?_⟩
    refine for_range (lo := 0) (n := m.toNat) (fun i σ' H' => ∃ (o1 o2 o3 : Option V) (ms : List Int), σ' = [some (.ref t), some (.int n), some (.int m), some (.ref p), o1, o2, o3] ∧ ms.length = i ∧ ms.Nodup ∧ (∀ k ∈ ms, 0 ≤ k ∧ k < n) ∧ H' p = some (.lst (ms.map V.int)) ∧ Kp t H H' ∧ Tape H' t c)
      ⟨none, none, none, [], rfl, rfl, List.nodup_nil, fun _ h => (nomatch h), upd_same, Kp.of_same (same_upd np), hT.put off⟩ (fun i σ' H' hi pv => ?_) (fun σ' H' pv => ?_)
    · obtain ⟨o1, o2, o3, ms, rfl, hl, hnd, hrg, hp, kp, hT1⟩ := pv
      rw [Int.zero_add]
      refine ⟨_, rfl, _, rfl, _, rfl, _, _, rfl, rfl, ?_⟩
      refine ⟨t, c, n - i, rfl, hT1, by omega, by omega, fun x H2 x0 x1 kp2 hT2 => ?_⟩
      have hp2 := kp2 _ _ off.1 hp
      refine ⟨_, rfl, p, ms, rfl, SqL.of hp2, by omega, fun ss l perm pw nl => ?_⟩
      have hp3 : upd H2 l (.lst (ss.map V.int)) p = some (.lst (ms.map V.int)) := by rw [upd_ne (ne_of_none hp2 nl)]; exact hp2
      have kp3 : Kp t H (upd H2 l (.lst (ss.map V.int))) := (kp.trans kp2).new nl
      have hT3 : Tape (upd H2 l (.lst (ss.map V.int))) t c := hT2.put (hT2.off nl)
      have hl3 : upd H2 l (.lst (ss.map V.int)) l = some (.lst (ss.map V.int)) := upd_same
      generalize upd H2 l (.lst (ss.map V.int)) = H3 at hp3 kp3 hT3 hl3
      refine ⟨l, rfl, ⟨_, SqL.of hl3⟩, for_list (K := K) (a := l) (xs := ss.map V.int) (fun j σ2 H4 => ∃ (o3 : Option V) (y : Int), σ2 = [some (.ref t), some (.int n), some (.int m), some (.ref p), some (.int i), some (.int y), o3] ∧ H3 = H4 ∧ BI x ss j y) ⟨_, x, rfl, rfl, BI.zero⟩ (fun j σ2 H4 _ pv => by obtain ⟨_, _, _, rfl, _⟩ := pv; exact SqL.of hl3) (fun j v σ2 H4 hv pv => ?_) (fun σ2 H4 pv => ?_)⟩
      · obtain ⟨o3, y, rfl, rfl, bi⟩ := pv
        rw [List.getElem?_map] at hv
        obtain ⟨z, hz, rfl⟩ := Option.map_eq_some_iff.mp hv
        have st := bi.step pw hz
        refine ⟨_, rfl, _, rfl, _, _, rfl, rfl, _, rfl, ite2 (fun e => ?_) (fun e => ?_)⟩
        · rw [if_pos (of_decide_eq_true e)] at st
          exact ⟨_, rfl, _, _, rfl, rfl, _, _, rfl, rfl, st⟩
        · rw [if_neg (fun g => e (decide_eq_true g))] at st
          exact ⟨_, _, rfl, rfl, st⟩
      · obtain ⟨o3, y, rfl, rfl, bi⟩ := pv
        have sl := perm.length_eq
        rw [List.length_map] at bi
        have ny : y ∉ ms := fun g => bi.done (perm.mem_iff.mpr g)
        have yb := bi.2.1
        have ya := bi.1
        refine ⟨_, rfl, .inl ⟨rfl, _, SqL.of hp3⟩, _, rfl, p, _, _, rfl, rfl, hp3, small1000' (by rw [List.length_map]; omega), _, _, _, ms ++ [y], rfl, by rw [List.length_append, hl]; rfl, ?_, fun k hk => ?_, ?_, ?_, hT3.put off⟩
        · exact List.nodup_append.mpr ⟨hnd, List.pairwise_singleton _ _, fun a ha b hb z => by rw [List.mem_singleton.mp hb] at z; rw [z] at ha; exact ny ha⟩
        · rcases List.mem_append.mp hk with hk | hk
          · exact hrg k hk
          · rw [List.mem_singleton.mp hk]
            omega
        · rw [upd_same, List.map_append]
          rfl
        · intro b o nb e
          have nbp : b ≠ p := ne_of_none e np
          rw [upd_ne nbp]
          exact kp3 b o nb e
    · obtain ⟨o1, o2, o3, ms, rfl, hl, hnd, hrg, hp, kp, hT1⟩ := pv
      exact ⟨_, rfl, q p ms _ np hp (by omega) hnd hrg kp hT1⟩
def sp__law_nexts (K : PySem.W.Frag) : Sp := fun vs H Q _ => ∃ (t c pl : Addr) (ms : List Int), vs = [.ref t, .ref pl] ∧ Tape H t c ∧ pl ≠ t ∧ H pl = some (.lst (ms.map V.int)) ∧ ms.Nodup ∧ ms.length ≤ 1000 ∧
  ∀ p (nx : List (Key × V)) H', H p = none → H' p = some (.dK nx) → nx.map (·.1) = ms.map Sum.inl → (∀ k ∈ ms, ∃ x ∈ ms, valV nx (.inl k) = some (.int x)) → Kp t H H' → Tape H' t c → Q (.ref p) H'
theorem T0.ok__law_nexts (T : T0 K mg) : FnOk P w K mg base CX0 2 T.a__law_nexts T.fd__law_nexts ["tape", "places"] (sp__law_nexts K) := by
  refine T.F__law_nexts.ok sc__law_nexts (fun vs H Q E h => ?_) (fun cdv A outer s H vs Q E hr h => ?_)
  · obtain ⟨t, c, pl, ms, rfl, _⟩ := h
    rfl
  · obtain ⟨t, c, pl, ms, rfl, hT, n1, hp, hnd, l1, q⟩ := h
    refine ⟨_, (pss_cons (ps_set (i := 2) sc__law_nexts.nd rfl (Or.inl rfl) pe_dnewK)
        (pss_cons (ps_set (i := 3) sc__law_nexts.nd rfl (Or.inl rfl) (pe_callB (call_lenK (K := K)) (by rfl) T.m_len PySem.boot_len (pa_cons (pv 1) pa_nil)))
        (pss_cons (ps_set (i := 4) sc__law_nexts.nd rfl (Or.inl rfl) pe_int)
        (pss_cons (ps_set (i := 5) sc__law_nexts.nd rfl (Or.inl rfl) pe_int)
        (pss_cons (ps_set (i := 6) sc__law_nexts.nd rfl (Or.inl rfl) pe_int)
        (pss_cons (ps_for PassesOwn.never rfl (pi_range1 (by rfl) T.m_range (pa_cons (pv 3) pa_nil)) (pg_name (i := 7) sc__law_nexts.nd rfl (Or.inl rfl)) (C8.pss_cut (ps_if (pt_cmpR op_eq (pv 7) (pv 5) (nomark _)) (pss_cons (ps_set (i := 4) sc__law_nexts.nd rfl (Or.inl rfl) (pv 7))
        (pss_cons (ps_set (i := 5) sc__law_nexts.nd rfl (Or.inl rfl) (pv 3))
        (C8.pss_cut (ps_if (pt_cmpR op_eq (pe_call T.ok__law_pick hr (by rfl) T.g__law_pick T.k__law_pick T.b__law_pick .nil pass0 (pa_cons (pv 0) (pa_cons pe_int pa_nil))) pe_int (nomark _)) (pss_one (ps_set (i := 5) sc__law_nexts.nd rfl (Or.inl rfl) (pe_op op_add (pe_op op_add (pv 7) pe_int) (pe_call T.ok__law_pick hr (by rfl) T.g__law_pick T.k__law_pick T.b__law_pick .nil pass0 (pa_cons (pv 0) (pa_cons (pe_op op_sub (pv 3) (pv 7)) pa_nil)))))) pss_nil)
        (pss_one (ps_set (i := 6) sc__law_nexts.nd rfl (Or.inl rfl) (pe_op op_add pe_int (pe_call T.ok__law_pick hr (by rfl) T.g__law_pick T.k__law_pick T.b__law_pick .nil pass0 (pa_cons (pv 0) (pa_cons (pe_op op_sub (pv 5) (pv 4)) pa_nil))))))))) pss_nil)
        (pss_one (ps_if (pt_cmpR op_lt (pe_op op_sub (pv 7) (pv 4)) (pe_op op_sub (pv 6) pe_int) (nomark _)) (pss_one (ps_asg (pe_ix (ix_listK (K := K)) (pv 1) (pe_op op_add (pv 7) pe_int) (fun _ _ => rfl)) (pg_sub (pv 2) (pe_ix (ix_listK (K := K)) (pv 1) (pv 7) (fun _ _ => rfl)) (set_dict (un1 hr))))) (pss_one (ps_if (pt_cmpR op_eq (pe_op op_sub (pv 7) (pv 4)) (pe_op op_sub (pv 6) pe_int) (nomark _)) (pss_one (ps_asg (pe_ix (ix_listK (K := K)) (pv 1) (pv 4) (fun _ _ => rfl)) (pg_sub (pv 2) (pe_ix (ix_listK (K := K)) (pv 1) (pv 7) (fun _ _ => rfl)) (set_dict (un1 hr))))) (pss_one (ps_asg (pe_ix (ix_listK (K := K)) (pv 1) (pe_op op_add (pv 4) (pe_call T.ok__law_pick hr (by rfl) T.g__law_pick T.k__law_pick T.b__law_pick .nil pass0 (pa_cons (pv 0) (pa_cons (pe_op op_sub (pv 7) (pv 4)) pa_nil)))) (fun _ _ => rfl)) (pg_sub (pv 2) (pe_ix (ix_listK (K := K)) (pv 1) (pv 7) (fun _ _ => rfl)) (set_dict (un1 hr)))))))))))
        (pss_one (ps_ret (pv 2))))))))), fun D nD => ?_⟩
    have oD := hT.off nD
    have hp1 := (upd_ne (o := .dK []) (ne_of_none hp nD)).trans hp
    refine ⟨_, rfl, pl, _, rfl, .inl (SqL.of hp1), ?_⟩
    rw [List.length_map]
    refine ⟨_, rfl, (ms.length : Int), rfl, by omega, by omega, ?_⟩
    rw [Int.toNat_natCast]
    refine for_range (lo := 0) (n := ms.length) (fun i σ' H' => ∃ (f l r : Int) (o7 : Option V) (nx : List (Key × V)), σ' = [some (.ref t), some (.ref pl), some (.ref D), some (.int ms.length), some (.int f), some (.int l), some (.int r), o7] ∧ 0 ≤ f ∧ f ≤ i ∧ i ≤ l ∧ l ≤ ms.length ∧ (i < l → 1 ≤ r ∧ r ≤ l - f) ∧ H' D = some (.dK nx) ∧ nx.map (·.1) = (ms.take i).map Sum.inl ∧ (∀ k ∈ ms.take i, ∃ x ∈ ms, valV nx (.inl k) = some (.int x)) ∧ Kp t H H' ∧ Tape H' t c)
      ⟨0, 0, 0, none, [], rfl, by omega, by omega, by omega, by omega, fun h => by omega, upd_same, by rw [List.take_zero]; rfl, fun k h => (by rw [List.take_zero] at h; cases h), Kp.of_same (same_upd nD), hT.put oD⟩ (fun i σ' H' hi pv => ?_) (fun σ' H' pv => ?_)
    · obtain ⟨f, l, r, o7, nx, rfl, f0, fi, il, lN, hr', hD, hk, hx, k1, T1⟩ := pv
      rw [Int.zero_add]
      refine ⟨fun σ' H' => ∃ f l r : Int, σ' = [some (.ref t), some (.ref pl), some (.ref D), some (.int ms.length), some (.int f), some (.int l), some (.int r), some (.int i)] ∧ 0 ≤ f ∧ f ≤ i ∧ i < l ∧ l ≤ ms.length ∧ 1 ≤ r ∧ r ≤ l - f ∧ H' D = some (.dK nx) ∧ Kp t H H' ∧ Tape H' t c, ?_, ?_⟩
      · refine ⟨_, rfl, _, rfl, rfl, _, rfl, ite2 (fun e => ?_) (fun e => ?_)⟩
        · refine ⟨_, rfl, _, rfl, ?_⟩
          refine ⟨fun σ' H' => ∃ l : Int, σ' = [some (.ref t), some (.ref pl), some (.ref D), some (.int ms.length), some (.int i), some (.int l), some (.int r), some (.int i)] ∧ i < l ∧ l ≤ ms.length ∧ H' D = some (.dK nx) ∧ Kp t H H' ∧ Tape H' t c, ?_, ?_⟩
          · refine ⟨_, rfl, t, c, 4, rfl, T1, by decide, by decide, fun d H2 d0 d1 k2 T2 => ⟨rfl, _, rfl, ite2 (fun _ => ?_) (fun _ => ?_)⟩⟩
            · refine ⟨_, rfl, _, _, rfl, rfl, _, rfl, _, rfl, _, rfl, _, _, rfl, rfl, t, c, ms.length - i, rfl, T2, by omega, by omega, fun d H3 d0 d1 k3 T3 => ⟨_, _, rfl, rfl, _, rfl, by omega, by omega, k3 _ _ oD.1 (k2 _ _ oD.1 hD), (k1.trans k2).trans k3, T3⟩⟩
            · exact ⟨_, rfl, by omega, by omega, k2 _ _ oD.1 hD, k1.trans k2, T2⟩
          rintro _ H3 ⟨l', rfl, il', lN', hD3, k3, T3⟩
          refine ⟨_, rfl, _, rfl, _, rfl, _, _, rfl, rfl, t, c, l' - i, rfl, T3, by omega, by omega, fun d H4 d0 d1 k4 T4 => ⟨_, _, rfl, rfl, i, l', 1 + d, rfl, by omega, by omega, il', lN', by omega, by omega, k4 _ _ oD.1 hD3, k3.trans k4, T4⟩⟩
        · have ne : ¬ (i : Int) = l := fun z => e (decide_eq_true (congrArg V.int z))
          exact ⟨f, l, r, rfl, f0, fi, by omega, lN, (hr' (by omega)).1, (hr' (by omega)).2, hD, k1, T1⟩
      rintro _ H2 ⟨f, l, r, rfl, f0, fi, il, lN, r1, r2, hD2, k2, T2⟩
      have hp2 := k2 _ _ n1 hp
      have gi : ms[i]? = some ms[i] := List.getElem?_eq_getElem hi
      have lx : nx.length = (ms.take i).length := by have := congrArg List.length hk; rw [List.length_map, List.length_map] at this; exact this
      have sx : nx.length < sizeLine := small1000' (by rw [lx, List.length_take]; omega)
      have fin : ∀ (H3 : Hp) (x : Int), x ∈ ms → Kp t H H3 → Tape H3 t c → ∃ (f' l' r' : Int) (o7 : Option V) (nx' : List (Key × V)), [some (V.ref t), some (.ref pl), some (.ref D), some (.int ms.length), some (.int f), some (.int l), some (.int r), some (.int i)] = [some (.ref t), some (.ref pl), some (.ref D), some (.int ms.length), some (.int f'), some (.int l'), some (.int r'), o7] ∧ 0 ≤ f' ∧ f' ≤ ((i + 1 : Nat) : Int) ∧ ((i + 1 : Nat) : Int) ≤ l' ∧ l' ≤ ms.length ∧ (((i + 1 : Nat) : Int) < l' → 1 ≤ r' ∧ r' ≤ l' - f') ∧ upd H3 D (.dK (putK nx (.inl ms[i]) (.int x))) D = some (.dK nx') ∧ nx'.map (·.1) = (ms.take (i + 1)).map Sum.inl ∧ (∀ k ∈ ms.take (i + 1), ∃ x ∈ ms, valV nx' (.inl k) = some (.int x)) ∧ Kp t H (upd H3 D (.dK (putK nx (.inl ms[i]) (.int x)))) ∧ Tape (upd H3 D (.dK (putK nx (.inl ms[i]) (.int x)))) t c := fun H3 x mx k3 T3 => by
        refine ⟨f, l, r, _, _, rfl, f0, by omega, by omega, lN, fun _ => ⟨r1, r2⟩, upd_same, ?_, fun k hk2 => ?_, fun a o na e => ?_, T3.put oD⟩
        · rw [putK_new _ (valV_none_keys hk (not_in_take hnd gi)), List.map_append, hk, List.take_add_one, gi, Option.toList_some, List.map_append]
          rfl
        · rw [valV_put]
          by_cases e : k = ms[i]
          · rw [e, if_pos rfl]
            exact ⟨x, mx, rfl⟩
          · rw [if_neg (fun z => e (Sum.inl.inj z))]
            rw [List.take_add_one, gi, Option.toList_some] at hk2
            exact hx k ((List.mem_append.mp hk2).resolve_right (fun z => e (List.mem_singleton.mp z)))
        · exact (upd_ne (ne_of_none e nD)).trans (k3 _ _ na e)
      have pick : ∀ (j : Nat) (h : j < ms.length), atI (ms.map V.int) (j : Int) = some (.int ms[j]) := fun j h => at_ints h
      refine ⟨_, rfl, _, rfl, _, _, rfl, rfl, _, rfl, _, _, rfl, rfl, _, _, rfl, rfl, _, rfl, ite2 (fun e => ?_) (fun e => ?_)⟩
      · have e := of_decide_eq_true e
        have hj : i + 1 < ms.length := by omega
        exact ⟨_, rfl, _, rfl, _, _, rfl, rfl, pl, _, _, .int ms[i + 1], rfl, rfl, SqL.of hp2, pick (i + 1) hj, _, rfl, _, rfl, _, rfl, pl, _, _, .int ms[i], rfl, rfl, SqL.of hp2, pick i hi, D, _, rfl, DPut.k (k := Sum.inl ms[i]) hD2 sx, fin H2 ms[i + 1] (List.getElem_mem _) k2 T2⟩
      · refine ⟨_, rfl, _, rfl, _, _, rfl, rfl, _, rfl, _, _, rfl, rfl, rfl, _, rfl, ite2 (fun g => ?_) (fun g => ?_)⟩
        · have hj : f.toNat < ms.length := by omega
          have ef : f = ((f.toNat : Nat) : Int) := by omega
          exact ⟨_, rfl, _, rfl, pl, _, _, .int ms[f.toNat], rfl, rfl, SqL.of hp2, (congrArg (atI (ms.map V.int)) ef).trans (pick _ hj), _, rfl, _, rfl, _, rfl, pl, _, _, .int ms[i], rfl, rfl, SqL.of hp2, pick i hi, D, _, rfl, DPut.k (k := Sum.inl ms[i]) hD2 sx, fin H2 ms[f.toNat] (List.getElem_mem _) k2 T2⟩
        · have e : ¬ (i : Int) - f < r - 1 := fun z => e (decide_eq_true z)
          have g : ¬ (i : Int) - f = r - 1 := fun z => g (decide_eq_true (congrArg V.int z))
          refine ⟨_, rfl, _, rfl, _, rfl, _, rfl, _, rfl, _, _, rfl, rfl, t, c, i - f, rfl, T2, by omega, by omega, fun d H3 d0 d1 k3 T3 => ?_⟩
          have hj : (f + d).toNat < ms.length := by omega
          have ef : f + d = (((f + d).toNat : Nat) : Int) := by omega
          have hp3 := k3 _ _ n1 hp2
          exact ⟨_, _, rfl, rfl, pl, _, _, .int ms[(f + d).toNat], rfl, rfl, SqL.of hp3, (congrArg (atI (ms.map V.int)) ef).trans (pick _ hj), _, rfl, _, rfl, _, rfl, pl, _, _, .int ms[i], rfl, rfl, SqL.of hp3, pick i hi, D, _, rfl, DPut.k (k := Sum.inl ms[i]) (k3 _ _ oD.1 hD2) sx, fin H3 ms[(f + d).toNat] (List.getElem_mem _) (k2.trans k3) T3⟩
    · obtain ⟨f, l, r, o7, nx, rfl, f0, fi, il, lN, hr', hD, hk, hx, k1, T1⟩ := pv
      rw [List.take_length] at hk hx
      exact ⟨_, rfl, q D nx _ nD hD hk hx k1 T1⟩
--CUT
theorem lc_it {J : It} {n : Nat} {G : Hp → Prop} {Y : Nat → Hp → V → Hp → Prop} (w : Walk J n G Y) {g : TG} {tt : TT} {te : TE} {vs : List Nat} {σ : L2.St} {H1 : Hp} {D : Addr} {Qd : Hp → Prop} (Pv : Nat → Hp → Prop) (h0 : Pv 0 (upd H1 D (.lst []))) (hG : ∀ i H, i ≤ n → Pv i H → G H)
    (hs : ∀ i x H H', i < n → Pv i H → Y i H x H' → g x (wipe σ vs) H' fun σ2 H2 => wipe σ2 vs = wipe σ vs ∧ tt σ2 H2 fun b H3 =>
      if b = true then te σ2 H3 fun y H4 => ∃ acc, H4 D = some (.lst acc) ∧ acc.length < sizeLine ∧ Pv (i + 1) (upd H4 D (.lst (acc ++ [y]))) else Pv (i + 1) H3) (hd : ∀ H, Pv n H → Qd H) :
    ∃ W : Nat → Nat → Hp → Prop, (∃ m, W 0 m (upd H1 D (.lst []))) ∧ ∀ i m H, W i m H →
      (J.stop i H ∧ Qd H) ∨ (J.go i H ∧ ∃ Nx : Hp → Prop, (∀ H', Nx H' → ∃ m', m' < m ∧ W (i + 1) m' H') ∧ ∀ x H', J.yld i H x H' → g x (wipe σ vs) H' fun σ2 H2 => wipe σ2 vs = wipe σ vs ∧ tt σ2 H2 fun b H3 =>
        if b = true then te σ2 H3 fun y H4 => ∃ acc, H4 D = some (.lst acc) ∧ acc.length < sizeLine ∧ Nx (upd H4 D (.lst (acc ++ [y]))) else Nx H3) := by
  refine ⟨fun i m H => i + m = n ∧ Pv i H, ⟨n, Nat.zero_add n, h0⟩, fun i m H hp => ?_⟩
  have q := hG i H (hp.1 ▸ Nat.le_add_right i m) hp.2
  cases m with
  | zero =>
    obtain ⟨rfl, p⟩ := hp
    exact .inl ⟨w.stops H q, hd H p⟩
  | succ m =>
    obtain ⟨e, p⟩ := hp
    have hi : i < n := by omega
    exact .inr ⟨w.goes i H hi q, Pv (i + 1), fun H' p' => ⟨m, Nat.lt_succ_self m, by omega, p'⟩, fun x H' y => hs i x H H' hi p (w.yields i H x H' hi q y)⟩
/-! ### one net and what stands beside it -/
structure Bd where
  (h dn db dl dN dB pO : Addr)
structure Ws where
  ks : List Int
  (nx bs bf : List (Key × V))
  (ps ls : List V)
structure NJ (CN t c : Addr) (A : Bd) (n : Int) (S : Ws) (H : Hp) : Prop where
  tape : Tape H t c
  net : NetAt CN H A.h n A.dn A.db A.dl S.nx S.bf S.ls
  hN : H A.dN = some (.dK S.nx)
  hB : H A.dB = some (.dK S.bs)
  hP : H A.pO = some (.lst S.ps)
  gn : GN S.ks S.nx
  nd : S.ks.Nodup
  rng : ∀ k ∈ S.ks, 0 ≤ k ∧ k < n
  n0 : 0 < n
  gb : GB S.ks S.bs
  kb : KB S.bs
  vf : VF S.ks S.bf S.bs
  lets : Alike (LetSame H S.ks) S.ps S.ls
  ndl : A.pO ≠ t ∧ A.pO ≠ c ∧ A.dl ≠ t ∧ A.dl ≠ c ∧ A.pO ≠ A.dl
  ndd : A.dn ≠ A.db ∧ A.dn ≠ A.dN ∧ A.dn ≠ A.dB ∧ A.db ≠ A.dN ∧ A.db ≠ A.dB ∧ A.dN ≠ A.dB
  lks : S.ks.length ≤ 41
  lps : S.ps.length ≤ 60
  lbf : S.bf.length ≤ 200
/-- nothing but the tape and what belongs to A has changed -/
def Fo (t : Addr) (A : Bd) (H H' : Hp) : Prop := ∀ a o, a ≠ t → a ≠ A.dn → a ≠ A.db → a ≠ A.dl → a ≠ A.dN → a ≠ A.dB → a ≠ A.pO → H a = some o → H' a = some o
theorem Fo.of {t : Addr} {A : Bd} {H H' : Hp} (s : Same H H') : Fo t A H H' := fun a o _ _ _ _ _ _ _ e => s a o e
theorem Fo.kp {t : Addr} {A : Bd} {H H' : Hp} (s : Kp t H H') : Fo t A H H' := fun a o n _ _ _ _ _ _ e => s a o n e
theorem Fo.trans {t : Addr} {A : Bd} {H H' H2 : Hp} (f : Fo t A H H') (g : Fo t A H' H2) : Fo t A H H2 := fun a o n1 n2 n3 n4 n5 n6 n7 e => g a o n1 n2 n3 n4 n5 n6 n7 (f a o n1 n2 n3 n4 n5 n6 n7 e)
section
variable {CN t c : Addr} {A : Bd} {n : Int} {S : Ws} {H H' : Hp}
theorem NJ.kp (I : NJ CN t c A n S H) (f : Kp t H H') (T : Tape H' t c) : NJ CN t c A n S H' := by
  obtain ⟨⟨xt, et⟩, _⟩ := tape_at I.tape
  have g : ∀ {a : Addr} {o : HO}, H a = Option.some o → (∀ xs, o ≠ .lst xs) → H' a = Option.some o := fun e no => f _ _ (fun z => by rw [z, et] at e; exact no _ (Option.some.inj e).symm) e
  exact { I with
    tape := T
    net := ⟨let ⟨d, e⟩ := I.net.me; ⟨d, g e (fun _ z => nomatch z)⟩, g I.net.hn (fun _ z => nomatch z), g I.net.hb (fun _ z => nomatch z), f _ _ I.ndl.2.2.1 I.net.hl⟩
    hN := g I.hN (fun _ z => nomatch z)
    hB := g I.hB (fun _ z => nomatch z)
    hP := f _ _ I.ndl.1 I.hP
    lets := I.lets.mono fun _ _ h => h.mono (fun _ _ e => g e (fun _ z => nomatch z)) fun _ h => h }
theorem NJ.same (I : NJ CN t c A n S H) (s : Same H H') : NJ CN t c A n S H' := I.kp (.of_same s) (I.tape.same s)
/-- other tables, other letters, all in their places -/
theorem NJ.set (I : NJ CN t c A n S H) {nx bs bf : List (Key × V)} {ps ls : List V} (f : Fo t A H H') (ft : ∀ a xs, H a = some (.lst xs) → a ≠ A.dl → a ≠ A.pO → H' a = some (.lst xs)) (net : NetAt CN H' A.h n A.dn A.db A.dl nx bf ls) (hN : H' A.dN = some (.dK nx)) (hB : H' A.dB = some (.dK bs)) (hP : H' A.pO = some (.lst ps))
    (gn : GN S.ks nx) (gb : GB S.ks bs) (kb : KB bs) (vf : VF S.ks bf bs) (lt : Alike (LetSame H' S.ks) ps ls) (lp : ps.length ≤ 60) (lb : bf.length = S.bf.length) : NJ CN t c A n { S with nx := nx, bs := bs, bf := bf, ps := ps, ls := ls } H' := by
  obtain ⟨cs, a, b, k, r, e1, e2, e3, e4⟩ := I.tape
  exact {
    tape := ⟨cs, a, b, k, r, ft _ _ e1 I.ndl.2.2.1.symm I.ndl.1.symm, ft _ _ e2 I.ndl.2.2.2.1.symm I.ndl.2.1.symm, e3, e4⟩
    net := net, hN := hN, hB := hB, hP := hP, gn := gn, nd := I.nd, rng := I.rng, n0 := I.n0, gb := gb, kb := kb, vf := vf, lets := lt, ndl := I.ndl, ndd := I.ndd, lks := I.lks, lps := lp
    lbf := by show bf.length ≤ 200; rw [lb]; exact I.lbf }
/-- a tuple stays -/
theorem NJ.tup (I : NJ CN t c A n S H) (f : Fo t A H H') {a : Addr} {xs : List V} (e : H a = some (.tup xs)) : H' a = some (.tup xs) := by
  obtain ⟨⟨xt, et⟩, _⟩ := tape_at I.tape
  exact f _ _ (ne_kind e et (fun z => nomatch z)) (ne_kind e I.net.hn (fun z => nomatch z)) (ne_kind e I.net.hb (fun z => nomatch z)) (ne_kind e I.net.hl (fun z => nomatch z)) (ne_kind e I.hN (fun z => nomatch z)) (ne_kind e I.hB (fun z => nomatch z)) (ne_kind e I.hP (fun z => nomatch z)) e
/-- two nets apart -/
def Dj (A B : Bd) : Prop := (∀ a ∈ [B.dn, B.db, B.dN, B.dB], a ≠ A.dn ∧ a ≠ A.db ∧ a ≠ A.dN ∧ a ≠ A.dB) ∧ ∀ a ∈ [B.dl, B.pO], a ≠ A.dl ∧ a ≠ A.pO
theorem NJ.other {B : Bd} {S2 : Ws} (J : NJ CN t c B n S2 H) (I : NJ CN t c A n S H) (f : Fo t A H H') (T : Tape H' t c) (d : Dj A B) : NJ CN t c B n S2 H' := by
  obtain ⟨⟨xt, et⟩, _⟩ := tape_at I.tape
  have dk : ∀ {a : Addr} {z : List (Key × V)}, a ∈ [B.dn, B.db, B.dN, B.dB] → H a = some (.dK z) → H' a = some (.dK z) := fun m e => by
    obtain ⟨n1, n2, n3, n4⟩ := d.1 _ m
    exact f _ _ (ne_kind e et (fun z => nomatch z)) n1 n2 (ne_kind e I.net.hl (fun z => nomatch z)) n3 n4 (ne_kind e I.hP (fun z => nomatch z)) e
  have dl : ∀ {a : Addr} {z : List V}, a ∈ [B.dl, B.pO] → a ≠ t → H a = some (.lst z) → H' a = some (.lst z) := fun m nt e => by
    obtain ⟨n1, n2⟩ := d.2 _ m
    exact f _ _ nt (ne_kind e I.net.hn (fun z => nomatch z)) (ne_kind e I.net.hb (fun z => nomatch z)) n1 (ne_kind e I.hN (fun z => nomatch z)) (ne_kind e I.hB (fun z => nomatch z)) n2 e
  exact { J with
    tape := T
    net := ⟨let ⟨dx, e⟩ := J.net.me; ⟨dx, f _ _ (ne_kind e et (fun z => nomatch z)) (ne_kind e I.net.hn (fun z => nomatch z)) (ne_kind e I.net.hb (fun z => nomatch z)) (ne_kind e I.net.hl (fun z => nomatch z)) (ne_kind e I.hN (fun z => nomatch z)) (ne_kind e I.hB (fun z => nomatch z)) (ne_kind e I.hP (fun z => nomatch z)) e⟩, dk (by simp) J.net.hn, dk (by simp) J.net.hb, dl (by simp) J.ndl.2.2.1 J.net.hl⟩
    hN := dk (by simp) J.hN
    hB := dk (by simp) J.hB
    hP := dl (by simp) J.ndl.1 J.hP
    lets := J.lets.mono fun _ _ h => h.mono (fun _ _ e => I.tup f e) fun _ h => h }
end
theorem insert_sorted (a : Int) : ∀ l : List Int, l.Pairwise (· ≤ ·) → ∃ l' : List Int, l'.Perm (a :: l) ∧ l'.Pairwise (· ≤ ·)
  | [], _ => ⟨[a], .refl _, List.pairwise_singleton _ _⟩
  | b :: r, h => by
    obtain ⟨h1, h2⟩ := List.pairwise_cons.mp h
    by_cases e : a ≤ b
    · refine ⟨a :: b :: r, .refl _, List.pairwise_cons.mpr ⟨fun x hx => ?_, h⟩⟩
      rcases List.mem_cons.mp hx with rfl | hx
      · exact e
      · have := h1 x hx
        omega
    · obtain ⟨l', p, s⟩ := insert_sorted a r h2
      refine ⟨b :: l', (List.Perm.cons b p).trans (List.Perm.swap a b r), List.pairwise_cons.mpr ⟨fun x hx => ?_, s⟩⟩
      rcases List.mem_cons.mp (p.mem_iff.mp hx) with rfl | hx
      · omega
      · exact h1 x hx
theorem exists_sorted : ∀ l : List Int, ∃ l' : List Int, l'.Perm l ∧ l'.Pairwise (· ≤ ·)
  | [] => ⟨[], .refl _, List.Pairwise.nil⟩
  | a :: r => by
    obtain ⟨l, p, s⟩ := exists_sorted r
    obtain ⟨l', p', s'⟩ := insert_sorted a l s
    exact ⟨l', p'.trans (List.Perm.cons a p), s'⟩
def sp__law_ordered (K : PySem.W.Frag) : Sp := fun vs H Q _ => ∃ (d : Addr) (kvs : List (Key × V)) (js : List Int), vs = [.ref d] ∧ H d = some (.dK kvs) ∧ kvs.map (·.1) = js.map Sum.inl ∧ js.Nodup ∧ js.length < 64 ∧ (∀ j ∈ js, ∃ x, valV kvs (.inl j) = some (.int x)) ∧
  ∀ p (ys : List Int) H', ys.Perm js → ys.Pairwise (· ≤ ·) → Same H H' → H p = none → H' p = some (.dK (ys.map fun y => (.inl y, gV kvs y))) → Q (.ref p) H'
theorem T0.ok__law_ordered (T : T0 K mg) : FnOk P w K mg base CX0 1 T.a__law_ordered T.fd__law_ordered ["table"] (sp__law_ordered K) := by
  refine T.F__law_ordered.ok sc__law_ordered (fun vs H Q E h => ?_) (fun cdv A outer s H vs Q E hr h => ?_)
  · obtain ⟨d, kvs, js, rfl, _⟩ := h
    rfl
  · obtain ⟨d, kvs, js, rfl, hd, hk, nd, h64, hv, q⟩ := h
    refine ⟨_, (pss_cons (ps_set (i := 1) sc__law_ordered.nd rfl (Or.inl rfl) pe_dnewK)
        (pss_cons (ps_for PassesOwn.never rfl (pi_list (pe_callB (call_sortedDI rfl) (by rfl) T.m_sorted (by decide +kernel) (pa_cons (pv 0) pa_nil))) (pg_name (i := 2) sc__law_ordered.nd rfl (Or.inl rfl)) (pss_one (ps_if (pt_cmpR op_notN (pe_dget (un1 hr) (pv 0) (pv 2) (fun _ _ => rfl)) pe_non (nomark _)) (pss_one (ps_asg (pe_dget (un1 hr) (pv 0) (pv 2) (fun _ _ => rfl)) (pg_sub (pv 1) (pv 2) (set_dict (un1 hr))))) pss_nil)))
        (pss_one (ps_ret (pv 1))))), fun D nD => ?_⟩
    have s1 := same_upd (o := .dK []) nD
    have D1 : upd H D (.dK []) D = some (.dK []) := upd_same
    generalize upd H D (.dK []) = H1 at s1 D1
    refine ⟨_, rfl, d, kvs, js, rfl, .inl (s1 _ _ hd), hk, h64, fun ys l perm pw nl => ?_⟩
    have ylen := perm.length_eq
    have ynd : ys.Nodup := perm.nodup_iff.mpr nd
    have s2 := Same.trans s1 (same_upd (o := .lst (ys.map V.int)) nl)
    have hl : upd H1 l (.lst (ys.map V.int)) l = some (.lst (ys.map V.int)) := upd_same
    have D2 := (upd_ne (o := .lst (ys.map V.int)) (ne_of_none D1 nl)).trans D1
    generalize upd H1 l (.lst (ys.map V.int)) = H2 at s2 hl D2
    refine ⟨l, rfl, ⟨_, SqL.of hl⟩, ?_⟩
    refine for_list (K := K) (a := l) (xs := ys.map V.int) (fun i σ' H' => ∃ o2 : Option V, σ' = [some (.ref d), some (.ref D), o2] ∧ Same H H' ∧ H' l = some (.lst (ys.map V.int)) ∧ H' D = some (.dK ((ys.take i).map fun y => (.inl y, gV kvs y))))
      ⟨none, rfl, s2, hl, D2⟩ (fun i σ' H' _ pv => by obtain ⟨_, _, _, h, _⟩ := pv; exact SqL.of h) (fun i v σ' H3 hv' pv => ?_) (fun σ' H3 pv => ?_)
    · obtain ⟨o2, rfl, s3, hl3, D3⟩ := pv
      rw [List.getElem?_map] at hv'
      obtain ⟨y, hyi, rfl⟩ := Option.map_eq_some_iff.mp hv'
      have hi : i < ys.length := (List.getElem?_eq_some_iff.mp hyi).1
      obtain ⟨x, ex⟩ := hv y (perm.mem_iff.mp (List.mem_of_getElem? hyi))
      have nlD : l ≠ D := ne_kind hl3 D3 (fun z => nomatch z)
      refine ⟨_, rfl, _, rfl, d, _, rfl, dget_of (k := Sum.inl y) (s3 _ _ hd) ex, rfl, _, rfl, ?_⟩
      refine iteT' rfl ?_
      refine ⟨_, rfl, _, rfl, d, _, rfl, dget_of (k := Sum.inl y) (s3 _ _ hd) ex, _, rfl, _, rfl, D, _, rfl, DPut.k (k := Sum.inl y) D3 (small1000' (by rw [List.length_map, List.length_take]; omega)), _, rfl, fun a o e => (upd_ne (ne_of_none e nD)).trans (s3 _ _ e), (upd_ne nlD).trans hl3, ?_⟩
      rw [upd_same, putK_new _ (valV_none_of (not_in_take ynd hyi)), List.take_add_one, hyi, Option.toList_some, List.map_append, List.map_cons, List.map_nil, gV_of ex]
    · obtain ⟨o2, rfl, s3, hl3, D3⟩ := pv
      rw [List.length_map, List.take_length] at D3
      exact ⟨_, rfl, q D ys H3 perm pw s3 nD D3⟩
def sp__law_stands (K : PySem.W.Frag) (CN : Addr) : Sp := fun vs H Q _ => ∃ (t c : Addr) (A : Bd) (n : Int) (S : Ws), vs = [.ref A.h, .ref A.dN, .ref A.dB, .ref A.pO] ∧ NJ CN t c A n S H ∧ ∀ H', Same H H' → Q (.bl true) H'
theorem T0.ok__law_stands (T : T0 K mg) : FnOk P w K mg base CX0 6 T.a__law_stands T.fd__law_stands ["net", "nexts", "behinds", "post"] (sp__law_stands K T.C_Net) := by
  refine T.F__law_stands.ok sc__law_stands (fun vs H Q E h => ?_) (fun cdv A' outer s H vs Q E hr h => ?_)
  · obtain ⟨t, c, A, n, S, rfl, _⟩ := h
    rfl
  · obtain ⟨t, c, A, n, S, rfl, I, q⟩ := h
    have l41 := I.lks
    have l60 := I.lps
    have okf : ∀ y ∈ S.ks, ∃ x, valV S.nx (.inl y) = some (.int x) ∧ gV S.nx y = .int x := fun y hy => let ⟨x, _, hx⟩ := I.gn.2 y hy; ⟨x, hx, gV_of hx⟩
    obtain ⟨dx, hh⟩ := I.net.me
    refine ⟨_, (pss_cons (ps_if (pt_not (pt_val (pe_call (T.ok__law_same 5) (hr.mono (by decide)) (by rfl) T.g__law_same T.k__law_same T.b__law_same .nil pass0 (pa_cons (pe_meth0 (pv 0) T.cl_Net T.me_Net__nexts T.ok_Net__nexts (hr.mono (by decide)) T.b_Net__nexts .nil pass0) (pa_cons (pe_call T.ok__law_ordered (hr.mono (by decide)) (by rfl) T.g__law_ordered T.k__law_ordered T.b__law_ordered .nil pass0 (pa_cons (pv 1) pa_nil)) pa_nil))))) (pss_one (ps_ret pe_bl)) pss_nil)
        (pss_one (ps_ret (pe_and (pe_call (T.ok__law_same 5) (hr.mono (by decide)) (by rfl) T.g__law_same T.k__law_same T.b__law_same .nil pass0 (pa_cons (pe_meth0 (pv 0) T.cl_Net T.me_Net__befores T.ok_Net__befores (hr.mono (by decide)) T.b_Net__befores .nil pass0) (pa_cons (pe_call T.ok__law_ordered (hr.mono (by decide)) (by rfl) T.g__law_ordered T.k__law_ordered T.b__law_ordered .nil pass0 (pa_cons (pv 2) pa_nil)) pa_nil))) (pe_one (pe_call (T.ok__law_same 5) (hr.mono (by decide)) (by rfl) T.g__law_same T.k__law_same T.b__law_same .nil pass0 (pa_cons (pe_meth0 (pv 0) T.cl_Net T.me_Net__letters T.ok_Net__letters (hr.mono (by decide)) T.b_Net__letters .nil pass0) (pa_cons (pv 3) pa_nil)))))))), ?_⟩
    refine ⟨_, rfl, A.h, dx, _, rfl, hh, (by unfold nf; walk_at "lk"), A.h, A.dn, A.db, A.dl, n, S.nx, S.bf, S.ls, S.ks, gV S.nx, rfl, I.net, I.gn.1, by omega, I.nd, fun k hk => ?_, fun zs pz H1 permz pwz s1 npz epz => ?_⟩
    · obtain ⟨x, hx, gx⟩ := okf k hk
      rw [hx, gx]
    have I1 := I.same s1
    refine ⟨_, rfl, A.dN, S.nx, S.ks, rfl, I1.hN, I.gn.1, I.nd, by omega, fun j hj => let ⟨x, _, e⟩ := I.gn.2 j hj; ⟨x, e⟩, fun p ys H2 perm pw s2 np ep => ?_⟩
    have e : zs = ys := perm_sorted_eq (permz.trans perm.symm) pwz pw
    subst e
    have zlen := perm.length_eq
    refine ⟨.ref pz, .ref p, rfl, dic_same (s2 _ _ epz) ep (by rw [List.length_map]; omega) (fun kv hkv => ?_), fun H3 s3 => ⟨true, rfl, iteF ?_⟩⟩
    · obtain ⟨k, hk, rfl⟩ := List.mem_map.mp hkv
      obtain ⟨x, _, gx⟩ := okf k (perm.mem_iff.mp hk)
      show atomV (gV S.nx k) = true
      rw [gx]
      rfl
    have s13 := Same.trans s1 (Same.trans s2 s3)
    have I3 := I.same s13
    obtain ⟨dx3, hh3⟩ := I3.net.me
    refine ⟨_, rfl, A.h, dx3, _, rfl, hh3, (by unfold nf; walk_at "lk"), A.h, A.dn, A.db, A.dl, n, S.nx, S.bf, S.ls, S.ks, bef S.bs, rfl, I3.net, I3.gn.1, by omega, I3.nd, I3.vf, fun ws pw' H4 permw pww s4 npw epw => ?_⟩
    have I4 := I3.same s4
    obtain ⟨js, ejs, ndj⟩ := I.kb
    have inj : ∀ j, j ∈ js ↔ j ∈ S.ks ∧ bef S.bs j ≠ .non := fun j => by
      refine ⟨fun hj => ?_, fun ⟨_, hb⟩ => Decidable.byContradiction fun nj => hb (by rw [bef, valV_none_keys ejs nj]; rfl)⟩
      obtain ⟨v, hv⟩ := Option.isSome_iff_exists.mp (valV_mem_keys ejs hj)
      obtain ⟨h1, x, _, rfl⟩ := I.gb j v hv
      exact ⟨h1, by rw [bef, hv]; exact fun z => nomatch z⟩
    have ljs : js.length ≤ S.ks.length := nodup_sub_len ndj fun j hj => ((inj j).mp hj).1
    refine ⟨_, rfl, A.dB, S.bs, js, rfl, I4.hB, ejs, ndj, by omega, fun j hj => ?_, fun p us H5 permu pwu s5 np ep => ?_⟩
    · obtain ⟨v, hv⟩ := Option.isSome_iff_exists.mp (valV_mem_keys ejs hj)
      obtain ⟨_, x, _, rfl⟩ := I.gb j v hv
      exact ⟨x, hv⟩
    have e : (ws.filter fun y => decide (bef S.bs y ≠ .non)) = us := by
      refine perm_sorted_eq (List.Perm.trans ((List.perm_ext_iff_of_nodup ((permw.nodup_iff.mpr I.nd).filter _) ndj).mpr fun j => ?_) permu.symm) (pww.filter _) pwu
      rw [List.mem_filter, decide_eq_true_eq, inj j, permw.mem_iff]
    rw [e] at epw
    have ulen := permu.length_eq
    refine ⟨.ref pw', .ref p, rfl, dic_same (s5 _ _ epw) ep (by rw [List.length_map]; omega) (fun kv hkv => ?_), fun H6 s6 => ⟨true, rfl, iteT ?_⟩⟩
    · obtain ⟨k, hk, rfl⟩ := List.mem_map.mp hkv
      exact okB.atom (I.gb.ok k)
    have s46 := Same.trans s4 (Same.trans s5 s6)
    have I6 := I3.same s46
    obtain ⟨dx6, hh6⟩ := I6.net.me
    refine ⟨_, rfl, A.h, dx6, _, rfl, hh6, (by unfold nf; walk_at "lk"), A.h, A.dn, A.db, A.dl, n, S.nx, S.bf, S.ls, rfl, I6.net, fun p np => ?_⟩
    have s7 := same_upd (o := .lst S.ls) np
    have I7 := I6.same s7
    refine ⟨_, rfl, .ref p, .ref A.pO, rfl, .lst (SqL.of upd_same) (SqL.of I7.hP) I7.lets.1.symm (by omega) (fun i a b ha hb => (I7.lets.2 i b a hb ha).sm'.succ.succ), fun H8 s8 => ?_⟩
    exact q H8 (Same.trans s13 (Same.trans s46 (Same.trans s7 s8)))
def sp__law_behinds (K : PySem.W.Frag) : Sp := fun vs H Q _ => ∃ (t c pl : Addr) (ms : List Int), vs = [.ref t, .ref pl] ∧ Tape H t c ∧ pl ≠ t ∧ H pl = some (.lst (ms.map V.int)) ∧ ms.Nodup ∧ ms.length ≤ 1000 ∧
  ∀ p (bs : List (Key × V)) H', H p = none → H' p = some (.dK bs) → GB ms bs → KB bs → Kp t H H' → Tape H' t c → Q (.ref p) H'
theorem T0.ok__law_behinds (T : T0 K mg) : FnOk P w K mg base CX0 2 T.a__law_behinds T.fd__law_behinds ["tape", "places"] (sp__law_behinds K) := by
  refine T.F__law_behinds.ok sc__law_behinds (fun vs H Q E h => ?_) (fun cdv A outer s H vs Q E hr h => ?_)
  · obtain ⟨t, c, pl, ms, rfl, _⟩ := h
    rfl
  · obtain ⟨t, c, pl, ms, rfl, hT, n1, hp, hnd, l1, q⟩ := h
    refine ⟨_, (pss_cons (ps_set (i := 2) sc__law_behinds.nd rfl (Or.inl rfl) pe_dnewK)
        (pss_cons (ps_for PassesOwn.never rfl (pi_list (pv 1)) (pg_name (i := 3) sc__law_behinds.nd rfl (Or.inl rfl)) (pss_one (ps_if (pt_cmpR op_gt (pe_call T.ok__law_pick hr (by rfl) T.g__law_pick T.k__law_pick T.b__law_pick .nil pass0 (pa_cons (pv 0) (pa_cons pe_int pa_nil))) pe_int (nomark _)) (pss_one (ps_asg (pe_ix (ix_listK (K := K)) (pv 1) (pe_call T.ok__law_pick hr (by rfl) T.g__law_pick T.k__law_pick T.b__law_pick .nil pass0 (pa_cons (pv 0) (pa_cons (pe_callB (call_lenK (K := K)) (by rfl) T.m_len PySem.boot_len (pa_cons (pv 1) pa_nil)) pa_nil))) (fun _ _ => rfl)) (pg_sub (pv 2) (pv 3) (set_dict (un1 hr))))) pss_nil)))
        (pss_one (ps_ret (pv 2))))), fun D nD => ?_⟩
    have oD := hT.off nD
    have T1 := hT.put (o := .dK []) oD
    have hp1 := (upd_ne (o := .dK []) (ne_of_none hp nD)).trans hp
    have nDp : D ≠ pl := fun z => by rw [z, hp] at nD; cases nD
    refine ⟨_, rfl, pl, rfl, ⟨_, SqL.of hp1⟩, ?_⟩
    refine for_list (K := K) (a := pl) (xs := ms.map V.int) (fun i σ' H' => ∃ (o3 : Option V) (bs : List (Key × V)), σ' = [some (.ref t), some (.ref pl), some (.ref D), o3] ∧ H' D = some (.dK bs) ∧ GB ms bs ∧ KB bs ∧ H' pl = some (.lst (ms.map V.int)) ∧ Kp t H H' ∧ Tape H' t c)
      ⟨none, [], rfl, upd_same, (fun _ _ h => nomatch h), ⟨[], rfl, List.nodup_nil⟩, hp1, Kp.of_same (same_upd nD), T1⟩ (fun i σ' H' _ pv => by obtain ⟨_, _, _, _, _, _, h, _⟩ := pv; exact SqL.of h) (fun i v σ' H3 hv pv => ?_) (fun σ' H3 pv => ?_)
    · obtain ⟨o3, bs, rfl, D3, gb, kb, hp3, k3, T3⟩ := pv
      rw [List.getElem?_map] at hv
      obtain ⟨y, hyi, rfl⟩ := Option.map_eq_some_iff.mp hv
      have hy : y ∈ ms := List.mem_of_getElem? hyi
      have lm : 0 < ms.length := List.length_pos_of_mem hy
      have lb := kb.len gb
      refine ⟨_, rfl, t, c, 3, rfl, T3, by decide, by decide, fun z H4 _ _ k4 T4 => ⟨_, _, rfl, rfl, _, rfl, ite2 (fun _ => ?_) (fun _ => ?_)⟩⟩
      · have hp4 := k4 _ _ n1 hp3
        refine ⟨_, rfl, _, rfl, _, rfl, pl, _, rfl, .inl (SqL.of hp4), t, c, _, rfl, T4, by rw [List.length_map]; omega, by rw [List.length_map]; omega, fun z H5 z0 z1 k5 T5 => ?_⟩
        rw [List.length_map] at z1
        have hz : z.toNat < ms.length := by omega
        have az : atI (ms.map V.int) z = some (.int ms[z.toNat]) := by
          rw [← at_ints hz, Int.toNat_of_nonneg z0]
        have hp5 := k5 _ _ n1 hp4
        have D5 := k5 _ _ oD.1 (k4 _ _ oD.1 D3)
        refine ⟨pl, _, z, _, rfl, rfl, SqL.of hp5, az, _, rfl, _, rfl, D, _, rfl, DPut.k (k := Sum.inl y) D5 (small1000' (by omega)), _, _, rfl, upd_same, fun p v e => ?_, kb.put, (upd_ne nDp.symm).trans hp5, fun a o na e => (upd_ne (ne_of_none e nD)).trans (k5 _ _ na (k4 _ _ na (k3 _ _ na e))), T5.put oD⟩
        rw [valV_put] at e
        by_cases g : p = y
        · rw [if_pos (by rw [g])] at e
          exact ⟨by rw [g]; exact hy, _, List.getElem_mem hz, (Option.some.inj e).symm⟩
        · rw [if_neg (fun z => g (Sum.inl.inj z))] at e
          exact gb p v e
      · exact ⟨_, bs, rfl, k4 _ _ oD.1 D3, gb, kb, k4 _ _ n1 hp3, k3.trans k4, T4⟩
    · obtain ⟨o3, bs, rfl, D3, gb, kb, hp3, k3, T3⟩ := pv
      exact ⟨_, rfl, q D bs _ nD D3 gb kb k3 T3⟩
def sp__law_letter (K : PySem.W.Frag) : Sp := fun vs H Q _ => ∃ (t c pl : Addr) (ms : List Int), vs = [.ref t, .ref pl] ∧ Tape H t c ∧ pl ≠ t ∧ H pl = some (.lst (ms.map V.int)) ∧ 0 < ms.length ∧ ms.length ≤ 1000 ∧
  ∀ l (L : Let) H', H l = none → H' l = some (.tup L.vals) → (∀ k ∈ L.ns, k ∈ ms) → Kp t H H' → Tape H' t c → Q (.ref l) H'
theorem T0.ok__law_letter (T : T0 K mg) : FnOk P w K mg base CX0 2 T.a__law_letter T.fd__law_letter ["tape", "places"] (sp__law_letter K) := by
  refine T.F__law_letter.ok sc__law_letter (fun vs H Q E h => ?_) (fun cdv A outer s H vs Q E hr h => ?_)
  · obtain ⟨t, c, pl, ms, rfl, _⟩ := h
    rfl
  · obtain ⟨t, c, pl, ms, rfl, hT, n1, hp, l0, l1, q⟩ := h
    refine ⟨_, (pss_cons (ps_set (i := 2) sc__law_letter.nd rfl (Or.inl rfl) (pe_ix (ix_listK (K := K)) (pv 1) (pe_call T.ok__law_pick hr (by rfl) T.g__law_pick T.k__law_pick T.b__law_pick .nil pass0 (pa_cons (pv 0) (pa_cons (pe_callB (call_lenK (K := K)) (by rfl) T.m_len PySem.boot_len (pa_cons (pv 1) pa_nil)) pa_nil))) (fun _ _ => rfl)))
        (pss_cons (ps_set (i := 3) sc__law_letter.nd rfl (Or.inl rfl) (pe_ix (ix_listK (K := K)) (pv 1) (pe_call T.ok__law_pick hr (by rfl) T.g__law_pick T.k__law_pick T.b__law_pick .nil pass0 (pa_cons (pv 0) (pa_cons (pe_callB (call_lenK (K := K)) (by rfl) T.m_len PySem.boot_len (pa_cons (pv 1) pa_nil)) pa_nil))) (fun _ _ => rfl)))
        (pss_cons (ps_set (i := 4) sc__law_letter.nd rfl (Or.inl rfl) (pe_ix (ix_listK (K := K)) (pv 1) (pe_call T.ok__law_pick hr (by rfl) T.g__law_pick T.k__law_pick T.b__law_pick .nil pass0 (pa_cons (pv 0) (pa_cons (pe_callB (call_lenK (K := K)) (by rfl) T.m_len PySem.boot_len (pa_cons (pv 1) pa_nil)) pa_nil))) (fun _ _ => rfl)))
        (pss_cons (ps_set (i := 5) sc__law_letter.nd rfl (Or.inl rfl) (pe_call T.ok__law_pick hr (by rfl) T.g__law_pick T.k__law_pick T.b__law_pick .nil pass0 (pa_cons (pv 0) (pa_cons pe_int pa_nil))))
        (pss_cons (ps_if (pt_cmpR op_eq (pv 5) pe_int (nomark _)) (pss_one (ps_ret (pe_tup (pa_cons pe_str (pa_cons (pv 2) (pa_cons (pv 3) pa_nil)))))) pss_nil)
        (pss_cons (ps_if (pt_cmpR op_eq (pv 5) pe_int (nomark _)) (pss_one (ps_ret (pe_tup (pa_cons pe_str (pa_cons (pv 2) (pa_cons (pv 3) pa_nil)))))) pss_nil)
        (pss_one (ps_ret (pe_tup (pa_cons pe_str (pa_cons (pv 2) (pa_cons (pv 3) (pa_cons (pv 4) pa_nil))))))))))))), ?_⟩
    have draw : ∀ (H1 : Hp), Kp t H H1 → Tape H1 t c → ∀ Q' : VK, (∀ (z : Int) H2, z ∈ ms → Kp t H H2 → Tape H2 t c → Q' (.int z) H2) →
        (sp__law_pick K) ([.ref t, .int ((ms.map V.int).length : Int)] ++ []) H1 (fun y H2 => rIxL K (.ref pl) y H2 Q') E0 := fun H1 k1 t1 Q' k => by
      refine ⟨t, c, _, rfl, t1, by rw [List.length_map]; omega, by rw [List.length_map]; omega, fun z H2 z0 z1 k2 t2 => ?_⟩
      rw [List.length_map] at z1
      have hz : z.toNat < ms.length := by omega
      have az : atI (ms.map V.int) z = some (.int ms[z.toNat]) := by
        rw [← at_ints hz, Int.toNat_of_nonneg z0]
      exact ⟨pl, _, z, _, rfl, rfl, SqL.of (k2 _ _ n1 (k1 _ _ n1 hp)), az, k _ H2 (List.getElem_mem hz) (k1.trans k2) t2⟩
    refine ⟨_, rfl, _, rfl, _, rfl, pl, _, rfl, .inl (SqL.of hp), draw H (.refl _ _) hT _ fun za H1 ma k1 t1 => ?_⟩
    refine ⟨_, rfl, _, rfl, _, rfl, pl, _, rfl, .inl (SqL.of (k1 _ _ n1 hp)), draw H1 k1 t1 _ fun zb H2 mb k2 t2 => ?_⟩
    refine ⟨_, rfl, _, rfl, _, rfl, pl, _, rfl, .inl (SqL.of (k2 _ _ n1 hp)), draw H2 k2 t2 _ fun zc H3 mc k3 t3 => ?_⟩
    refine ⟨_, rfl, t, c, 3, rfl, t3, by decide, by decide, fun d H4 _ _ k4 t4 => ?_⟩
    have k4 := k3.trans k4
    refine ⟨_, rfl, rfl, _, rfl, ite2 (fun _ => ?_) (fun _ => ?_)⟩
    · refine ⟨_, rfl, _, rfl, lenL (by show 3 ≤ 100000; decide), fun l nl => ?_⟩
      refine q l (.tell za zb) _ (k4.free t4 nl) upd_same (fun k hk => ?_) (k4.new nl) (t4.put (t4.off nl))
      simp only [Let.ns, List.mem_cons, List.not_mem_nil, or_false] at hk
      rcases hk with rfl | rfl <;> assumption
    refine ⟨_, rfl, rfl, _, rfl, ite2 (fun _ => ?_) (fun _ => ?_)⟩
    · refine ⟨_, rfl, _, rfl, lenL (by show 3 ≤ 100000; decide), fun l nl => ?_⟩
      refine q l (.ask za zb) _ (k4.free t4 nl) upd_same (fun k hk => ?_) (k4.new nl) (t4.put (t4.off nl))
      simp only [Let.ns, List.mem_cons, List.not_mem_nil, or_false] at hk
      rcases hk with rfl | rfl <;> assumption
    · refine ⟨_, rfl, _, rfl, _, rfl, lenL (by show 4 ≤ 100000; decide), fun l nl => ?_⟩
      refine q l (.answer za zb zc) _ (k4.free t4 nl) upd_same (fun k hk => ?_) (k4.new nl) (t4.put (t4.off nl))
      simp only [Let.ns, List.mem_cons, List.not_mem_nil, or_false] at hk
      rcases hk with rfl | rfl | rfl <;> assumption
--CUT
theorem for_it {J : It} {n : Nat} {G : Hp → Prop} {Y : Nat → Hp → V → Hp → Prop} (w : Walk J n G Y) {g : TG} {tb : TS} {D : Ends} {σ : L2.St} {H : Hp} (Pv : Nat → L2.St → Hp → Prop) (h0 : Pv 0 σ H) (hG : ∀ i σ H, i ≤ n → Pv i σ H → G H)
    (hs : ∀ i x σ H H', i < n → Pv i σ H → Y i H x H' → g x σ H' fun σ2 H2 => tb { D with nx := Pv (i + 1), ct := Pv (i + 1), bk := D.nx } σ2 H2) (hd : ∀ σ H, Pv n σ H → D.nx σ H) :
    ∃ W : Nat → Nat → L2.St → Hp → Prop, (∃ m, W 0 m σ H) ∧ ∀ i m σ H, W i m σ H →
      (J.stop i H ∧ D.nx σ H) ∨ (J.go i H ∧ ∃ N : L2.St → Hp → Prop, (∀ σ' H', N σ' H' → ∃ m', m' < m ∧ W (i + 1) m' σ' H') ∧ ∀ x H', J.yld i H x H' → g x σ H' fun σ2 H2 => tb { D with nx := N, ct := N, bk := D.nx } σ2 H2) := by
  refine ⟨fun i m σ H => i + m = n ∧ Pv i σ H, ⟨n, Nat.zero_add n, h0⟩, fun i m σ H hp => ?_⟩
  have q := hG i σ H (hp.1 ▸ Nat.le_add_right i m) hp.2
  cases m with
  | zero =>
    obtain ⟨rfl, p⟩ := hp
    exact .inl ⟨w.stops H q, hd σ H p⟩
  | succ m =>
    obtain ⟨e, p⟩ := hp
    have hi : i < n := by omega
    exact .inr ⟨w.goes i H hi q, Pv (i + 1), fun σ' H' p' => ⟨m, Nat.lt_succ_self m, by omega, p'⟩, fun x H' y => hs i x σ H H' hi p (w.yields i H x H' hi q y)⟩
/-! ### the program's ways -/
structure WN (ks : List Int) (nx : List (Key × V)) : Prop where
  gn : GN ks nx
  len : ks.length ≤ 1000
theorem WN.cl {ks : List Int} {nx : List (Key × V)} (w : WN ks nx) : ∀ k ∈ ks, iN nx k ∈ ks := fun k hk => let ⟨x, mx, e⟩ := w.gn.2 k hk; by rw [iN_of e]; exact mx
theorem WN.at_ {ks : List Int} {nx : List (Key × V)} (w : WN ks nx) {k : Int} (hk : k ∈ ks) : valV nx (.inl k) = some (.int (iN nx k)) := let ⟨x, mx, e⟩ := w.gn.2 k hk; by rw [iN_of e]; exact e
/-- the rows of a way: house and length -/
def wrows (n : Int) (f : Int → Int) (s : Int) (i : Nat) : List (Key × V) := (List.range i).map fun j => (Sum.inl (itr f s j), V.int (wl n f s j))
theorem wrows_succ {n s : Int} {f : Int → Int} (i : Nat) : wrows n f s (i + 1) = wrows n f s i ++ [(Sum.inl (itr f s i), V.int (wl n f s i))] := by
  unfold wrows
  rw [List.range_succ, List.map_append]
  rfl
theorem wrows_keys {n s : Int} {f : Int → Int} (i : Nat) : (wrows n f s i).map (·.1) = (met f s i).map Sum.inl := by
  unfold wrows met
  rw [List.map_map, List.map_map]
  rfl
theorem wrows_len {n s : Int} {f : Int → Int} (i : Nat) : (wrows n f s i).length = i := by unfold wrows; rw [List.length_map, List.length_range]
theorem wrows_val {n s : Int} {f : Int → Int} : ∀ {i j : Nat}, (met f s i).Nodup → j < i → valV (wrows n f s i) (.inl (itr f s j)) = some (.int (wl n f s j))
  | 0, _, _, h => absurd h (by omega)
  | i + 1, j, nd, h => by
    rw [met_succ] at nd
    obtain ⟨n1, _, n3⟩ := List.nodup_append.mp nd
    rw [wrows_succ]
    by_cases e : j = i
    · subst e
      rw [← putK_new (k := (Sum.inl (itr f s j) : Key)) (.int (wl n f s j)) (valV_none_keys (wrows_keys j) fun h => n3 _ h _ (List.mem_singleton.mpr rfl) rfl), valV_put, if_pos rfl]
    · have := wrows_val (n := n) n1 (show j < i by omega)
      rw [← putK_new (k := (Sum.inl (itr f s i) : Key)) (.int (wl n f s i)) (valV_none_keys (wrows_keys i) fun h => n3 _ h _ (List.mem_singleton.mpr rfl) rfl), valV_put, if_neg (fun z => ?_)]
      · exact this
      · have : itr f s j ∈ met f s i := met_mem.mpr ⟨j, by omega, rfl⟩
        rw [Sum.inl.inj z] at this
        exact n3 _ this _ (List.mem_singleton.mpr rfl) rfl
theorem wrows_no {n s x : Int} {f : Int → Int} {i : Nat} (h : x ∉ met f s i) : valV (wrows n f s i) (.inl x) = none := valV_none_keys (wrows_keys i) h
def sp__lengths_from (C : Addr) : Sp := fun vs H Q _ => ∃ (h dn db dl : Addr) (n s : Int) (nx bf : List (Key × V)) (ls : List V) (ks : List Int), vs = [.ref h, .int s] ∧ NetAt C H h n dn db dl nx bf ls ∧ WN ks nx ∧ s ∈ ks ∧ 0 < n ∧
  ∀ m H' d, Lasso (iN nx) s m → m ≤ ks.length → Same H H' → H d = none → H' d = some (.dK (wrows n (iN nx) s m)) → Q (.ref d) H'
theorem T0.ok__lengths_from (T : T0 K mg) : FnOk P w K mg base CX0 3 T.a__lengths_from T.fd__lengths_from ["net", "start"] (sp__lengths_from T.C_Net) := by
  refine T.F__lengths_from.ok sc__lengths_from (fun vs H Q E h => ?_) (fun cdv A outer s0 H vs Q E hr h => ?_)
  · obtain ⟨h, dn, db, dl, n, s, nx, bf, ls, ks, rfl, _⟩ := h
    rfl
  · obtain ⟨h, dn, db, dl, n, s, nx, bf, ls, ks, rfl, N0, W, hs, n0, q⟩ := h
    refine ⟨_, (pss_cons (ps_set (i := 2) sc__lengths_from.nd rfl (Or.inl rfl) pe_dnewK)
        (pss_cons (ps_set (i := 3) sc__lengths_from.nd rfl (Or.inl rfl) (pv 1))
        (pss_cons (ps_set (i := 4) sc__lengths_from.nd rfl (Or.inl rfl) pe_int)
        (pss_cons (ps_while PassesOwn.never (pt_cmp (pc_dnotin (un1 hr) (pv 3) (pv 2))) (pss_cons (ps_asg (pv 4) (pg_sub (pv 2) (pv 3) (set_dict (un1 hr))))
        (pss_cons (ps_set (i := 5) sc__lengths_from.nd rfl (Or.inl rfl) (pe_meth (pv 0) T.cl_Net T.me_Net__next_of T.ok_Net__next_of hr T.b_Net__next_of .nil pass0 (pa_cons (pv 3) pa_nil)))
        (pss_cons (ps_set (i := 4) sc__lengths_from.nd rfl (Or.inl rfl) (pe_op op_add (pv 4) (pe_call T.ok_far (hr.mono (by decide)) (by rfl) T.g_far T.k_far T.b_far .nil pass0 (pa_cons (show PE _ _ (tFld K _ _) from pe_fld (pv 0) rfl) (pa_cons (pv 3) (pa_cons (pv 5) pa_nil))))))
        (pss_one (ps_set (i := 3) sc__lengths_from.nd rfl (Or.inl rfl) (pv 5)))))))
        (pss_one (ps_ret (pv 2))))))), ?_⟩
    intro d nd
    refine ⟨_, rfl, fun m σ' H' => ∃ (i : Nat) (o5 : Option V), m = ks.length + 1 - i ∧ (met (iN nx) s i).Nodup ∧ σ' = [some (.ref h), some (.int s), some (.ref d), some (.int (itr (iN nx) s i)), some (.int (wl n (iN nx) s i)), o5] ∧ Same H H' ∧ H' d = some (.dK (wrows n (iN nx) s i)), ⟨_, 0, none, rfl, List.nodup_nil, rfl, same_upd nd, upd_same⟩, ?_⟩
    rintro m σ' H1 ⟨i, o5, rfl, ndi, rfl, s1, e1⟩
    refine ⟨_, rfl, _, rfl, d, _, rfl, DGet.k (k := Sum.inl (itr (iN nx) s i)) e1, _, rfl, ?_⟩
    have li := met_le W.cl hs ndi
    by_cases hm : itr (iN nx) s i ∈ met (iN nx) s i
    · obtain ⟨j, hj, ej⟩ := met_mem.mp hm
      refine iteF' (by rw [← ej, wrows_val ndi hj]; rfl) ?_
      exact ⟨_, rfl, q i H1 d (Lasso.of ndi hm) li s1 nd e1⟩
    · have ndi' : (met (iN nx) s (i + 1)).Nodup := by
        rw [met_succ]
        exact List.nodup_append.mpr ⟨ndi, by simp, fun a ha b hb e => hm (by rw [List.mem_singleton.mp hb] at e; rw [← e]; exact ha)⟩
      have li' := met_le W.cl hs ndi'
      refine iteT' (by rw [wrows_no hm]; rfl) ?_
      refine ⟨fun σ' H' => ∃ o5 : Option V, σ' = [some (.ref h), some (.int s), some (.ref d), some (.int (itr (iN nx) s (i + 1))), some (.int (wl n (iN nx) s (i + 1))), o5] ∧ Same H H' ∧ H' d = some (.dK (wrows n (iN nx) s (i + 1))), ?_, ?_⟩
      · rintro σ' H' ⟨o5, h1, h2, h3⟩
        exact ⟨_, by omega, i + 1, o5, rfl, ndi', h1, h2, h3⟩
      have mi := itr_mem W.cl hs i
      have N1 := N0.same s1
      refine ⟨_, rfl, _, rfl, _, rfl, d, _, rfl, DPut.k (k := Sum.inl (itr (iN nx) s i)) e1 (small1000' (by rw [wrows_len]; have := W.len; omega)), ?_⟩
      rw [putK_new _ (wrows_no hm), ← wrows_succ]
      have s2 : Same H (upd H1 d (.dK (wrows n (iN nx) s (i + 1)))) := fun a o e => (upd_ne (ne_of_none e nd)).trans (s1 _ _ e)
      have e2 : upd H1 d (.dK (wrows n (iN nx) s (i + 1))) d = some (.dK (wrows n (iN nx) s (i + 1))) := upd_same
      generalize upd H1 d (.dK (wrows n (iN nx) s (i + 1))) = H2 at s2 e2
      have N2 := N0.same s2
      obtain ⟨dx, hh⟩ := N2.me
      refine ⟨_, rfl, h, dx, _, rfl, hh, (by unfold nf; walk_at "lk"), _, rfl, h, dn, db, dl, n, itr (iN nx) s i, _, nx, bf, ls, rfl, N2, W.at_ mi, ?_⟩
      refine ⟨_, rfl, _, rfl, h, _, dx, _, _, rfl, hh, T.cl_Net, T.na_Net_size, nf_size, _, rfl, _, rfl, n, _, _, rfl, n0, ?_⟩
      exact ⟨_, _, rfl, rfl, _, rfl, _, rfl, s2, e2⟩
theorem met_take {f : Int → Int} {s : Int} {i m : Nat} (h : i ≤ m) : (met f s m).take i = met f s i := by
  unfold met
  rw [← List.map_take, List.take_range, Nat.min_eq_left h]
theorem wrows_list {n s : Int} {f : Int → Int} (i : Nat) : (wrows n f s i).map (fun kv => kV kv.1) = (met f s i).map V.int := by
  unfold wrows met
  rw [List.map_map, List.map_map]
  rfl
theorem inV_ints {x : Int} {l : List Int} : inV (.int x) (l.map V.int) = decide (x ∈ l) := by
  unfold inV
  rw [List.any_map]
  by_cases h : x ∈ l
  · rw [decide_eq_true h]
    exact List.any_eq_true.mpr ⟨x, h, beq_self_eq_true x⟩
  · rw [decide_eq_false h]
    exact List.any_eq_false.mpr fun y hy e => h (by rw [← (eq_of_beq e : y = x)]; exact hy)
theorem flat_ints {l : List Int} : (l.map V.int).all flatV = true := List.all_eq_true.mpr fun v hv => by
  obtain ⟨y, _, rfl⟩ := List.mem_map.mp hv
  rfl
theorem wl_up {n s : Int} {f : Int → Int} (h : 0 < n) : ∀ j : Nat, wl n f s j ≤ j * n
  | 0 => by show (0 : Int) ≤ 0 * n; omega
  | j + 1 => by
    have := wl_up (n := n) (s := s) (f := f) h j
    have := (far_range (itr f s j) (f (itr f s j)) h).2
    rw [Int.natCast_succ, Int.add_mul, Int.one_mul]
    show wl n f s j + farL n (itr f s j) (f (itr f s j)) ≤ _
    omega
theorem max_if {d : Int} : (if d > 0 then d else 0) = max 0 d := by
  by_cases h : d > 0
  · rw [if_pos h]; omega
  · rw [if_neg h]; omega
def sp_way (C : Addr) : Sp := fun vs H Q _ => ∃ (h dn db dl : Addr) (n s e : Int) (nx bf : List (Key × V)) (ls : List V) (ks : List Int), vs = [.ref h, .int s, .int e] ∧ NetAt C H h n dn db dl nx bf ls ∧ WN ks nx ∧ s ∈ ks ∧ e ∈ ks ∧ 0 < n ∧
  ∀ m H', Lasso (iN nx) s m → m ≤ ks.length → Same H H' → ((∀ j, j < m → itr (iN nx) s j = e → ∀ l, H l = none → H' l = some (.lst ((met (iN nx) s (j + 1)).map V.int)) → Q (.ref l) H') ∧ ((∀ j, j < m → itr (iN nx) s j ≠ e) → Q .non H'))
def sp_way_length (C : Addr) : Sp := fun vs H Q _ => ∃ (h dn db dl : Addr) (n s e : Int) (nx bf : List (Key × V)) (ls : List V) (ks : List Int), vs = [.ref h, .int s, .int e] ∧ NetAt C H h n dn db dl nx bf ls ∧ WN ks nx ∧ s ∈ ks ∧ e ∈ ks ∧ 0 < n ∧
  ∀ m H', Lasso (iN nx) s m → m ≤ ks.length → Same H H' → ((∀ j, j < m → itr (iN nx) s j = e → Q (.int (wl n (iN nx) s j)) H') ∧ ((∀ j, j < m → itr (iN nx) s j ≠ e) → Q .non H'))
def sp_house_at (C : Addr) : Sp := fun vs H Q _ => ∃ (h dn db dl : Addr) (n s x : Int) (nx bf : List (Key × V)) (ls : List V) (ks : List Int), vs = [.ref h, .int s, .int x] ∧ NetAt C H h n dn db dl nx bf ls ∧ WN ks nx ∧ s ∈ ks ∧ 0 < n ∧ n ≤ 1000000000 ∧
  ∀ k H' p, FirstAt n (iN nx) s x k → Same H H' → H' p = some (.tup [.int (itr (iN nx) s k), .int (wl n (iN nx) s k)]) → Q (.ref p) H'
theorem T0.ok_house_at (T : T0 K mg) : FnOk P w K mg base CX0 4 T.a_house_at T.fd_house_at ["net", "start", "distance"] (sp_house_at T.C_Net) := by
  refine T.F_house_at.ok sc_house_at (fun vs H Q E h => ?_) (fun cdv A outer s0 H vs Q E hr h => ?_)
  · obtain ⟨h, dn, db, dl, n, s, x, nx, bf, ls, ks, rfl, _⟩ := h
    rfl
  · obtain ⟨h, dn, db, dl, n, s, x, nx, bf, ls, ks, rfl, N0, W, hs, n0, n9, q⟩ := h
    refine ⟨_, (pss_cons (ps_set (i := 3) sc_house_at.nd rfl (Or.inl rfl) (pe_call T.ok__lengths_from hr (by rfl) T.g__lengths_from T.k__lengths_from T.b__lengths_from .nil pass0 (pa_cons (pv 0) (pa_cons (pv 1) pa_nil))))
        (pss_cons (ps_set (i := 4) sc_house_at.nd rfl (Or.inl rfl) (pe_ix (ix_listK (K := K)) (pe_callTy (call_list_dK rfl) (by rfl) T.m_list (by decide +kernel) (pa_cons (pv 3) pa_nil)) (pe_un un_neg pe_int) (fun _ _ => rfl)))
        (pss_cons (ps_set (i := 5) sc_house_at.nd rfl (Or.inl rfl) (pe_meth (pv 0) T.cl_Net T.me_Net__next_of T.ok_Net__next_of (hr.mono (by decide)) T.b_Net__next_of .nil pass0 (pa_cons (pv 4) pa_nil)))
        (pss_cons (ps_set (i := 6) sc_house_at.nd rfl (Or.inl rfl) (pe_op op_sub (pe_op op_add (pe_dget (un1 hr) (pv 3) (pv 4) (fun _ _ => rfl)) (pe_call T.ok_far (hr.mono (by decide)) (by rfl) T.g_far T.k_far T.b_far .nil pass0 (pa_cons (show PE _ _ (tFld K _ _) from pe_fld (pv 0) rfl) (pa_cons (pv 4) (pa_cons (pv 5) pa_nil))))) (pe_dget (un1 hr) (pv 3) (pv 5) (fun _ _ => rfl))))
        (pss_cons (ps_set (i := 7) sc_house_at.nd rfl (Or.inl rfl) (pe_op op_mul ((pe_op op_fdivW (pe_callB (call_max2 rfl) (by rfl) T.m_max (by decide +kernel) (pa_cons pe_int (pa_cons (pe_op op_sub (pv 2) (pe_dget (un1 hr) (pv 3) (pv 5) (fun _ _ => rfl))) pa_nil))) (pv 6))) (pv 6)))
        (pss_cons (show PS _ _ (L2.tLock _) from L2.ps_lock (ps_for PassesOwn.never rfl (pi_items (pv 3)) (pg_tup rfl (pgs_cons (pg_name (i := 8) sc_house_at.nd rfl (Or.inl rfl)) (pgs_cons (pg_name (i := 9) sc_house_at.nd rfl (Or.inl rfl)) pgs_nil))) (pss_one (ps_if (pt_cmpR op_ge (pe_op op_add (pv 9) (pv 7)) (pv 2) (nomark _)) (pss_one (ps_ret (pe_tup (pa_cons (pv 8) (pa_cons (pe_op op_add (pv 9) (pv 7)) pa_nil))))) pss_nil))))
        (pss_one (ps_ret (pe_tup (pa_cons (pv 5) (pa_cons (pe_op op_add (pe_op op_add (pe_dget (un1 hr) (pv 3) (pv 5) (fun _ _ => rfl)) (pv 6)) (pv 7)) pa_nil))))))))))), ?_⟩
    refine ⟨_, rfl, _, rfl, h, dn, db, dl, n, s, nx, bf, ls, ks, rfl, N0, W, hs, n0, fun m H1 d L lm s1 nd e1 => ?_⟩
    obtain ⟨m, rfl⟩ : ∃ m', m = m' + 1 := ⟨m - 1, by have := L.pos; omega⟩
    refine ⟨_, rfl, d, _, rfl, e1, fun l nl => ?_⟩
    rw [wrows_list]
    have s2 : Same H (upd H1 l (.lst ((met (iN nx) s (m + 1)).map V.int))) := Same.trans s1 (same_upd nl)
    have e12 : upd H1 l (.lst ((met (iN nx) s (m + 1)).map V.int)) d = some (.dK (wrows n (iN nx) s (m + 1))) := same_upd nl _ _ e1
    have e2 : upd H1 l (.lst ((met (iN nx) s (m + 1)).map V.int)) l = some (.lst ((met (iN nx) s (m + 1)).map V.int)) := upd_same
    generalize upd H1 l (.lst ((met (iN nx) s (m + 1)).map V.int)) = H2 at s2 e2 e12
    have N2 := N0.same s2
    obtain ⟨dx, hh⟩ := N2.me
    refine ⟨1, rfl, l, _, -1, .int (itr (iN nx) s m), rfl, rfl, SqL.of e2, (by rw [met_succ, List.map_append]; exact atI_last _ _), ?_⟩
    have mm := itr_mem W.cl hs m
    refine ⟨_, rfl, h, dx, _, rfl, hh, (by unfold nf; walk_at "lk"), _, rfl, h, dn, db, dl, n, itr (iN nx) s m, _, nx, bf, ls, rfl, N2, W.at_ mm, ?_⟩
    obtain ⟨g, hg, eg⟩ := L.back
    have eg : itr (iN nx) s (m + 1) = itr (iN nx) s g := eg
    have vm : valV (wrows n (iN nx) s (m + 1)) (.inl (itr (iN nx) s m)) = some (.int (wl n (iN nx) s m)) := wrows_val L.nodup (by omega)
    have vg : valV (wrows n (iN nx) s (m + 1)) (.inl (itr (iN nx) s (m + 1))) = some (.int (wl n (iN nx) s g)) := by rw [eg]; exact wrows_val L.nodup hg
    have lp := wl_lt (f := iN nx) (s := s) n0 hg
    have lu := wl_up (f := iN nx) (s := s) n0 (m + 1)
    have lu2 : ((m + 1 : Nat) : Int) * n ≤ 1000 * 1000000000 := Int.mul_le_mul (by have := W.len; omega) n9 (by omega) (by omega)
    have g0 := wl_pos (f := iN nx) (s := s) n0 g
    refine ⟨_, rfl, _, rfl, d, _, rfl, dget_of (k := Sum.inl _) e12 vm, _, rfl, h, _, dx, _, _, rfl, hh, T.cl_Net, T.na_Net_size, nf_size, _, rfl, _, rfl, n, _, _, rfl, n0, _, _, rfl, rfl, _, rfl, _, rfl, d, _, rfl, dget_of (k := Sum.inl _) e12 vg, _, _, rfl, rfl, ?_⟩
    have ew : wl n (iN nx) s m + farL n (itr (iN nx) s m) (iN nx (itr (iN nx) s m)) = wl n (iN nx) s (m + 1) := rfl
    rw [ew]
    refine ⟨_, rfl, _, rfl, _, rfl, d, _, rfl, dget_of (k := Sum.inl _) e12 vg, _, _, rfl, rfl, _, _, rfl, _, rfl, _, _, rfl, rfl, wide_div (b := 64) (by omega) (by omega) (by decide) (by decide), _, rfl, _, _, rfl, rfl, .inr ⟨by omega, by omega⟩, ?_⟩
    rw [max_if]
    obtain ⟨skip, ek⟩ : ∃ skip, max 0 (x - wl n (iN nx) s g) / (wl n (iN nx) s (m + 1) - wl n (iN nx) s g) * (wl n (iN nx) s (m + 1) - wl n (iN nx) s g) = skip := ⟨_, rfl⟩
    refine ⟨d, _, e12, trivial, fun od => ?_⟩
    refine ⟨_, rfl, d, od, _, rfl, upd_same, ?_⟩
    refine for_it walk_items (fun i σ' H' => ∃ o8 o9 : Option V, σ' = [some (.ref h), some (.int s), some (.int x), some (.ref d), some (.int (itr (iN nx) s m)), some (.int (itr (iN nx) s (m + 1))), some (.int (wl n (iN nx) s (m + 1) - wl n (iN nx) s g)), some (.int skip), o8, o9] ∧ (∀ j, j < i → wl n (iN nx) s j + skip < x) ∧ H' d = some (.frz od (.dK (wrows n (iN nx) s (m + 1)))) ∧ (∀ a o, a ≠ d → H2 a = some o → H' a = some o))
      ⟨none, none, (by rw [← ek]; rfl), fun _ z => absurd z (by omega), upd_same, fun a o na e => (upd_ne na).trans e⟩ (fun i σ' H' _ pv => by obtain ⟨_, _, _, _, e, _⟩ := pv; exact e) (fun i y σ' H3 H4 hi pv hy => ?_) (fun σ' H3 pv => ?_)
    · obtain ⟨o8, o9, rfl, lo, e3, f3⟩ := pv
      obtain ⟨t, yk, yv, rfl, nt, rfl, hk, hv⟩ := hy
      have hi : i < m + 1 := by rw [wrows_len] at hi; exact hi
      have gi : (wrows n (iN nx) s (m + 1))[i]? = some (Sum.inl (itr (iN nx) s i), V.int (wl n (iN nx) s i)) := by
        unfold wrows
        rw [List.getElem?_map, List.getElem?_range hi]
        rfl
      have hk : ((wrows n (iN nx) s (m + 1))[i]?).map (fun kv => kV kv.1) = some yk := hk
      have hv : ((wrows n (iN nx) s (m + 1))[i]?).map Prod.snd = some yv := hv
      rw [gi] at hk hv
      cases hk
      cases hv
      have dt : d ≠ t := ne_of_none e3 nt
      refine ⟨t, _, rfl, SqT.of upd_same, rfl, ?_⟩
      have e4 := (upd_ne (o := .tup [kV (Sum.inl (itr (iN nx) s i)), V.int (wl n (iN nx) s i)]) dt).trans e3
      have f4 : ∀ a o, a ≠ d → H2 a = some o → upd H3 t (.tup [kV (Sum.inl (itr (iN nx) s i)), V.int (wl n (iN nx) s i)]) a = some o := fun a o na e => (upd_ne (ne_of_none (f3 _ _ na e) nt)).trans (f3 _ _ na e)
      generalize upd H3 t (.tup [kV (Sum.inl (itr (iN nx) s i)), V.int (wl n (iN nx) s i)]) = H4 at e4 f4
      refine ⟨_, _, rfl, _, _, rfl, rfl, ?_⟩
      refine ⟨_, rfl, _, rfl, _, _, rfl, rfl, _, rfl, _, _, rfl, rfl, _, rfl, ite2 (fun c => ?_) (fun c => ?_)⟩
      · have c : x ≤ wl n (iN nx) s i + skip := of_decide_eq_true c
        obtain ⟨k, fa, e5, e6⟩ := laps_first (f := iN nx) (s := s) (d := x) n0 hg eg (j := i) (by omega) (fun j hj => by rw [ek]; exact lo j hj) (fun _ => by rw [ek]; exact c)
        rw [ek] at e6
        refine ⟨_, rfl, _, rfl, _, rfl, _, _, rfl, rfl, lenL (by show 2 ≤ 100000; decide), fun p np => ?_⟩
        have dp : d ≠ p := ne_of_none e4 np
        refine ⟨(upd_ne dp).trans e4, q k _ p fa (fun a o e => ?_) ?_⟩
        · by_cases ad : a = d
          · rw [ad, nd] at e
            cases e
          · rw [upd_ne ad, upd_ne (ne_of_none (f4 _ _ ad (s2 _ _ e)) np)]
            exact f4 _ _ ad (s2 _ _ e)
        · rw [upd_ne dp.symm, upd_same, e5, e6]
          rfl
      · have c : ¬ x ≤ wl n (iN nx) s i + skip := fun z => c (decide_eq_true z)
        refine ⟨_, _, rfl, fun j hj => ?_, e4, f4⟩
        by_cases ej : j = i
        · rw [ej]; omega
        · exact lo j (by omega)
    · obtain ⟨o8, o9, rfl, lo, e3, f3⟩ := pv
      rw [wrows_len] at lo
      refine ⟨e3, ?_⟩
      have e4 : upd H3 d (.dK (wrows n (iN nx) s (m + 1))) d = some (.dK (wrows n (iN nx) s (m + 1))) := upd_same
      have s4 : Same H (upd H3 d (.dK (wrows n (iN nx) s (m + 1)))) := fun a o e => by
        by_cases ad : a = d
        · rw [ad, nd] at e
          cases e
        · rw [upd_ne ad]
          exact f3 _ _ ad (s2 _ _ e)
      generalize upd H3 d (.dK (wrows n (iN nx) s (m + 1))) = H4 at e4 s4
      refine ⟨_, rfl, _, rfl, _, rfl, d, _, rfl, dget_of (k := Sum.inl _) e4 vg, _, rfl, _, _, rfl, rfl, _, rfl, _, _, rfl, rfl, lenL (by show 2 ≤ 100000; decide), fun p np => ?_⟩
      obtain ⟨k, fa, e5, e6⟩ := laps_first (f := iN nx) (s := s) (d := x) n0 hg eg (j := m + 1) (by omega) (fun j hj => by rw [ek]; exact lo j hj) (fun z => absurd z (by omega))
      rw [ek] at e6
      refine q k _ p fa (Same.trans s4 (same_upd np)) ?_
      have e7 : wl n (iN nx) s g + (wl n (iN nx) s (m + 1) - wl n (iN nx) s g) + skip = wl n (iN nx) s (m + 1) + skip := by omega
      rw [upd_same, e5, e6, ← e7]
--CUT
theorem eqv_pair (a b c d : Int) : PyData.eqv (.tuple [.int a, .int b]) (.tuple [.int c, .int d]) = decide (a = c ∧ b = d) := by
  rw [PyData.eqv, PyData.eqvAll, PyData.eqvAll, PyData.eqvAll, PyData.eqv, PyData.eqv, Bool.and_true]
  by_cases h1 : a = c <;> by_cases h2 : b = d <;> simp [h1, h2]
theorem iN_put {nx : List (Key × V)} {a b : Int} : iN (putK nx (.inl a) (.int b)) = chg (iN nx) a b := by
  funext k
  unfold iN chg
  rw [valV_put]
  by_cases e : k = a
  · rw [if_pos (by rw [e]), if_pos e]
  · rw [if_neg (fun z => e (Sum.inl.inj z)), if_neg e]
theorem WN.lenx {ks : List Int} {nx : List (Key × V)} (w : WN ks nx) : nx.length = ks.length := by
  have := congrArg List.length w.gn.1
  rw [List.length_map, List.length_map] at this
  exact this
theorem GN.put1 {ks : List Int} {nx : List (Key × V)} {p x : Int} (g : GN ks nx) (hp : p ∈ ks) (hx : x ∈ ks) : GN ks (putK nx (.inl p) (.int x)) := by
  refine ⟨?_, fun k hk => ?_⟩
  · rw [keys_putK_old (by obtain ⟨y, _, e⟩ := g.2 p hp; rw [e]; rfl)]
    exact g.1
  · rw [valV_put]
    by_cases e : k = p
    · rw [e, if_pos rfl]
      exact ⟨x, hx, rfl⟩
    · rw [if_neg (fun z => e (Sum.inl.inj z))]
      exact g.2 k hk
/-! ### holds_true, is_faithful -/
def sp_holds_true (K : PySem.W.Frag) (C : Addr) : Sp := fun vs H Q _ => ∃ (h dn db dl p : Addr) (n s e x : Int) (nx bf : List (Key × V)) (ls : List V) (ks : List Int), vs = [.ref h, .ref p] ∧ H p = some (.tup [.int s, .int e, .int x]) ∧ NetAt C H h n dn db dl nx bf ls ∧ WN ks nx ∧ s ∈ ks ∧ 0 < n ∧ n ≤ 1000000000 ∧ 1 ≤ x ∧
  ∀ k H', FirstAt n (iN nx) s x k → Same H H' → Q (.bl (decide (itr (iN nx) s k = e ∧ wl n (iN nx) s k = x))) H'
theorem T0.ok_holds_true (T : T0 K mg) : FnOk P w K mg base CX0 5 T.a_holds_true T.fd_holds_true ["net", "saying"] (sp_holds_true K T.C_Net) := by
  refine T.F_holds_true.ok sc_holds_true (fun vs H Q E h => ?_) (fun cdv A outer s0 H vs Q E hr h => ?_)
  · obtain ⟨h, dn, db, dl, p, n, s, e, x, nx, bf, ls, ks, rfl, _⟩ := h
    rfl
  · obtain ⟨h, dn, db, dl, p, n, s, e, x, nx, bf, ls, ks, rfl, hp, N0, W, hs, n0, n9, x1, q⟩ := h
    refine ⟨_, (pss_cons (ps_asg (pv 1) (pg_tup rfl (pgs_cons (pg_name (i := 2) sc_holds_true.nd rfl (Or.inl rfl)) (pgs_cons (pg_name (i := 3) sc_holds_true.nd rfl (Or.inl rfl)) (pgs_cons (pg_name (i := 4) sc_holds_true.nd rfl (Or.inl rfl)) pgs_nil)))))
        (pss_one (ps_ret (pe_and (pe_cmpR op_ge (pv 4) pe_int (nomark _)) (pe_one (pe_cmpR (op_eqD hr.units) (pe_call T.ok_house_at hr (by rfl) T.g_house_at T.k_house_at T.b_house_at .nil pass0 (pa_cons (pv 0) (pa_cons (pv 2) (pa_cons (pv 4) pa_nil)))) (pe_tup (pa_cons (pv 3) (pa_cons (pv 4) pa_nil))) (nomark _))))))), ?_⟩
    refine ⟨_, rfl, p, _, rfl, SqT.of hp, rfl, _, _, rfl, _, _, rfl, _, _, rfl, rfl, ?_⟩
    refine ⟨_, rfl, _, _, rfl, rfl, _, rfl, iteT' (decide_eq_true x1) ?_⟩
    refine ⟨_, rfl, _, rfl, _, rfl, h, dn, db, dl, n, s, x, nx, bf, ls, ks, rfl, N0, W, hs, n0, n9, fun k H1 p1 F s1 e1 => ?_⟩
    refine ⟨_, rfl, _, rfl, lenL (by show 2 ≤ 100000; decide), fun p2 np2 => ?_⟩
    have s2 := same_upd (o := .tup [.int e, .int x]) np2
    refine ⟨_, _, .tup (SqT.of (s2 _ _ e1)) (.cons (.int _) (.cons (.int _) .nil)), .tup (SqT.of upd_same) (.cons (.int _) (.cons (.int _) .nil)), rfl, rfl, ?_⟩
    rw [eqv_pair]
    exact q k _ F (Same.trans s1 s2)
def sp_is_faithful (C : Addr) : Sp := fun vs H Q _ => ∃ (h dn db dl : Addr) (n a b : Int) (nx bf : List (Key × V)) (ls : List V) (ks : List Int), vs = [.ref h, .int a, .int b] ∧ NetAt C H h n dn db dl nx bf ls ∧ WN ks nx ∧ a ∈ ks ∧ b ∈ ks ∧ 0 < n ∧ n ≤ 1000000000 ∧
  ∀ r H', (r = true ↔ Btw n a b (iN nx a) ∧ Fa n (iN nx) a b) → Same H H' → Q (.bl r) H'
theorem T0.ok_is_faithful (T : T0 K mg) : FnOk P w K mg base CX0 6 T.a_is_faithful T.fd_is_faithful ["net", "house", "target"] (sp_is_faithful T.C_Net) := by
  refine T.F_is_faithful.ok sc_is_faithful (fun vs H Q E h => ?_) (fun cdv A outer s0 H vs Q E hr h => ?_)
  · obtain ⟨h, dn, db, dl, n, a, b, nx, bf, ls, ks, rfl, _⟩ := h
    rfl
  · obtain ⟨h, dn, db, dl, n, a, b, nx, bf, ls, ks, rfl, N0, W, ha, hb, n0, n9, q⟩ := h
    refine ⟨_, (pss_cons (ps_set (i := 3) sc_is_faithful.nd rfl (Or.inl rfl) (pe_meth (pv 0) T.cl_Net T.me_Net__next_of T.ok_Net__next_of (hr.mono (by decide)) T.b_Net__next_of .nil pass0 (pa_cons (pv 1) pa_nil)))
        (pss_cons (ps_expr (pe_meth (pv 0) T.cl_Net T.me_Net__check_house T.ok_Net__check_house (hr.mono (by decide)) T.b_Net__check_house .nil pass0 (pa_cons (pv 2) pa_nil)))
        (pss_cons (ps_if (pt_not (pt_val (pe_call T.ok_between (hr.mono (by decide)) (by rfl) T.g_between T.k_between T.b_between .nil pass0 (pa_cons (show PE _ _ (tFld K _ _) from pe_fld (pv 0) rfl) (pa_cons (pv 1) (pa_cons (pv 2) (pa_cons (pv 3) pa_nil))))))) (pss_one (ps_ret pe_bl)) pss_nil)
        (pss_one (ps_ret (pe_call T.ok_holds_true hr (by rfl) T.g_holds_true T.k_holds_true T.b_holds_true .nil pass0 (pa_cons (pv 0) (pa_cons (pe_tup (pa_cons (pv 2) (pa_cons (pv 3) (pa_cons (pe_call T.ok_far (hr.mono (by decide)) (by rfl) T.g_far T.k_far T.b_far .nil pass0 (pa_cons (show PE _ _ (tFld K _ _) from pe_fld (pv 0) rfl) (pa_cons (pv 2) (pa_cons (pv 3) pa_nil)))) pa_nil)))) pa_nil)))))))), ?_⟩
    obtain ⟨dx, hh⟩ := N0.me
    refine ⟨_, rfl, h, dx, _, rfl, hh, (by unfold nf; walk_at "lk"), _, rfl, h, dn, db, dl, n, a, _, nx, bf, ls, rfl, N0, W.at_ ha, ?_⟩
    refine ⟨_, rfl, h, dx, _, rfl, hh, (by unfold nf; walk_at "lk"), _, rfl, h, dn, db, dl, n, b, nx, bf, ls, rfl, N0, (by rw [W.at_ hb]; rfl), ?_⟩
    refine ⟨_, rfl, h, _, dx, _, _, rfl, hh, T.cl_Net, T.na_Net_size, nf_size, _, rfl, _, rfl, _, rfl, n, a, b, iN nx a, rfl, n0, _, rfl, ?_⟩
    by_cases hb' : farL n a b < farL n a (iN nx a)
    · refine iteF' (by rw [decide_eq_true hb']; rfl) ?_
      refine ⟨_, rfl, _, rfl, _, rfl, _, rfl, h, _, dx, _, _, rfl, hh, T.cl_Net, T.na_Net_size, nf_size, _, rfl, _, rfl, n, b, iN nx a, rfl, n0, lenL (by show 3 ≤ 100000; decide), fun p np => ?_⟩
      exact ⟨h, dn, db, dl, p, n, b, iN nx a, farL n b (iN nx a), nx, bf, ls, ks, rfl, upd_same, N0.same (same_upd np), W, hb, n0, n9, (far_range _ _ n0).1, fun k H' F s' => q _ H' (by rw [decide_eq_true_iff, ← Fa.first n0 F]; exact ⟨fun h => ⟨hb', h⟩, fun h => h.2⟩) (Same.trans (same_upd np) s')⟩
    · refine iteT' (by rw [decide_eq_false hb']; rfl) ?_
      exact q false H ⟨(fun z => nomatch z), fun z => absurd z.1 hb'⟩ (fun _ _ h => h)
def sp__law_kept (K : PySem.W.Frag) : Sp := fun vs H Q _ => ∃ (dN dT : Addr) (n a b : Int) (nx : List (Key × V)) (ks : List Int), vs = [.int n, .ref dN, .ref dT] ∧ H dN = some (.dK nx) ∧ H dT = some (.dK (putK nx (.inl a) (.int b))) ∧ WN ks nx ∧ ks.length < 64 ∧ ks.Nodup ∧ a ∈ ks ∧ b ∈ ks ∧ FaC n (iN nx) a b ∧ n ≤ 1000000000 ∧
  ∀ r H', (r = true ↔ Fa n (iN nx) a b) → Same H H' → Q (.bl r) H'
theorem T0.ok__law_kept (T : T0 K mg) : FnOk P w K mg base CX0 2 T.a__law_kept T.fd__law_kept ["size", "nexts", "table"] (sp__law_kept K) := by
  refine T.F__law_kept.ok sc__law_kept (fun vs H Q E h => ?_) (fun cdv A outer s0 H vs Q E hr h => ?_)
  · obtain ⟨dN, dT, n, a, b, nx, ks, rfl, _⟩ := h
    rfl
  · obtain ⟨dN, dT, n, a, b, nx, ks, rfl, hN, hT, W, l64, nd, ha, hb, fc, n9, q⟩ := h
    refine ⟨_, (pss_cons (ps_for PassesOwn.never rfl (pi_list (pe_callB (call_sortedDI rfl) (by rfl) T.m_sorted (by decide +kernel) (pa_cons (pv 1) pa_nil))) (pg_name (i := 3) sc__law_kept.nd rfl (Or.inl rfl)) (pss_cons (ps_set (i := 4) sc__law_kept.nd rfl (Or.inl rfl) (pv 3))
        (pss_cons (ps_set (i := 5) sc__law_kept.nd rfl (Or.inl rfl) pe_int)
        (pss_cons (ps_set (i := 6) sc__law_kept.nd rfl (Or.inl rfl) (pv 3))
        (pss_cons (ps_set (i := 7) sc__law_kept.nd rfl (Or.inl rfl) pe_int)
        (pss_one (ps_for PassesOwn.never rfl (pi_range1 (by rfl) T.m_range (pa_cons (pe_op op_mul pe_int (pe_callB call_lenD (by rfl) T.m_len PySem.boot_len (pa_cons (pv 1) pa_nil))) pa_nil)) (pg_name (i := 8) sc__law_kept.nd rfl (Or.inl rfl)) (pss_cons (ps_set (i := 5) sc__law_kept.nd rfl (Or.inl rfl) (pe_op op_add (pv 5) (pe_call T.ok__law_far hr (by rfl) T.g__law_far T.k__law_far T.b__law_far .nil pass0 (pa_cons (pv 0) (pa_cons (pv 4) (pa_cons (pe_dget (un1 hr) (pv 1) (pv 4) (fun _ _ => rfl)) pa_nil))))))
        (pss_cons (ps_set (i := 4) sc__law_kept.nd rfl (Or.inl rfl) (pe_dget (un1 hr) (pv 1) (pv 4) (fun _ _ => rfl)))
        (C8.pss_cut (ps_for PassesOwn.never rfl (pi_range1 (by rfl) T.m_range (pa_cons (pe_callB call_lenD (by rfl) T.m_len PySem.boot_len (pa_cons (pv 2) pa_nil)) pa_nil)) (pg_name (i := 9) sc__law_kept.nd rfl (Or.inl rfl)) (pss_cons (ps_if (pt_cmpR op_ge (pv 7) (pv 5) (nomark _)) (pss_one ps_break) pss_nil)
        (pss_cons (ps_set (i := 7) sc__law_kept.nd rfl (Or.inl rfl) (pe_op op_add (pv 7) (pe_call T.ok__law_far hr (by rfl) T.g__law_far T.k__law_far T.b__law_far .nil pass0 (pa_cons (pv 0) (pa_cons (pv 6) (pa_cons (pe_dget (un1 hr) (pv 2) (pv 6) (fun _ _ => rfl)) pa_nil))))))
        (pss_one (ps_set (i := 6) sc__law_kept.nd rfl (Or.inl rfl) (pe_dget (un1 hr) (pv 2) (pv 6) (fun _ _ => rfl)))))))
        (pss_one (ps_if (PW.pt (pw_or (pt_cmpR op_ne (pv 6) (pv 4) (nomark _)) (pw_or1 (pt_cmpR op_ne (pv 7) (pv 5) (nomark _))))) (pss_one (ps_ret pe_bl)) pss_nil))))))))))))
        (pss_one (ps_ret pe_bl))), ?_⟩
    have n0 := fc.n0
    have ln := W.lenx
    have lw := W.len
    have lT : (putK nx (.inl a) (.int b)).length = ks.length := by
      have := congrArg List.length (GN.put1 W.gn ha hb).1
      rw [List.length_map, List.length_map] at this
      exact this
    have WT : WN ks (putK nx (.inl a) (.int b)) := ⟨GN.put1 W.gn ha hb, lw⟩
    have k1 := List.length_pos_of_mem ha
    refine ⟨_, rfl, dN, nx, ks, rfl, .inl hN, W.gn.1, l64, fun ys l perm pw nl => ?_⟩
    have s1 := same_upd (o := .lst (ys.map V.int)) nl
    have e1 : upd H l (.lst (ys.map V.int)) l = some (.lst (ys.map V.int)) := upd_same
    have hN1 := s1 _ _ hN
    have hT1 := s1 _ _ hT
    generalize upd H l (.lst (ys.map V.int)) = H1 at s1 e1 hN1 hT1
    refine ⟨l, rfl, ⟨_, SqL.of e1⟩, ?_⟩
    refine for_list (K := K) (a := l) (xs := ys.map V.int) (fun i σ' H' => ∃ o3 o4 o5 o6 o7 o8 o9 : Option V, σ' = [some (.int n), some (.ref dN), some (.ref dT), o3, o4, o5, o6, o7, o8, o9] ∧ H' = H1 ∧ (a ∈ ys.take i → Fa n (iN nx) a b))
      ⟨none, none, none, none, none, none, none, rfl, rfl, fun h => by rw [List.take_zero] at h; cases h⟩ (fun i σ' H' _ pv => by obtain ⟨_, _, _, _, _, _, _, _, rfl, _⟩ := pv; exact SqL.of e1) (fun i v σ' H2 hv pv => ?_) (fun σ' H2 pv => ?_)
    · obtain ⟨o3, o4, o5, o6, o7, o8, o9, rfl, rfl, fi⟩ := pv
      have hv' : (ys.map V.int)[i]? = some v := hv
      rw [List.getElem?_map] at hv'
      obtain ⟨y, hyi, rfl⟩ := Option.map_eq_some_iff.mp hv'
      have hy := perm.mem_iff.mp (List.mem_of_getElem? hyi)
      refine ⟨_, rfl, _, rfl, _, rfl, dN, _, rfl, hN1, _, _, rfl, rfl, .inl ⟨by decide, by decide⟩, 2 * (nx.length : Int), rfl, by omega, by omega, ?_⟩
      refine for_range (lo := 0) (n := (2 * (nx.length : Int)).toNat) (fun k σ' H' => ∃ o8 o9 : Option V, σ' = [some (.int n), some (.ref dN), some (.ref dT), some (.int y), some (.int (itr (iN nx) y k)), some (.int (wl n (iN nx) y k)), some (.int (itr (iN nx) y k)), some (.int (wl n (iN nx) y k)), o8, o9] ∧ H' = H2 ∧ (0 < k → y = a → Fa n (iN nx) a b)) ⟨_, _, rfl, rfl, fun h => absurd h (by omega)⟩ (fun k σ' H' hk pv => ?_) (fun σ' H' pv => ?_)
      · obtain ⟨o8, o9, rfl, rfl, fk⟩ := pv
        have mk := itr_mem W.cl hy k
        refine ⟨_, rfl, _, rfl, _, rfl, _, rfl, _, rfl, dN, _, rfl, dget_of (k := Sum.inl _) hN1 (W.at_ mk), n, _, _, rfl, n0, _, _, rfl, rfl, ?_⟩
        refine ⟨_, rfl, _, rfl, dN, _, rfl, dget_of (k := Sum.inl _) hN1 (W.at_ mk), ?_⟩
        refine ⟨fun σ' H'' => ∃ (J : Nat) (o8 o9 : Option V), σ' = [some (.int n), some (.ref dN), some (.ref dT), some (.int y), some (.int (itr (iN nx) y (k + 1))), some (.int (wl n (iN nx) y (k + 1))), some (.int (itr (chg (iN nx) a b) (itr (iN nx) y k) J)), some (.int (wl n (iN nx) y k + wl n (chg (iN nx) a b) (itr (iN nx) y k) J)), o8, o9] ∧ H'' = H' ∧
          (∀ i, i < J → wl n (chg (iN nx) a b) (itr (iN nx) y k) i < farL n (itr (iN nx) y k) (iN nx (itr (iN nx) y k))) ∧ (J = ks.length ∨ farL n (itr (iN nx) y k) (iN nx (itr (iN nx) y k)) ≤ wl n (chg (iN nx) a b) (itr (iN nx) y k) J), ?_, ?_⟩
        · refine ⟨_, rfl, dT, _, rfl, hT1, _, rfl, by omega, by omega, ?_⟩
          refine for_range (lo := 0) (n := ((putK nx (.inl a) (.int b)).length : Int).toNat) (fun J σ' H'' => ∃ (o9 : Option V), σ' = [some (.int n), some (.ref dN), some (.ref dT), some (.int y), some (.int (itr (iN nx) y (k + 1))), some (.int (wl n (iN nx) y (k + 1))), some (.int (itr (chg (iN nx) a b) (itr (iN nx) y k) J)), some (.int (wl n (iN nx) y k + wl n (chg (iN nx) a b) (itr (iN nx) y k) J)), some (.int (0 + (k : Int))), o9] ∧ H'' = H' ∧
            (∀ i, i < J → wl n (chg (iN nx) a b) (itr (iN nx) y k) i < farL n (itr (iN nx) y k) (iN nx (itr (iN nx) y k)))) ⟨_, congrArg (fun z => [some (V.int n), some (.ref dN), some (.ref dT), some (.int y), some (.int (itr (iN nx) y (k + 1))), some (.int (wl n (iN nx) y (k + 1))), some (.int (itr (iN nx) y k)), some (V.int z), some (.int (0 + (k : Int))), o9]) (Int.add_zero (wl n (iN nx) y k)).symm, rfl, fun i h => absurd h (by omega)⟩ (fun J σ' H'' hJ pv => ?_) (fun σ' H'' pv => ?_)
          · obtain ⟨o9', rfl, rfl, fJ⟩ := pv
            have tl : wl n (iN nx) y (k + 1) = wl n (iN nx) y k + farL n (itr (iN nx) y k) (iN nx (itr (iN nx) y k)) := rfl
            refine ⟨_, rfl, _, rfl, _, _, rfl, rfl, _, rfl, ite2 (fun c => ?_) (fun c => ?_)⟩
            · have c : wl n (iN nx) y (k + 1) ≤ wl n (iN nx) y k + wl n (chg (iN nx) a b) (itr (iN nx) y k) J := of_decide_eq_true c
              exact ⟨J, _, _, rfl, rfl, fJ, .inr (by omega)⟩
            · have c : ¬ wl n (iN nx) y (k + 1) ≤ wl n (iN nx) y k + wl n (chg (iN nx) a b) (itr (iN nx) y k) J := fun z => c (decide_eq_true z)
              have mJ : itr (chg (iN nx) a b) (itr (iN nx) y k) J ∈ ks := by
                have := itr_mem (f := iN (putK nx (.inl a) (.int b))) WT.cl mk J
                rw [iN_put] at this
                exact this
              have vJ := WT.at_ mJ
              rw [iN_put] at vJ
              refine ⟨_, rfl, _, rfl, _, rfl, _, rfl, _, rfl, dT, _, rfl, dget_of (k := Sum.inl _) hT1 vJ, n, _, _, rfl, n0, _, _, rfl, rfl, ?_⟩
              refine ⟨_, rfl, _, rfl, dT, _, rfl, dget_of (k := Sum.inl _) hT1 vJ, _, congrArg (fun z => [some (V.int n), some (.ref dN), some (.ref dT), some (.int y), some (.int (itr (iN nx) y (k + 1))), some (.int (wl n (iN nx) y (k + 1))), some (.int (itr (chg (iN nx) a b) (itr (iN nx) y k) (J + 1))), some (V.int z), some (.int (0 + (k : Int))), some (.int (0 + (J : Int)))]) (Int.add_assoc _ _ _), rfl, fun i hi => ?_⟩
              by_cases e : i = J
              · rw [e]; omega
              · exact fJ i (by omega)
          · obtain ⟨o9', rfl, rfl, fJ⟩ := pv
            refine ⟨_, _, _, rfl, rfl, fJ, .inl ?_⟩
            rw [Int.toNat_natCast, lT]
        rintro _ H'' ⟨J, o8', o9', rfl, rfl, fJ, fin⟩
        have tl : wl n (iN nx) y (k + 1) = wl n (iN nx) y k + farL n (itr (iN nx) y k) (iN nx (itr (iN nx) y k)) := rfl
        have no : (¬ (itr (chg (iN nx) a b) (itr (iN nx) y k) J = itr (iN nx) y (k + 1) ∧ wl n (iN nx) y k + wl n (chg (iN nx) a b) (itr (iN nx) y k) J = wl n (iN nx) y (k + 1))) → ¬ Fa n (iN nx) a b := fun ng F => ng (by
          obtain ⟨J0, h1, h2⟩ := fc.step F (itr (iN nx) y k)
          have rd := wl_round (f := iN (putK nx (.inl a) (.int b))) n0 WT.cl mk
          rw [iN_put] at rd
          have fr := (far_range (itr (iN nx) y k) (iN nx (itr (iN nx) y k)) n0).2
          have : J = J0 := by
            rcases Nat.lt_trichotomy J J0 with z | z | z
            · have w := wl_lt (f := chg (iN nx) a b) (s := itr (iN nx) y k) n0 z
              rcases fin with rfl | fin
              · omega
              · omega
            · exact z
            · have := fJ J0 z
              omega
          subst this
          exact ⟨h1, by omega⟩)
        refine ⟨_, rfl, _, rfl, rfl, _, rfl, ite2 (fun c => ?_) (fun c => ?_)⟩
        · refine q false H'' ⟨(fun z => nomatch z), fun F => absurd F (no fun z => ?_)⟩ s1
          rw [z.1, decide_eq_true rfl] at c
          cases c
        · have c1 : itr (chg (iN nx) a b) (itr (iN nx) y k) J = itr (iN nx) y (k + 1) := Decidable.byContradiction fun z => c (by rw [decide_eq_false (fun w => z (V.int.inj w))]; rfl)
          refine ⟨_, rfl, _, rfl, rfl, _, rfl, ite2 (fun c2 => ?_) (fun c2 => ?_)⟩
          · refine q false H'' ⟨(fun z => nomatch z), fun F => absurd F (no fun z => ?_)⟩ s1
            rw [z.2, decide_eq_true rfl] at c2
            cases c2
          · have c3 : wl n (iN nx) y k + wl n (chg (iN nx) a b) (itr (iN nx) y k) J = wl n (iN nx) y (k + 1) := Decidable.byContradiction fun z => c2 (by rw [decide_eq_false (fun w => z (V.int.inj w))]; rfl)
            rw [c1, c3]
            refine ⟨_, _, rfl, rfl, fun _ ey => ?_⟩
            by_cases k0 : k = 0
            · subst k0
              subst ey
              refine fc.back c1 ?_
              have z0 : wl n (iN nx) y 0 = 0 := rfl
              rw [z0] at c3 tl
              have : wl n (chg (iN nx) y b) y J = farL n y (iN nx y) := by
                have c3 : 0 + wl n (chg (iN nx) y b) y J = wl n (iN nx) y (0 + 1) := c3
                have tl : wl n (iN nx) y (0 + 1) = 0 + farL n y (iN nx y) := tl
                omega
              exact this
            · exact fk (by omega) ey
      · obtain ⟨o8, o9, rfl, rfl, fk⟩ := pv
        refine ⟨_, _, _, _, _, _, _, rfl, rfl, fun ha' => ?_⟩
        rw [List.take_add_one, hyi] at ha'
        rcases List.mem_append.mp ha' with h | h
        · exact fi h
        · have h : a ∈ [y] := h
          exact fk (by omega) (List.mem_singleton.mp h).symm
    · obtain ⟨o3, o4, o5, o6, o7, o8, o9, rfl, rfl, fi⟩ := pv
      rw [List.length_map, List.take_length] at fi
      exact q true H2 ⟨fun _ => fi (perm.mem_iff.mpr ha), fun _ => rfl⟩ s1

--CUT
def sp__law_held (K : PySem.W.Frag) (CN : Addr) : Sp := fun vs H Q _ => ∃ (t c : Addr) (A : Bd) (n a b : Int) (S : Ws) (kp : Bool), vs = [.ref A.h, .int n, .ref A.dN, .int a, .int b, .bl kp] ∧ NJ CN t c A n S H ∧ a ∈ S.ks ∧ b ∈ S.ks ∧ n ≤ 1000000000 ∧ S.ls.length ≤ 900 ∧ FaC n (iN S.nx) a b ∧ (kp = true ↔ Fa n (iN S.nx) a b) ∧ ∀ H', Same H H' → Q (.bl true) H'
theorem T0.ok__law_held (T : T0 K mg) : FnOk P w K mg base CX0 7 T.a__law_held T.fd__law_held ["net", "size", "nexts", "house", "target", "kept"] (sp__law_held K T.C_Net) := by
  refine T.F__law_held.ok sc__law_held (fun vs H Q E h => ?_) (fun cdv A0 outer s0 H vs Q E hr h => ?_)
  · obtain ⟨t, c, A, n, a, b, S, kp, rfl, _⟩ := h
    rfl
  · obtain ⟨t, c, A, n, a, b, S, kp, rfl, I, ha, hb, n9, ll, fc, ik, q⟩ := h
    have l41 := I.lks
    have W : WN S.ks S.nx := ⟨I.gn, by omega⟩
    have ln := W.lenx
    refine ⟨_, (pss_cons (ps_set (i := 6) sc__law_held.nd rfl (Or.inl rfl) (pe_meth0 (pv 0) T.cl_Net T.me_Net__clone T.ok_Net__clone (hr.mono (by decide)) T.b_Net__clone .nil pass0))
        (pss_cons (ps_set (i := 7) sc__law_held.nd rfl (Or.inl rfl) (pe_dget (un1 hr) (pv 2) (pv 3) (fun _ _ => rfl)))
        (pss_cons (ps_set (i := 8) sc__law_held.nd rfl (Or.inl rfl) (pe_callTy call_dictD (by rfl) T.m_dict (by decide +kernel) (pa_cons (pv 2) pa_nil)))
        (pss_cons (ps_asg (pv 4) (pg_sub (pv 8) (pv 3) (set_dict (un1 hr))))
        (pss_cons (ps_if (pt_not (pt_val (pe_call (T.ok__law_same 5) (hr.mono (by decide)) (by rfl) T.g__law_same T.k__law_same T.b__law_same .nil pass0 (pa_cons (pe_meth (pv 6) T.cl_Net T.me_Net__hold T.ok_Net__hold (hr.mono (by decide)) T.b_Net__hold .nil pass0 (pa_cons (pv 3) (pa_cons (pv 4) pa_nil))) (pa_cons (pv 7) pa_nil))))) (pss_one (ps_ret pe_bl)) pss_nil)
        (pss_cons (ps_if (pt_not (pt_val (pe_call (T.ok__law_same 5) (hr.mono (by decide)) (by rfl) T.g__law_same T.k__law_same T.b__law_same .nil pass0 (pa_cons (pe_meth0 (pv 6) T.cl_Net T.me_Net__nexts T.ok_Net__nexts (hr.mono (by decide)) T.b_Net__nexts .nil pass0) (pa_cons (pe_call T.ok__law_ordered (hr.mono (by decide)) (by rfl) T.g__law_ordered T.k__law_ordered T.b__law_ordered .nil pass0 (pa_cons (pv 8) pa_nil)) pa_nil))))) (pss_one (ps_ret pe_bl)) pss_nil)
        (pss_cons (ps_set (i := 9) sc__law_held.nd rfl (Or.inl rfl) (pe_tup (pa_cons (pv 3) (pa_cons (pv 7) (pa_cons (pe_call T.ok__law_far (hr.mono (by decide)) (by rfl) T.g__law_far T.k__law_far T.b__law_far .nil pass0 (pa_cons (pv 1) (pa_cons (pv 3) (pa_cons (pv 7) pa_nil)))) pa_nil)))))
        (pss_one (ps_ret (pe_call (T.ok__law_same 5) (hr.mono (by decide)) (by rfl) T.g__law_same T.k__law_same T.b__law_same .nil pass0 (pa_cons (pe_call T.ok_holds_true (hr.mono (by decide)) (by rfl) T.g_holds_true T.k_holds_true T.b_holds_true .nil pass0 (pa_cons (pv 6) (pa_cons (pv 9) pa_nil))) (pa_cons (pv 5) pa_nil)))))))))))), ?_⟩
    obtain ⟨dx, hh⟩ := I.net.me
    refine ⟨_, rfl, A.h, dx, _, rfl, hh, (by unfold nf; walk_at "lk"), A.h, A.dn, A.db, A.dl, n, S.nx, S.bf, S.bs, S.ls, S.ks, rfl, I.net, by omega, I.nd, I.rng, I.gn, I.vf, I.gb, by omega, fun v hv => ?_, fun H1 h' dn' db' dl' bf' N1 s1 nh ndn ndb ndl nbn vF lbf => ?_⟩
    · obtain ⟨i, hi⟩ := List.mem_iff_getElem?.mp hv
      have hl : i < S.ls.length := (List.getElem?_eq_some_iff.mp hi).1
      obtain ⟨_, _, e1, e2, p, qa, L, rfl, rfl, ep, eq, hL⟩ := I.lets.get (by rw [I.lets.1]; exact hl : i < S.ps.length)
      rw [hi] at e2
      cases e2
      exact ⟨qa, L, rfl, eq, hL⟩
    have I1 := I.same s1
    refine ⟨_, rfl, _, rfl, A.dN, _, rfl, dget_of (k := Sum.inl _) I1.hN (W.at_ ha), ?_⟩
    refine ⟨_, rfl, A.dN, S.nx, rfl, .inl I1.hN, fun dT ndT => ?_⟩
    have s2 := same_upd (o := .dK S.nx) ndT
    have e2 : upd H1 dT (.dK S.nx) dT = some (.dK S.nx) := upd_same
    have nT : ∀ {x o}, H1 x = some o → x ≠ dT := fun e => ne_of_none e ndT
    have N2 := N1.same s2
    generalize upd H1 dT (.dK S.nx) = H2 at s2 e2 N2
    refine ⟨_, rfl, _, rfl, _, rfl, dT, _, rfl, DPut.k (k := Sum.inl a) e2 (small1000' (by omega)), ?_⟩
    have ndT0 : H dT = none := none_back s1 ndT
    have s3 : Same H (upd H2 dT (.dK (putK S.nx (.inl a) (.int b)))) := fun x o e => (upd_ne (ne_of_none e ndT0)).trans (s2 _ _ (s1 _ _ e))
    have e3 : upd H2 dT (.dK (putK S.nx (.inl a) (.int b))) dT = some (.dK (putK S.nx (.inl a) (.int b))) := upd_same
    have N3 : NetAt T.C_Net (upd H2 dT (.dK (putK S.nx (.inl a) (.int b)))) h' n dn' db' dl' S.nx bf' S.ls := ⟨let ⟨d, e⟩ := N1.me; ⟨d, (upd_ne (nT e)).trans (s2 _ _ e)⟩, (upd_ne (nT N1.hn)).trans N2.hn, (upd_ne (nT N1.hb)).trans N2.hb, (upd_ne (nT N1.hl)).trans N2.hl⟩
    generalize upd H2 dT (.dK (putK S.nx (.inl a) (.int b))) = H3 at s3 e3 N3
    have nTn : dT ≠ dn' := fun z => nT N1.hn z.symm
    obtain ⟨dx3, hh3⟩ := N3.me
    refine ⟨_, rfl, h', dx3, _, rfl, hh3, (by unfold nf; walk_at "lk"), _, rfl, _, rfl, h', dn', db', dl', n, a, b, _, S.nx, bf', S.ls, rfl, N3, W.at_ ha, (by rw [W.at_ hb]; rfl), by omega, ?_⟩
    have N4 := N3.setn (nx' := putK S.nx (.inl a) (.int b)) nbn
    have s4 : Same H (upd H3 dn' (.dK (putK S.nx (.inl a) (.int b)))) := fun x o e => (upd_ne (ne_of_none e ndn)).trans (s3 _ _ e)
    have e4 : upd H3 dn' (.dK (putK S.nx (.inl a) (.int b))) dT = some (.dK (putK S.nx (.inl a) (.int b))) := (upd_ne nTn).trans e3
    generalize upd H3 dn' (.dK (putK S.nx (.inl a) (.int b))) = H4 at N4 s4 e4
    refine ⟨_, rfl, _, _, rfl, .atom rfl, fun H5 s5 => ⟨true, rfl, iteF ?_⟩⟩
    have gT := GN.put1 I.gn ha hb
    have N5 := N4.same s5
    obtain ⟨dx5, hh5⟩ := N5.me
    refine ⟨_, rfl, h', dx5, _, rfl, hh5, (by unfold nf; walk_at "lk"), h', dn', db', dl', n, _, bf', S.ls, S.ks, gV (putK S.nx (.inl a) (.int b)), rfl, N5, gT.1, by omega, I.nd, fun k hk => ?_, fun zs pz H6 permz pwz s6 npz epz => ?_⟩
    · obtain ⟨x, _, ex⟩ := gT.2 k hk
      rw [gV_of ex, ex]
    have e6 := s6 _ _ (s5 _ _ e4)
    have s36 : Same H H6 := Same.trans s4 (Same.trans s5 s6)
    refine ⟨_, rfl, dT, putK S.nx (.inl a) (.int b), S.ks, rfl, e6, gT.1, I.nd, by omega, fun j hj => ?_, fun p ys H7 permy pwy s7 npy epy => ?_⟩
    · obtain ⟨x, _, ex⟩ := gT.2 j hj
      exact ⟨x, ex⟩
    have zy : zs = ys := perm_sorted_eq (permz.trans permy.symm) pwz pwy
    subst zy
    have lz := permz.length_eq
    refine ⟨_, _, rfl, dic_same (s7 _ _ epz) epy (by rw [List.length_map]; omega) (fun kv hkv => ?_), fun H8 s8 => ⟨true, rfl, iteF ?_⟩⟩
    · obtain ⟨k, hk, rfl⟩ := List.mem_map.mp hkv
      obtain ⟨x, _, ex⟩ := gT.2 k (permz.mem_iff.mp hk)
      show atomV (gV (putK S.nx (.inl a) (.int b)) k) = true
      rw [gV_of ex]
      rfl
    have s58 := Same.trans s6 (Same.trans s7 s8)
    have N8 := N5.same s58
    have s08 : Same H H8 := Same.trans s4 (Same.trans s5 s58)
    refine ⟨_, rfl, _, rfl, _, rfl, _, rfl, _, rfl, n, a, _, rfl, I.n0, lenL (by show 3 ≤ 100000; decide), fun p np => ?_⟩
    have s9 := same_upd (o := .tup [.int a, .int (iN S.nx a), .int (farL n a (iN S.nx a))]) np
    have e9 : upd H8 p (.tup [.int a, .int (iN S.nx a), .int (farL n a (iN S.nx a))]) p = some (.tup [.int a, .int (iN S.nx a), .int (farL n a (iN S.nx a))]) := upd_same
    generalize upd H8 p (.tup [.int a, .int (iN S.nx a), .int (farL n a (iN S.nx a))]) = H9 at s9 e9
    refine ⟨_, rfl, _, rfl, h', dn', db', dl', p, n, a, _, _, _, bf', S.ls, S.ks, rfl, e9, N8.same s9, ⟨gT, by omega⟩, ha, I.n0, n9, (far_range _ _ I.n0).1, fun k H10 F s10 => ?_⟩
    rw [iN_put] at F ⊢
    have eq : decide (itr (chg (iN S.nx) a b) a k = iN S.nx a ∧ wl n (chg (iN S.nx) a b) a k = farL n a (iN S.nx a)) = kp := by
      refine Bool.eq_iff_iff.mpr ?_
      rw [decide_eq_true_iff, ik]
      refine ⟨fun z => fc.back z.1 z.2, fun z => ?_⟩
      obtain ⟨J, _, h1, h2⟩ := fc.path z
      have FJ : FirstAt n (chg (iN S.nx) a b) a (farL n a (iN S.nx a)) J := ⟨by omega, fun i hi => by rw [← h2]; exact wl_lt I.n0 hi⟩
      rw [F.uniq I.n0 FJ]
      exact ⟨h1, h2⟩
    rw [eq]
    exact ⟨_, rfl, _, _, rfl, .atom rfl, fun H11 s11 => q H11 (Same.trans s08 (Same.trans s9 (Same.trans s10 s11)))⟩
/-! ### each house held once exactly where nothing is faithful -/
theorem eqvAll_ints : ∀ ns ms : List Int, PyData.eqvAll (ns.map PyData.int) (ms.map PyData.int) = decide (ns = ms)
  | [], [] => by rw [List.map_nil, PyData.eqvAll]; rfl
  | [], m :: ms => by rw [List.map_nil, List.map_cons, PyData.eqvAll]; rfl
  | n :: ns, [] => by rw [List.map_nil, List.map_cons, PyData.eqvAll]; rfl
  | n :: ns, m :: ms => by
    rw [List.map_cons, List.map_cons, PyData.eqvAll, eqvAll_ints ns ms, PyData.eqv]
    by_cases h1 : n = m <;> by_cases h2 : ns = ms <;> simp [h1, h2]
theorem perm_sub : ∀ {l ks : List Int}, l.Nodup → (∀ x ∈ l, x ∈ ks) → ks.length ≤ l.length → l.Perm ks
  | [], ks, _, _, h => by
    have : ks = [] := List.eq_nil_of_length_eq_zero (by rw [List.length_nil] at h; omega)
    rw [this]
  | a :: r, ks, h, hs, hl => by
    obtain ⟨h1, h2⟩ := List.nodup_cons.mp h
    have ha := hs a List.mem_cons_self
    have := perm_sub (l := r) (ks := ks.erase a) h2 (fun x hx => (List.mem_erase_of_ne (fun e => h1 (by rw [← e]; exact hx))).mpr (hs x (List.mem_cons_of_mem _ hx))) (by
      rw [List.length_erase_of_mem ha]
      rw [List.length_cons] at hl
      omega)
    exact (List.Perm.cons a this).trans (List.perm_cons_erase ha).symm
def PF (n : Int) (f : Int → Int) (a b : Int) : Prop := Btw n a b (f a) ∧ Fa n f a b
theorem once_iff {n : Int} {f : Int → Int} {ks zs ys : List Int} (n0 : 0 < n) (nd : ks.Nodup) (rg : ∀ k ∈ ks, 0 ≤ k ∧ k < n) (cl : ∀ k ∈ ks, f k ∈ ks) (pz : zs.Perm (ks.map f)) (wz : zs.Pairwise (· ≤ ·)) (py : ys.Perm ks) (wy : ys.Pairwise (· ≤ ·)) : zs = ys ↔ ∀ x ∈ ks, ∀ y ∈ ks, ¬ PF n f x y := by
  constructor
  · intro e a ha b hb P
    have pm : (ks.map f).Perm ks := (pz.symm.trans (by rw [e])).trans py
    have ndm := pm.nodup_iff.mpr nd
    have inj : ∀ x ∈ ks, ∀ y ∈ ks, f x = f y → x = y := fun x hx y hy e => by
      refine Decidable.byContradiction fun ne => ?_
      obtain ⟨i, hi⟩ := List.mem_iff_getElem?.mp hx
      obtain ⟨j, hj⟩ := List.mem_iff_getElem?.mp hy
      obtain ⟨li, ei⟩ := List.getElem?_eq_some_iff.mp hi
      obtain ⟨lj, ej⟩ := List.getElem?_eq_some_iff.mp hj
      have l1 : i < (ks.map f).length := by rw [List.length_map]; exact li
      have l2 : j < (ks.map f).length := by rw [List.length_map]; exact lj
      have := (List.getElem_inj (h₀ := l1) (h₁ := l2) ndm).mp (by rw [List.getElem_map, List.getElem_map, ei, ej, e])
      subst this
      exact ne (ei.symm.trans ej)
    obtain ⟨a0, a1⟩ := rg a ha
    obtain ⟨b0, b1⟩ := rg b hb
    obtain ⟨y0, y1⟩ := rg _ (cl a ha)
    obtain ⟨h1, h2⟩ := P.1.sum n0 a0 a1 b0 b1 y0 y1
    exact Fa.no ⟨n0, h1, h2⟩ (fun _ _ => trivial) (fun i e => inj _ (itr_mem cl hb i) _ ha e) P.2
  · intro no
    have inj : ∀ x ∈ ks, ∀ y ∈ ks, f x = f y → x = y := fun x hx y hy e => by
      refine Decidable.byContradiction fun ne => ?_
      obtain ⟨a0, a1⟩ := rg x hx
      obtain ⟨b0, b1⟩ := rg y hy
      obtain ⟨y0, y1⟩ := rg _ (cl x hx)
      have h1 := far_lin' x y n0 a0 a1 b0 b1
      have h1' := far_lin' y x n0 b0 b1 a0 a1
      have h2 := far_lin' x (f x) n0 a0 a1 y0 y1
      have h3 := far_lin' y (f x) n0 b0 b1 y0 y1
      by_cases c : farL n y (f x) < farL n x (f x)
      · exact no x hx y hy ⟨show farL n x y < farL n x (f x) by omega, Fa.yes e.symm⟩
      · refine no y hy x hx ⟨show farL n y x < farL n y (f y) by rw [← e]; omega, Fa.yes e⟩
    have ndm : (ks.map f).Nodup := by
      refine List.pairwise_map.mpr ?_
      exact List.Pairwise.imp_of_mem (fun {x y} hx hy ne e => ne (inj x hx y hy e)) nd
    have pm : (ks.map f).Perm ks := perm_sub ndm (fun x hx => by
      obtain ⟨k, hk, rfl⟩ := List.mem_map.mp hx
      exact cl k hk) (by rw [List.length_map]; exact Nat.le_refl _)
    exact perm_sorted_eq ((pz.trans pm).trans py.symm) wz wy
--CUT
def sp_law (K : PySem.W.Frag) : Sp := fun vs H Q _ => ∃ (a : Addr) (ns : List Int), vs = [.ref a] ∧ SqL K H a (ns.map V.int) ∧ ns.length ≤ 63 ∧ ∀ H', Q (.bl true) H'
theorem T0.ok_law (T : T0 K mg) : FnOk P w K mg base CX0 8 T.a_law T.fd_law ["script"] (sp_law K) := by
  refine T.F_law.ok sc_law (fun vs H Q E h => ?_) (fun cdv A' outer s H vs Q E hr h => ?_)
  · obtain ⟨a, ns, rfl, _⟩ := h
    rfl
  · obtain ⟨a, ns, rfl, hS, hlen, q⟩ := h
    refine ⟨_, (pss_cons (ps_set (i := 1) sc_law.nd rfl (Or.inr rfl) (pe_call T.ok__law_tape (hr.mono (by decide)) (by rfl) T.g__law_tape T.k__law_tape T.b__law_tape .nil pass0 (pa_cons (pv 0) pa_nil)))
        (pss_cons (ps_set (i := 2) sc_law.nd rfl (Or.inl rfl) (pe_call T.ok__law_pick (hr.mono (by decide)) (by rfl) T.g__law_pick T.k__law_pick T.b__law_pick .nil pass0 (pa_cons (pv 1) (pa_cons pe_int pa_nil))))
        (pss_cons (ps_set (i := 3) sc_law.nd rfl (Or.inl rfl) (pe_op op_add pe_int (pe_op op_modN (pe_callTy call_int1 (by rfl) T.m_int (by decide +kernel) (pa_cons (pv 2) pa_nil)) pe_int)))
        (pss_cons (ps_set (i := 4) sc_law.nd rfl (Or.inl rfl) (pe_call T.ok__law_size (hr.mono (by decide)) (by rfl) T.g__law_size T.k__law_size T.b__law_size .nil pass0 (pa_cons (pv 1) (pa_cons (pv 3) pa_nil))))
        (pss_cons (ps_set (i := 5) sc_law.nd rfl (Or.inr rfl) (pe_call T.ok__law_places (hr.mono (by decide)) (by rfl) T.g__law_places T.k__law_places T.b__law_places .nil pass0 (pa_cons (pv 1) (pa_cons (pv 4) (pa_cons (pv 3) pa_nil)))))
        (C8.pss_cut (ps_if (pt_cmpR op_lt (pv 2) pe_int (nomark _)) (pss_one (ps_set (i := 5) sc_law.nd rfl (Or.inr rfl) (pe_callB (cr_sortedK (K := K)) (by rfl) T.m_sorted (by decide +kernel) (pa_cons (pv 5) pa_nil)))) pss_nil)
        (pss_cons (ps_set (i := 6) sc_law.nd rfl (Or.inl rfl) (pe_call T.ok__law_nexts (hr.mono (by decide)) (by rfl) T.g__law_nexts T.k__law_nexts T.b__law_nexts .nil pass0 (pa_cons (pv 1) (pa_cons (pv 5) pa_nil))))
        (pss_cons (ps_set (i := 7) sc_law.nd rfl (Or.inl rfl) (pe_call T.ok__law_behinds (hr.mono (by decide)) (by rfl) T.g__law_behinds T.k__law_behinds T.b__law_behinds .nil pass0 (pa_cons (pv 1) (pa_cons (pv 5) pa_nil))))
        (pss_cons (ps_setLc (i := 8) (own := [("k", 15)]) (g := gName 15) (by rfl) sc_law.nd rfl rfl (sw_true rfl rfl rfl (by decide +kernel)) (pi_range1 (by rfl) T.m_range (pa_cons (pe_call T.ok__law_pick (hr.mono (by decide)) (by rfl) T.g__law_pick T.k__law_pick T.b__law_pick .nil pass0 (pa_cons (pv 1) (pa_cons pe_int pa_nil))) pa_nil)) (blkOk_by (own := [("k", 15)]) (N := ["script", "tape", "mode", "count", "size", "places", "nexts", "behinds", "post", "net", "left", "house", "target", "kept", "table", "k"]) (sc := defScope s_law) (by decide +kernel)) (fun _ _ _ _ _ => pg_name (i := 15) sc_law.nd rfl (Or.inl rfl)) (fun _ _ _ _ _ => pts_nil) (fun _ _ _ _ _ => (pe_call T.ok__law_letter (hr.mono (by decide)) (by rfl) T.g__law_letter T.k__law_letter T.b__law_letter .nil pass0 (pa_cons (pv 1) (pa_cons (pv 5) pa_nil)))))
        (pss_cons (ps_set (i := 9) sc_law.nd rfl (Or.inl rfl) (pe_makeK T.mk_Net T.ok_Net__init (hr.mono (by decide)) (by rfl) T.mc_Net T.kb_Net__init pass0 (pa_cons (pv 4) (pa_cons (pe_callTy call_dictD (by rfl) T.m_dict (by decide +kernel) (pa_cons (pv 6) pa_nil)) pa_nil)) (pk_cons (pe_callTy call_dictD (by rfl) T.m_dict (by decide +kernel) (pa_cons (pv 7) pa_nil)) (pk_cons (pe_callTy (call_list_ofK (K := K)) (by rfl) T.m_list (by decide +kernel) (pa_cons (pv 8) pa_nil)) pk_nil))))
        (pss_cons (ps_set (i := 10) sc_law.nd rfl (Or.inl rfl) pe_int)
        (pss_cons (ps_for PassesOwn.never rfl (pi_list (pe_callB (call_sortedDI rfl) (by rfl) T.m_sorted (by decide +kernel) (pa_cons (pv 6) pa_nil))) (pg_name (i := 11) sc_law.nd rfl (Or.inl rfl)) (pss_one (ps_for PassesOwn.never rfl (pi_list (pe_callB (call_sortedDI rfl) (by rfl) T.m_sorted (by decide +kernel) (pa_cons (pv 6) pa_nil))) (pg_name (i := 12) sc_law.nd rfl (Or.inl rfl)) (pss_cons (ps_set (i := 13) sc_law.nd rfl (Or.inl rfl) pe_bl)
        (C8.pss_cut (ps_if (pt_val (pe_call T.ok__law_between (hr.mono (by decide)) (by rfl) T.g__law_between T.k__law_between T.b__law_between .nil pass0 (pa_cons (pv 4) (pa_cons (pv 11) (pa_cons (pv 12) (pa_cons (pe_dget (un1 hr) (pv 6) (pv 11) (fun _ _ => rfl)) pa_nil)))))) (pss_cons (ps_set (i := 14) sc_law.nd rfl (Or.inl rfl) (pe_callTy call_dictD (by rfl) T.m_dict (by decide +kernel) (pa_cons (pv 6) pa_nil)))
        (pss_cons (ps_asg (pv 12) (pg_sub (pv 14) (pv 11) (set_dict (un1 hr))))
        (pss_cons (ps_set (i := 13) sc_law.nd rfl (Or.inl rfl) (pe_call T.ok__law_kept (hr.mono (by decide)) (by rfl) T.g__law_kept T.k__law_kept T.b__law_kept .nil pass0 (pa_cons (pv 4) (pa_cons (pv 6) (pa_cons (pv 14) pa_nil)))))
        (pss_one (ps_if (pt_not (pt_val (pe_call T.ok__law_held hr (by rfl) T.g__law_held T.k__law_held T.b__law_held .nil pass0 (pa_cons (pv 9) (pa_cons (pv 4) (pa_cons (pv 6) (pa_cons (pv 11) (pa_cons (pv 12) (pa_cons (pv 13) pa_nil))))))))) (pss_one (ps_ret pe_bl)) pss_nil))))) pss_nil)
        (pss_cons (ps_if (pt_not (pt_val (pe_call (T.ok__law_same 1) (hr.mono (by decide)) (by rfl) T.g__law_same T.k__law_same T.b__law_same .nil pass0 (pa_cons (pe_call T.ok_is_faithful (hr.mono (by decide)) (by rfl) T.g_is_faithful T.k_is_faithful T.b_is_faithful .nil pass0 (pa_cons (pv 9) (pa_cons (pv 11) (pa_cons (pv 12) pa_nil)))) (pa_cons (pv 13) pa_nil))))) (pss_one (ps_ret pe_bl)) pss_nil)
        (pss_one (ps_set (i := 10) sc_law.nd rfl (Or.inl rfl) (pe_op op_add (pv 10) (pe_callTy call_int1 (by rfl) T.m_int (by decide +kernel) (pa_cons (pv 13) pa_nil)))))))))))
        (pss_cons (ps_if (pt_not (pt_val (pe_call (T.ok__law_same 1) (hr.mono (by decide)) (by rfl) T.g__law_same T.k__law_same T.b__law_same .nil pass0 (pa_cons (pe_call T.ok_each_held_once (hr.mono (by decide)) (by rfl) T.g_each_held_once T.k_each_held_once T.b_each_held_once .nil pass0 (pa_cons (pv 9) pa_nil)) (pa_cons (pe_cmpR op_eq (pv 10) pe_int (nomark _)) pa_nil))))) (pss_one (ps_ret pe_bl)) pss_nil)
        (pss_one (ps_ret (pe_call T.ok__law_stands (hr.mono (by decide)) (by rfl) T.g__law_stands T.k__law_stands T.b__law_stands .nil pass0 (pa_cons (pv 9) (pa_cons (pv 6) (pa_cons (pv 7) (pa_cons (pv 8) pa_nil)))))))))))))))))))), ?_⟩
    refine ⟨_, rfl, a, ns, rfl, hS, by omega, fun H1 t c sm nt T1 => ?_⟩
    refine ⟨_, rfl, t, c, 18, rfl, T1, by decide, by decide, fun mo H2 mo0 mo1 k2 T2 => ?_⟩
    refine ⟨_, rfl, .inl ⟨_, rfl, _, _, rfl, rfl, (by show (6 : Int) ≠ 0; decide), _, _, rfl, rfl, ?_⟩⟩
    have cm := fmod_range mo (n := 6) (by decide)
    obtain ⟨co, hco, c0, c1⟩ : ∃ co : Int, 1 + mo.fmod 6 = co ∧ 1 ≤ co ∧ co ≤ 6 := ⟨_, rfl, by omega, by omega⟩
    refine ⟨_, rfl, _, rfl, t, c, co, (by rw [← hco]; rfl), T2, by omega, fun n H4 n0 n1 n2 k4 T4 => ?_⟩
    refine ⟨_, rfl, _, rfl, _, rfl, t, c, n, co, (by rw [← hco]; rfl), T4, by omega, by omega, by omega, n2, fun pl0 ms0 H5 npl hpl0 lms0 mnd0 mrg0 k5 T5 => ?_⟩
    refine ⟨fun σ' H' => ∃ (pl : Addr) (ms : List Int), σ' = [some (.ref a), some (.ref t), some (.int mo), some (.int co), some (.int n), some (.ref pl), none, none, none, none, none, none, none, none, none, none] ∧ H' pl = some (.lst (ms.map V.int)) ∧ (ms.length : Int) = co ∧ ms.Nodup ∧ (∀ k ∈ ms, 0 ≤ k ∧ k < n) ∧ pl ≠ t ∧ Tape H' t c, ?_, ?_⟩
    · refine ⟨_, rfl, _, _, rfl, rfl, _, rfl, ite2 (fun _ => ?_) (fun _ => ?_)⟩
      · refine ⟨_, rfl, pl0, ms0, rfl, SqL.of hpl0, by omega, fun ss l perm pw nl => ?_⟩
        exact ⟨l, ss, (by rw [← hco]; rfl), upd_same, by rw [perm.length_eq]; exact lms0, perm.nodup_iff.mpr mnd0, fun k hk => mrg0 k (perm.mem_iff.mp hk), (T5.off nl).1, T5.put (T5.off nl)⟩
      · exact ⟨pl0, ms0, (by rw [← hco]; rfl), hpl0, lms0, mnd0, mrg0, (T4.off npl).1, T5⟩
    rintro _ H6 ⟨pl, ms, rfl, hpl, lms, mnd, mrg, npt, T6⟩
    refine ⟨_, rfl, _, rfl, t, c, pl, ms, rfl, T6, npt, hpl, mnd, by omega, fun dN nx H7 ndN hN keys vN k7 T7 => ?_⟩
    have odN := T6.off ndN
    have hpl7 := k7 _ _ npt hpl
    refine ⟨_, rfl, _, rfl, t, c, pl, ms, rfl, T7, npt, hpl7, mnd, by omega, fun dB bs H8 ndB hB gb kb k8 T8 => ?_⟩
    have odB := T7.off ndB
    have hpl8 := k8 _ _ npt hpl7
    have hN8 := k8 _ _ odN.1 hN
    have dNB : dN ≠ dB := ne_of_none hN ndB
    have l0 : 0 < ms.length := by omega
    -- post
    refine ⟨_, rfl, t, c, 4, rfl, T8, by decide, by decide, fun z H10 z0 z1 k10 T10 => ?_⟩
    refine ⟨z, rfl, by omega, by omega, fun pO npO => ?_⟩
    have opO := T10.off npO
    have hp10 := k10 _ _ npt hpl8
    refine lc_range (lo := 0) (n := z.toNat) (fun i H' => ∃ ps : List V, ps.length = i ∧ (∀ v ∈ ps, LetIn H' ms v) ∧ H' pO = some (.lst ps) ∧ Kp t H10 H' ∧ Tape H' t c) ⟨[], rfl, (fun _ h => nomatch h), upd_same, Kp.of_same (same_upd npO), T10.put opO⟩ (fun i H12 hi pv => ?_) (fun H12 pv => ?_)
    · obtain ⟨ps, lp, mp, hP, k12, T12⟩ := pv
      refine ⟨rfl, lc_yes ?_⟩
      refine ⟨_, rfl, _, rfl, t, c, pl, ms, rfl, T12, npt, k12 _ _ npt hp10, l0, by omega, fun l L H13 nl hl hL k13 T13 => ?_⟩
      have hP13 := k13 _ _ opO.1 hP
      refine ⟨_, hP13, small1000' (by omega), ps ++ [.ref l], by rw [List.length_append, lp]; rfl, fun v hv => ?_, upd_same, fun b o nb e => (upd_ne (ne_of_none e npO)).trans (k13 _ _ nb (k12 _ _ nb e)), T13.put opO⟩
      have kt : ∀ {b : Addr} {xs : List V}, H13 b = some (.tup xs) → upd H13 pO (.lst (ps ++ [.ref l])) b = some (.tup xs) := fun e => (upd_ne (ne_kind e hP13 (fun z => nomatch z))).trans e
      obtain ⟨⟨xt, et⟩, _⟩ := tape_at T12
      rcases List.mem_append.mp hv with hv | hv
      · exact (mp v hv).mono fun b xs e => kt (k13 _ _ (ne_kind e et (fun z => nomatch z)) e)
      · rw [List.mem_singleton.mp hv]
        exact ⟨l, L, rfl, kt hl, hL⟩
    obtain ⟨ps, lp, mp, hP, k1012, T12⟩ := pv
    have k812 := k10.trans k1012
    have hN12 := k812 _ _ odN.1 hN8
    have hB12 := k812 _ _ odB.1 hB
    have gn : GN ms nx := ⟨keys, vN⟩
    obtain ⟨js, ejs, ndj⟩ := id kb
    have mj : ∀ j ∈ js, j ∈ ms ∧ ∃ x ∈ ms, valV bs (.inl j) = some (.int x) := fun j hj => by
      obtain ⟨v, hv⟩ := Option.isSome_iff_exists.mp (valV_mem_keys ejs hj)
      obtain ⟨h1, x, mx, rfl⟩ := gb j v hv
      exact ⟨h1, x, mx, hv⟩
    have ljs : js.length ≤ ms.length := nodup_sub_len ndj fun j hj => (mj j hj).1
    have mem_some : ∀ k ∈ ms, (valV nx (.inl k)).isSome = true := fun k hk => by obtain ⟨x, _, e⟩ := vN k hk; rw [e]; rfl
    -- net
    refine ⟨_, rfl, _, rfl, dN, nx, rfl, .inl hN12, fun d1 n1' => ?_⟩
    have s13 := same_upd (o := .dK nx) n1'
    have e1 : upd H12 d1 (.dK nx) d1 = some (.dK nx) := upd_same
    generalize upd H12 d1 (.dK nx) = H13 at s13 e1
    refine ⟨_, rfl, dB, bs, rfl, .inl (s13 _ _ hB12), fun d2 n2' => ?_⟩
    have s14 := same_upd (o := .dK bs) n2'
    have e2 : upd H13 d2 (.dK bs) d2 = some (.dK bs) := upd_same
    generalize upd H13 d2 (.dK bs) = H14 at s14 e2
    have s1214 := Same.trans s13 s14
    refine ⟨_, rfl, pO, ps, rfl, .inl (SqL.of (s1214 _ _ hP)), fun d3 n3 => ?_⟩
    have s15 := same_upd (o := .lst ps) n3
    have e3 : upd H14 d3 (.lst ps) d3 = some (.lst ps) := upd_same
    generalize upd H14 d3 (.lst ps) = H15 at s15 e3
    have s1215 := Same.trans s1214 s15
    refine ⟨rfl, rfl, fun h dx nh ndx ne => ?_⟩
    have s16 : Same H15 (upd (upd H15 dx (.own h)) h (.ins T.C_Net dx [])) := fun b o e => (upd_ne (ne_of_none e nh)).trans ((upd_ne (ne_of_none e ndx)).trans e)
    have hh16 : upd (upd H15 dx (.own h)) h (.ins T.C_Net dx []) h = some (.ins T.C_Net dx []) := upd_same
    generalize upd (upd H15 dx (.own h)) h (.ins T.C_Net dx []) = H16 at s16 hh16
    have s1216 := Same.trans s1215 s16
    refine ⟨h, dx, d1, d2, d3, n, nx, bs, ps, ms, js, rfl, hh16, s16 _ _ (s15 _ _ (s14 _ _ e1)), s16 _ _ (s15 _ _ e2), s16 _ _ e3, keys, by omega, mnd, ejs, by omega, by omega, fun k hk => ?_, fun j hj => ?_, fun v hv => ?_, fun H17 dn db dl bf N17 f17 m1 m2 m3 ndb vF lbf => ⟨rfl, ?_⟩⟩
    · obtain ⟨x, mx, e⟩ := vN k hk
      exact ⟨(mrg k hk).1, (mrg k hk).2, x, e, mem_some x mx⟩
    · obtain ⟨mj, x, mx, e⟩ := mj j hj
      exact ⟨mem_some j mj, x, e, mem_some x mx⟩
    · obtain ⟨p, L, rfl, ep, hL⟩ := mp v hv
      exact ⟨p, L.wd, L.ns, rfl, by rw [← L.vals_eq]; exact s1216 _ _ ep, fun k hk => mem_some k (hL k hk)⟩
    have k1217 : ∀ {b : Addr} {o : HO}, H12 b = some o → (∀ c d f, o ≠ .ins c d f) → H17 b = some o := fun e no => f17 _ _ (ne_kind (s1216 _ _ e) hh16 (no _ _ _)) (s1216 _ _ e)
    have fresh : ∀ {b d : Addr} {o : HO}, H12 b = some o → H16 d = none → b ≠ d := fun e hd z => by rw [← z, s1216 _ _ e] at hd; cases hd
    obtain ⟨cs, ta, tb, tk, tr, et1, et2, et3, et4⟩ := T12
    have T17 : Tape H17 t c := ⟨cs, ta, tb, tk, tr, k1217 et1 (fun _ _ _ z => nomatch z), k1217 et2 (fun _ _ _ z => nomatch z), et3, et4⟩
    have mp17 : ∀ v ∈ ps, LetIn H17 ms v := fun v hv => (mp v hv).mono fun b xs e => k1217 e (fun _ _ _ z => nomatch z)
    have I : NJ T.C_Net t c ⟨h, dn, db, dl, dN, dB, pO⟩ n ⟨ms, nx, bs, bf, ps, ps⟩ H17 := {
      tape := T17, net := N17, hN := k1217 hN12 (fun _ _ _ z => nomatch z), hB := k1217 hB12 (fun _ _ _ z => nomatch z), hP := k1217 hP (fun _ _ _ z => nomatch z), gn := gn, nd := mnd, rng := mrg, n0 := by omega
      gb := gb
      kb := kb, vf := vF
      lets := ⟨rfl, fun i x y hx hy => by
        rw [hx] at hy
        cases hy
        obtain ⟨p, L, rfl, ep, hL⟩ := mp17 x (List.mem_of_getElem? hx)
        exact ⟨p, p, L, rfl, rfl, ep, ep, hL⟩⟩
      ndl := ⟨opO.1, opO.2, fun z => fresh et1 m3 z.symm, fun z => fresh et2 m3 z.symm, fresh hP m3⟩
      ndd := ⟨ndb.symm, fun z => fresh hN12 m1 z.symm, fun z => fresh hB12 m1 z.symm, fun z => fresh hN12 m2 z.symm, fun z => fresh hB12 m2 z.symm, dNB⟩
      lks := by show ms.length ≤ 41; omega
      lps := by show ps.length ≤ 60; omega
      lbf := by show bf.length ≤ 200; omega }
    have W : WN ms nx := ⟨gn, by omega⟩
    have n00 : 0 < n := by omega
    have FC : ∀ x ∈ ms, ∀ y ∈ ms, Btw n x y (iN nx x) → FaC n (iN nx) x y := fun x hx y hy hb => by
      obtain ⟨h1, h2⟩ := hb.sum n00 (mrg x hx).1 (mrg x hx).2 (mrg y hy).1 (mrg y hy).2 (mrg _ (W.cl x hx)).1 (mrg _ (W.cl x hx)).2
      exact ⟨n00, h1, h2⟩
    -- the loops
    refine ⟨_, rfl, dN, nx, ms, rfl, .inl I.hN, keys, by omega, fun ys l perm pw nl => ?_⟩
    have s18 := same_upd (o := .lst (ys.map V.int)) nl
    have e18 : upd H17 l (.lst (ys.map V.int)) l = some (.lst (ys.map V.int)) := upd_same
    have I18 := I.same s18
    generalize upd H17 l (.lst (ys.map V.int)) = H18 at s18 e18 I18
    refine ⟨l, rfl, ⟨_, SqL.of e18⟩, ?_⟩
    refine for_list (K := K) (a := l) (xs := ys.map V.int) (fun i σ' H' => ∃ (L : Int) (o11 o12 o13 o14 o15 : Option V), σ' = [some (.ref a), some (.ref t), some (.int mo), some (.int co), some (.int n), some (.ref pl), some (.ref dN), some (.ref dB), some (.ref pO), some (.ref h), some (.int L), o11, o12, o13, o14, o15] ∧ Same H18 H' ∧ 0 ≤ L ∧ (L = 0 ↔ ∀ x ∈ ys.take i, ∀ y ∈ ms, ¬ PF n (iN nx) x y))
      ⟨0, _, _, _, _, _, rfl, fun _ _ h => h, by decide, ⟨(fun _ x hx => by rw [List.take_zero] at hx; cases hx), fun _ => rfl⟩⟩ (fun i σ' H' _ pv => by obtain ⟨_, _, _, _, _, _, _, s, _⟩ := pv; exact SqL.of (s _ _ e18)) (fun i v σ' H19 hv pv => ?_) (fun σ' H19 pv => ?_)
    · obtain ⟨L, o11, o12, o13, o14, o15, rfl, s19, L0, hL⟩ := pv
      have hv' : (ys.map V.int)[i]? = some v := hv
      rw [List.getElem?_map] at hv'
      obtain ⟨x, hxi, rfl⟩ := Option.map_eq_some_iff.mp hv'
      have hx := perm.mem_iff.mp (List.mem_of_getElem? hxi)
      have I19 := I18.same s19
      refine ⟨_, rfl, dN, nx, ms, rfl, .inl I19.hN, keys, by omega, fun ys2 l2 perm2 pw2 nl2 => ?_⟩
      obtain rfl := perm_sorted_eq (perm2.trans perm.symm) pw2 pw
      have s20 := same_upd (o := .lst (ys2.map V.int)) nl2
      have e20 : upd H19 l2 (.lst (ys2.map V.int)) l2 = some (.lst (ys2.map V.int)) := upd_same
      have I20 := I19.same s20
      generalize upd H19 l2 (.lst (ys2.map V.int)) = H20 at s20 e20 I20
      refine ⟨l2, rfl, ⟨_, SqL.of e20⟩, ?_⟩
      refine for_list (K := K) (a := l2) (xs := ys2.map V.int) (fun j σ' H' => ∃ (L : Int) (o12 o13 o14 o15 : Option V), σ' = [some (.ref a), some (.ref t), some (.int mo), some (.int co), some (.int n), some (.ref pl), some (.ref dN), some (.ref dB), some (.ref pO), some (.ref h), some (.int L), some (.int x), o12, o13, o14, o15] ∧ Same H20 H' ∧ 0 ≤ L ∧ (L = 0 ↔ (∀ x ∈ ys2.take i, ∀ y ∈ ms, ¬ PF n (iN nx) x y) ∧ ∀ y ∈ ys2.take j, ¬ PF n (iN nx) x y))
        ⟨L, _, _, _, _, rfl, fun _ _ h => h, L0, ⟨fun z => ⟨hL.mp z, fun y hy => by rw [List.take_zero] at hy; cases hy⟩, fun z => hL.mpr z.1⟩⟩ (fun j σ' H' _ pv => by obtain ⟨_, _, _, _, _, _, s, _⟩ := pv; exact SqL.of (s _ _ e20)) (fun j v σ' H21 hv pv => ?_) (fun σ' H21 pv => ?_)
      · obtain ⟨L, o12, o13, o14, o15, rfl, s21, L0, hL⟩ := pv
        have hv' : (ys2.map V.int)[j]? = some v := hv
        rw [List.getElem?_map] at hv'
        obtain ⟨y, hyj, rfl⟩ := Option.map_eq_some_iff.mp hv'
        have hy := perm.mem_iff.mp (List.mem_of_getElem? hyj)
        have I21 := I20.same s21
        refine ⟨fun σ' H' => ∃ (kp : Bool) (o14 : Option V), σ' = [some (.ref a), some (.ref t), some (.int mo), some (.int co), some (.int n), some (.ref pl), some (.ref dN), some (.ref dB), some (.ref pO), some (.ref h), some (.int L), some (.int x), some (.int y), some (.bl kp), o14, o15] ∧ Same H20 H' ∧ (kp = true ↔ PF n (iN nx) x y), ?_, ?_⟩
        · refine ⟨_, rfl, _, rfl, _, rfl, _, rfl, _, rfl, dN, _, rfl, dget_of (k := Sum.inl _) I21.hN (W.at_ hx), n, x, y, iN nx x, rfl, n00, _, rfl, ?_⟩
          by_cases hb : farL n x y < farL n x (iN nx x)
          · refine iteT' (decide_eq_true hb) ?_
            have fc := FC x hx y hy hb
            refine ⟨_, rfl, dN, nx, rfl, .inl I21.hN, fun dT ndT => ?_⟩
            have s22 := same_upd (o := .dK nx) ndT
            have e22 : upd H21 dT (.dK nx) dT = some (.dK nx) := upd_same
            refine ⟨_, rfl, _, rfl, _, rfl, dT, _, rfl, DPut.k (k := Sum.inl x) e22 (small1000' (by rw [W.lenx]; omega)), ?_⟩
            have s23 : Same H21 (upd (upd H21 dT (.dK nx)) dT (.dK (putK nx (.inl x) (.int y)))) := fun b o e => (upd_ne (ne_of_none e ndT)).trans (s22 _ _ e)
            have e23 : upd (upd H21 dT (.dK nx)) dT (.dK (putK nx (.inl x) (.int y))) dT = some (.dK (putK nx (.inl x) (.int y))) := upd_same
            generalize upd (upd H21 dT (.dK nx)) dT (.dK (putK nx (.inl x) (.int y))) = H23 at s23 e23
            have I23 := I21.same s23
            refine ⟨_, rfl, _, rfl, _, rfl, dN, dT, n, x, y, nx, ms, rfl, I23.hN, e23, W, by omega, mnd, hx, hy, fc, n2, fun r H24 ir s24 => ?_⟩
            have I24 := I23.same s24
            refine ⟨_, rfl, _, rfl, _, rfl, _, rfl, _, rfl, _, rfl, t, c, ⟨h, dn, db, dl, dN, dB, pO⟩, n, x, y, ⟨ms, nx, bs, bf, ps, ps⟩, r, rfl, I24, hx, hy, n2, (by show ps.length ≤ 900; omega), fc, ir, fun H25 s25 => ⟨true, rfl, iteF ?_⟩⟩
            exact ⟨r, _, rfl, Same.trans s21 (Same.trans s23 (Same.trans s24 s25)), ir.trans ⟨fun z => ⟨hb, z⟩, fun z => z.2⟩⟩
          · exact iteF' (decide_eq_false hb) ⟨false, _, rfl, s21, ⟨(fun z => nomatch z), fun z => absurd z.1 hb⟩⟩
        rintro _ H25 ⟨kp, o14', rfl, s25, ikp⟩
        have I25 := I20.same s25
        refine ⟨_, rfl, _, rfl, _, rfl, h, dn, db, dl, n, x, y, nx, bf, ps, ms, rfl, I25.net, W, hx, hy, n00, n2, fun r H26 ir s26 => ?_⟩
        have er : r = kp := Bool.eq_iff_iff.mpr (ir.trans ikp.symm)
        subst er
        refine ⟨_, rfl, _, _, rfl, .atom rfl, fun H27 s27 => ⟨true, rfl, iteF ?_⟩⟩
        refine ⟨_, rfl, _, rfl, .inr ⟨r, rfl, _, _, rfl, rfl, ?_⟩⟩
        refine ⟨L + (if r = true then 1 else 0), _, _, _, _, rfl, Same.trans s25 (Same.trans s26 s27), ?_, ?_⟩
        · split <;> omega
        · rw [List.take_add_one, hyj]
          have tk : ∀ {p : Int → Prop}, (∀ y' ∈ ys2.take j ++ (some y).toList, p y') ↔ (∀ y' ∈ ys2.take j, p y') ∧ p y := fun {p} => ⟨fun z => ⟨fun y' m => z y' (List.mem_append_left _ m), z y (List.mem_append_right _ (List.mem_singleton.mpr rfl))⟩, fun z y' m => (List.mem_append.mp m).elim (z.1 y') (fun m => by rw [show y' = y from List.mem_singleton.mp m]; exact z.2)⟩
          rw [tk]
          cases r with
          | true =>
            have := ikp.mp rfl
            refine ⟨fun z => ?_, fun z => absurd this z.2.2⟩
            have z : L + 1 = 0 := z
            omega
          | false =>
            have nP : ¬ PF n (iN nx) x y := fun z => by cases ikp.mpr z
            refine ⟨fun z => ?_, fun z => ?_⟩
            · have z : L + 0 = 0 := z
              have := hL.mp (by omega)
              exact ⟨this.1, this.2, nP⟩
            · have := hL.mpr ⟨z.1, z.2.1⟩
              show L + 0 = 0
              omega
      · obtain ⟨L, o12, o13, o14, o15, rfl, s21, L0, hL⟩ := pv
        rw [List.length_map, List.take_length] at hL
        refine ⟨L, _, _, _, _, _, rfl, Same.trans s19 (Same.trans s20 s21), L0, ?_⟩
        rw [List.take_add_one, hxi]
        refine hL.trans ⟨fun z x' m y' hy' => ?_, fun z => ⟨fun x' m => z x' (List.mem_append_left _ m), fun y' hy' => z x (List.mem_append_right _ (List.mem_singleton.mpr rfl)) y' (perm.mem_iff.mp hy')⟩⟩
        rcases List.mem_append.mp m with m | m
        · exact z.1 x' m y' hy'
        · rw [show x' = x from List.mem_singleton.mp m]
          exact z.2 y' (perm.mem_iff.mpr hy')
    · obtain ⟨L, o11, o12, o13, o14, o15, rfl, s19, L0, hL⟩ := pv
      rw [List.length_map, List.take_length] at hL
      have I19 := I18.same s19
      refine ⟨_, rfl, h, dn, db, dl, n, nx, bf, ps, ms, rfl, I19.net, by omega, mnd, gn, fun zs3 ys3 H20 pz wz py wy s20 => ?_⟩
      refine ⟨_, rfl, rfl, ?_⟩
      have ee : PyData.eqv (.list (zs3.map PyData.int)) (.list (ys3.map PyData.int)) = decide (V.int L = V.int 0) := by
        rw [PyData.eqv, eqvAll_ints]
        refine Bool.eq_iff_iff.mpr ?_
        rw [decide_eq_true_iff, decide_eq_true_iff, once_iff n00 mnd mrg W.cl pz wz py wy]
        refine ⟨fun z => congrArg V.int (hL.mpr fun x hx => z x (perm.mem_iff.mp hx)), fun z x hx => hL.mp (V.int.inj z) x (perm.mem_iff.mpr hx)⟩
      rw [ee]
      refine ⟨_, _, rfl, .atom rfl, fun H21 s21 => ⟨true, rfl, iteF ?_⟩⟩
      exact ⟨_, rfl, _, rfl, _, rfl, _, rfl, t, c, ⟨h, dn, db, dl, dN, dB, pO⟩, n, ⟨ms, nx, bs, bf, ps, ps⟩, rfl, I19.same (Same.trans s20 s21), fun H22 _ => q H22⟩
end
theorem all_mk {l : PySem.W.OpenLaw} {w : World} {K : PySem.W.Frag} {h : Heap} {mg : Str → Option Value} {fa : Addr} (X : K.In h) (G : h.Ns mainGlobals mg) (hfa : mg "law" = some (.ref fa))
    {f0 : Addr} {od0 an0 : Option Addr} {sl0 : Array (Option Value)} {oc0 kV0 dc0 pm0 cd0 ct0 : Value}
    {f1 : Addr} {od1 an1 : Option Addr} {sl1 : Array (Option Value)} {oc1 kV1 dc1 pm1 cd1 ct1 : Value}
    {f2 : Addr} {od2 an2 : Option Addr} {sl2 : Array (Option Value)} {oc2 kV2 dc2 pm2 cd2 ct2 : Value}
    {f3 : Addr} {od3 an3 : Option Addr} {sl3 : Array (Option Value)} {oc3 kV3 dc3 pm3 cd3 ct3 : Value}
    {f4 : Addr} {od4 an4 : Option Addr} {sl4 : Array (Option Value)} {oc4 kV4 dc4 pm4 cd4 ct4 : Value}
    {f5 : Addr} {od5 an5 : Option Addr} {sl5 : Array (Option Value)} {oc5 kV5 dc5 pm5 cd5 ct5 : Value}
    {f6 : Addr} {od6 an6 : Option Addr} {sl6 : Array (Option Value)} {oc6 kV6 dc6 pm6 cd6 ct6 : Value}
    {f7 : Addr} {od7 an7 : Option Addr} {sl7 : Array (Option Value)} {oc7 kV7 dc7 pm7 cd7 ct7 : Value}
    {f8 : Addr} {od8 an8 : Option Addr} {sl8 : Array (Option Value)} {oc8 kV8 dc8 pm8 cd8 ct8 : Value}
    {f9 : Addr} {od9 an9 : Option Addr} {sl9 : Array (Option Value)} {oc9 kV9 dc9 pm9 cd9 ct9 : Value}
    {f10 : Addr} {od10 an10 : Option Addr} {sl10 : Array (Option Value)} {oc10 kV10 dc10 pm10 cd10 ct10 : Value}
    {f11 : Addr} {od11 an11 : Option Addr} {sl11 : Array (Option Value)} {oc11 kV11 dc11 pm11 cd11 ct11 : Value}
    {f12 : Addr} {od12 an12 : Option Addr} {sl12 : Array (Option Value)} {oc12 kV12 dc12 pm12 cd12 ct12 : Value}
    {f13 : Addr} {od13 an13 : Option Addr} {sl13 : Array (Option Value)} {oc13 kV13 dc13 pm13 cd13 ct13 : Value}
    {f14 : Addr} {od14 an14 : Option Addr} {sl14 : Array (Option Value)} {oc14 kV14 dc14 pm14 cd14 ct14 : Value}
    {f15 : Addr} {od15 an15 : Option Addr} {sl15 : Array (Option Value)} {oc15 kV15 dc15 pm15 cd15 ct15 : Value}
    {f16 : Addr} {od16 an16 : Option Addr} {sl16 : Array (Option Value)} {oc16 kV16 dc16 pm16 cd16 ct16 : Value}
    {f17 : Addr} {od17 an17 : Option Addr} {sl17 : Array (Option Value)} {oc17 kV17 dc17 pm17 cd17 ct17 : Value}
    {f18 : Addr} {od18 an18 : Option Addr} {sl18 : Array (Option Value)} {oc18 kV18 dc18 pm18 cd18 ct18 : Value}
    {f19 : Addr} {od19 an19 : Option Addr} {sl19 : Array (Option Value)} {oc19 kV19 dc19 pm19 cd19 ct19 : Value}
    {f20 : Addr} {od20 an20 : Option Addr} {sl20 : Array (Option Value)} {oc20 kV20 dc20 pm20 cd20 ct20 : Value}
    {f21 : Addr} {od21 an21 : Option Addr} {sl21 : Array (Option Value)} {oc21 kV21 dc21 pm21 cd21 ct21 : Value}
    {f22 : Addr} {od22 an22 : Option Addr} {sl22 : Array (Option Value)} {oc22 kV22 dc22 pm22 cd22 ct22 : Value}
    {f23 : Addr} {od23 an23 : Option Addr} {sl23 : Array (Option Value)} {oc23 kV23 dc23 pm23 cd23 ct23 : Value}
    {f24 : Addr} {od24 an24 : Option Addr} {sl24 : Array (Option Value)} {oc24 kV24 dc24 pm24 cd24 ct24 : Value}
    {f25 : Addr} {od25 an25 : Option Addr} {sl25 : Array (Option Value)} {oc25 kV25 dc25 pm25 cd25 ct25 : Value}
    {f26 : Addr} {od26 an26 : Option Addr} {sl26 : Array (Option Value)} {oc26 kV26 dc26 pm26 cd26 ct26 : Value}
    {f27 : Addr} {od27 an27 : Option Addr} {sl27 : Array (Option Value)} {oc27 kV27 dc27 pm27 cd27 ct27 : Value}
    {f28 : Addr} {od28 an28 : Option Addr} {sl28 : Array (Option Value)} {oc28 kV28 dc28 pm28 cd28 ct28 : Value}
    {f29 : Addr} {od29 an29 : Option Addr} {sl29 : Array (Option Value)} {oc29 kV29 dc29 pm29 cd29 ct29 : Value}
    {f30 : Addr} {od30 an30 : Option Addr} {sl30 : Array (Option Value)} {oc30 kV30 dc30 pm30 cd30 ct30 : Value}
    {f31 : Addr} {od31 an31 : Option Addr} {sl31 : Array (Option Value)} {oc31 kV31 dc31 pm31 cd31 ct31 : Value}
    {f32 : Addr} {od32 an32 : Option Addr} {sl32 : Array (Option Value)} {oc32 kV32 dc32 pm32 cd32 ct32 : Value}
    {f33 : Addr} {od33 an33 : Option Addr} {sl33 : Array (Option Value)} {oc33 kV33 dc33 pm33 cd33 ct33 : Value}
    {f34 : Addr} {od34 an34 : Option Addr} {sl34 : Array (Option Value)} {oc34 kV34 dc34 pm34 cd34 ct34 : Value}
    {f35 : Addr} {od35 an35 : Option Addr} {sl35 : Array (Option Value)} {oc35 kV35 dc35 pm35 cd35 ct35 : Value}
    {f36 : Addr} {od36 an36 : Option Addr} {sl36 : Array (Option Value)} {oc36 kV36 dc36 pm36 cd36 ct36 : Value}
    {f37 : Addr} {od37 an37 : Option Addr} {sl37 : Array (Option Value)} {oc37 kV37 dc37 pm37 cd37 ct37 : Value}
    {f38 : Addr} {od38 an38 : Option Addr} {sl38 : Array (Option Value)} {oc38 kV38 dc38 pm38 cd38 ct38 : Value}
    {f39 : Addr} {od39 an39 : Option Addr} {sl39 : Array (Option Value)} {oc39 kV39 dc39 pm39 cd39 ct39 : Value}
    {f40 : Addr} {od40 an40 : Option Addr} {sl40 : Array (Option Value)} {oc40 kV40 dc40 pm40 cd40 ct40 : Value}
    {f41 : Addr} {od41 an41 : Option Addr} {sl41 : Array (Option Value)} {oc41 kV41 dc41 pm41 cd41 ct41 : Value}
    {f42 : Addr} {od42 an42 : Option Addr} {sl42 : Array (Option Value)} {oc42 kV42 dc42 pm42 cd42 ct42 : Value}
    {f43 : Addr} {od43 an43 : Option Addr} {sl43 : Array (Option Value)} {oc43 dc43 pm43 cd43 ct43 : Value}
    {f44 : Addr} {od44 an44 : Option Addr} {sl44 : Array (Option Value)} {oc44 kV44 dc44 pm44 cd44 ct44 : Value}
    {f45 : Addr} {od45 an45 : Option Addr} {sl45 : Array (Option Value)} {oc45 kV45 dc45 pm45 cd45 ct45 : Value}
    {f46 : Addr} {od46 an46 : Option Addr} {sl46 : Array (Option Value)} {oc46 kV46 dc46 pm46 cd46 ct46 : Value}
    {f47 : Addr} {od47 an47 : Option Addr} {sl47 : Array (Option Value)} {oc47 kV47 dc47 pm47 cd47 ct47 : Value}
    {f48 : Addr} {od48 an48 : Option Addr} {sl48 : Array (Option Value)} {oc48 kV48 dc48 pm48 cd48 ct48 : Value}
    (l0 : K.lookup f0 = some ⟨oc0, od0, .func (PySem.W.fnOf "hold" "Net.hold" (defArgs s_Net__hold) (defBody s_Net__hold) (defScope s_Net__hold) .none kV0 dc0 pm0 an0 cd0 ct0), sl0⟩) (c0 : PySem.W.codeIn K cd0 "Net.hold" = true) (k0 : PySem.W.keepIn K (.ref f0) = true)
    (l1 : K.lookup f1 = some ⟨oc1, od1, .func (PySem.W.fnOf "next_of" "Net.next_of" (defArgs s_Net__next_of) (defBody s_Net__next_of) (defScope s_Net__next_of) .none kV1 dc1 pm1 an1 cd1 ct1), sl1⟩) (c1 : PySem.W.codeIn K cd1 "Net.next_of" = true) (k1 : PySem.W.keepIn K (.ref f1) = true)
    (a2 : PySem.W.nsIn K mainGlobals "each_held_once" = some (some (.ref f2)))
    (l2 : K.lookup f2 = some ⟨oc2, od2, .func (PySem.W.fnOf "each_held_once" "each_held_once" (defArgs s_each_held_once) (defBody s_each_held_once) (defScope s_each_held_once) .none kV2 dc2 pm2 an2 cd2 ct2), sl2⟩) (c2 : PySem.W.codeIn K cd2 "each_held_once" = true) (k2 : PySem.W.keepIn K (.ref f2) = true)
    (l3 : K.lookup f3 = some ⟨oc3, od3, .func (PySem.W.fnOf "clone" "Net.clone" (defArgs s_Net__clone) (defBody s_Net__clone) (defScope s_Net__clone) .none kV3 dc3 pm3 an3 cd3 ct3), sl3⟩) (c3 : PySem.W.codeIn K cd3 "Net.clone" = true) (k3 : PySem.W.keepIn K (.ref f3) = true)
    (a4 : PySem.W.nsIn K mainGlobals "house_at" = some (some (.ref f4)))
    (l4 : K.lookup f4 = some ⟨oc4, od4, .func (PySem.W.fnOf "house_at" "house_at" (defArgs s_house_at) (defBody s_house_at) (defScope s_house_at) .none kV4 dc4 pm4 an4 cd4 ct4), sl4⟩) (c4 : PySem.W.codeIn K cd4 "house_at" = true) (k4 : PySem.W.keepIn K (.ref f4) = true)
    (a5 : PySem.W.nsIn K mainGlobals "holds_true" = some (some (.ref f5)))
    (l5 : K.lookup f5 = some ⟨oc5, od5, .func (PySem.W.fnOf "holds_true" "holds_true" (defArgs s_holds_true) (defBody s_holds_true) (defScope s_holds_true) .none kV5 dc5 pm5 an5 cd5 ct5), sl5⟩) (c5 : PySem.W.codeIn K cd5 "holds_true" = true) (k5 : PySem.W.keepIn K (.ref f5) = true)
    (a6 : PySem.W.nsIn K mainGlobals "is_faithful" = some (some (.ref f6)))
    (l6 : K.lookup f6 = some ⟨oc6, od6, .func (PySem.W.fnOf "is_faithful" "is_faithful" (defArgs s_is_faithful) (defBody s_is_faithful) (defScope s_is_faithful) .none kV6 dc6 pm6 an6 cd6 ct6), sl6⟩) (c6 : PySem.W.codeIn K cd6 "is_faithful" = true) (k6 : PySem.W.keepIn K (.ref f6) = true)
    (a7 : PySem.W.nsIn K mainGlobals "_law_places" = some (some (.ref f7)))
    (l7 : K.lookup f7 = some ⟨oc7, od7, .func (PySem.W.fnOf "_law_places" "_law_places" (defArgs s__law_places) (defBody s__law_places) (defScope s__law_places) .none kV7 dc7 pm7 an7 cd7 ct7), sl7⟩) (c7 : PySem.W.codeIn K cd7 "_law_places" = true) (k7 : PySem.W.keepIn K (.ref f7) = true)
    (a8 : PySem.W.nsIn K mainGlobals "_law_nexts" = some (some (.ref f8)))
    (l8 : K.lookup f8 = some ⟨oc8, od8, .func (PySem.W.fnOf "_law_nexts" "_law_nexts" (defArgs s__law_nexts) (defBody s__law_nexts) (defScope s__law_nexts) .none kV8 dc8 pm8 an8 cd8 ct8), sl8⟩) (c8 : PySem.W.codeIn K cd8 "_law_nexts" = true) (k8 : PySem.W.keepIn K (.ref f8) = true)
    (a9 : PySem.W.nsIn K mainGlobals "_law_behinds" = some (some (.ref f9)))
    (l9 : K.lookup f9 = some ⟨oc9, od9, .func (PySem.W.fnOf "_law_behinds" "_law_behinds" (defArgs s__law_behinds) (defBody s__law_behinds) (defScope s__law_behinds) .none kV9 dc9 pm9 an9 cd9 ct9), sl9⟩) (c9 : PySem.W.codeIn K cd9 "_law_behinds" = true) (k9 : PySem.W.keepIn K (.ref f9) = true)
    (a10 : PySem.W.nsIn K mainGlobals "_law_letter" = some (some (.ref f10)))
    (l10 : K.lookup f10 = some ⟨oc10, od10, .func (PySem.W.fnOf "_law_letter" "_law_letter" (defArgs s__law_letter) (defBody s__law_letter) (defScope s__law_letter) .none kV10 dc10 pm10 an10 cd10 ct10), sl10⟩) (c10 : PySem.W.codeIn K cd10 "_law_letter" = true) (k10 : PySem.W.keepIn K (.ref f10) = true)
    (a11 : PySem.W.nsIn K mainGlobals "_law_kept" = some (some (.ref f11)))
    (l11 : K.lookup f11 = some ⟨oc11, od11, .func (PySem.W.fnOf "_law_kept" "_law_kept" (defArgs s__law_kept) (defBody s__law_kept) (defScope s__law_kept) .none kV11 dc11 pm11 an11 cd11 ct11), sl11⟩) (c11 : PySem.W.codeIn K cd11 "_law_kept" = true) (k11 : PySem.W.keepIn K (.ref f11) = true)
    (a12 : PySem.W.nsIn K mainGlobals "_law_held" = some (some (.ref f12)))
    (l12 : K.lookup f12 = some ⟨oc12, od12, .func (PySem.W.fnOf "_law_held" "_law_held" (defArgs s__law_held) (defBody s__law_held) (defScope s__law_held) .none kV12 dc12 pm12 an12 cd12 ct12), sl12⟩) (c12 : PySem.W.codeIn K cd12 "_law_held" = true) (k12 : PySem.W.keepIn K (.ref f12) = true)
    (a13 : PySem.W.nsIn K mainGlobals "_law_stands" = some (some (.ref f13)))
    (l13 : K.lookup f13 = some ⟨oc13, od13, .func (PySem.W.fnOf "_law_stands" "_law_stands" (defArgs s__law_stands) (defBody s__law_stands) (defScope s__law_stands) .none kV13 dc13 pm13 an13 cd13 ct13), sl13⟩) (c13 : PySem.W.codeIn K cd13 "_law_stands" = true) (k13 : PySem.W.keepIn K (.ref f13) = true)
    (a14 : PySem.W.nsIn K mainGlobals "law" = some (some (.ref f14)))
    (l14 : K.lookup f14 = some ⟨oc14, od14, .func (PySem.W.fnOf "law" "law" (defArgs s_law) (defBody s_law) (defScope s_law) .none kV14 dc14 pm14 an14 cd14 ct14), sl14⟩) (c14 : PySem.W.codeIn K cd14 "law" = true) (k14 : PySem.W.keepIn K (.ref f14) = true)
    (a15 : PySem.W.nsIn K mainGlobals "_law_tape" = some (some (.ref f15)))
    (l15 : K.lookup f15 = some ⟨oc15, od15, .func (PySem.W.fnOf "_law_tape" "_law_tape" (defArgs s__law_tape) (defBody s__law_tape) (defScope s__law_tape) .none kV15 dc15 pm15 an15 cd15 ct15), sl15⟩) (c15 : PySem.W.codeIn K cd15 "_law_tape" = true) (k15 : PySem.W.keepIn K (.ref f15) = true)
    (a16 : PySem.W.nsIn K mainGlobals "_law_pick" = some (some (.ref f16)))
    (l16 : K.lookup f16 = some ⟨oc16, od16, .func (PySem.W.fnOf "_law_pick" "_law_pick" (defArgs s__law_pick) (defBody s__law_pick) (defScope s__law_pick) .none kV16 dc16 pm16 an16 cd16 ct16), sl16⟩) (c16 : PySem.W.codeIn K cd16 "_law_pick" = true) (k16 : PySem.W.keepIn K (.ref f16) = true)
    (a17 : PySem.W.nsIn K mainGlobals "_law_size" = some (some (.ref f17)))
    (l17 : K.lookup f17 = some ⟨oc17, od17, .func (PySem.W.fnOf "_law_size" "_law_size" (defArgs s__law_size) (defBody s__law_size) (defScope s__law_size) .none kV17 dc17 pm17 an17 cd17 ct17), sl17⟩) (c17 : PySem.W.codeIn K cd17 "_law_size" = true) (k17 : PySem.W.keepIn K (.ref f17) = true)
    (a18 : PySem.W.nsIn K mainGlobals "_law_same" = some (some (.ref f18)))
    (l18 : K.lookup f18 = some ⟨oc18, od18, .func (PySem.W.fnOf "_law_same" "_law_same" (defArgs s__law_same) (defBody s__law_same) (defScope s__law_same) .none kV18 dc18 pm18 an18 cd18 ct18), sl18⟩) (c18 : PySem.W.codeIn K cd18 "_law_same" = true) (k18 : PySem.W.keepIn K (.ref f18) = true)
    (a19 : PySem.W.nsIn K mainGlobals "far" = some (some (.ref f19)))
    (l19 : K.lookup f19 = some ⟨oc19, od19, .func (PySem.W.fnOf "far" "far" (defArgs s_far) (defBody s_far) (defScope s_far) .none kV19 dc19 pm19 an19 cd19 ct19), sl19⟩) (c19 : PySem.W.codeIn K cd19 "far" = true) (k19 : PySem.W.keepIn K (.ref f19) = true)
    (a20 : PySem.W.nsIn K mainGlobals "between" = some (some (.ref f20)))
    (l20 : K.lookup f20 = some ⟨oc20, od20, .func (PySem.W.fnOf "between" "between" (defArgs s_between) (defBody s_between) (defScope s_between) .none kV20 dc20 pm20 an20 cd20 ct20), sl20⟩) (c20 : PySem.W.codeIn K cd20 "between" = true) (k20 : PySem.W.keepIn K (.ref f20) = true)
    {TT21 : Addr} {tc21 : Value} {td21 : Option Addr} {tn21 : Nat} {ts21 : Array (Option Value)} (lt21 : K.lookup TT21 = some ⟨tc21, td21, .seq [.none].toArray tn21, ts21⟩)
    (l21 : K.lookup f21 = some ⟨oc21, od21, .func (PySem.W.fnOf "__init__" "House.__init__" (defArgs s_House__init) (defBody s_House__init) (defScope s_House__init) (.ref TT21) kV21 dc21 pm21 an21 cd21 ct21), sl21⟩) (c21 : PySem.W.codeIn K cd21 "House.__init__" = true) (k21 : PySem.W.keepIn K (.ref f21) = true)
    (l22 : K.lookup f22 = some ⟨oc22, od22, .func (PySem.W.fnOf "tell_letter" "House.tell_letter" (defArgs s_House__tell_letter) (defBody s_House__tell_letter) (defScope s_House__tell_letter) .none kV22 dc22 pm22 an22 cd22 ct22), sl22⟩) (c22 : PySem.W.codeIn K cd22 "House.tell_letter" = true) (k22 : PySem.W.keepIn K (.ref f22) = true)
    (l23 : K.lookup f23 = some ⟨oc23, od23, .func (PySem.W.fnOf "ask_letter" "House.ask_letter" (defArgs s_House__ask_letter) (defBody s_House__ask_letter) (defScope s_House__ask_letter) .none kV23 dc23 pm23 an23 cd23 ct23), sl23⟩) (c23 : PySem.W.codeIn K cd23 "House.ask_letter" = true) (k23 : PySem.W.keepIn K (.ref f23) = true)
    (l24 : K.lookup f24 = some ⟨oc24, od24, .func (PySem.W.fnOf "_answer_to" "House._answer_to" (defArgs s_House__answer_to) (defBody s_House__answer_to) (defScope s_House__answer_to) .none kV24 dc24 pm24 an24 cd24 ct24), sl24⟩) (c24 : PySem.W.codeIn K cd24 "House._answer_to" = true) (k24 : PySem.W.keepIn K (.ref f24) = true)
    (l25 : K.lookup f25 = some ⟨oc25, od25, .func (PySem.W.fnOf "_hear_tell" "House._hear_tell" (defArgs s_House__hear_tell) (defBody s_House__hear_tell) (defScope s_House__hear_tell) .none kV25 dc25 pm25 an25 cd25 ct25), sl25⟩) (c25 : PySem.W.codeIn K cd25 "House._hear_tell" = true) (k25 : PySem.W.keepIn K (.ref f25) = true)
    (l26 : K.lookup f26 = some ⟨oc26, od26, .func (PySem.W.fnOf "_hear_answer" "House._hear_answer" (defArgs s_House__hear_answer) (defBody s_House__hear_answer) (defScope s_House__hear_answer) .none kV26 dc26 pm26 an26 cd26 ct26), sl26⟩) (c26 : PySem.W.codeIn K cd26 "House._hear_answer" = true) (k26 : PySem.W.keepIn K (.ref f26) = true)
    (l27 : K.lookup f27 = some ⟨oc27, od27, .func (PySem.W.fnOf "hear" "House.hear" (defArgs s_House__hear) (defBody s_House__hear) (defScope s_House__hear) .none kV27 dc27 pm27 an27 cd27 ct27), sl27⟩) (c27 : PySem.W.codeIn K cd27 "House.hear" = true) (k27 : PySem.W.keepIn K (.ref f27) = true)
    (l28 : K.lookup f28 = some ⟨oc28, od28, .func (PySem.W.fnOf "houses" "Net.houses" (defArgs s_Net__houses) (defBody s_Net__houses) (defScope s_Net__houses) .none kV28 dc28 pm28 an28 cd28 ct28), sl28⟩) (c28 : PySem.W.codeIn K cd28 "Net.houses" = true) (k28 : PySem.W.keepIn K (.ref f28) = true)
    (l29 : K.lookup f29 = some ⟨oc29, od29, .func (PySem.W.fnOf "check_house" "Net.check_house" (defArgs s_Net__check_house) (defBody s_Net__check_house) (defScope s_Net__check_house) .none kV29 dc29 pm29 an29 cd29 ct29), sl29⟩) (c29 : PySem.W.codeIn K cd29 "Net.check_house" = true) (k29 : PySem.W.keepIn K (.ref f29) = true)
    (a30 : PySem.W.nsIn K mainGlobals "check_on_circle" = some (some (.ref f30)))
    (l30 : K.lookup f30 = some ⟨oc30, od30, .func (PySem.W.fnOf "check_on_circle" "check_on_circle" (defArgs s_check_on_circle) (defBody s_check_on_circle) (defScope s_check_on_circle) .none kV30 dc30 pm30 an30 cd30 ct30), sl30⟩) (c30 : PySem.W.codeIn K cd30 "check_on_circle" = true) (k30 : PySem.W.keepIn K (.ref f30) = true)
    (l31 : K.lookup f31 = some ⟨oc31, od31, .func (PySem.W.fnOf "_check_letter" "Net._check_letter" (defArgs s_Net__check_letter) (defBody s_Net__check_letter) (defScope s_Net__check_letter) .none kV31 dc31 pm31 an31 cd31 ct31), sl31⟩) (c31 : PySem.W.codeIn K cd31 "Net._check_letter" = true) (k31 : PySem.W.keepIn K (.ref f31) = true)
    (l32 : K.lookup f32 = some ⟨oc32, od32, .func (PySem.W.fnOf "_house_at" "Net._house_at" (defArgs s_Net__house_at) (defBody s_Net__house_at) (defScope s_Net__house_at) .none kV32 dc32 pm32 an32 cd32 ct32), sl32⟩) (c32 : PySem.W.codeIn K cd32 "Net._house_at" = true) (k32 : PySem.W.keepIn K (.ref f32) = true)
    (l33 : K.lookup f33 = some ⟨oc33, od33, .func (PySem.W.fnOf "_send" "Net._send" (defArgs s_Net__send) (defBody s_Net__send) (defScope s_Net__send) .none kV33 dc33 pm33 an33 cd33 ct33), sl33⟩) (c33 : PySem.W.codeIn K cd33 "Net._send" = true) (k33 : PySem.W.keepIn K (.ref f33) = true)
    (l34 : K.lookup f34 = some ⟨oc34, od34, .func (PySem.W.fnOf "letters" "Net.letters" (defArgs s_Net__letters) (defBody s_Net__letters) (defScope s_Net__letters) .none kV34 dc34 pm34 an34 cd34 ct34), sl34⟩) (c34 : PySem.W.codeIn K cd34 "Net.letters" = true) (k34 : PySem.W.keepIn K (.ref f34) = true)
    (l35 : K.lookup f35 = some ⟨oc35, od35, .func (PySem.W.fnOf "tell" "Net.tell" (defArgs s_Net__tell) (defBody s_Net__tell) (defScope s_Net__tell) .none kV35 dc35 pm35 an35 cd35 ct35), sl35⟩) (c35 : PySem.W.codeIn K cd35 "Net.tell" = true) (k35 : PySem.W.keepIn K (.ref f35) = true)
    (l36 : K.lookup f36 = some ⟨oc36, od36, .func (PySem.W.fnOf "ask" "Net.ask" (defArgs s_Net__ask) (defBody s_Net__ask) (defScope s_Net__ask) .none kV36 dc36 pm36 an36 cd36 ct36), sl36⟩) (c36 : PySem.W.codeIn K cd36 "Net.ask" = true) (k36 : PySem.W.keepIn K (.ref f36) = true)
    (l37 : K.lookup f37 = some ⟨oc37, od37, .func (PySem.W.fnOf "nexts" "Net.nexts" (defArgs s_Net__nexts) (defBody s_Net__nexts) (defScope s_Net__nexts) .none kV37 dc37 pm37 an37 cd37 ct37), sl37⟩) (c37 : PySem.W.codeIn K cd37 "Net.nexts" = true) (k37 : PySem.W.keepIn K (.ref f37) = true)
    (l38 : K.lookup f38 = some ⟨oc38, od38, .func (PySem.W.fnOf "befores" "Net.befores" (defArgs s_Net__befores) (defBody s_Net__befores) (defScope s_Net__befores) .none kV38 dc38 pm38 an38 cd38 ct38), sl38⟩) (c38 : PySem.W.codeIn K cd38 "Net.befores" = true) (k38 : PySem.W.keepIn K (.ref f38) = true)
    (l39 : K.lookup f39 = some ⟨oc39, od39, .func (PySem.W.fnOf "read" "Net.read" (defArgs s_Net__read) (defBody s_Net__read) (defScope s_Net__read) .none kV39 dc39 pm39 an39 cd39 ct39), sl39⟩) (c39 : PySem.W.codeIn K cd39 "Net.read" = true) (k39 : PySem.W.keepIn K (.ref f39) = true)
    (l40 : K.lookup f40 = some ⟨oc40, od40, .func (PySem.W.fnOf "_check_letters" "Net._check_letters" (defArgs s_Net__check_letters) (defBody s_Net__check_letters) (defScope s_Net__check_letters) .none kV40 dc40 pm40 an40 cd40 ct40), sl40⟩) (c40 : PySem.W.codeIn K cd40 "Net._check_letters" = true) (k40 : PySem.W.keepIn K (.ref f40) = true)
    (l41 : K.lookup f41 = some ⟨oc41, od41, .func (PySem.W.fnOf "_check_places" "Net._check_places" (defArgs s_Net__check_places) (defBody s_Net__check_places) (defScope s_Net__check_places) .none kV41 dc41 pm41 an41 cd41 ct41), sl41⟩) (c41 : PySem.W.codeIn K cd41 "Net._check_places" = true) (k41 : PySem.W.keepIn K (.ref f41) = true)
    (l42 : K.lookup f42 = some ⟨oc42, od42, .func (PySem.W.fnOf "_take_befores" "Net._take_befores" (defArgs s_Net__take_befores) (defBody s_Net__take_befores) (defScope s_Net__take_befores) .none kV42 dc42 pm42 an42 cd42 ct42), sl42⟩) (c42 : PySem.W.codeIn K cd42 "Net._take_befores" = true) (k42 : PySem.W.keepIn K (.ref f42) = true)
    {KD43 : Addr} (kw43_0 : PySem.W.nsIn K KD43 "befores" = some (some .none)) (kw43_1 : PySem.W.nsIn K KD43 "letters" = some (some .none))
    (l43 : K.lookup f43 = some ⟨oc43, od43, .func (PySem.W.fnOf "__init__" "Net.__init__" (defArgs s_Net__init) (defBody s_Net__init) (defScope s_Net__init) .none (.ref KD43) dc43 pm43 an43 cd43 ct43), sl43⟩) (c43 : PySem.W.codeIn K cd43 "Net.__init__" = true) (k43 : PySem.W.keepIn K (.ref f43) = true)
    (a44 : PySem.W.nsIn K mainGlobals "_law_far" = some (some (.ref f44)))
    (l44 : K.lookup f44 = some ⟨oc44, od44, .func (PySem.W.fnOf "_law_far" "_law_far" (defArgs s__law_far) (defBody s__law_far) (defScope s__law_far) .none kV44 dc44 pm44 an44 cd44 ct44), sl44⟩) (c44 : PySem.W.codeIn K cd44 "_law_far" = true) (k44 : PySem.W.keepIn K (.ref f44) = true)
    (a45 : PySem.W.nsIn K mainGlobals "_law_between" = some (some (.ref f45)))
    (l45 : K.lookup f45 = some ⟨oc45, od45, .func (PySem.W.fnOf "_law_between" "_law_between" (defArgs s__law_between) (defBody s__law_between) (defScope s__law_between) .none kV45 dc45 pm45 an45 cd45 ct45), sl45⟩) (c45 : PySem.W.codeIn K cd45 "_law_between" = true) (k45 : PySem.W.keepIn K (.ref f45) = true)
    (l46 : K.lookup f46 = some ⟨oc46, od46, .func (PySem.W.fnOf "snapshot" "Net.snapshot" (defArgs s_Net__snapshot) (defBody s_Net__snapshot) (defScope s_Net__snapshot) .none kV46 dc46 pm46 an46 cd46 ct46), sl46⟩) (c46 : PySem.W.codeIn K cd46 "Net.snapshot" = true) (k46 : PySem.W.keepIn K (.ref f46) = true)
    (a47 : PySem.W.nsIn K mainGlobals "_law_ordered" = some (some (.ref f47)))
    (l47 : K.lookup f47 = some ⟨oc47, od47, .func (PySem.W.fnOf "_law_ordered" "_law_ordered" (defArgs s__law_ordered) (defBody s__law_ordered) (defScope s__law_ordered) .none kV47 dc47 pm47 an47 cd47 ct47), sl47⟩) (c47 : PySem.W.codeIn K cd47 "_law_ordered" = true) (k47 : PySem.W.keepIn K (.ref f47) = true)
    (a48 : PySem.W.nsIn K mainGlobals "_lengths_from" = some (some (.ref f48)))
    (l48 : K.lookup f48 = some ⟨oc48, od48, .func (PySem.W.fnOf "_lengths_from" "_lengths_from" (defArgs s__lengths_from) (defBody s__lengths_from) (defScope s__lengths_from) .none kV48 dc48 pm48 an48 cd48 ct48), sl48⟩) (c48 : PySem.W.codeIn K cd48 "_lengths_from" = true) (k48 : PySem.W.keepIn K (.ref f48) = true)
    {C0 : Addr} (aC0 : PySem.W.nsIn K mainGlobals "House" = some (some (.ref C0))) (pg0 : PySem.W.plainGet K C0 Str.empty = true) (hd0 : PySem.W.hasDictIn K C0 = true) (po0 : PySem.W.plainOver K C0 = true) (sa0 : PySem.W.findIn K (.ref C0) "__setattr__" = some (some (.builtin "object.__setattr__"))) (mk0 : PySem.W.makesIn K C0 = true) (kc0 : PySem.W.keepIn K (.ref C0) = true)
    (na0_0 : PySem.W.findIn K (.ref C0) "size" = some none)
    (na0_1 : PySem.W.findIn K (.ref C0) "place" = some none)
    (na0_2 : PySem.W.findIn K (.ref C0) "next_house" = some none)
    (na0_3 : PySem.W.findIn K (.ref C0) "before" = some none)
    (am21 : PySem.W.findIn K (.ref C0) "__init__" = some (some (.ref f21))) (ai21 : PySem.W.isFn K (.ref f21) = true)
    (am22 : PySem.W.findIn K (.ref C0) "tell_letter" = some (some (.ref f22))) (ai22 : PySem.W.isFn K (.ref f22) = true)
    (am23 : PySem.W.findIn K (.ref C0) "ask_letter" = some (some (.ref f23))) (ai23 : PySem.W.isFn K (.ref f23) = true)
    (am24 : PySem.W.findIn K (.ref C0) "_answer_to" = some (some (.ref f24))) (ai24 : PySem.W.isFn K (.ref f24) = true)
    (am25 : PySem.W.findIn K (.ref C0) "_hear_tell" = some (some (.ref f25))) (ai25 : PySem.W.isFn K (.ref f25) = true)
    (am26 : PySem.W.findIn K (.ref C0) "_hear_answer" = some (some (.ref f26))) (ai26 : PySem.W.isFn K (.ref f26) = true)
    (am27 : PySem.W.findIn K (.ref C0) "hear" = some (some (.ref f27))) (ai27 : PySem.W.isFn K (.ref f27) = true)
    {C1 : Addr} (aC1 : PySem.W.nsIn K mainGlobals "Net" = some (some (.ref C1))) (pg1 : PySem.W.plainGet K C1 Str.empty = true) (hd1 : PySem.W.hasDictIn K C1 = true) (po1 : PySem.W.plainOver K C1 = true) (sa1 : PySem.W.findIn K (.ref C1) "__setattr__" = some (some (.builtin "object.__setattr__"))) (mk1 : PySem.W.makesIn K C1 = true) (kc1 : PySem.W.keepIn K (.ref C1) = true)
    (na1_0 : PySem.W.findIn K (.ref C1) "size" = some none)
    (na1_1 : PySem.W.findIn K (.ref C1) "_nexts" = some none)
    (na1_2 : PySem.W.findIn K (.ref C1) "_befores" = some none)
    (na1_3 : PySem.W.findIn K (.ref C1) "_letters" = some none)
    (am0 : PySem.W.findIn K (.ref C1) "hold" = some (some (.ref f0))) (ai0 : PySem.W.isFn K (.ref f0) = true)
    (am1 : PySem.W.findIn K (.ref C1) "next_of" = some (some (.ref f1))) (ai1 : PySem.W.isFn K (.ref f1) = true)
    (am3 : PySem.W.findIn K (.ref C1) "clone" = some (some (.ref f3))) (ai3 : PySem.W.isFn K (.ref f3) = true)
    (am28 : PySem.W.findIn K (.ref C1) "houses" = some (some (.ref f28))) (ai28 : PySem.W.isFn K (.ref f28) = true)
    (am29 : PySem.W.findIn K (.ref C1) "check_house" = some (some (.ref f29))) (ai29 : PySem.W.isFn K (.ref f29) = true)
    (am31 : PySem.W.findIn K (.ref C1) "_check_letter" = some (some (.ref f31))) (ai31 : PySem.W.isFn K (.ref f31) = true)
    (am32 : PySem.W.findIn K (.ref C1) "_house_at" = some (some (.ref f32))) (ai32 : PySem.W.isFn K (.ref f32) = true)
    (am33 : PySem.W.findIn K (.ref C1) "_send" = some (some (.ref f33))) (ai33 : PySem.W.isFn K (.ref f33) = true)
    (am34 : PySem.W.findIn K (.ref C1) "letters" = some (some (.ref f34))) (ai34 : PySem.W.isFn K (.ref f34) = true)
    (am35 : PySem.W.findIn K (.ref C1) "tell" = some (some (.ref f35))) (ai35 : PySem.W.isFn K (.ref f35) = true)
    (am36 : PySem.W.findIn K (.ref C1) "ask" = some (some (.ref f36))) (ai36 : PySem.W.isFn K (.ref f36) = true)
    (am37 : PySem.W.findIn K (.ref C1) "nexts" = some (some (.ref f37))) (ai37 : PySem.W.isFn K (.ref f37) = true)
    (am38 : PySem.W.findIn K (.ref C1) "befores" = some (some (.ref f38))) (ai38 : PySem.W.isFn K (.ref f38) = true)
    (am39 : PySem.W.findIn K (.ref C1) "read" = some (some (.ref f39))) (ai39 : PySem.W.isFn K (.ref f39) = true)
    (am40 : PySem.W.findIn K (.ref C1) "_check_letters" = some (some (.ref f40))) (ai40 : PySem.W.isFn K (.ref f40) = true)
    (am41 : PySem.W.findIn K (.ref C1) "_check_places" = some (some (.ref f41))) (ai41 : PySem.W.isFn K (.ref f41) = true)
    (am42 : PySem.W.findIn K (.ref C1) "_take_befores" = some (some (.ref f42))) (ai42 : PySem.W.isFn K (.ref f42) = true)
    (am43 : PySem.W.findIn K (.ref C1) "__init__" = some (some (.ref f43))) (ai43 : PySem.W.isFn K (.ref f43) = true)
    (am46 : PySem.W.findIn K (.ref C1) "snapshot" = some (some (.ref f46))) (ai46 : PySem.W.isFn K (.ref f46) = true)
    {E0 : Addr} (aE0 : PySem.W.nsIn K mainGlobals "NoHouse" = some (some (.ref E0))) (eb0 : PySem.W.subIn K (.ref E0) (.type "BaseException") = some true) (ec0 : PySem.W.isClsIn K E0 = true) (et0 : PySem.W.typeIn K (.ref E0) = some (.type "type"))
    {E1 : Addr} (aE1 : PySem.W.nsIn K mainGlobals "OffCircle" = some (some (.ref E1))) (eb1 : PySem.W.subIn K (.ref E1) (.type "BaseException") = some true) (ec1 : PySem.W.isClsIn K E1 = true) (et1 : PySem.W.typeIn K (.ref E1) = some (.type "type"))
    {E2 : Addr} (aE2 : PySem.W.nsIn K mainGlobals "NoLetter" = some (some (.ref E2))) (eb2 : PySem.W.subIn K (.ref E2) (.type "BaseException") = some true) (ec2 : PySem.W.isClsIn K E2 = true) (et2 : PySem.W.typeIn K (.ref E2) = some (.type "type"))
    (z0 : PySem.W.nsIn K mainGlobals "abs" = some none)
    (z1 : PySem.W.nsIn K mainGlobals "bool" = some none)
    (z2 : PySem.W.nsIn K mainGlobals "dict" = some none)
    (z3 : PySem.W.nsIn K mainGlobals "int" = some none)
    (z4 : PySem.W.nsIn K mainGlobals "isinstance" = some none)
    (z5 : PySem.W.nsIn K mainGlobals "len" = some none)
    (z6 : PySem.W.nsIn K mainGlobals "list" = some none)
    (z7 : PySem.W.nsIn K mainGlobals "max" = some none)
    (z8 : PySem.W.nsIn K mainGlobals "range" = some none)
    (z9 : PySem.W.nsIn K mainGlobals "sorted" = some none)
    (z10 : PySem.W.nsIn K mainGlobals "str" = some none)
    (z11 : PySem.W.nsIn K mainGlobals "tuple" = some none)
    : ∃ fd : FuncData, (∀ (s : Shared) (v : Value), BindsTo s fd ⟨[v], []⟩ [("script", v)]) ∧ ∀ base : Heap, K.In base → base.Ns mainGlobals mg → FnOk l.prog w K mg base CX0 8 fa fd ["script"] (sp_law K) := by
  have e := hfa.symm.trans (PySem.W.mg_of X G a14)
  cases e
  have FD21 : FunD K "__init__" "House.__init__" (defArgs s_House__init) (defBody s_House__init) (defScope s_House__init) [.non] [] f21 _ := ⟨⟨_, _, _, _, _, _, _, _, _, _, rfl, l21, c21, .inr ⟨by decide, _, _, _, _, rfl, lt21, rfl, .cons rfl (.nil)⟩, .inl rfl⟩, k21⟩
  obtain ⟨da21, dva21, db21⟩ := FD21.binds1 (ps := ["self", "size", "place", "next_house", "before"]) 5 1 (by decide) rfl (fun _ _ _ _ _ _ _ us its l1 l2 => match us, its, l1, l2 with | [_, _, _, _, _], [_], _, _ => ⟨_, rfl, rfl⟩)
  cases dva21
  obtain ⟨de21, dve21, dbe21⟩ := FD21.binds1 (ps := ["self", "size", "place", "next_house", "before"]) 4 0 (by decide) rfl (fun _ _ _ _ _ _ _ us its l1 l2 => match us, its, l1, l2 with | [_, _, _, _], [_], _, _ => ⟨_, rfl, rfl⟩)
  obtain ⟨dk21, dbk21⟩ := FD21.kbindsD (ps := ["self", "size", "place", "next_house", "before"]) 4 ["before"] (fun us _ ws => us ++ ws) (by decide) (fun r1 _ r3 => r1.append r3) (fun _ _ _ _ _ _ _ us its ws l1 l2 l3 => match us, its, ws, l1, l2, l3 with | [_, _, _, _], [_], [_], _, _, _ => ⟨_, rfl, rfl⟩)
  have FD43 : FunD K "__init__" "Net.__init__" (defArgs s_Net__init) (defBody s_Net__init) (defScope s_Net__init) [] [("befores", .non), ("letters", .non)] f43 _ := ⟨⟨_, _, _, _, _, _, _, _, _, _, rfl, l43, c43, .inl ⟨rfl, rfl⟩, .inr ⟨_, rfl, fun x hx => by simp only [List.mem_cons, List.not_mem_nil, or_false] at hx; rcases hx with rfl | rfl <;> first | exact ⟨_, kw43_0, rfl⟩ | exact ⟨_, kw43_1, rfl⟩⟩⟩, k43⟩
  obtain ⟨dk43, dbk43⟩ := FD43.kbinds0 (ps := ["self", "size", "nexts", "befores", "letters"]) 3 ["befores", "letters"] [] (fun us _ ws => us ++ ws) (by decide) (fun _ h => nomatch h) (fun r1 _ r3 => r1.append r3) (fun _ _ _ _ _ _ us mv ws l1 l2 l3 => match us, mv, ws, l1, l2, l3 with | [_, _, _], [], [_, _], _, _, _ => rfl)
  obtain ⟨de43, dve43, dbe43⟩ := FD43.binds0 (ps := ["self", "size", "nexts", "befores", "letters"]) 3 (by decide) rfl (fun _ _ _ _ _ _ us its l1 l2 => match us, its, l1, l2 with | [_, _, _], [_, _], _, _ => ⟨_, _, _, _, _, _, rfl, rfl, _, _, _, _, _, _, rfl, rfl, rfl⟩)
  let T : T0 K mg := {
    m_abs := PySem.W.mg_none_of X G z0,
    m_bool := PySem.W.mg_none_of X G z1,
    m_dict := PySem.W.mg_none_of X G z2,
    m_int := PySem.W.mg_none_of X G z3,
    m_isinstance := PySem.W.mg_none_of X G z4,
    m_len := PySem.W.mg_none_of X G z5,
    m_list := PySem.W.mg_none_of X G z6,
    m_max := PySem.W.mg_none_of X G z7,
    m_range := PySem.W.mg_none_of X G z8,
    m_sorted := PySem.W.mg_none_of X G z9,
    m_str := PySem.W.mg_none_of X G z10,
    m_tuple := PySem.W.mg_none_of X G z11,
    a_Net__hold := f0,
    fd_Net__hold := _,
    F_Net__hold := fun_mk (st := s_Net__hold) l0 c0 k0,
    b_Net__hold := (fun_mk (st := s_Net__hold) l0 c0 k0).binds (ps := ["self", "house", "target"]) fun _ _ _ _ _ _ us hl => match us, hl with | [_, _, _], _ => rfl,
    a_Net__next_of := f1,
    fd_Net__next_of := _,
    F_Net__next_of := fun_mk (st := s_Net__next_of) l1 c1 k1,
    b_Net__next_of := (fun_mk (st := s_Net__next_of) l1 c1 k1).binds (ps := ["self", "house"]) fun _ _ _ _ _ _ us hl => match us, hl with | [_, _], _ => rfl,
    a_each_held_once := f2,
    fd_each_held_once := _,
    F_each_held_once := fun_mk (st := s_each_held_once) l2 c2 k2,
    b_each_held_once := (fun_mk (st := s_each_held_once) l2 c2 k2).binds (ps := ["net"]) fun _ _ _ _ _ _ us hl => match us, hl with | [_], _ => rfl,
    g_each_held_once := PySem.W.mg_of X G a2,
    a_Net__clone := f3,
    fd_Net__clone := _,
    F_Net__clone := fun_mk (st := s_Net__clone) l3 c3 k3,
    b_Net__clone := (fun_mk (st := s_Net__clone) l3 c3 k3).binds (ps := ["self"]) fun _ _ _ _ _ _ us hl => match us, hl with | [_], _ => rfl,
    a_house_at := f4,
    fd_house_at := _,
    F_house_at := fun_mk (st := s_house_at) l4 c4 k4,
    b_house_at := (fun_mk (st := s_house_at) l4 c4 k4).binds (ps := ["net", "start", "distance"]) fun _ _ _ _ _ _ us hl => match us, hl with | [_, _, _], _ => rfl,
    g_house_at := PySem.W.mg_of X G a4,
    a_holds_true := f5,
    fd_holds_true := _,
    F_holds_true := fun_mk (st := s_holds_true) l5 c5 k5,
    b_holds_true := (fun_mk (st := s_holds_true) l5 c5 k5).binds (ps := ["net", "saying"]) fun _ _ _ _ _ _ us hl => match us, hl with | [_, _], _ => rfl,
    g_holds_true := PySem.W.mg_of X G a5,
    a_is_faithful := f6,
    fd_is_faithful := _,
    F_is_faithful := fun_mk (st := s_is_faithful) l6 c6 k6,
    b_is_faithful := (fun_mk (st := s_is_faithful) l6 c6 k6).binds (ps := ["net", "house", "target"]) fun _ _ _ _ _ _ us hl => match us, hl with | [_, _, _], _ => rfl,
    g_is_faithful := PySem.W.mg_of X G a6,
    a__law_places := f7,
    fd__law_places := _,
    F__law_places := fun_mk (st := s__law_places) l7 c7 k7,
    b__law_places := (fun_mk (st := s__law_places) l7 c7 k7).binds (ps := ["tape", "size", "count"]) fun _ _ _ _ _ _ us hl => match us, hl with | [_, _, _], _ => rfl,
    g__law_places := PySem.W.mg_of X G a7,
    a__law_nexts := f8,
    fd__law_nexts := _,
    F__law_nexts := fun_mk (st := s__law_nexts) l8 c8 k8,
    b__law_nexts := (fun_mk (st := s__law_nexts) l8 c8 k8).binds (ps := ["tape", "places"]) fun _ _ _ _ _ _ us hl => match us, hl with | [_, _], _ => rfl,
    g__law_nexts := PySem.W.mg_of X G a8,
    a__law_behinds := f9,
    fd__law_behinds := _,
    F__law_behinds := fun_mk (st := s__law_behinds) l9 c9 k9,
    b__law_behinds := (fun_mk (st := s__law_behinds) l9 c9 k9).binds (ps := ["tape", "places"]) fun _ _ _ _ _ _ us hl => match us, hl with | [_, _], _ => rfl,
    g__law_behinds := PySem.W.mg_of X G a9,
    a__law_letter := f10,
    fd__law_letter := _,
    F__law_letter := fun_mk (st := s__law_letter) l10 c10 k10,
    b__law_letter := (fun_mk (st := s__law_letter) l10 c10 k10).binds (ps := ["tape", "places"]) fun _ _ _ _ _ _ us hl => match us, hl with | [_, _], _ => rfl,
    g__law_letter := PySem.W.mg_of X G a10,
    a__law_kept := f11,
    fd__law_kept := _,
    F__law_kept := fun_mk (st := s__law_kept) l11 c11 k11,
    b__law_kept := (fun_mk (st := s__law_kept) l11 c11 k11).binds (ps := ["size", "nexts", "table"]) fun _ _ _ _ _ _ us hl => match us, hl with | [_, _, _], _ => rfl,
    g__law_kept := PySem.W.mg_of X G a11,
    a__law_held := f12,
    fd__law_held := _,
    F__law_held := fun_mk (st := s__law_held) l12 c12 k12,
    b__law_held := (fun_mk (st := s__law_held) l12 c12 k12).binds (ps := ["net", "size", "nexts", "house", "target", "kept"]) fun _ _ _ _ _ _ us hl => match us, hl with | [_, _, _, _, _, _], _ => rfl,
    g__law_held := PySem.W.mg_of X G a12,
    a__law_stands := f13,
    fd__law_stands := _,
    F__law_stands := fun_mk (st := s__law_stands) l13 c13 k13,
    b__law_stands := (fun_mk (st := s__law_stands) l13 c13 k13).binds (ps := ["net", "nexts", "behinds", "post"]) fun _ _ _ _ _ _ us hl => match us, hl with | [_, _, _, _], _ => rfl,
    g__law_stands := PySem.W.mg_of X G a13,
    a_law := fa,
    fd_law := _,
    F_law := fun_mk (st := s_law) l14 c14 k14,
    b_law := (fun_mk (st := s_law) l14 c14 k14).binds (ps := ["script"]) fun _ _ _ _ _ _ us hl => match us, hl with | [_], _ => rfl,
    g_law := PySem.W.mg_of X G a14,
    a__law_tape := f15,
    fd__law_tape := _,
    F__law_tape := fun_mk (st := s__law_tape) l15 c15 k15,
    b__law_tape := (fun_mk (st := s__law_tape) l15 c15 k15).binds (ps := ["script"]) fun _ _ _ _ _ _ us hl => match us, hl with | [_], _ => rfl,
    g__law_tape := PySem.W.mg_of X G a15,
    a__law_pick := f16,
    fd__law_pick := _,
    F__law_pick := fun_mk (st := s__law_pick) l16 c16 k16,
    b__law_pick := (fun_mk (st := s__law_pick) l16 c16 k16).binds (ps := ["tape", "size"]) fun _ _ _ _ _ _ us hl => match us, hl with | [_, _], _ => rfl,
    g__law_pick := PySem.W.mg_of X G a16,
    a__law_size := f17,
    fd__law_size := _,
    F__law_size := fun_mk (st := s__law_size) l17 c17 k17,
    b__law_size := (fun_mk (st := s__law_size) l17 c17 k17).binds (ps := ["tape", "count"]) fun _ _ _ _ _ _ us hl => match us, hl with | [_, _], _ => rfl,
    g__law_size := PySem.W.mg_of X G a17,
    a__law_same := f18,
    fd__law_same := _,
    F__law_same := fun_mk (st := s__law_same) l18 c18 k18,
    b__law_same := (fun_mk (st := s__law_same) l18 c18 k18).binds (ps := ["actual", "due"]) fun _ _ _ _ _ _ us hl => match us, hl with | [_, _], _ => rfl,
    g__law_same := PySem.W.mg_of X G a18,
    a_far := f19,
    fd_far := _,
    F_far := fun_mk (st := s_far) l19 c19 k19,
    b_far := (fun_mk (st := s_far) l19 c19 k19).binds (ps := ["size", "start", "end"]) fun _ _ _ _ _ _ us hl => match us, hl with | [_, _, _], _ => rfl,
    g_far := PySem.W.mg_of X G a19,
    a_between := f20,
    fd_between := _,
    F_between := fun_mk (st := s_between) l20 c20 k20,
    b_between := (fun_mk (st := s_between) l20 c20 k20).binds (ps := ["size", "start", "place", "end"]) fun _ _ _ _ _ _ us hl => match us, hl with | [_, _, _, _], _ => rfl,
    g_between := PySem.W.mg_of X G a20,
    a_House__init := f21,
    fd_House__init := _,
    F_House__init := FD21,
    b_House__init := db21,
    bd_House__init := de21,
    bv_House__init := dve21,
    b1_House__init := dbe21,
    kg_House__init := _,
    kb_House__init := dbk21,
    a_House__tell_letter := f22,
    fd_House__tell_letter := _,
    F_House__tell_letter := fun_mk (st := s_House__tell_letter) l22 c22 k22,
    b_House__tell_letter := (fun_mk (st := s_House__tell_letter) l22 c22 k22).binds (ps := ["self"]) fun _ _ _ _ _ _ us hl => match us, hl with | [_], _ => rfl,
    a_House__ask_letter := f23,
    fd_House__ask_letter := _,
    F_House__ask_letter := fun_mk (st := s_House__ask_letter) l23 c23 k23,
    b_House__ask_letter := (fun_mk (st := s_House__ask_letter) l23 c23 k23).binds (ps := ["self"]) fun _ _ _ _ _ _ us hl => match us, hl with | [_], _ => rfl,
    a_House__answer_to := f24,
    fd_House__answer_to := _,
    F_House__answer_to := fun_mk (st := s_House__answer_to) l24 c24 k24,
    b_House__answer_to := (fun_mk (st := s_House__answer_to) l24 c24 k24).binds (ps := ["self", "sender"]) fun _ _ _ _ _ _ us hl => match us, hl with | [_, _], _ => rfl,
    a_House__hear_tell := f25,
    fd_House__hear_tell := _,
    F_House__hear_tell := fun_mk (st := s_House__hear_tell) l25 c25 k25,
    b_House__hear_tell := (fun_mk (st := s_House__hear_tell) l25 c25 k25).binds (ps := ["self", "sender"]) fun _ _ _ _ _ _ us hl => match us, hl with | [_, _], _ => rfl,
    a_House__hear_answer := f26,
    fd_House__hear_answer := _,
    F_House__hear_answer := fun_mk (st := s_House__hear_answer) l26 c26 k26,
    b_House__hear_answer := (fun_mk (st := s_House__hear_answer) l26 c26 k26).binds (ps := ["self", "sender", "named"]) fun _ _ _ _ _ _ us hl => match us, hl with | [_, _, _], _ => rfl,
    a_House__hear := f27,
    fd_House__hear := _,
    F_House__hear := fun_mk (st := s_House__hear) l27 c27 k27,
    b_House__hear := (fun_mk (st := s_House__hear) l27 c27 k27).binds (ps := ["self", "letter"]) fun _ _ _ _ _ _ us hl => match us, hl with | [_, _], _ => rfl,
    a_Net__houses := f28,
    fd_Net__houses := _,
    F_Net__houses := fun_mk (st := s_Net__houses) l28 c28 k28,
    b_Net__houses := (fun_mk (st := s_Net__houses) l28 c28 k28).binds (ps := ["self"]) fun _ _ _ _ _ _ us hl => match us, hl with | [_], _ => rfl,
    a_Net__check_house := f29,
    fd_Net__check_house := _,
    F_Net__check_house := fun_mk (st := s_Net__check_house) l29 c29 k29,
    b_Net__check_house := (fun_mk (st := s_Net__check_house) l29 c29 k29).binds (ps := ["self", "place"]) fun _ _ _ _ _ _ us hl => match us, hl with | [_, _], _ => rfl,
    a_check_on_circle := f30,
    fd_check_on_circle := _,
    F_check_on_circle := fun_mk (st := s_check_on_circle) l30 c30 k30,
    b_check_on_circle := (fun_mk (st := s_check_on_circle) l30 c30 k30).binds (ps := ["size", "place"]) fun _ _ _ _ _ _ us hl => match us, hl with | [_, _], _ => rfl,
    g_check_on_circle := PySem.W.mg_of X G a30,
    a_Net__check_letter := f31,
    fd_Net__check_letter := _,
    F_Net__check_letter := fun_mk (st := s_Net__check_letter) l31 c31 k31,
    b_Net__check_letter := (fun_mk (st := s_Net__check_letter) l31 c31 k31).binds (ps := ["self", "at"]) fun _ _ _ _ _ _ us hl => match us, hl with | [_, _], _ => rfl,
    a_Net__house_at := f32,
    fd_Net__house_at := _,
    F_Net__house_at := fun_mk (st := s_Net__house_at) l32 c32 k32,
    b_Net__house_at := (fun_mk (st := s_Net__house_at) l32 c32 k32).binds (ps := ["self", "place"]) fun _ _ _ _ _ _ us hl => match us, hl with | [_, _], _ => rfl,
    a_Net__send := f33,
    fd_Net__send := _,
    F_Net__send := fun_mk (st := s_Net__send) l33 c33 k33,
    b_Net__send := (fun_mk (st := s_Net__send) l33 c33 k33).binds (ps := ["self", "letter"]) fun _ _ _ _ _ _ us hl => match us, hl with | [_, _], _ => rfl,
    a_Net__letters := f34,
    fd_Net__letters := _,
    F_Net__letters := fun_mk (st := s_Net__letters) l34 c34 k34,
    b_Net__letters := (fun_mk (st := s_Net__letters) l34 c34 k34).binds (ps := ["self"]) fun _ _ _ _ _ _ us hl => match us, hl with | [_], _ => rfl,
    a_Net__tell := f35,
    fd_Net__tell := _,
    F_Net__tell := fun_mk (st := s_Net__tell) l35 c35 k35,
    b_Net__tell := (fun_mk (st := s_Net__tell) l35 c35 k35).binds (ps := ["self", "house"]) fun _ _ _ _ _ _ us hl => match us, hl with | [_, _], _ => rfl,
    a_Net__ask := f36,
    fd_Net__ask := _,
    F_Net__ask := fun_mk (st := s_Net__ask) l36 c36 k36,
    b_Net__ask := (fun_mk (st := s_Net__ask) l36 c36 k36).binds (ps := ["self", "house"]) fun _ _ _ _ _ _ us hl => match us, hl with | [_, _], _ => rfl,
    a_Net__nexts := f37,
    fd_Net__nexts := _,
    F_Net__nexts := fun_mk (st := s_Net__nexts) l37 c37 k37,
    b_Net__nexts := (fun_mk (st := s_Net__nexts) l37 c37 k37).binds (ps := ["self"]) fun _ _ _ _ _ _ us hl => match us, hl with | [_], _ => rfl,
    a_Net__befores := f38,
    fd_Net__befores := _,
    F_Net__befores := fun_mk (st := s_Net__befores) l38 c38 k38,
    b_Net__befores := (fun_mk (st := s_Net__befores) l38 c38 k38).binds (ps := ["self"]) fun _ _ _ _ _ _ us hl => match us, hl with | [_], _ => rfl,
    a_Net__read := f39,
    fd_Net__read := _,
    F_Net__read := fun_mk (st := s_Net__read) l39 c39 k39,
    b_Net__read := (fun_mk (st := s_Net__read) l39 c39 k39).binds (ps := ["self", "at"]) fun _ _ _ _ _ _ us hl => match us, hl with | [_, _], _ => rfl,
    a_Net__check_letters := f40,
    fd_Net__check_letters := _,
    F_Net__check_letters := fun_mk (st := s_Net__check_letters) l40 c40 k40,
    b_Net__check_letters := (fun_mk (st := s_Net__check_letters) l40 c40 k40).binds (ps := ["self"]) fun _ _ _ _ _ _ us hl => match us, hl with | [_], _ => rfl,
    a_Net__check_places := f41,
    fd_Net__check_places := _,
    F_Net__check_places := fun_mk (st := s_Net__check_places) l41 c41 k41,
    b_Net__check_places := (fun_mk (st := s_Net__check_places) l41 c41 k41).binds (ps := ["self"]) fun _ _ _ _ _ _ us hl => match us, hl with | [_], _ => rfl,
    a_Net__take_befores := f42,
    fd_Net__take_befores := _,
    F_Net__take_befores := fun_mk (st := s_Net__take_befores) l42 c42 k42,
    b_Net__take_befores := (fun_mk (st := s_Net__take_befores) l42 c42 k42).binds (ps := ["self", "befores"]) fun _ _ _ _ _ _ us hl => match us, hl with | [_, _], _ => rfl,
    a_Net__init := f43,
    fd_Net__init := _,
    F_Net__init := FD43,
    kg_Net__init := _,
    kb_Net__init := dbk43,
    bd_Net__init := de43,
    bv_Net__init := dve43,
    b1_Net__init := dbe43,
    a__law_far := f44,
    fd__law_far := _,
    F__law_far := fun_mk (st := s__law_far) l44 c44 k44,
    b__law_far := (fun_mk (st := s__law_far) l44 c44 k44).binds (ps := ["size", "start", "end"]) fun _ _ _ _ _ _ us hl => match us, hl with | [_, _, _], _ => rfl,
    g__law_far := PySem.W.mg_of X G a44,
    a__law_between := f45,
    fd__law_between := _,
    F__law_between := fun_mk (st := s__law_between) l45 c45 k45,
    b__law_between := (fun_mk (st := s__law_between) l45 c45 k45).binds (ps := ["size", "start", "place", "end"]) fun _ _ _ _ _ _ us hl => match us, hl with | [_, _, _, _], _ => rfl,
    g__law_between := PySem.W.mg_of X G a45,
    a_Net__snapshot := f46,
    fd_Net__snapshot := _,
    F_Net__snapshot := fun_mk (st := s_Net__snapshot) l46 c46 k46,
    b_Net__snapshot := (fun_mk (st := s_Net__snapshot) l46 c46 k46).binds (ps := ["self"]) fun _ _ _ _ _ _ us hl => match us, hl with | [_], _ => rfl,
    a__law_ordered := f47,
    fd__law_ordered := _,
    F__law_ordered := fun_mk (st := s__law_ordered) l47 c47 k47,
    b__law_ordered := (fun_mk (st := s__law_ordered) l47 c47 k47).binds (ps := ["table"]) fun _ _ _ _ _ _ us hl => match us, hl with | [_], _ => rfl,
    g__law_ordered := PySem.W.mg_of X G a47,
    a__lengths_from := f48,
    fd__lengths_from := _,
    F__lengths_from := fun_mk (st := s__lengths_from) l48 c48 k48,
    b__lengths_from := (fun_mk (st := s__lengths_from) l48 c48 k48).binds (ps := ["net", "start"]) fun _ _ _ _ _ _ us hl => match us, hl with | [_, _], _ => rfl,
    g__lengths_from := PySem.W.mg_of X G a48,
    C_House := C0,
    mc_House := PySem.W.mg_of X G aC0,
    cl_House := ⟨pg0, hd0, po0, sa0⟩,
    na_House_size := na0_0,
    na_House_place := na0_1,
    na_House_next_house := na0_2,
    na_House_before := na0_3,
    mk_House := ⟨mk0, am21, ai21, kc0⟩,
    me_House__tell_letter := ⟨am22, ai22, k22⟩,
    me_House__ask_letter := ⟨am23, ai23, k23⟩,
    me_House__answer_to := ⟨am24, ai24, k24⟩,
    me_House__hear_tell := ⟨am25, ai25, k25⟩,
    me_House__hear_answer := ⟨am26, ai26, k26⟩,
    me_House__hear := ⟨am27, ai27, k27⟩,
    C_Net := C1,
    mc_Net := PySem.W.mg_of X G aC1,
    cl_Net := ⟨pg1, hd1, po1, sa1⟩,
    na_Net_size := na1_0,
    na_Net__nexts := na1_1,
    na_Net__befores := na1_2,
    na_Net__letters := na1_3,
    me_Net__hold := ⟨am0, ai0, k0⟩,
    me_Net__next_of := ⟨am1, ai1, k1⟩,
    me_Net__clone := ⟨am3, ai3, k3⟩,
    me_Net__houses := ⟨am28, ai28, k28⟩,
    me_Net__check_house := ⟨am29, ai29, k29⟩,
    me_Net__check_letter := ⟨am31, ai31, k31⟩,
    me_Net__house_at := ⟨am32, ai32, k32⟩,
    me_Net__send := ⟨am33, ai33, k33⟩,
    me_Net__letters := ⟨am34, ai34, k34⟩,
    me_Net__tell := ⟨am35, ai35, k35⟩,
    me_Net__ask := ⟨am36, ai36, k36⟩,
    me_Net__nexts := ⟨am37, ai37, k37⟩,
    me_Net__befores := ⟨am38, ai38, k38⟩,
    me_Net__read := ⟨am39, ai39, k39⟩,
    me_Net__check_letters := ⟨am40, ai40, k40⟩,
    me_Net__check_places := ⟨am41, ai41, k41⟩,
    me_Net__take_befores := ⟨am42, ai42, k42⟩,
    mk_Net := ⟨mk1, am43, ai43, kc1⟩,
    me_Net__snapshot := ⟨am46, ai46, k46⟩,
    C_NoHouse := E0,
    mc_NoHouse := PySem.W.mg_of X G aE0,
    C_OffCircle := E1,
    mc_OffCircle := PySem.W.mg_of X G aE1,
    C_NoLetter := E2,
    mc_NoLetter := PySem.W.mg_of X G aE2 }
  exact ⟨T.fd_law, fun s v => .of_eq rfl, fun base _ _ => T.ok_law⟩
end Z
open PySem PySem.W PyProof.Rows
set_option maxHeartbeats 0 in
theorem PySem.Challenge.cw_ringlaps_k59_whole_faithful_exactly_holds : PySem.Challenge.rw_ringlaps_k59_whole_faithful_exactly.Holds := by
  w_on; o_law; k_head; (case hw => w_witness2)
  k_fill
  refine L2.walk_of (l := PySem.Challenge.rw_ringlaps_k59_whole_faithful_exactly) (n := 63) (k := 8) (x := "script") (CX := fun _ => L2.CX0) (sp := fun w => Z.sp_law _) rfl (by decide) rfl ⟨rfl, by decide, by decide⟩ (fun w h Y => PySem.W.kIn_of Y) ?F (fun _ _ a ns hl _ hS => ⟨a, ns, rfl, hS, hl, fun _ => rfl⟩) (fun _ _ _ _ _ h => h)
  case F =>
    intro w mg fa h KX G hmg
    refine' Z.all_mk (l := PySem.Challenge.rw_ringlaps_k59_whole_faithful_exactly) KX G hmg ?l0 ?c0 ?k0 ?l1 ?c1 ?k1 ?a2 ?l2 ?c2 ?k2 ?l3 ?c3 ?k3 ?a4 ?l4 ?c4 ?k4 ?a5 ?l5 ?c5 ?k5 ?a6 ?l6 ?c6 ?k6 ?a7 ?l7 ?c7 ?k7 ?a8 ?l8 ?c8 ?k8 ?a9 ?l9 ?c9 ?k9 ?a10 ?l10 ?c10 ?k10 ?a11 ?l11 ?c11 ?k11 ?a12 ?l12 ?c12 ?k12 ?a13 ?l13 ?c13 ?k13 ?a14 ?l14 ?c14 ?k14 ?a15 ?l15 ?c15 ?k15 ?a16 ?l16 ?c16 ?k16 ?a17 ?l17 ?c17 ?k17 ?a18 ?l18 ?c18 ?k18 ?a19 ?l19 ?c19 ?k19 ?a20 ?l20 ?c20 ?k20 ?lt21 ?l21 ?c21 ?k21 ?l22 ?c22 ?k22 ?l23 ?c23 ?k23 ?l24 ?c24 ?k24 ?l25 ?c25 ?k25 ?l26 ?c26 ?k26 ?l27 ?c27 ?k27 ?l28 ?c28 ?k28 ?l29 ?c29 ?k29 ?a30 ?l30 ?c30 ?k30 ?l31 ?c31 ?k31 ?l32 ?c32 ?k32 ?l33 ?c33 ?k33 ?l34 ?c34 ?k34 ?l35 ?c35 ?k35 ?l36 ?c36 ?k36 ?l37 ?c37 ?k37 ?l38 ?c38 ?k38 ?l39 ?c39 ?k39 ?l40 ?c40 ?k40 ?l41 ?c41 ?k41 ?l42 ?c42 ?k42 ?kw43_0 ?kw43_1 ?l43 ?c43 ?k43 ?a44 ?l44 ?c44 ?k44 ?a45 ?l45 ?c45 ?k45 ?l46 ?c46 ?k46 ?a47 ?l47 ?c47 ?k47 ?a48 ?l48 ?c48 ?k48 ?aC0 ?pg0 ?hd0 ?po0 ?sa0 ?mk0 ?kc0 ?na0_0 ?na0_1 ?na0_2 ?na0_3 ?am21 ?ai21 ?am22 ?ai22 ?am23 ?ai23 ?am24 ?ai24 ?am25 ?ai25 ?am26 ?ai26 ?am27 ?ai27 ?aC1 ?pg1 ?hd1 ?po1 ?sa1 ?mk1 ?kc1 ?na1_0 ?na1_1 ?na1_2 ?na1_3 ?am0 ?ai0 ?am1 ?ai1 ?am3 ?ai3 ?am28 ?ai28 ?am29 ?ai29 ?am31 ?ai31 ?am32 ?ai32 ?am33 ?ai33 ?am34 ?ai34 ?am35 ?ai35 ?am36 ?ai36 ?am37 ?ai37 ?am38 ?ai38 ?am39 ?ai39 ?am40 ?ai40 ?am41 ?ai41 ?am42 ?ai42 ?am43 ?ai43 ?am46 ?ai46 ?aE0 ?eb0 ?ec0 ?et0 ?aE1 ?eb1 ?ec1 ?et1 ?aE2 ?eb2 ?ec2 ?et2 ?z0 ?z1 ?z2 ?z3 ?z4 ?z5 ?z6 ?z7 ?z8 ?z9 ?z10 ?z11
    (case a2 => k_is); (case a4 => k_is); (case a5 => k_is); (case a6 => k_is); (case a7 => k_is); (case a8 => k_is); (case a9 => k_is); (case a10 => k_is); (case a11 => k_is); (case a12 => k_is); (case a13 => k_is); (case a14 => k_is); (case a15 => k_is); (case a16 => k_is); (case a17 => k_is); (case a18 => k_is); (case a19 => k_is); (case a20 => k_is); (case a30 => k_is); (case a44 => k_is); (case a45 => k_is); (case a47 => k_is); (case a48 => k_is); (case aC0 => k_is); (case aC1 => k_is); (case aE0 => k_is); (case aE1 => k_is); (case aE2 => k_is); (case am21 => k_is); (case am22 => k_is); (case am23 => k_is); (case am24 => k_is); (case am25 => k_is); (case am26 => k_is); (case am27 => k_is); (case am0 => k_is); (case am1 => k_is); (case am3 => k_is); (case am28 => k_is); (case am29 => k_is); (case am31 => k_is); (case am32 => k_is); (case am33 => k_is); (case am34 => k_is); (case am35 => k_is); (case am36 => k_is); (case am37 => k_is); (case am38 => k_is); (case am39 => k_is); (case am40 => k_is); (case am41 => k_is); (case am42 => k_is); (case am43 => k_is); (case am46 => k_is); (case l0 => k_is); (case l1 => k_is); (case l2 => k_is); (case l3 => k_is); (case l4 => k_is); (case l5 => k_is); (case l6 => k_is); (case l7 => k_is); (case l8 => k_is); (case l9 => k_is); (case l10 => k_is); (case l11 => k_is); (case l12 => k_is); (case l13 => k_is); (case l14 => k_is); (case l15 => k_is); (case l16 => k_is); (case l17 => k_is); (case l18 => k_is); (case l19 => k_is); (case l20 => k_is); (case l21 => k_is); (case l22 => k_is); (case l23 => k_is); (case l24 => k_is); (case l25 => k_is); (case l26 => k_is); (case l27 => k_is); (case l28 => k_is); (case l29 => k_is); (case l30 => k_is); (case l31 => k_is); (case l32 => k_is); (case l33 => k_is); (case l34 => k_is); (case l35 => k_is); (case l36 => k_is); (case l37 => k_is); (case l38 => k_is); (case l39 => k_is); (case l40 => k_is); (case l41 => k_is); (case l42 => k_is); (case l43 => k_is); (case l44 => k_is); (case l45 => k_is); (case l46 => k_is); (case l47 => k_is); (case l48 => k_is); (case c0 => k_is); (case k0 => k_is); (case c1 => k_is); (case k1 => k_is); (case c2 => k_is); (case k2 => k_is); (case c3 => k_is); (case k3 => k_is); (case c4 => k_is); (case k4 => k_is); (case c5 => k_is); (case k5 => k_is); (case c6 => k_is); (case k6 => k_is); (case c7 => k_is); (case k7 => k_is); (case c8 => k_is); (case k8 => k_is); (case c9 => k_is); (case k9 => k_is); (case c10 => k_is); (case k10 => k_is); (case c11 => k_is); (case k11 => k_is); (case c12 => k_is); (case k12 => k_is); (case c13 => k_is); (case k13 => k_is); (case c14 => k_is); (case k14 => k_is); (case c15 => k_is); (case k15 => k_is); (case c16 => k_is); (case k16 => k_is); (case c17 => k_is); (case k17 => k_is); (case c18 => k_is); (case k18 => k_is); (case c19 => k_is); (case k19 => k_is); (case c20 => k_is); (case k20 => k_is); (case lt21 => k_is); (case c21 => k_is); (case k21 => k_is); (case c22 => k_is); (case k22 => k_is); (case c23 => k_is); (case k23 => k_is); (case c24 => k_is); (case k24 => k_is); (case c25 => k_is); (case k25 => k_is); (case c26 => k_is); (case k26 => k_is); (case c27 => k_is); (case k27 => k_is); (case c28 => k_is); (case k28 => k_is); (case c29 => k_is); (case k29 => k_is); (case c30 => k_is); (case k30 => k_is); (case c31 => k_is); (case k31 => k_is); (case c32 => k_is); (case k32 => k_is); (case c33 => k_is); (case k33 => k_is); (case c34 => k_is); (case k34 => k_is); (case c35 => k_is); (case k35 => k_is); (case c36 => k_is); (case k36 => k_is); (case c37 => k_is); (case k37 => k_is); (case c38 => k_is); (case k38 => k_is); (case c39 => k_is); (case k39 => k_is); (case c40 => k_is); (case k40 => k_is); (case c41 => k_is); (case k41 => k_is); (case c42 => k_is); (case k42 => k_is); (case kw43_0 => k_is); (case kw43_1 => k_is); (case c43 => k_is); (case k43 => k_is); (case c44 => k_is); (case k44 => k_is); (case c45 => k_is); (case k45 => k_is); (case c46 => k_is); (case k46 => k_is); (case c47 => k_is); (case k47 => k_is); (case c48 => k_is); (case k48 => k_is); (case pg0 => k_is); (case hd0 => k_is); (case po0 => k_is); (case sa0 => k_is); (case mk0 => k_is); (case kc0 => k_is); (case na0_0 => k_is); (case na0_1 => k_is); (case na0_2 => k_is); (case na0_3 => k_is); (case ai21 => k_is); (case ai22 => k_is); (case ai23 => k_is); (case ai24 => k_is); (case ai25 => k_is); (case ai26 => k_is); (case ai27 => k_is); (case pg1 => k_is); (case hd1 => k_is); (case po1 => k_is); (case sa1 => k_is); (case mk1 => k_is); (case kc1 => k_is); (case na1_0 => k_is); (case na1_1 => k_is); (case na1_2 => k_is); (case na1_3 => k_is); (case ai0 => k_is); (case ai1 => k_is); (case ai3 => k_is); (case ai28 => k_is); (case ai29 => k_is); (case ai31 => k_is); (case ai32 => k_is); (case ai33 => k_is); (case ai34 => k_is); (case ai35 => k_is); (case ai36 => k_is); (case ai37 => k_is); (case ai38 => k_is); (case ai39 => k_is); (case ai40 => k_is); (case ai41 => k_is); (case ai42 => k_is); (case ai43 => k_is); (case ai46 => k_is); (case eb0 => k_is); (case ec0 => k_is); (case et0 => k_is); (case eb1 => k_is); (case ec1 => k_is); (case et1 => k_is); (case eb2 => k_is); (case ec2 => k_is); (case et2 => k_is); (case z0 => k_is); (case z1 => k_is); (case z2 => k_is); (case z3 => k_is); (case z4 => k_is); (case z5 => k_is); (case z6 => k_is); (case z7 => k_is); (case z8 => k_is); (case z9 => k_is); (case z10 => k_is); (case z11 => k_is)
#print axioms PySem.Challenge.cw_ringlaps_k59_whole_faithful_exactly_holds
