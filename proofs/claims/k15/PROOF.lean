import PyProof.Rows.All
import Wide.All
import OpenK.AllK
import Wide.FinOn
import PySem.Challenge.RW_ringlaps_k15_sayings_listed
import HandS.ForMost
import HandS.Star
import HandS.Defaults
import HandS.MakeKw
import HandS.Style
import HandS.Zip0
import HandS.Zip
import KE.KDictZip
import HandS.Steps
import HandS.ListItems
import HandS.Codes
import HandS.Conv
import HandS.Dict
import HandS.DictComp
import HandS.More
import HandS.Small
import HandS.MakeKwOnly
import HandS.ForDict
import HandS.Walk
import HandS.Wide
import HandS.Flow
import HandS.IsInst
import HandS.Sort
import HandS.SortKw
import HandS.Iter
import KE.KEqSeq
import KE.KUnpackStar
import KE.KDictSum
import HandS.ExcInit
import HandS.ExcInitHot
import HandS.ExcCtx
import HandS.HotCalls
import HandS.ExcOwn
import HandS.SetFor
import HandS.ExcValue
import KE.KExcIs
import HandS.SetKeys
set_option Elab.async false
set_option linter.all false
set_option maxRecDepth 100000
set_option maxHeartbeats 4000000
namespace Z
open PySem PySem.Spec PyProof.Rows L2
def topS (i : Nat) : Stmt := PySem.Challenge.pw_ringlaps_k15_sayings_listed.main.body.getD i (.Pass ⟨0, 0, 0, 0⟩)
abbrev s__law_tape : Stmt := topS 19
theorem sc__law_tape : FnScope ["script", "cells", "cell"] ["script"] (defScope s__law_tape) := ⟨rfl, rfl, rfl, by decide +kernel, rfl, by decide +kernel, by decide +kernel⟩
abbrev s__law_pick : Stmt := topS 20
theorem sc__law_pick : FnScope ["tape", "size", "cells", "cell", "k", "number", "used", "mixed"] ["tape", "size"] (defScope s__law_pick) := ⟨rfl, rfl, rfl, by decide +kernel, rfl, by decide +kernel, by decide +kernel⟩
abbrev s__law_size : Stmt := topS 21
theorem sc__law_size : FnScope ["tape", "count", "kind", "least"] ["tape", "count"] (defScope s__law_size) := ⟨rfl, rfl, rfl, by decide +kernel, rfl, by decide +kernel, by decide +kernel⟩
abbrev s__law_same : Stmt := topS 29
theorem sc__law_same : FnScope ["actual", "due", "k"] ["actual", "due"] (defScope s__law_same) := ⟨rfl, rfl, rfl, by decide +kernel, rfl, by decide +kernel, by decide +kernel⟩
abbrev s_far : Stmt := topS 8
theorem sc_far : FnScope ["size", "start", "end"] ["size", "start", "end"] (defScope s_far) := ⟨rfl, rfl, rfl, by decide +kernel, rfl, by decide +kernel, by decide +kernel⟩
abbrev s_between : Stmt := topS 9
theorem sc_between : FnScope ["size", "start", "place", "end"] ["size", "start", "place", "end"] (defScope s_between) := ⟨rfl, rfl, rfl, by decide +kernel, rfl, by decide +kernel, by decide +kernel⟩
abbrev s_House__init : Stmt := inClass (topS 15) 0
theorem sc_House__init : FnScope ["self", "size", "place", "next_house", "before"] ["self", "size", "place", "next_house", "before"] (defScope s_House__init) := ⟨rfl, rfl, rfl, by decide +kernel, rfl, by decide +kernel, by decide +kernel⟩
abbrev s_House__tell_letter : Stmt := inClass (topS 15) 1
theorem sc_House__tell_letter : FnScope ["self"] ["self"] (defScope s_House__tell_letter) := ⟨rfl, rfl, rfl, by decide +kernel, rfl, by decide +kernel, by decide +kernel⟩
abbrev s_House__ask_letter : Stmt := inClass (topS 15) 2
theorem sc_House__ask_letter : FnScope ["self"] ["self"] (defScope s_House__ask_letter) := ⟨rfl, rfl, rfl, by decide +kernel, rfl, by decide +kernel, by decide +kernel⟩
abbrev s_House__answer_to : Stmt := inClass (topS 15) 4
theorem sc_House__answer_to : FnScope ["self", "sender"] ["self", "sender"] (defScope s_House__answer_to) := ⟨rfl, rfl, rfl, by decide +kernel, rfl, by decide +kernel, by decide +kernel⟩
abbrev s_House__hear_tell : Stmt := inClass (topS 15) 5
theorem sc_House__hear_tell : FnScope ["self", "sender"] ["self", "sender"] (defScope s_House__hear_tell) := ⟨rfl, rfl, rfl, by decide +kernel, rfl, by decide +kernel, by decide +kernel⟩
abbrev s_House__hear_answer : Stmt := inClass (topS 15) 6
theorem sc_House__hear_answer : FnScope ["self", "sender", "named"] ["self", "sender", "named"] (defScope s_House__hear_answer) := ⟨rfl, rfl, rfl, by decide +kernel, rfl, by decide +kernel, by decide +kernel⟩
abbrev s_House__hear : Stmt := inClass (topS 15) 3
theorem sc_House__hear : FnScope ["self", "letter", "word", "sender"] ["self", "letter"] (defScope s_House__hear) := ⟨rfl, rfl, rfl, by decide +kernel, rfl, by decide +kernel, by decide +kernel⟩
abbrev s_Net__houses : Stmt := inClass (topS 17) 1
theorem sc_Net__houses : FnScope ["self"] ["self"] (defScope s_Net__houses) := ⟨rfl, rfl, rfl, by decide +kernel, rfl, by decide +kernel, by decide +kernel⟩
abbrev s_Net__check_house : Stmt := inClass (topS 17) 18
theorem sc_Net__check_house : FnScope ["self", "place"] ["self", "place"] (defScope s_Net__check_house) := ⟨rfl, rfl, rfl, by decide +kernel, rfl, by decide +kernel, by decide +kernel⟩
abbrev s_check_on_circle : Stmt := topS 10
theorem sc_check_on_circle : FnScope ["size", "place"] ["size", "place"] (defScope s_check_on_circle) := ⟨rfl, rfl, rfl, by decide +kernel, rfl, by decide +kernel, by decide +kernel⟩
abbrev s_Net__check_letter : Stmt := inClass (topS 17) 23
theorem sc_Net__check_letter : FnScope ["self", "at"] ["self", "at"] (defScope s_Net__check_letter) := ⟨rfl, rfl, rfl, by decide +kernel, rfl, by decide +kernel, by decide +kernel⟩
abbrev s_Net__house_at : Stmt := inClass (topS 17) 21
theorem sc_Net__house_at : FnScope ["self", "place"] ["self", "place"] (defScope s_Net__house_at) := ⟨rfl, rfl, rfl, by decide +kernel, rfl, by decide +kernel, by decide +kernel⟩
abbrev s_Net__send : Stmt := inClass (topS 17) 22
theorem sc_Net__send : FnScope ["self", "letter"] ["self", "letter"] (defScope s_Net__send) := ⟨rfl, rfl, rfl, by decide +kernel, rfl, by decide +kernel, by decide +kernel⟩
abbrev s_Net__letters : Stmt := inClass (topS 17) 4
theorem sc_Net__letters : FnScope ["self"] ["self"] (defScope s_Net__letters) := ⟨rfl, rfl, rfl, by decide +kernel, rfl, by decide +kernel, by decide +kernel⟩
abbrev s_Net__tell : Stmt := inClass (topS 17) 9
theorem sc_Net__tell : FnScope ["self", "house"] ["self", "house"] (defScope s_Net__tell) := ⟨rfl, rfl, rfl, by decide +kernel, rfl, by decide +kernel, by decide +kernel⟩
abbrev s_Net__ask : Stmt := inClass (topS 17) 10
theorem sc_Net__ask : FnScope ["self", "house"] ["self", "house"] (defScope s_Net__ask) := ⟨rfl, rfl, rfl, by decide +kernel, rfl, by decide +kernel, by decide +kernel⟩
abbrev s_Net__lose : Stmt := inClass (topS 17) 12
theorem sc_Net__lose : FnScope ["self", "at"] ["self", "at"] (defScope s_Net__lose) := ⟨rfl, rfl, rfl, by decide +kernel, rfl, by decide +kernel, by decide +kernel⟩
abbrev s_Net__repeat : Stmt := inClass (topS 17) 13
theorem sc_Net__repeat : FnScope ["self", "at"] ["self", "at"] (defScope s_Net__repeat) := ⟨rfl, rfl, rfl, by decide +kernel, rfl, by decide +kernel, by decide +kernel⟩
abbrev s_Net__nexts : Stmt := inClass (topS 17) 2
theorem sc_Net__nexts : FnScope ["self", "house"] ["self"] (defScope s_Net__nexts) := ⟨rfl, rfl, rfl, by decide +kernel, rfl, by decide +kernel, by decide +kernel⟩
abbrev s_Net__befores : Stmt := inClass (topS 17) 3
theorem sc_Net__befores : FnScope ["self", "befores", "house"] ["self"] (defScope s_Net__befores) := ⟨rfl, rfl, rfl, by decide +kernel, rfl, by decide +kernel, by decide +kernel⟩
abbrev s_Net__read : Stmt := inClass (topS 17) 11
theorem sc_Net__read : FnScope ["self", "at", "letter", "reader", "house", "answer"] ["self", "at"] (defScope s_Net__read) := ⟨rfl, rfl, rfl, by decide +kernel, rfl, by decide +kernel, by decide +kernel⟩
abbrev s_Net__check_letters : Stmt := inClass (topS 17) 26
theorem sc_Net__check_letters : FnScope ["self", "letter", "place"] ["self"] (defScope s_Net__check_letters) := ⟨rfl, rfl, rfl, by decide +kernel, rfl, by decide +kernel, by decide +kernel⟩
abbrev s_Net__check_places : Stmt := inClass (topS 17) 24
theorem sc_Net__check_places : FnScope ["self", "house"] ["self"] (defScope s_Net__check_places) := ⟨rfl, rfl, rfl, by decide +kernel, rfl, by decide +kernel, by decide +kernel⟩
abbrev s_Net__take_befores : Stmt := inClass (topS 17) 25
theorem sc_Net__take_befores : FnScope ["self", "befores", "house"] ["self", "befores"] (defScope s_Net__take_befores) := ⟨rfl, rfl, rfl, by decide +kernel, rfl, by decide +kernel, by decide +kernel⟩
abbrev s_Net__init : Stmt := inClass (topS 17) 0
theorem sc_Net__init : FnScope ["self", "size", "nexts", "befores", "letters", "house"] ["self", "size", "nexts", "befores", "letters"] (defScope s_Net__init) := ⟨rfl, rfl, rfl, by decide +kernel, rfl, by decide +kernel, by decide +kernel⟩
abbrev s_Net__check_free : Stmt := inClass (topS 17) 19
theorem sc_Net__check_free : FnScope ["self", "place"] ["self", "place"] (defScope s_Net__check_free) := ⟨rfl, rfl, rfl, by decide +kernel, rfl, by decide +kernel, by decide +kernel⟩
abbrev s_Net__admit : Stmt := inClass (topS 17) 14
theorem sc_Net__admit : FnScope ["self", "place", "host"] ["self", "place", "host"] (defScope s_Net__admit) := ⟨rfl, rfl, rfl, by decide +kernel, rfl, by decide +kernel, by decide +kernel⟩
abbrev s__law_far : Stmt := topS 27
theorem sc__law_far : FnScope ["size", "start", "end", "steps"] ["size", "start", "end"] (defScope s__law_far) := ⟨rfl, rfl, rfl, by decide +kernel, rfl, by decide +kernel, by decide +kernel⟩
abbrev s__law_between : Stmt := topS 31
theorem sc__law_between : FnScope ["size", "start", "place", "end"] ["size", "start", "place", "end"] (defScope s__law_between) := ⟨rfl, rfl, rfl, by decide +kernel, rfl, by decide +kernel, by decide +kernel⟩
abbrev s__law_read : Stmt := topS 32
theorem sc__law_read : FnScope ["size", "nexts", "behinds", "post", "at", "letter", "reader", "sender", "before"] ["size", "nexts", "behinds", "post", "at"] (defScope s__law_read) := ⟨rfl, rfl, rfl, by decide +kernel, rfl, by decide +kernel, by decide +kernel⟩
abbrev s_Net__hold : Stmt := inClass (topS 17) 15
theorem sc_Net__hold : FnScope ["self", "house", "target", "old"] ["self", "house", "target"] (defScope s_Net__hold) := ⟨rfl, rfl, rfl, by decide +kernel, rfl, by decide +kernel, by decide +kernel⟩
abbrev s_Net__set_before : Stmt := inClass (topS 17) 16
theorem sc_Net__set_before : FnScope ["self", "house", "before"] ["self", "house", "before"] (defScope s_Net__set_before) := ⟨rfl, rfl, rfl, by decide +kernel, rfl, by decide +kernel, by decide +kernel⟩
abbrev s_Net__snapshot : Stmt := inClass (topS 17) 7
theorem sc_Net__snapshot : FnScope ["self", "rows", "house"] ["self"] (defScope s_Net__snapshot) := ⟨rfl, rfl, rfl, by decide +kernel, rfl, by decide +kernel, by decide +kernel⟩
abbrev s__pairs_said_by : Stmt := topS 13
theorem sc__pairs_said_by : FnScope ["letter", "word", "reader", "sender", "named"] ["letter"] (defScope s__pairs_said_by) := ⟨rfl, rfl, rfl, by decide +kernel, rfl, by decide +kernel, by decide +kernel⟩
abbrev s_sayings : Stmt := topS 12
theorem sc_sayings : FnScope ["net", "pairs", "letter", "start", "end", "house", "before"] ["net"] (defScope s_sayings) := ⟨rfl, rfl, rfl, by decide +kernel, rfl, by decide +kernel, by decide +kernel⟩
abbrev s__law_sayings : Stmt := topS 28
theorem sc__law_sayings : FnScope ["size", "nexts", "behinds", "post", "one", "said", "letter"] ["size", "nexts", "behinds", "post"] (defScope s__law_sayings) := ⟨rfl, rfl, rfl, by decide +kernel, rfl, by decide +kernel, by decide +kernel⟩
abbrev s__law_snapshot : Stmt := topS 30
theorem sc__law_snapshot : FnScope ["size", "nexts", "behinds", "post", "rows", "one"] ["size", "nexts", "behinds", "post"] (defScope s__law_snapshot) := ⟨rfl, rfl, rfl, by decide +kernel, rfl, by decide +kernel, by decide +kernel⟩
abbrev s__law_places : Stmt := topS 22
theorem sc__law_places : FnScope ["tape", "size", "count", "places", "k", "place", "other"] ["tape", "size", "count"] (defScope s__law_places) := ⟨rfl, rfl, rfl, by decide +kernel, rfl, by decide +kernel, by decide +kernel⟩
abbrev s__law_nexts : Stmt := topS 23
theorem sc__law_nexts : FnScope ["tape", "places", "nexts", "count", "first", "last", "ring", "at"] ["tape", "places"] (defScope s__law_nexts) := ⟨rfl, rfl, rfl, by decide +kernel, rfl, by decide +kernel, by decide +kernel⟩
abbrev s__law_parts : Stmt := topS 24
theorem sc__law_parts : FnScope ["tape", "places", "cut", "nexts", "rest", "house"] ["tape", "places"] (defScope s__law_parts) := ⟨rfl, rfl, rfl, by decide +kernel, rfl, by decide +kernel, by decide +kernel⟩
abbrev s__law_behinds : Stmt := topS 25
theorem sc__law_behinds : FnScope ["tape", "nexts", "houses", "behinds", "mood", "house", "kind", "holders", "one"] ["tape", "nexts"] (defScope s__law_behinds) := ⟨rfl, rfl, rfl, by decide +kernel, rfl, by decide +kernel, by decide +kernel⟩
abbrev s__law_post : Stmt := topS 26
theorem sc__law_post : FnScope ["tape", "nexts", "houses", "post", "mood", "many", "k", "sender", "reader", "named", "holders", "kind", "one"] ["tape", "nexts"] (defScope s__law_post) := ⟨rfl, rfl, rfl, by decide +kernel, rfl, by decide +kernel, by decide +kernel⟩
abbrev s__law_listed : Stmt := topS 34
theorem sc__law_listed : FnScope ["net", "size", "nexts", "behinds", "post", "due", "told"] ["net", "size", "nexts", "behinds", "post"] (defScope s__law_listed) := ⟨rfl, rfl, rfl, by decide +kernel, rfl, by decide +kernel, by decide +kernel⟩
abbrev s__law_change : Stmt := topS 33
theorem sc__law_change : FnScope ["tape", "net", "size", "nexts", "behinds", "post", "houses", "house", "other", "place", "kind", "at"] ["tape", "net", "size", "nexts", "behinds", "post"] (defScope s__law_change) := ⟨rfl, rfl, rfl, by decide +kernel, rfl, by decide +kernel, by decide +kernel⟩
abbrev s_law : Stmt := topS 35
theorem sc_law : FnScope ["script", "tape", "count", "size", "places", "nexts", "behinds", "post", "net", "changes", "k"] ["script"] (defScope s_law) := ⟨rfl, rfl, rfl, by decide +kernel, rfl, by decide +kernel, by decide +kernel⟩
/-! what is asked of the error in hand: (a, oe) is pinned, its dict at d -/
structure ErrC (K : PySem.W.Frag) (D : Addr) : Prop where
  cl : (PySem.W.clsIn K D).isSome = true
  ga : PySem.W.findIn K (.ref D) "__getattribute__" = some (some (.builtin "BaseException.__getattribute__"))
  gg : PySem.W.findIn K (.ref D) "__getattr__" = some none
  ex : PySem.W.subIn K (.ref D) (.type "BaseException") = some true
  hd : PySem.W.hasDictIn K D = true
  ca : PySem.W.findIn K (.ref D) "__class__" = some (some (.builtin "object.__class__"))
  cn : PySem.W.specialIn K (.builtin "object.__class__") "__get__" = some (some (.builtin "getset_descriptor.__get__"))
  ct : PySem.W.takesIn K (.builtin "object.__class__") = some true
  mo : PySem.W.mroIn K D (.type "object") = some true
structure T0 (K : PySem.W.Frag) (mg : Str → Option Value) where
  m_abs : mg "abs" = none
  m_bool : mg "bool" = none
  m_dict : mg "dict" = none
  m_int : mg "int" = none
  m_isinstance : mg "isinstance" = none
  m_len : mg "len" = none
  m_list : mg "list" = none
  m_max : mg "max" = none
  m_range : mg "range" = none
  m_sorted : mg "sorted" = none
  m_str : mg "str" = none
  m_tuple : mg "tuple" = none
  a__law_tape : Addr
  fd__law_tape : FuncData
  F__law_tape : Fun K "_law_tape" "_law_tape" s__law_tape a__law_tape fd__law_tape
  b__law_tape : Binds K fd__law_tape ["script"] []
  g__law_tape : mg "_law_tape" = some (.ref a__law_tape)
  a__law_pick : Addr
  fd__law_pick : FuncData
  F__law_pick : Fun K "_law_pick" "_law_pick" s__law_pick a__law_pick fd__law_pick
  b__law_pick : Binds K fd__law_pick ["tape", "size"] []
  g__law_pick : mg "_law_pick" = some (.ref a__law_pick)
  a__law_size : Addr
  fd__law_size : FuncData
  F__law_size : Fun K "_law_size" "_law_size" s__law_size a__law_size fd__law_size
  b__law_size : Binds K fd__law_size ["tape", "count"] []
  g__law_size : mg "_law_size" = some (.ref a__law_size)
  a__law_same : Addr
  fd__law_same : FuncData
  F__law_same : Fun K "_law_same" "_law_same" s__law_same a__law_same fd__law_same
  b__law_same : Binds K fd__law_same ["actual", "due"] []
  g__law_same : mg "_law_same" = some (.ref a__law_same)
  a_far : Addr
  fd_far : FuncData
  F_far : Fun K "far" "far" s_far a_far fd_far
  b_far : Binds K fd_far ["size", "start", "end"] []
  g_far : mg "far" = some (.ref a_far)
  a_between : Addr
  fd_between : FuncData
  F_between : Fun K "between" "between" s_between a_between fd_between
  b_between : Binds K fd_between ["size", "start", "place", "end"] []
  g_between : mg "between" = some (.ref a_between)
  a_House__init : Addr
  fd_House__init : FuncData
  F_House__init : FunD K "__init__" "House.__init__" (defArgs s_House__init) (defBody s_House__init) (defScope s_House__init) [.non] [] a_House__init fd_House__init
  b_House__init : Binds K fd_House__init ["self", "size", "place", "next_house", "before"] []
  bd_House__init : List Value
  bv_House__init : Vals [.non] bd_House__init
  b1_House__init : Binds K fd_House__init ["self", "size", "place", "next_house", "before"] bd_House__init
  kg_House__init : List Value → List Value → List Value
  kb_House__init : KBn K fd_House__init ["self", "size", "place", "next_house", "before"] 4 ["before"] kg_House__init (fun vs zs => vs ++ zs)
  a_House__tell_letter : Addr
  fd_House__tell_letter : FuncData
  F_House__tell_letter : Fun K "tell_letter" "House.tell_letter" s_House__tell_letter a_House__tell_letter fd_House__tell_letter
  b_House__tell_letter : Binds K fd_House__tell_letter ["self"] []
  a_House__ask_letter : Addr
  fd_House__ask_letter : FuncData
  F_House__ask_letter : Fun K "ask_letter" "House.ask_letter" s_House__ask_letter a_House__ask_letter fd_House__ask_letter
  b_House__ask_letter : Binds K fd_House__ask_letter ["self"] []
  a_House__answer_to : Addr
  fd_House__answer_to : FuncData
  F_House__answer_to : Fun K "_answer_to" "House._answer_to" s_House__answer_to a_House__answer_to fd_House__answer_to
  b_House__answer_to : Binds K fd_House__answer_to ["self", "sender"] []
  a_House__hear_tell : Addr
  fd_House__hear_tell : FuncData
  F_House__hear_tell : Fun K "_hear_tell" "House._hear_tell" s_House__hear_tell a_House__hear_tell fd_House__hear_tell
  b_House__hear_tell : Binds K fd_House__hear_tell ["self", "sender"] []
  a_House__hear_answer : Addr
  fd_House__hear_answer : FuncData
  F_House__hear_answer : Fun K "_hear_answer" "House._hear_answer" s_House__hear_answer a_House__hear_answer fd_House__hear_answer
  b_House__hear_answer : Binds K fd_House__hear_answer ["self", "sender", "named"] []
  a_House__hear : Addr
  fd_House__hear : FuncData
  F_House__hear : Fun K "hear" "House.hear" s_House__hear a_House__hear fd_House__hear
  b_House__hear : Binds K fd_House__hear ["self", "letter"] []
  a_Net__houses : Addr
  fd_Net__houses : FuncData
  F_Net__houses : Fun K "houses" "Net.houses" s_Net__houses a_Net__houses fd_Net__houses
  b_Net__houses : Binds K fd_Net__houses ["self"] []
  a_Net__check_house : Addr
  fd_Net__check_house : FuncData
  F_Net__check_house : Fun K "check_house" "Net.check_house" s_Net__check_house a_Net__check_house fd_Net__check_house
  b_Net__check_house : Binds K fd_Net__check_house ["self", "place"] []
  a_check_on_circle : Addr
  fd_check_on_circle : FuncData
  F_check_on_circle : Fun K "check_on_circle" "check_on_circle" s_check_on_circle a_check_on_circle fd_check_on_circle
  b_check_on_circle : Binds K fd_check_on_circle ["size", "place"] []
  g_check_on_circle : mg "check_on_circle" = some (.ref a_check_on_circle)
  a_Net__check_letter : Addr
  fd_Net__check_letter : FuncData
  F_Net__check_letter : Fun K "_check_letter" "Net._check_letter" s_Net__check_letter a_Net__check_letter fd_Net__check_letter
  b_Net__check_letter : Binds K fd_Net__check_letter ["self", "at"] []
  a_Net__house_at : Addr
  fd_Net__house_at : FuncData
  F_Net__house_at : Fun K "_house_at" "Net._house_at" s_Net__house_at a_Net__house_at fd_Net__house_at
  b_Net__house_at : Binds K fd_Net__house_at ["self", "place"] []
  a_Net__send : Addr
  fd_Net__send : FuncData
  F_Net__send : Fun K "_send" "Net._send" s_Net__send a_Net__send fd_Net__send
  b_Net__send : Binds K fd_Net__send ["self", "letter"] []
  a_Net__letters : Addr
  fd_Net__letters : FuncData
  F_Net__letters : Fun K "letters" "Net.letters" s_Net__letters a_Net__letters fd_Net__letters
  b_Net__letters : Binds K fd_Net__letters ["self"] []
  a_Net__tell : Addr
  fd_Net__tell : FuncData
  F_Net__tell : Fun K "tell" "Net.tell" s_Net__tell a_Net__tell fd_Net__tell
  b_Net__tell : Binds K fd_Net__tell ["self", "house"] []
  a_Net__ask : Addr
  fd_Net__ask : FuncData
  F_Net__ask : Fun K "ask" "Net.ask" s_Net__ask a_Net__ask fd_Net__ask
  b_Net__ask : Binds K fd_Net__ask ["self", "house"] []
  a_Net__lose : Addr
  fd_Net__lose : FuncData
  F_Net__lose : Fun K "lose" "Net.lose" s_Net__lose a_Net__lose fd_Net__lose
  b_Net__lose : Binds K fd_Net__lose ["self", "at"] []
  a_Net__repeat : Addr
  fd_Net__repeat : FuncData
  F_Net__repeat : Fun K "repeat" "Net.repeat" s_Net__repeat a_Net__repeat fd_Net__repeat
  b_Net__repeat : Binds K fd_Net__repeat ["self", "at"] []
  a_Net__nexts : Addr
  fd_Net__nexts : FuncData
  F_Net__nexts : Fun K "nexts" "Net.nexts" s_Net__nexts a_Net__nexts fd_Net__nexts
  b_Net__nexts : Binds K fd_Net__nexts ["self"] []
  a_Net__befores : Addr
  fd_Net__befores : FuncData
  F_Net__befores : Fun K "befores" "Net.befores" s_Net__befores a_Net__befores fd_Net__befores
  b_Net__befores : Binds K fd_Net__befores ["self"] []
  a_Net__read : Addr
  fd_Net__read : FuncData
  F_Net__read : Fun K "read" "Net.read" s_Net__read a_Net__read fd_Net__read
  b_Net__read : Binds K fd_Net__read ["self", "at"] []
  a_Net__check_letters : Addr
  fd_Net__check_letters : FuncData
  F_Net__check_letters : Fun K "_check_letters" "Net._check_letters" s_Net__check_letters a_Net__check_letters fd_Net__check_letters
  b_Net__check_letters : Binds K fd_Net__check_letters ["self"] []
  a_Net__check_places : Addr
  fd_Net__check_places : FuncData
  F_Net__check_places : Fun K "_check_places" "Net._check_places" s_Net__check_places a_Net__check_places fd_Net__check_places
  b_Net__check_places : Binds K fd_Net__check_places ["self"] []
  a_Net__take_befores : Addr
  fd_Net__take_befores : FuncData
  F_Net__take_befores : Fun K "_take_befores" "Net._take_befores" s_Net__take_befores a_Net__take_befores fd_Net__take_befores
  b_Net__take_befores : Binds K fd_Net__take_befores ["self", "befores"] []
  a_Net__init : Addr
  fd_Net__init : FuncData
  F_Net__init : FunD K "__init__" "Net.__init__" (defArgs s_Net__init) (defBody s_Net__init) (defScope s_Net__init) [] [("befores", .non), ("letters", .non)] a_Net__init fd_Net__init
  kg_Net__init : List Value → List Value → List Value
  kb_Net__init : KBn K fd_Net__init ["self", "size", "nexts", "befores", "letters"] 3 ["befores", "letters"] kg_Net__init (fun vs zs => vs ++ zs)
  bd_Net__init : List Value
  bv_Net__init : Vals [.non, .non] bd_Net__init
  b1_Net__init : Binds K fd_Net__init ["self", "size", "nexts", "befores", "letters"] bd_Net__init
  a_Net__check_free : Addr
  fd_Net__check_free : FuncData
  F_Net__check_free : Fun K "check_free" "Net.check_free" s_Net__check_free a_Net__check_free fd_Net__check_free
  b_Net__check_free : Binds K fd_Net__check_free ["self", "place"] []
  a_Net__admit : Addr
  fd_Net__admit : FuncData
  F_Net__admit : Fun K "admit" "Net.admit" s_Net__admit a_Net__admit fd_Net__admit
  b_Net__admit : Binds K fd_Net__admit ["self", "place", "host"] []
  a__law_far : Addr
  fd__law_far : FuncData
  F__law_far : Fun K "_law_far" "_law_far" s__law_far a__law_far fd__law_far
  b__law_far : Binds K fd__law_far ["size", "start", "end"] []
  g__law_far : mg "_law_far" = some (.ref a__law_far)
  a__law_between : Addr
  fd__law_between : FuncData
  F__law_between : Fun K "_law_between" "_law_between" s__law_between a__law_between fd__law_between
  b__law_between : Binds K fd__law_between ["size", "start", "place", "end"] []
  g__law_between : mg "_law_between" = some (.ref a__law_between)
  a__law_read : Addr
  fd__law_read : FuncData
  F__law_read : Fun K "_law_read" "_law_read" s__law_read a__law_read fd__law_read
  b__law_read : Binds K fd__law_read ["size", "nexts", "behinds", "post", "at"] []
  g__law_read : mg "_law_read" = some (.ref a__law_read)
  a_Net__hold : Addr
  fd_Net__hold : FuncData
  F_Net__hold : Fun K "hold" "Net.hold" s_Net__hold a_Net__hold fd_Net__hold
  b_Net__hold : Binds K fd_Net__hold ["self", "house", "target"] []
  a_Net__set_before : Addr
  fd_Net__set_before : FuncData
  F_Net__set_before : Fun K "set_before" "Net.set_before" s_Net__set_before a_Net__set_before fd_Net__set_before
  b_Net__set_before : Binds K fd_Net__set_before ["self", "house", "before"] []
  a_Net__snapshot : Addr
  fd_Net__snapshot : FuncData
  F_Net__snapshot : Fun K "snapshot" "Net.snapshot" s_Net__snapshot a_Net__snapshot fd_Net__snapshot
  b_Net__snapshot : Binds K fd_Net__snapshot ["self"] []
  a__pairs_said_by : Addr
  fd__pairs_said_by : FuncData
  F__pairs_said_by : Fun K "_pairs_said_by" "_pairs_said_by" s__pairs_said_by a__pairs_said_by fd__pairs_said_by
  b__pairs_said_by : Binds K fd__pairs_said_by ["letter"] []
  g__pairs_said_by : mg "_pairs_said_by" = some (.ref a__pairs_said_by)
  a_sayings : Addr
  fd_sayings : FuncData
  F_sayings : Fun K "sayings" "sayings" s_sayings a_sayings fd_sayings
  b_sayings : Binds K fd_sayings ["net"] []
  g_sayings : mg "sayings" = some (.ref a_sayings)
  a__law_sayings : Addr
  fd__law_sayings : FuncData
  F__law_sayings : Fun K "_law_sayings" "_law_sayings" s__law_sayings a__law_sayings fd__law_sayings
  b__law_sayings : Binds K fd__law_sayings ["size", "nexts", "behinds", "post"] []
  g__law_sayings : mg "_law_sayings" = some (.ref a__law_sayings)
  a__law_snapshot : Addr
  fd__law_snapshot : FuncData
  F__law_snapshot : Fun K "_law_snapshot" "_law_snapshot" s__law_snapshot a__law_snapshot fd__law_snapshot
  b__law_snapshot : Binds K fd__law_snapshot ["size", "nexts", "behinds", "post"] []
  g__law_snapshot : mg "_law_snapshot" = some (.ref a__law_snapshot)
  a__law_places : Addr
  fd__law_places : FuncData
  F__law_places : Fun K "_law_places" "_law_places" s__law_places a__law_places fd__law_places
  b__law_places : Binds K fd__law_places ["tape", "size", "count"] []
  g__law_places : mg "_law_places" = some (.ref a__law_places)
  a__law_nexts : Addr
  fd__law_nexts : FuncData
  F__law_nexts : Fun K "_law_nexts" "_law_nexts" s__law_nexts a__law_nexts fd__law_nexts
  b__law_nexts : Binds K fd__law_nexts ["tape", "places"] []
  g__law_nexts : mg "_law_nexts" = some (.ref a__law_nexts)
  a__law_parts : Addr
  fd__law_parts : FuncData
  F__law_parts : Fun K "_law_parts" "_law_parts" s__law_parts a__law_parts fd__law_parts
  b__law_parts : Binds K fd__law_parts ["tape", "places"] []
  g__law_parts : mg "_law_parts" = some (.ref a__law_parts)
  a__law_behinds : Addr
  fd__law_behinds : FuncData
  F__law_behinds : Fun K "_law_behinds" "_law_behinds" s__law_behinds a__law_behinds fd__law_behinds
  b__law_behinds : Binds K fd__law_behinds ["tape", "nexts"] []
  g__law_behinds : mg "_law_behinds" = some (.ref a__law_behinds)
  a__law_post : Addr
  fd__law_post : FuncData
  F__law_post : Fun K "_law_post" "_law_post" s__law_post a__law_post fd__law_post
  b__law_post : Binds K fd__law_post ["tape", "nexts"] []
  g__law_post : mg "_law_post" = some (.ref a__law_post)
  a__law_listed : Addr
  fd__law_listed : FuncData
  F__law_listed : Fun K "_law_listed" "_law_listed" s__law_listed a__law_listed fd__law_listed
  b__law_listed : Binds K fd__law_listed ["net", "size", "nexts", "behinds", "post"] []
  g__law_listed : mg "_law_listed" = some (.ref a__law_listed)
  a__law_change : Addr
  fd__law_change : FuncData
  F__law_change : Fun K "_law_change" "_law_change" s__law_change a__law_change fd__law_change
  b__law_change : Binds K fd__law_change ["tape", "net", "size", "nexts", "behinds", "post"] []
  g__law_change : mg "_law_change" = some (.ref a__law_change)
  a_law : Addr
  fd_law : FuncData
  F_law : Fun K "law" "law" s_law a_law fd_law
  b_law : Binds K fd_law ["script"] []
  g_law : mg "law" = some (.ref a_law)
  C_House : Addr
  mc_House : mg "House" = some (.ref C_House)
  cl_House : Cls K C_House
  na_House_size : NoAttr K C_House "size"
  na_House_place : NoAttr K C_House "place"
  na_House_next_house : NoAttr K C_House "next_house"
  na_House_before : NoAttr K C_House "before"
  mk_House : Mk K C_House a_House__init
  me_House__tell_letter : Meth K C_House "tell_letter" a_House__tell_letter
  me_House__ask_letter : Meth K C_House "ask_letter" a_House__ask_letter
  me_House__answer_to : Meth K C_House "_answer_to" a_House__answer_to
  me_House__hear_tell : Meth K C_House "_hear_tell" a_House__hear_tell
  me_House__hear_answer : Meth K C_House "_hear_answer" a_House__hear_answer
  me_House__hear : Meth K C_House "hear" a_House__hear
  C_Net : Addr
  mc_Net : mg "Net" = some (.ref C_Net)
  cl_Net : Cls K C_Net
  na_Net_size : NoAttr K C_Net "size"
  na_Net__nexts : NoAttr K C_Net "_nexts"
  na_Net__befores : NoAttr K C_Net "_befores"
  na_Net__letters : NoAttr K C_Net "_letters"
  me_Net__houses : Meth K C_Net "houses" a_Net__houses
  me_Net__check_house : Meth K C_Net "check_house" a_Net__check_house
  me_Net__check_letter : Meth K C_Net "_check_letter" a_Net__check_letter
  me_Net__house_at : Meth K C_Net "_house_at" a_Net__house_at
  me_Net__send : Meth K C_Net "_send" a_Net__send
  me_Net__letters : Meth K C_Net "letters" a_Net__letters
  me_Net__tell : Meth K C_Net "tell" a_Net__tell
  me_Net__ask : Meth K C_Net "ask" a_Net__ask
  me_Net__lose : Meth K C_Net "lose" a_Net__lose
  me_Net__repeat : Meth K C_Net "repeat" a_Net__repeat
  me_Net__nexts : Meth K C_Net "nexts" a_Net__nexts
  me_Net__befores : Meth K C_Net "befores" a_Net__befores
  me_Net__read : Meth K C_Net "read" a_Net__read
  me_Net__check_letters : Meth K C_Net "_check_letters" a_Net__check_letters
  me_Net__check_places : Meth K C_Net "_check_places" a_Net__check_places
  me_Net__take_befores : Meth K C_Net "_take_befores" a_Net__take_befores
  mk_Net : Mk K C_Net a_Net__init
  me_Net__check_free : Meth K C_Net "check_free" a_Net__check_free
  me_Net__admit : Meth K C_Net "admit" a_Net__admit
  me_Net__hold : Meth K C_Net "hold" a_Net__hold
  me_Net__set_before : Meth K C_Net "set_before" a_Net__set_before
  me_Net__snapshot : Meth K C_Net "snapshot" a_Net__snapshot
  C_NoHouse : Addr
  mc_NoHouse : mg "NoHouse" = some (.ref C_NoHouse)
  C_OffCircle : Addr
  mc_OffCircle : mg "OffCircle" = some (.ref C_OffCircle)
  C_NoLetter : Addr
  mc_NoLetter : mg "NoLetter" = some (.ref C_NoLetter)
  C_TakenPlace : Addr
  mc_TakenPlace : mg "TakenPlace" = some (.ref C_TakenPlace)
namespace T0
variable {K : PySem.W.Frag} {mg : Str → Option Value} (T : T0 K mg)
theorem k__law_tape : PySem.W.keepIn K (.ref T.a__law_tape) = true := T.F__law_tape.kp
theorem k__law_pick : PySem.W.keepIn K (.ref T.a__law_pick) = true := T.F__law_pick.kp
theorem k__law_size : PySem.W.keepIn K (.ref T.a__law_size) = true := T.F__law_size.kp
theorem k__law_same : PySem.W.keepIn K (.ref T.a__law_same) = true := T.F__law_same.kp
theorem k_far : PySem.W.keepIn K (.ref T.a_far) = true := T.F_far.kp
theorem k_between : PySem.W.keepIn K (.ref T.a_between) = true := T.F_between.kp
theorem k_House__init : PySem.W.keepIn K (.ref T.a_House__init) = true := T.F_House__init.kp
theorem k_House__tell_letter : PySem.W.keepIn K (.ref T.a_House__tell_letter) = true := T.F_House__tell_letter.kp
theorem k_House__ask_letter : PySem.W.keepIn K (.ref T.a_House__ask_letter) = true := T.F_House__ask_letter.kp
theorem k_House__answer_to : PySem.W.keepIn K (.ref T.a_House__answer_to) = true := T.F_House__answer_to.kp
theorem k_House__hear_tell : PySem.W.keepIn K (.ref T.a_House__hear_tell) = true := T.F_House__hear_tell.kp
theorem k_House__hear_answer : PySem.W.keepIn K (.ref T.a_House__hear_answer) = true := T.F_House__hear_answer.kp
theorem k_House__hear : PySem.W.keepIn K (.ref T.a_House__hear) = true := T.F_House__hear.kp
theorem k_Net__houses : PySem.W.keepIn K (.ref T.a_Net__houses) = true := T.F_Net__houses.kp
theorem k_Net__check_house : PySem.W.keepIn K (.ref T.a_Net__check_house) = true := T.F_Net__check_house.kp
theorem k_check_on_circle : PySem.W.keepIn K (.ref T.a_check_on_circle) = true := T.F_check_on_circle.kp
theorem k_Net__check_letter : PySem.W.keepIn K (.ref T.a_Net__check_letter) = true := T.F_Net__check_letter.kp
theorem k_Net__house_at : PySem.W.keepIn K (.ref T.a_Net__house_at) = true := T.F_Net__house_at.kp
theorem k_Net__send : PySem.W.keepIn K (.ref T.a_Net__send) = true := T.F_Net__send.kp
theorem k_Net__letters : PySem.W.keepIn K (.ref T.a_Net__letters) = true := T.F_Net__letters.kp
theorem k_Net__tell : PySem.W.keepIn K (.ref T.a_Net__tell) = true := T.F_Net__tell.kp
theorem k_Net__ask : PySem.W.keepIn K (.ref T.a_Net__ask) = true := T.F_Net__ask.kp
theorem k_Net__lose : PySem.W.keepIn K (.ref T.a_Net__lose) = true := T.F_Net__lose.kp
theorem k_Net__repeat : PySem.W.keepIn K (.ref T.a_Net__repeat) = true := T.F_Net__repeat.kp
theorem k_Net__nexts : PySem.W.keepIn K (.ref T.a_Net__nexts) = true := T.F_Net__nexts.kp
theorem k_Net__befores : PySem.W.keepIn K (.ref T.a_Net__befores) = true := T.F_Net__befores.kp
theorem k_Net__read : PySem.W.keepIn K (.ref T.a_Net__read) = true := T.F_Net__read.kp
theorem k_Net__check_letters : PySem.W.keepIn K (.ref T.a_Net__check_letters) = true := T.F_Net__check_letters.kp
theorem k_Net__check_places : PySem.W.keepIn K (.ref T.a_Net__check_places) = true := T.F_Net__check_places.kp
theorem k_Net__take_befores : PySem.W.keepIn K (.ref T.a_Net__take_befores) = true := T.F_Net__take_befores.kp
theorem k_Net__init : PySem.W.keepIn K (.ref T.a_Net__init) = true := T.F_Net__init.kp
theorem k_Net__check_free : PySem.W.keepIn K (.ref T.a_Net__check_free) = true := T.F_Net__check_free.kp
theorem k_Net__admit : PySem.W.keepIn K (.ref T.a_Net__admit) = true := T.F_Net__admit.kp
theorem k__law_far : PySem.W.keepIn K (.ref T.a__law_far) = true := T.F__law_far.kp
theorem k__law_between : PySem.W.keepIn K (.ref T.a__law_between) = true := T.F__law_between.kp
theorem k__law_read : PySem.W.keepIn K (.ref T.a__law_read) = true := T.F__law_read.kp
theorem k_Net__hold : PySem.W.keepIn K (.ref T.a_Net__hold) = true := T.F_Net__hold.kp
theorem k_Net__set_before : PySem.W.keepIn K (.ref T.a_Net__set_before) = true := T.F_Net__set_before.kp
theorem k_Net__snapshot : PySem.W.keepIn K (.ref T.a_Net__snapshot) = true := T.F_Net__snapshot.kp
theorem k__pairs_said_by : PySem.W.keepIn K (.ref T.a__pairs_said_by) = true := T.F__pairs_said_by.kp
theorem k_sayings : PySem.W.keepIn K (.ref T.a_sayings) = true := T.F_sayings.kp
theorem k__law_sayings : PySem.W.keepIn K (.ref T.a__law_sayings) = true := T.F__law_sayings.kp
theorem k__law_snapshot : PySem.W.keepIn K (.ref T.a__law_snapshot) = true := T.F__law_snapshot.kp
theorem k__law_places : PySem.W.keepIn K (.ref T.a__law_places) = true := T.F__law_places.kp
theorem k__law_nexts : PySem.W.keepIn K (.ref T.a__law_nexts) = true := T.F__law_nexts.kp
theorem k__law_parts : PySem.W.keepIn K (.ref T.a__law_parts) = true := T.F__law_parts.kp
theorem k__law_behinds : PySem.W.keepIn K (.ref T.a__law_behinds) = true := T.F__law_behinds.kp
theorem k__law_post : PySem.W.keepIn K (.ref T.a__law_post) = true := T.F__law_post.kp
theorem k__law_listed : PySem.W.keepIn K (.ref T.a__law_listed) = true := T.F__law_listed.kp
theorem k__law_change : PySem.W.keepIn K (.ref T.a__law_change) = true := T.F__law_change.kp
theorem k_law : PySem.W.keepIn K (.ref T.a_law) = true := T.F_law.kp
end T0
theorem un1 {k : Nat} {A : Around} (r : Room k A) : A.units + 1 < cLine := by have := r.un; omega
theorem iteT' {b : Bool} {A B : Prop} (h : b = true) (a : A) : if b = true then A else B := by rw [if_pos h]; exact a
theorem iteF' {b : Bool} {A B : Prop} (h : b = false) (a : B) : if b = true then A else B := by rw [if_neg (by rw [h]; exact Bool.false_ne_true)]; exact a
theorem small1000' {n : Nat} (h : n ≤ 100000) : n < sizeLine := Nat.lt_of_le_of_lt h (by decide)
theorem upd_self {H : Hp} {t : Addr} {o : HO} (h : H t = Option.some o) : H = upd H t o := by
  funext b
  unfold upd
  split
  · rename_i e
    rw [e, h]
  · rfl
theorem at_ints {cs : List Int} {a : Nat} (h : a < cs.length) : atI (cs.map V.int) (a : Int) = Option.some (.int (cs[a])) := by
  refine atI_nat ?_
  rw [List.getElem?_map, List.getElem?_eq_getElem h]
  rfl
theorem at_getD {cs : List Int} {a : Nat} (h : a < cs.length) : atI (cs.map V.int) (a : Int) = Option.some (.int (cs.getD a 0)) := by
  refine atI_nat ?_
  rw [List.getElem?_map, List.getElem?_eq_getElem h, List.getD_eq_getElem?_getD, List.getElem?_eq_getElem h]
  rfl
theorem fmod_range (x : Int) {n : Int} (h : 0 < n) : 0 ≤ x.fmod n ∧ x.fmod n < n := ⟨Int.fmod_nonneg_of_pos x h, Int.fmod_lt_of_pos x h⟩
theorem mod_small (x : Int) {m : Int} (h : 0 < m) (h2 : m ≤ 9223372036854775808) : -(2 ^ 64) < x.fmod m ∧ x.fmod m < 2 ^ 64 := by
  have h3 := Int.fmod_nonneg_of_pos x h
  have h4 := Int.fmod_lt_of_pos x h
  constructor <;> omega
theorem cdivn (x : Int) {n : Int} (h : 0 < n) (h2 : n ≤ 1000000001) : CDivN x n := ⟨by omega, by omega⟩
theorem cdivw (x : Int) {n : Int} (h : 0 < n) (h2 : n ≤ 4000000000) : CDivW x n := wide_div (b := 63) h (by omega) (by decide) (by decide)
local macro_rules | `(tactic| walk_at "side") => `(tactic| first
  | with_reducible assumption
  | decide
  | ((with_reducible apply mod_small) <;> decide)
  | exact Or.inl ⟨by decide, by decide⟩
  | (apply Or.inl; (with_reducible apply mod_small) <;> decide)
  | exact Or.inr ⟨by decide, by decide⟩
  | ((with_reducible apply cdivn) <;> first | decide | omega)
  | ((with_reducible apply cdivw) <;> first | decide | omega)
  | (dsimp only; first | decide | omega)
  | exact ⟨by dsimp only; first | decide | omega, by dsimp only; first | decide | omega⟩)
local macro_rules | `(tactic| walk_at "go1") => `(tactic| first
  | refine ⟨_, rfl, ?_⟩
  | refine ⟨_, _, rfl, rfl, ?_⟩
  | refine Or.inl ⟨_, rfl, ?_⟩
  | refine ⟨_, _, _, _, rfl, rfl, (by first | assumption | exact SqL.of (by assumption) | exact upd_same | exact SqL.of upd_same), (by rfl), ?_⟩
  | refine ⟨rfl, ?_⟩
  | refine ⟨(show (_ : Prop) from by walk_at "side"), ?_⟩)
local macro_rules | `(tactic| walk_at "go") => `(tactic| repeat (walk_at "go1"))
section
variable {X : Cx} {K : PySem.W.Frag}
theorem ix_listK (h : X.K = K := by rfl) : IxR X (rIxL K) := by subst h; exact ix_list
theorem ix_tupK (h : X.K = K := by rfl) : IxR X (rIxT K) := by subst h; exact ix_tup
theorem ix_seqK (h : X.K = K := by rfl) : IxR X (rIx K) := by subst h; exact ix_seq
theorem sl_listK (h : X.K = K := by rfl) : SlR X (rSlL K) := by subst h; exact sl_list
theorem sl_tupK (h : X.K = K := by rfl) : SlR X (rSlT K) := by subst h; exact sl_tup
theorem op_in_seqK (h : X.K = K := by rfl) : OpR X (compareOp .In) (rIn K false) := by subst h; exact op_in_seq
theorem op_notIn_seqK (h : X.K = K := by rfl) : OpR X (compareOp .NotIn) (rIn K true) := by subst h; exact op_notIn_seq
def rLen (K : PySem.W.Frag) : List V → Hp → VK → Prop := fun xs H Q => ∃ p ys, xs = [.ref p] ∧ (SqL K H p ys ∨ SqT K H p ys) ∧ Q (.int ys.length) H
theorem call_lenK (h : X.K = K := by rfl) : CallR X (.builtin "len") (rLen K) := by subst h; exact call_len_seq
def rListOf (K : PySem.W.Frag) : List V → Hp → VK → Prop := fun xs H Q => ∃ p ys, xs = [.ref p] ∧ (SqL K H p ys ∨ SqT K H p ys) ∧ ∀ l, H l = none → Q (.ref l) (upd H l (.lst ys))
theorem call_list_ofK (h : X.K = K := by rfl) : CallR X (.type "list") (rListOf K) := by subst h; exact call_list_of
def rTupleOf (K : PySem.W.Frag) : List V → Hp → VK → Prop := fun xs H Q => ∃ p ys, xs = [.ref p] ∧ ((SqL K H p ys ∧ ∀ l, H l = none → Q (.ref l) (upd H l (.tup ys))) ∨ (SqT K H p ys ∧ Q (.ref p) H))
theorem call_tuple_ofK (h : X.K = K := by rfl) : CallR X (.type "tuple") (rTupleOf K) := by subst h; exact call_tuple_of
theorem call_isinstK (h : X.K = K := by rfl) : CallR X (.builtin "isinstance") (rIsi K) := by subst h; exact call_isi
theorem cr_sortedK (h : X.K = K := by rfl) : CallR X (.builtin "sorted") (rSorted K) := by subst h; exact cr_sorted
theorem call_sumK (hc : X.calm = true := by rfl) (h : X.K = K := by rfl) : CallR X (.builtin "sum") (rSum K) := by subst h; exact cr_sum hc
end
section
variable {σ : L2.St} {H : Hp} {ta tb tc : TE} {x y z : V}
theorem val_I0 {g : Int → Int → V} {i j : Int} (ha : Val ta σ H (.int i)) (hb : Val tb σ H (.int j)) : Val (tOp (rI0 g) ta tb) σ H (g i j) := fun _ q => ha _ (hb _ ⟨i, j, rfl, rfl, q⟩)
theorem val_I {C : Int → Int → Prop} {g : Int → Int → V} {i j : Int} (ha : Val ta σ H (.int i)) (hb : Val tb σ H (.int j)) (hc : C i j) : Val (tOp (rI C g) ta tb) σ H (g i j) := fun _ q => ha _ (hb _ ⟨i, j, rfl, rfl, hc, q⟩)
theorem val_eq (ha : Val ta σ H x) (hb : Val tb σ H y) (hs : scal x y = true) : Val (tOp rEq ta tb) σ H (.bl (decide (x = y))) := fun _ q => ha _ (hb _ ⟨hs, q⟩)
theorem val_ne (ha : Val ta σ H x) (hb : Val tb σ H y) (hs : scal x y = true) : Val (tOp rNe ta tb) σ H (.bl (!decide (x = y))) := fun _ q => ha _ (hb _ ⟨hs, q⟩)
theorem val_chain {g : Int → Int → Bool} {g' : Int → Int → Bool} {i j k : Int} (ha : Val ta σ H (.int i)) (hb : Val tb σ H (.int j)) (hc : Val tc σ H (.int k)) :
    Val (tChain (rI0 fun i j => .bl (g i j)) (rI0 fun i j => .bl (g' i j)) ta tb tc) σ H (.bl (g i j && g' j k)) := fun Q q => ha _ (hb _ ⟨i, j, rfl, rfl, _, rfl, by
  cases e : g i j with
  | true =>
    refine iteT (hc _ ⟨j, k, rfl, rfl, ?_⟩)
    rw [e] at q
    exact q
  | false =>
    rw [e] at q
    exact iteF q⟩)
theorem val_ixL {K : PySem.W.Frag} {p : Addr} {xs : List V} {i : Int} (ha : Val ta σ H (.ref p)) (hb : Val tb σ H (.int i)) (h : SqL K H p xs) (h2 : atI xs i = Option.some x) : Val (tOp (rIxL K) ta tb) σ H x := fun _ q => ha _ (hb _ ⟨p, xs, i, x, rfl, rfl, h, h2, q⟩)
theorem val_ixT {K : PySem.W.Frag} {p : Addr} {xs : List V} {i : Int} (ha : Val ta σ H (.ref p)) (hb : Val tb σ H (.int i)) (h : SqT K H p xs) (h2 : atI xs i = Option.some x) : Val (tOp (rIxT K) ta tb) σ H x := fun _ q => ha _ (hb _ ⟨p, xs, i, x, rfl, rfl, h, h2, q⟩)
theorem val_andV {a b : Bool} (ha : Val ta σ H (.bl a)) (hb : a = true → Val tb σ H (.bl b)) : Val (tAndV ta tb) σ H (.bl (a && b)) := fun Q q => ha _ ⟨a, rfl, by
  cases a with
  | true => exact iteT (hb rfl _ q)
  | false => exact iteF q⟩
theorem val_orV {a b : Bool} (ha : Val ta σ H (.bl a)) (hb : a = false → Val tb σ H (.bl b)) : Val (tOrV ta tb) σ H (.bl (a || b)) := fun Q q => ha _ ⟨a, rfl, by
  cases a with
  | true => exact iteT q
  | false => exact iteF (hb rfl _ q)⟩
theorem val_notV {a : Bool} (ha : Val ta σ H (.bl a)) : Val (tNotV ta) σ H (.bl (!a)) := fun _ q => ha _ ⟨a, rfl, q⟩
def ValA (ta : TA) (σ : L2.St) (H : Hp) (vs : List V) : Prop := ∀ Q : List V → Hp → Prop, Q vs H → ta σ H Q
theorem valA_nil : ValA tNil σ H [] := fun _ q => q
theorem valA_cons {tr : TA} {vs : List V} (h : Val ta σ H x) (hr : ValA tr σ H vs) : ValA (tCons ta tr) σ H (x :: vs) := fun _ q => h _ (hr _ q)
theorem go_lst {tr : TA} {vs : List V} {Q : VK} (h : ValA tr σ H vs) (hz : vs.length ≤ 100000) (q : ∀ p, H p = none → Q (.ref p) (upd H p (.lst vs))) : tLst tr σ H Q := h _ ⟨Nat.le_trans hz (by decide), q⟩
theorem go_tup {tr : TA} {vs : List V} {Q : VK} (h : ValA tr σ H vs) (hz : vs.length ≤ 100000) (q : ∀ p, H p = none → Q (.ref p) (upd H p (.tup vs))) : tTup tr σ H Q := h _ ⟨Nat.le_trans hz (by decide), q⟩
theorem val_call {tr : TA} {vs : List V} {sp : Sp} {dvs : List V} {E : XK} (h : ValA tr σ H vs) (hs : ∀ Q : VK, Q x H → sp (vs ++ dvs) H Q E) : Val (tCall sp dvs E tr) σ H x := fun _ q => h _ (hs _ q)
theorem val_cb {tr : TA} {vs : List V} {r : List V → Hp → VK → Prop} (h : ValA tr σ H vs) (hs : ∀ Q : VK, Q x H → r vs H Q) : Val (tCB r tr) σ H x := fun _ q => h _ (hs _ q)
variable {D : Ends} {tz tu tw : TS} {i : Nat} {tt tv : TT}
theorem o_asg (h : ta σ H fun v H' => tz D (σ.set i (some v)) H') : tSeq (tAsg ta (gName i)) tz D σ H := h
theorem o_ret (h : ta σ H D.rt) : tRet ta D σ H := h
theorem o_drop (h : ta σ H fun _ H' => tz D σ H') : tSeq (tDrop ta) tz D σ H := h
theorem v_asg (h : Val ta σ H x) (k : tz D (σ.set i (some x)) H) : tSeq (tAsg ta (gName i)) tz D σ H := h _ k
theorem v_asg1 (h : Val ta σ H x) (k : D.nx (σ.set i (some x)) H) : tAsg ta (gName i) D σ H := h _ k
theorem lc_yes {A B : Hp → Prop} (h : A H) : tYes σ H (fun b H3 => if b = true then A H3 else B H3) := by show (if true = true then A H else B H); exact iteT h
theorem g_name {v : V} {Q : L2.St → Hp → Prop} (h : Q (σ.set i (some v)) H) : gName i v σ H Q := h
theorem v_ret (h : Val ta σ H x) (k : D.rt x H) : tRet ta D σ H := h _ k
theorem v_if {b : Bool} (h : Ans tt σ H b) (h1 : b = true → tu { D with nx := tz D } σ H) (h2 : b = false → tw { D with nx := tz D } σ H) : tSeq (tIfS tt tu tw) tz D σ H := h _ (by
  cases b with
  | true => exact iteT (h1 rfl)
  | false => exact iteF (h2 rfl))
theorem v_if1 {b : Bool} (h : Ans tt σ H b) (h1 : b = true → tu D σ H) (h2 : b = false → tw D σ H) : tIfS tt tu tw D σ H := h _ (by
  cases b with
  | true => exact iteT (h1 rfl)
  | false => exact iteF (h2 rfl))
/-- an if without else: the rest once more where the test says no -/
theorem v_when {b : Bool} (h : Ans tt σ H b) (h1 : b = true → tu { D with nx := tz D } σ H) (h2 : b = false → tz D σ H) : tSeq (tIfS tt tu tNext) tz D σ H := v_if h h1 h2
theorem ans_t {b : Bool} (h : Val ta σ H (.bl b)) : Ans (tTest ta) σ H b := fun _ q => h _ ⟨b, rfl, q⟩
theorem ans_b {b : Bool} (h : Val ta σ H (.bl b)) : Ans (tB ta) σ H b := fun _ q => h _ ⟨b, rfl, q⟩
theorem ans_a {a b : Bool} (h : Ans tt σ H a) (h2 : a = true → Ans tv σ H b) : Ans (tAnd tt tv) σ H (a && b) := fun _ q => h _ (by
  cases a with
  | true => exact iteT (h2 rfl _ q)
  | false => exact iteF q)
theorem ans_o {a b : Bool} (h : Ans tt σ H a) (h2 : a = false → Ans tv σ H b) : Ans (tOr tt tv) σ H (a || b) := fun _ q => h _ (by
  cases a with
  | true => exact iteT q
  | false => exact iteF (h2 rfl _ q))
theorem ans_n {a : Bool} (h : Ans tt σ H a) : Ans (tNot tt) σ H (!a) := fun _ q => h _ q
theorem Val.to (h : Val ta σ H x) (e : x = y) : Val ta σ H y := e ▸ h
theorem Val.go {Q : VK} (h : Val ta σ H x) (q : Q x H) : ta σ H Q := h Q q
end
local macro_rules | `(tactic| walk_at "sql") => `(tactic| first
  | with_reducible assumption
  | exact SqL.of (by assumption)
  | exact SqL.of upd_same)
local macro_rules | `(tactic| walk_at "sqt") => `(tactic| first
  | with_reducible assumption
  | exact SqT.of (by assumption)
  | exact SqT.of upd_same)
local macro_rules | `(tactic| walk_at "at") => `(tactic| first
  | with_reducible assumption
  | exact at_getD (by omega)
  | exact at_ints (by assumption)
  | rfl)
local macro_rules | `(tactic| walk_at "val") => `(tactic| first
  | with_reducible assumption
  | with_reducible exact val_c
  | ((with_reducible apply val_var); rfl)
  | ((with_reducible apply val_I0); (· walk_at "val"); (· walk_at "val"))
  | ((with_reducible apply val_I); (· walk_at "val"); (· walk_at "val"); (· walk_at "side"))
  | ((with_reducible apply val_eq); (· walk_at "val"); (· walk_at "val"); (· rfl))
  | ((with_reducible apply val_ne); (· walk_at "val"); (· walk_at "val"); (· rfl))
  | ((with_reducible apply val_chain); (· walk_at "val"); (· walk_at "val"); (· walk_at "val"))
  | ((with_reducible apply val_andV); (· walk_at "val"); (· intro _; walk_at "val"))
  | ((with_reducible apply val_orV); (· walk_at "val"); (· intro _; walk_at "val"))
  | ((with_reducible apply val_notV); (· walk_at "val"))
  | ((with_reducible apply val_ixL); (· walk_at "val"); (· walk_at "val"); (· walk_at "sql"); (· walk_at "at"))
  | ((with_reducible apply val_ixT); (· walk_at "val"); (· walk_at "val"); (· walk_at "sqt"); (· walk_at "at"))
  | with_reducible exact valA_nil
  | ((with_reducible apply valA_cons); (· walk_at "val"); (· walk_at "val"))
  | ((with_reducible apply val_cb); (· walk_at "val"); (· intro _ q; exact Or.inl ⟨_, rfl, q⟩))
  | ((with_reducible apply val_call); (· walk_at "val"); (· intro _ q; walk_at "sp")))
local macro_rules | `(tactic| walk_at "ans") => `(tactic| first
  | ((with_reducible apply ans_t); (· walk_at "val"))
  | ((with_reducible apply ans_b); (· walk_at "val"))
  | ((with_reducible apply ans_a); (· walk_at "ans"); (· intro _; walk_at "ans"))
  | ((with_reducible apply ans_o); (· walk_at "ans"); (· intro _; walk_at "ans"))
  | ((with_reducible apply ans_n); (· walk_at "ans")))
local macro_rules | `(tactic| walk_at "len") => `(tactic| first
  | (simp only [List.length_cons, List.length_nil, List.length_map, List.length_append]; omega)
  | assumption)
theorem Same.fresh {H H' : Hp} {p : Addr} {o : HO} (e : Same H H') (h : H p = Option.none) : Same H (upd H' p o) := fun a u ha => by
  rw [upd_ne (ne_of_none ha h)]
  exact e a u ha
theorem take_map_succ {xs : List Int} {j : Nat} {x : Int} (h : xs[j]? = Option.some x) : ((xs.take j).map V.int) ++ [.int x] = (xs.take (j + 1)).map V.int := by
  rw [List.take_add_one, h, List.map_append]
  rfl
theorem lenL {n : Nat} (h : n ≤ 100000) : n ≤ sizeLine := Nat.le_trans h (by decide)
theorem dec_int (i j : Int) : decide (V.int i = V.int j) = decide (i = j) := decide_eq_decide.mpr ⟨V.int.inj, congrArg V.int⟩
local macro_rules | `(tactic| walk_at "nf") => `(tactic| ((try refine g_name ?_); dsimp only [List.set_cons_zero, List.set_cons_succ]))
theorem lk0 {a : Str} {v : V} {r : List (Str × V)} : ((a, v) :: r).lookup a = Option.some v := by rw [List.lookup_cons_self]
theorem lk1 {a b : Str} {v : V} {r : List (Str × V)} (h : (a == b) = false) : ((b, v) :: r).lookup a = r.lookup a := by rw [List.lookup_cons, h]
theorem pf0 {a : Str} {v u : V} {r : List (Str × V)} : putF a v ((a, u) :: r) = (a, v) :: r := by
  unfold putF
  rw [if_pos rfl]
theorem pf1 {a b : Str} {v u : V} {r : List (Str × V)} (h : ¬ b = a) : putF a v ((b, u) :: r) = (b, u) :: putF a v r := by
  rw [putF, if_neg h]
theorem pfN {a : Str} {v : V} : putF a v [] = [(a, v)] := rfl
local macro_rules | `(tactic| walk_at "lk") => `(tactic| (repeat (rw [lk1 (by decide +kernel)])); first | exact lk0 | rfl)
local macro_rules | `(tactic| walk_at "pf") => `(tactic| repeat (first | rw [pfN] | rw [pf0] | rw [pf1 (by decide +kernel)]))
/-! ### a, b, *c = a tuple -/
theorem un_starT {prog : Program} {w : World} {A : Around} {E : Value → Shared → Prop} {s : Shared} {l : Addr} {items : Array Value} {i : Nat} {Q : List Value → Shared → Prop} (hl : IsTup s.heap l items) (hh : A.handled = none) (hi : i ≤ items.size) (hz : items.size ≤ 16384)
    (h : ∀ h₂ tk, Heap.ExtBut s.heap.objs.size s.heap h₂ → Q (items.toList.take i ++ [.ref h₂.objs.size]) { s with heap := h₂.push (seqObj "list" (items.toList.drop i).toArray 0), toks := tk }) : wpAny (model prog w) A (unpackItems (.ref l) (i + 1) (some i)) Q E s := by
  have hlt : l ≠ s.heap.objs.size := by obtain ⟨o, ho, _⟩ := hl; exact Nat.ne_of_lt (Heap.lt_size ho)
  have hll : l < s.heap.objs.size := by obtain ⟨o, ho, _⟩ := hl; exact Heap.lt_size ho
  unfold unpackItems
  refine wpAny_bind ?_
  unfold notIterableAtAll
  refine wpAny_bind (wpAny_specialOf hl.typeIs slot_tuple_iter.lookup ?_)
  refine wpAny_pure ?_
  simp only [Bool.false_eq_true, if_false]
  refine wpAny_bind (wpAny_holding (iter_tuple hl ?_))
  refine wpAny_bind (wpAny_holding (draw_tuple hlt i 0 _ _ ⟨_, Heap.get?_push_size _ rfl, rfl, rfl⟩ (hl.push _) (by omega) fun h₁ hit₁ hs₁ => ?_))
  have hl₁ : IsTup h₁ l items := (hl.push _).extBut hs₁.extBut hlt
  rw [Nat.zero_add] at hit₁
  have hit₁' := hit₁
  obtain ⟨oi, hoi, _⟩ := hit₁'
  have hl₁' := hl₁
  obtain ⟨ol, hol, _⟩ := hl₁'
  rw [List.drop_zero]
  have hfl : (items.toList.take i).length = i := by rw [List.length_take, Array.length_toList]; omega
  rw [if_neg (show ¬ ((items.toList.take i).length < i) by rw [hfl]; omega)]
  refine wpAny_bind (wpAny_holding (PySem.W.kun_collect (s := { s with heap := h₁ }) (T := "tuple_iterator") (.inr (.inr (.inr rfl))) (Walks.tuple (A := A.in1) hh s.heap.objs.size l hlt items) (fun j u st => st.1.typeIs) (k := i) (by omega) ⟨hit₁, hl₁⟩ (Heap.lt_size hoi) (Heap.lt_size hol) (fun h₂ tk hk => ?_) (by rw [sizeLine_eq]; omega)))
  have hrl : (items.toList.drop i).length = items.size - i := by rw [List.length_drop, Array.length_toList]
  show wpAny _ _ (if (items.toList.drop i).length < i + 1 - 1 - i then _ else _) _ _ _
  rw [if_neg (by rw [hrl]; omega)]
  show wpAny _ _ (newList ((items.toList.drop i).take ((items.toList.drop i).length - (i + 1 - 1 - i))) >>= fun d => pure (items.toList.take i ++ [d] ++ (items.toList.drop i).drop ((items.toList.drop i).length - (i + 1 - 1 - i)))) _ _ _
  have e0 : (items.toList.drop i).length - (i + 1 - 1 - i) = (items.toList.drop i).length := by omega
  rw [e0, List.take_length, List.drop_length]
  simp only [List.append_nil]
  have he : Heap.ExtBut s.heap.objs.size s.heap h₂ := fun b o hb e => hk b o hb (hs₁.extBut b o hb (Heap.get?_push_of_some _ e))
  exact wpAny_bind (wpAny_newList (wpAny_pure (h h₂ tk he)) (by rw [hrl, sizeLine_eq]; omega))
section
variable {X : Cx}
theorem pgs_star {t : Expr} {g : TG} {p : Pos} (h : PG X t g) (hs : (assignEach [.Starred t p] X.env).map (·.2) = [assign t X.env] := by rfl) : PGs X [.Starred t p] (gCons g gNil) := by
  refine ⟨fun pins s σ H vs us Q I r h' => ?_⟩
  obtain ⟨v, vr, e1, h'⟩ := h'
  subst e1
  cases r with
  | cons r rr =>
    rw [hs]
    refine assignInOrder_cons (thn (h.run pins s σ H _ _ _ I r h') fun _ s1 ⟨σ1, H1, I1, q1⟩ => ?_)
    obtain ⟨e, q1⟩ := q1
    subst e
    cases rr
    exact assignInOrder_nil ⟨σ1, H1, I1, q1⟩
def gStar (K : PySem.W.Frag) (i : Nat) (t : TGs) : TG := fun v σ H Q => ∃ a xs, v = .ref a ∧ SqT K H a xs ∧ i ≤ xs.length ∧ xs.length ≤ 1000 ∧ ∀ D, H D = none → t (xs.take i ++ [.ref D]) σ (upd H D (.lst (xs.drop i))) Q
theorem pg_star {es : List Expr} {k : Nat} {t : TGs} {i : Nat} {pos : Pos} (hc : X.calm = true) (h : PGs X es t) (hn : (assignEach es X.env).length = i + 1 := by rfl) (hst : (assignEach es X.env).findIdx? (·.1) = some i := by rfl) : PG X (.Tuple es k pos) (gStar X.K i t) := by
  refine ⟨fun pins s σ H v u Q I r hw => ?_⟩
  obtain ⟨a, xs, e1, hq, hi, hl, hw⟩ := hw
  subst e1
  cases r
  obtain ⟨its, rv, ht, hz⟩ := I.tuple hq
  rw [assign_Tuple]
  refine wpAny_bind (wpAny_standAt ?_)
  unfold unpack
  rw [hn, hst]
  have hlen : its.length = xs.length := rv.length.symm
  refine wpAny_bind (wpAny_holding (un_starT ht (I.ok.hd hc) (by simp [hlen, hi]) (by simp [hlen]; omega) fun h₂ tk he => ?_))
  have I1 : Inv X pins σ H { s with heap := h₂, toks := tk } := I.kept (t' := tk) fun b o e => he b o (Nat.ne_of_lt (Heap.lt_size e)) e
  have vd : Vals (xs.drop i) (its.drop i) := rv.drop i
  have hD : H h₂.objs.size = none := I1.hok.fresh (Nat.le_refl _)
  have I2 : Inv X pins σ (upd H h₂.objs.size (.lst (xs.drop i))) { s with heap := h₂.push (seqObj "list" (its.drop i).toArray 0), toks := tk } := I1.laid (t' := tk) (fun b u e => Heap.get?_push_of_some _ e) (Nat.le_refl _)
    (show ObjOk X.prog X.w _ _ _ (.lst (xs.drop i)) from ⟨by rw [List.length_drop, sizeLine_eq]; omega, its.drop i, 0, vd, Heap.get?_push_size _ rfl⟩)
  have vt : Vals (xs.take i ++ [.ref h₂.objs.size]) (its.take i ++ [.ref h₂.objs.size]) := (rv.take i).append (.cons rfl .nil)
  exact h.run pins _ σ _ _ _ Q I2 (by simpa using vt) (hw _ hD)
end
/-! ### dicts of ints -/
theorem seq_nat {n k : Nat} (h : k < n) : seqIndex? (k : Int) n = some k := by
  refine (ixN_seq (n := n) (i := k) (j := k) ?_).1
  unfold ixN
  rw [if_pos (by omega), if_pos (by omega), Int.toNat_natCast]
/-- a key that a row of pairs over a list without doubles does not have yet -/
theorem valV_none_of {f : Int → V} {ys : List Int} {y : Int} (h : y ∉ ys) : valV (ys.map fun z => ((Sum.inl z : Key), f z)) (Sum.inl y) = none := by
  induction ys with
  | nil => rfl
  | cons z r ih =>
    rw [List.map_cons, valV_neg (fun e => h (List.mem_cons.mpr (Or.inl (Sum.inl.inj e).symm))), ih (fun e => h (List.mem_cons_of_mem _ e))]
theorem not_in_take {ys : List Int} {i : Nat} {y : Int} (hn : ys.Nodup) (h : ys[i]? = some y) : y ∉ ys.take i := by
  intro hm
  obtain ⟨j, hj⟩ := List.mem_iff_getElem?.mp hm
  obtain ⟨hi, e⟩ := List.getElem?_eq_some_iff.mp h
  rw [List.getElem?_take] at hj
  split at hj
  · rename_i hlt
    obtain ⟨hj', e2⟩ := List.getElem?_eq_some_iff.mp hj
    have z : ys[j] = ys[i] := by rw [e2, e]
    have := (List.getElem_inj hn).mp z
    omega
  · cases hj
/-- a dict block over any walk -/
theorem dc_it {J : It} {n : Nat} {G : Hp → Prop} {Y : Nat → Hp → V → Hp → Prop} (w : Walk J n G Y) {g : TG} {tt : TT} {tk tv : TE} {vs : List Nat} {σ : L2.St} {H1 : Hp} {D : Addr} {Qd : Hp → Prop} (Pv : Nat → Hp → Prop) (h0 : Pv 0 (upd H1 D (.dK []))) (hG : ∀ i H, i ≤ n → Pv i H → G H)
    (hs : ∀ i x H H', i < n → Pv i H → Y i H x H' → g x (wipe σ vs) H' fun σ2 H2 => wipe σ2 vs = wipe σ vs ∧ tt σ2 H2 fun b H3 =>
      if b = true then tk σ2 H3 fun y H4 => tv σ2 H4 fun z H5 => ∃ kvs k, y = kV k ∧ H5 D = some (.dK kvs) ∧ kvs.length < sizeLine ∧ Pv (i + 1) (upd H5 D (.dK (putK kvs k z))) else Pv (i + 1) H3) (hd : ∀ H, Pv n H → Qd H) :
    ∃ W : Nat → Nat → Hp → Prop, (∃ m, W 0 m (upd H1 D (.dK []))) ∧ ∀ i m H, W i m H →
      (J.stop i H ∧ Qd H) ∨ (J.go i H ∧ ∃ Nx : Hp → Prop, (∀ H', Nx H' → ∃ m', m' < m ∧ W (i + 1) m' H') ∧ ∀ x H', J.yld i H x H' → g x (wipe σ vs) H' fun σ2 H2 => wipe σ2 vs = wipe σ vs ∧ tt σ2 H2 fun b H3 =>
        if b = true then tk σ2 H3 fun y H4 => tv σ2 H4 fun z H5 => ∃ kvs k, y = kV k ∧ H5 D = some (.dK kvs) ∧ kvs.length < sizeLine ∧ Nx (upd H5 D (.dK (putK kvs k z))) else Nx H3) := by
  refine ⟨fun i m H => i + m = n ∧ Pv i H, ⟨n, Nat.zero_add n, h0⟩, fun i m H hp => ?_⟩
  have q := hG i H (hp.1 ▸ Nat.le_add_right i m) hp.2
  cases m with
  | zero =>
    obtain ⟨rfl, p⟩ := hp
    exact .inl ⟨w.stops H q, hd H p⟩
  | succ m =>
    obtain ⟨e, p⟩ := hp
    have hi : i < n := by omega
    exact .inr ⟨w.goes i H hi q, Pv (i + 1), fun H' p' => ⟨m, Nat.lt_succ_self m, by omega, p'⟩, fun x H' y => hs i x H H' hi p (w.yields i H x H' hi q y)⟩
/-- a dict block over a list that the block leaves as it is -/
theorem dc_list {K : PySem.W.Frag} {a : Addr} {xs : List V} {g : TG} {tt : TT} {tk tv : TE} {vs : List Nat} {σ : L2.St} {H1 : Hp} {D : Addr} {Qd : Hp → Prop} (Pv : Nat → Hp → Prop) (h0 : Pv 0 (upd H1 D (.dK []))) (hl : ∀ i H, i ≤ xs.length → Pv i H → SqL K H a xs)
    (hs : ∀ i x H, xs[i]? = some x → Pv i H → g x (wipe σ vs) H fun σ2 H2 => wipe σ2 vs = wipe σ vs ∧ tt σ2 H2 fun b H3 =>
      if b = true then tk σ2 H3 fun y H4 => tv σ2 H4 fun z H5 => ∃ kvs k, y = kV k ∧ H5 D = some (.dK kvs) ∧ kvs.length < sizeLine ∧ Pv (i + 1) (upd H5 D (.dK (putK kvs k z))) else Pv (i + 1) H3) (hd : ∀ H, Pv xs.length H → Qd H) :
    ∃ W : Nat → Nat → Hp → Prop, (∃ m, W 0 m (upd H1 D (.dK []))) ∧ ∀ i m H, W i m H →
      ((Itl K a).stop i H ∧ Qd H) ∨ ((Itl K a).go i H ∧ ∃ Nx : Hp → Prop, (∀ H', Nx H' → ∃ m', m' < m ∧ W (i + 1) m' H') ∧ ∀ x H', (Itl K a).yld i H x H' → g x (wipe σ vs) H' fun σ2 H2 => wipe σ2 vs = wipe σ vs ∧ tt σ2 H2 fun b H3 =>
        if b = true then tk σ2 H3 fun y H4 => tv σ2 H4 fun z H5 => ∃ kvs k, y = kV k ∧ H5 D = some (.dK kvs) ∧ kvs.length < sizeLine ∧ Nx (upd H5 D (.dK (putK kvs k z))) else Nx H3) :=
  dc_it walk_list Pv h0 hl (fun i x H H' _ p y => by
    obtain ⟨rfl, e⟩ := y
    exact hs i x _ e p) hd
/-- an expression over a dict that is locked meanwhile -/
def tLock (te : TE) : TE := fun σ H Q => ∃ (d : Addr) (kvs : List (Key × V)), H d = some (.dK kvs) ∧ ∀ od, te σ (upd H d (.frz od (.dK kvs))) fun x H' => H' d = some (.frz od (.dK kvs)) ∧ Q x (upd H' d (.dK kvs))
theorem pe_lock {X : Cx} {e : Expr} {te : TE} (he : PE X e te) : PE X e (tLock te) := by
  refine ⟨fun pins s σ H Q I h => ?_⟩
  obtain ⟨d, kvs, hd, q⟩ := h
  have nf := I.nofrz hd trivial
  obtain ⟨od, J⟩ := I.lock hd trivial
  exact thn (he.run pins s σ _ _ J (q od)) fun u s1 ⟨x, H1, I1, r, h1, q1⟩ => ⟨x, _, I1.unlock h1 nf, r, q1⟩
/-! ### the tape of drawn numbers -/
/-- all that was tracked stays, but what stands at t -/
def Kp (t : Addr) (H H' : Hp) : Prop := ∀ b o, b ≠ t → H b = some o → H' b = some o
theorem Kp.refl (t : Addr) (H : Hp) : Kp t H H := fun _ _ _ h => h
theorem Kp.trans {t : Addr} {H H1 H2 : Hp} (a : Kp t H H1) (b : Kp t H1 H2) : Kp t H H2 := fun c o n h => b c o n (a c o n h)
theorem Kp.of_same {t : Addr} {H H' : Hp} (a : Same H H') : Kp t H H' := fun c o _ h => a c o h
theorem Kp.put {t : Addr} {H : Hp} {o : HO} : Kp t H (upd H t o) := fun b u n h => by rw [upd_ne n]; exact h
theorem same_upd {H : Hp} {p : Addr} {o : HO} (h : H p = none) : Same H (upd H p o) := fun b x e => by
  rw [upd_ne (ne_of_none e h)]
  exact e
theorem Kp.new {t : Addr} {H H' : Hp} {p : Addr} {o : HO} (a : Kp t H H') (h : H' p = none) : Kp t H (upd H' p o) := a.trans (.of_same (same_upd h))
def Tape (H : Hp) (t c : Addr) : Prop := ∃ (cs : List Int) (a : Nat) (b k r : Int), H t = some (.lst [.ref c, .int a, .int b, .int k, .int r]) ∧ H c = some (.lst (cs.map V.int)) ∧ c ≠ t ∧ a < cs.length
theorem Tape.same {H H' : Hp} {t c : Addr} (h : Tape H t c) (s : Same H H') : Tape H' t c := by
  obtain ⟨cs, a, b, k, r, h1, h2, h3, h4⟩ := h
  exact ⟨cs, a, b, k, r, s _ _ h1, s _ _ h2, h3, h4⟩
theorem Tape.off {H : Hp} {t c m : Addr} (h : Tape H t c) (n : H m = none) : m ≠ t ∧ m ≠ c := by
  obtain ⟨cs, a, b, k, r, h1, h2, h3, h4⟩ := h
  exact ⟨fun e => ne_of_none h1 n e.symm, fun e => ne_of_none h2 n e.symm⟩
theorem Tape.put {H : Hp} {t c m : Addr} {o : HO} (h : Tape H t c) (n : m ≠ t ∧ m ≠ c) : Tape (upd H m o) t c := by
  obtain ⟨cs, a, b, k, r, h1, h2, h3, h4⟩ := h
  exact ⟨cs, a, b, k, r, by rw [upd_ne n.1.symm]; exact h1, by rw [upd_ne n.2.symm]; exact h2, h3, h4⟩
theorem Tape.set {H : Hp} {t c : Addr} {cs : List Int} {a : Nat} {b k r : Int} (h2 : H c = Option.some (.lst (cs.map V.int))) (h3 : c ≠ t) (h4 : a < cs.length) : Tape (upd H t (.lst [.ref c, .int a, .int b, .int k, .int r])) t c :=
  ⟨cs, a, b, k, r, upd_same, by rw [upd_ne h3]; exact h2, h3, h4⟩
theorem ix5 (a b c d e : V) : ixN [a, b, c, d, e].length 0 = Option.some 0 ∧ ixN [a, b, c, d, e].length 1 = Option.some 1 ∧ ixN [a, b, c, d, e].length 2 = Option.some 2 ∧ ixN [a, b, c, d, e].length 3 = Option.some 3 ∧ ixN [a, b, c, d, e].length 4 = Option.some 4 := ⟨rfl, rfl, rfl, rfl, rfl⟩
theorem sz5 (a b c d e : V) : [a, b, c, d, e].length ≤ sizeLine := by show 5 ≤ sizeLine; decide
section
variable {P : Program} {w : World} {K : PySem.W.Frag} {mg : Str → Option Value} {base : Heap}
def sp__law_tape (K : PySem.W.Frag) : Sp := fun vs H Q _ => ∃ (a : Addr) (ns : List Int), vs = [.ref a] ∧ SqL K H a (ns.map V.int) ∧ ns.length ≤ 1000 ∧ ∀ H' t c, Same H H' → H t = none → Tape H' t c → Q (.ref t) H'
theorem T0.ok__law_tape (T : T0 K mg) : FnOk P w K mg base CX0 1 T.a__law_tape T.fd__law_tape ["script"] (sp__law_tape K) := by
  refine T.F__law_tape.ok sc__law_tape (fun vs H Q E h => ?_) (fun cdv A outer s H vs Q E hr h => ?_)
  · obtain ⟨a, ns, rfl, _⟩ := h
    rfl
  · obtain ⟨a, ns, rfl, hS, hlen, q⟩ := h
    refine ⟨_, (pss_cons (ps_setLc (i := 1) (own := [("cell", 2)]) (g := gName 2) (by rfl) sc__law_tape.nd rfl rfl (sw_true rfl rfl rfl (by decide +kernel)) (pi_list (pv 0)) (blkOk_by (own := [("cell", 2)]) (N := ["script", "cells", "cell"]) (sc := defScope s__law_tape) (by decide +kernel)) (fun _ _ _ _ _ => pg_name (i := 2) sc__law_tape.nd rfl (Or.inl rfl)) (fun _ _ _ _ _ => pts_nil) (fun _ _ _ _ _ => (pe_callB call_abs (by rfl) T.m_abs (by decide +kernel) (pa_cons (pe_callTy call_int1 (by rfl) T.m_int (by decide +kernel) (pa_cons (pv 2) pa_nil)) pa_nil))))
        (C8.pss_cut (ps_if (pt_cmpR op_eq (pe_callB (call_lenK (K := K)) (by rfl) T.m_len PySem.boot_len (pa_cons (pv 1) pa_nil)) pe_int (nomark _)) (pss_one (ps_set (i := 1) sc__law_tape.nd rfl (Or.inl rfl) (pe_lst (pa_cons pe_int pa_nil)))) pss_nil)
        (pss_one (ps_ret (pe_lst (pa_cons (pv 1) (pa_cons pe_int (pa_cons (pe_ix (ix_listK (K := K)) (pv 1) pe_int (fun _ _ => rfl)) (pa_cons pe_int (pa_cons pe_int pa_nil)))))))))), ?_⟩
    -- cells = [..]
    refine ⟨.ref a, rfl, a, rfl, ⟨_, hS⟩, fun D hD => lc_list (K := K) (a := a) (xs := ns.map V.int) (fun i H' => Same H H' ∧ ∃ ms : List Int, ms.length = i ∧ H' D = some (.lst (ms.map V.int))) ⟨same_upd hD, [], rfl, upd_same⟩ (fun i H' _ p => p.1.seq hS) (fun i x H' hx p => ?_) (fun H1 p => ?_)⟩
    · obtain ⟨sm, ms, e1, e2⟩ := p
      rw [List.getElem?_map] at hx
      obtain ⟨n, hn, rfl⟩ := Option.map_eq_some_iff.mp hx
      refine ⟨rfl, ?_⟩
      refine ⟨_, rfl, .inl ⟨_, rfl, _, rfl, ms.map V.int, e2, ?_, ?_⟩⟩
      · have hi : i < ns.length := (List.getElem?_eq_some_iff.mp hn).1
        rw [List.length_map]
        exact small1000' (by omega)
      · refine ⟨fun b o h => ?_, ms ++ [if n < 0 then -n else n], ?_, ?_⟩
        · rw [upd_ne (ne_of_none h hD)]
          exact sm b o h
        · rw [List.length_append, e1]
          rfl
        · rw [upd_same, List.map_append]
          rfl
    · obtain ⟨sm, ms, e1, e2⟩ := p
      rw [List.length_map] at e1
      -- if len(cells) == 0
      refine ⟨fun σ' H' => ∃ (c : Addr) (cs : List Int) (x2 : Option V), σ' = [some (.ref a), some (.ref c), x2] ∧ Same H H' ∧ H c = none ∧ H' c = some (.lst (cs.map V.int)) ∧ 0 < cs.length, ?_, fun σ' H' hM => ?_⟩
      · refine ⟨.ref D, rfl, D, ms.map V.int, rfl, .inl (SqL.of e2), rfl, _, rfl, ite2 (fun e => ?_) (fun e => ?_)⟩
        · refine ⟨by decide, fun p np => ?_⟩
          refine ⟨p, [0], none, rfl, ?_, ?_, upd_same, by decide⟩
          · exact sm.trans (same_upd np)
          · exact sm.free np
        · have h0 : ((ms.map V.int).length : Int) ≠ 0 := fun z => e (decide_eq_true (congrArg V.int z))
          rw [List.length_map] at h0
          exact ⟨D, ms, none, rfl, sm, hD, e2, by omega⟩
      · obtain ⟨c, cs, x2, rfl, sm2, nc, e3, hp⟩ := hM
        refine ⟨.ref c, rfl, .ref c, rfl, c, cs.map V.int, 0, .int (cs[0]), rfl, rfl, SqL.of e3, at_ints hp, sz5 _ _ _ _ _, fun t nt => ?_⟩
        refine q _ t c (sm2.trans (same_upd nt)) (sm2.free nt) (Tape.set (a := 0) e3 (ne_of_none e3 nt) hp)
def sp__law_pick (K : PySem.W.Frag) : Sp := fun vs H Q _ => ∃ (t c : Addr) (n : Int), vs = [.ref t, .int n] ∧ Tape H t c ∧ 0 < n ∧ n ≤ 4000000000 ∧ ∀ x H', 0 ≤ x → x < n → Kp t H H' → Tape H' t c → Q (.int x) H'
theorem T0.ok__law_pick (T : T0 K mg) : FnOk P w K mg base CX0 1 T.a__law_pick T.fd__law_pick ["tape", "size"] (sp__law_pick K) := by
  refine T.F__law_pick.ok sc__law_pick (fun vs H Q E h => ?_) (fun cdv A outer s H vs Q E hr h => ?_)
  · obtain ⟨t, c, n, rfl, _⟩ := h
    rfl
  · obtain ⟨t, c, n, rfl, ⟨cs, a, b, k, r, hT, hC, nct, ha⟩, hn0, hn1, q⟩ := h
    refine ⟨_, (pss_cons (ps_set (i := 2) sc__law_pick.nd rfl (Or.inl rfl) (pe_ix (ix_listK (K := K)) (pv 0) pe_int (fun _ _ => rfl)))
        (pss_cons (ps_set (i := 3) sc__law_pick.nd rfl (Or.inl rfl) (pe_ix (ix_listK (K := K)) (pv 2) (pe_ix (ix_listK (K := K)) (pv 0) pe_int (fun _ _ => rfl)) (fun _ _ => rfl)))
        (pss_cons (ps_set (i := 4) sc__law_pick.nd rfl (Or.inl rfl) (pe_op op_add (pe_ix (ix_listK (K := K)) (pv 0) pe_int (fun _ _ => rfl)) (pe_op op_mul pe_int (pe_ix (ix_listK (K := K)) (pv 0) pe_int (fun _ _ => rfl)))))
        (C8.pss_cut (ps_if (PW.pt (pw_and (pt_cmpR op_ge (pv 3) (pe_op op_pow pe_int pe_int) (nomark _)) (pw_and1 (pt_cmpR op_eq (pe_ix (ix_listK (K := K)) (pv 0) pe_int (fun _ _ => rfl)) pe_int (nomark _))))) (pss_cons (ps_set (i := 5) sc__law_pick.nd rfl (Or.inl rfl) (pe_op op_modN (pe_callTy call_int1 (by rfl) T.m_int (by decide +kernel) (pa_cons (pe_ix (ix_listK (K := K)) (pv 0) pe_int (fun _ _ => rfl)) pa_nil)) (pv 1)))
        (pss_cons (ps_asg ((pe_op op_fdivW (pe_ix (ix_listK (K := K)) (pv 0) pe_int (fun _ _ => rfl)) (pv 1))) (pg_sub (pv 0) pe_int set_list))
        (pss_one (ps_set (i := 6) sc__law_pick.nd rfl (Or.inl rfl) (pe_cmpR op_eq (pe_ix (ix_listK (K := K)) (pv 0) pe_int (fun _ _ => rfl)) pe_int (nomark _)))))) (pss_cons (ps_set (i := 7) sc__law_pick.nd rfl (Or.inl rfl) (pe_op op_modN (pe_callTy call_int1 (by rfl) T.m_int (by decide +kernel) (pa_cons (pe_op op_add (pe_op op_add (pv 3) (pe_op op_mul pe_int (pv 4))) pe_int) pa_nil)) pe_int))
        (pss_cons (ps_set (i := 7) sc__law_pick.nd rfl (Or.inl rfl) (pe_op op_modN (pe_callTy call_int1 (by rfl) T.m_int (by decide +kernel) (pa_cons (pe_op op_mul (pv 7) (pe_op op_add (pv 7) pe_int)) pa_nil)) pe_int))
        (pss_cons (ps_set (i := 7) sc__law_pick.nd rfl (Or.inl rfl) (pe_op op_modN (pe_callTy call_int1 (by rfl) T.m_int (by decide +kernel) (pa_cons (pe_op op_add (pe_op op_mul (pv 7) (pe_op op_add (pv 7) pe_int)) (pe_op op_mul pe_int (pv 4))) pa_nil)) pe_int))
        (pss_cons (ps_set (i := 5) sc__law_pick.nd rfl (Or.inl rfl) (pe_op op_modN (pe_callTy call_int1 (by rfl) T.m_int (by decide +kernel) (pa_cons (pe_op op_fdivN (pv 7) pe_int) pa_nil)) (pv 1)))
        (pss_one (ps_set (i := 6) sc__law_pick.nd rfl (Or.inl rfl) (pe_cmpR op_eq (pe_op op_modN (pe_callTy call_int1 (by rfl) T.m_int (by decide +kernel) (pa_cons (pv 4) pa_nil)) pe_int) pe_int (nomark _)))))))))
        (pss_cons (ps_asg (pe_op op_add (pe_ix (ix_listK (K := K)) (pv 0) pe_int (fun _ _ => rfl)) pe_int) (pg_sub (pv 0) pe_int set_list))
        (C8.pss_cut (ps_if (pt_val (pv 6)) (pss_cons (ps_asg pe_int (pg_sub (pv 0) pe_int set_list))
        (pss_cons (ps_asg (pe_op op_add (pe_ix (ix_listK (K := K)) (pv 0) pe_int (fun _ _ => rfl)) pe_int) (pg_sub (pv 0) pe_int set_list))
        (C8.pss_cut (ps_if (pt_cmpR op_eq (pe_ix (ix_listK (K := K)) (pv 0) pe_int (fun _ _ => rfl)) (pe_callB (call_lenK (K := K)) (by rfl) T.m_len PySem.boot_len (pa_cons (pv 2) pa_nil)) (nomark _)) (pss_cons (ps_asg pe_int (pg_sub (pv 0) pe_int set_list))
        (pss_one (ps_asg (pe_op op_add (pe_ix (ix_listK (K := K)) (pv 0) pe_int (fun _ _ => rfl)) pe_int) (pg_sub (pv 0) pe_int set_list)))) pss_nil)
        (pss_one (ps_asg (pe_ix (ix_listK (K := K)) (pv 2) (pe_ix (ix_listK (K := K)) (pv 0) pe_int (fun _ _ => rfl)) (fun _ _ => rfl)) (pg_sub (pv 0) pe_int set_list)))))) pss_nil)
        (pss_one (ps_ret (pv 5))))))))), ?_⟩
    have st : SqL K H t [.ref c, .int a, .int b, .int k, .int r] := SqL.of hT
    have sc : SqL K H c (cs.map V.int) := SqL.of hC
    -- cells = tape[0]; cell = cells[tape[1]]
    refine ⟨.ref t, rfl, t, _, 0, .ref c, rfl, rfl, st, rfl, ?_⟩
    refine ⟨.ref c, rfl, .ref t, rfl, t, _, 1, .int a, rfl, rfl, st, rfl, c, _, a, .int (cs[a]), rfl, rfl, sc, at_ints ha, ?_⟩
    -- k = tape[3] + 61 * tape[4]
    refine ⟨.ref t, rfl, t, _, 3, .int k, rfl, rfl, st, rfl, .ref t, rfl, t, _, 4, .int r, rfl, rfl, st, rfl, 61, r, rfl, rfl, .inl (by decide), _, _, rfl, rfl, ?_⟩
    refine ⟨fun σ' H' => ∃ (x : Int) (u : Bool) (b' : Int) (y : Option V), σ' = [some (.ref t), some (.int n), some (.ref c), some (.int cs[a]), some (.int (k + 61 * r)), some (.int x), some (.bl u), y] ∧ 0 ≤ x ∧ x < n ∧ H' = upd H t (.lst [.ref c, .int a, .int b', .int k, .int r]), ?_, fun σ' H' hM => ?_⟩
    · -- if cell >= 10 ** 18 and tape[4] == 0
      have hn : n ≠ 0 := by omega
      have fm : ∀ x : Int, 0 ≤ x.fmod n ∧ x.fmod n < n := fun x => fmod_range x hn0
      refine ⟨.int cs[a], rfl, 10, 18, rfl, rfl, ⟨by decide, by decide, by decide⟩, _, _, rfl, rfl, _, rfl, ite2 (fun _ => ?A) (fun _ => ?no1)⟩
      case' A => refine ⟨.ref t, rfl, t, _, 4, .int r, rfl, rfl, st, rfl, rfl, _, rfl, ite2 (fun _ => ?yes) (fun _ => ?no2)⟩
      case yes =>
        walk_at "go"
        exact ⟨_, _, _, none, rfl, (fm _).1, (fm _).2, rfl⟩
      case no1 | no2 =>
        walk_at "go"
        exact ⟨_, _, b, _, rfl, (fm _).1, (fm _).2, upd_self hT⟩
    · obtain ⟨x, u, b', y, rfl, hx0, hx1, rfl⟩ := hM
      have sc' : ∀ xs, SqL K (upd H t (.lst xs)) c (cs.map V.int) := fun xs => SqL.of ((upd_ne nct).trans hC)
      -- tape[3] = tape[3] + 1
      walk_at "go"
      rw [upd_upd]
      refine ⟨fun σ' H' => ∃ (a' : Nat) (b2 k2 r2 : Int), a' < cs.length ∧ σ' = [some (.ref t), some (.int n), some (.ref c), some (.int cs[a]), some (.int (k + 61 * r)), some (.int x), some (.bl u), y] ∧ H' = upd H t (.lst [.ref c, .int a', .int b2, .int k2, .int r2]), ?_, fun σ' H' hM => ?_⟩
      · refine ⟨_, rfl, _, rfl, ?_⟩
        cases u with
        | false => exact iteF ⟨a, b', k + 1, r, ha, rfl, rfl⟩
        | true =>
          refine iteT ?_
          -- tape[3] = 0; tape[1] = tape[1] + 1
          walk_at "go"
          rw [upd_upd]
          walk_at "go"
          rw [upd_upd]
          refine ⟨fun σ' H' => ∃ (a' : Nat) (r2 : Int), a' < cs.length ∧ σ' = [some (.ref t), some (.int n), some (.ref c), some (.int cs[a]), some (.int (k + 61 * r)), some (.int x), some (.bl true), y] ∧ H' = upd H t (.lst [.ref c, .int a', .int b', .int 0, .int r2]), ?_, fun σ' H' hM => ?_⟩
          · -- if tape[1] == len(cells)
            refine ⟨_, rfl, t, _, 1, .int (a + 1), rfl, rfl, SqL.of upd_same, rfl, ?_⟩
            refine ⟨_, rfl, c, _, rfl, .inl (sc' _), rfl, _, rfl, ite2 (fun e => ?_) (fun e => ?_)⟩
            · walk_at "go"
              rw [upd_upd]
              walk_at "go"
              rw [upd_upd]
              exact ⟨0, r + 1, by omega, rfl, rfl⟩
            · rw [List.length_map] at e
              refine ⟨a + 1, r, ?_, rfl, rfl⟩
              have h0 : ((a : Int) + 1) ≠ (cs.length : Int) := fun z => e (decide_eq_true (congrArg V.int z))
              omega
          · obtain ⟨a', r2, ha2, rfl, rfl⟩ := hM
            -- tape[2] = cells[tape[1]]
            refine ⟨_, rfl, _, rfl, t, _, 1, .int a', rfl, rfl, SqL.of upd_same, rfl, c, _, a', .int cs[a'], rfl, rfl, sc' _, at_ints ha2, ?_⟩
            walk_at "go"
            exact ⟨a', _, _, _, ha2, rfl, upd_upd⟩
      · obtain ⟨a', b2, k2, r2, ha2, rfl, rfl⟩ := hM
        exact ⟨_, rfl, q _ _ hx0 hx1 .put (Tape.set hC nct ha2)⟩
local macro_rules | `(tactic| walk_at "kp") => `(tactic| first
  | exact Kp.refl _ _
  | assumption
  | (refine Kp.trans ?_ (by assumption); walk_at "kp"))
local macro_rules | `(tactic| walk_at "pick") => `(tactic|
  refine ⟨_, _, _, rfl, (by assumption), (by first | decide | omega), (by first | decide | omega), fun x H' h0 h1 kp hT => ?_⟩)
def sp__law_size (K : PySem.W.Frag) : Sp := fun vs H Q _ => ∃ (t c : Addr) (n : Int), vs = [.ref t, .int n] ∧ Tape H t c ∧ n ≤ 100 ∧ ∀ x H', 1 ≤ x → n ≤ x → x ≤ 1000000000 → Kp t H H' → Tape H' t c → Q (.int x) H'
theorem T0.ok__law_size (T : T0 K mg) : FnOk P w K mg base CX0 2 T.a__law_size T.fd__law_size ["tape", "count"] (sp__law_size K) := by
  refine T.F__law_size.ok sc__law_size (fun vs H Q E h => ?_) (fun cdv A outer s H vs Q E hr h => ?_)
  · obtain ⟨t, c, n, rfl, _⟩ := h
    rfl
  · obtain ⟨t, c, n, rfl, hT, hn, q⟩ := h
    refine ⟨_, (pss_cons (ps_set (i := 2) sc__law_size.nd rfl (Or.inl rfl) (pe_call T.ok__law_pick hr (by rfl) T.g__law_pick T.k__law_pick T.b__law_pick .nil pass0 (pa_cons (pv 0) (pa_cons pe_int pa_nil))))
        (pss_cons (ps_set (i := 3) sc__law_size.nd rfl (Or.inl rfl) (pe_callB (call_max2 rfl) (by rfl) T.m_max (by decide +kernel) (pa_cons pe_int (pa_cons (pv 1) pa_nil))))
        (pss_cons (ps_if (pt_cmpR op_eq (pv 2) pe_int (nomark _)) (pss_one (ps_ret (pv 3))) pss_nil)
        (pss_cons (ps_if (pt_cmpR op_eq (pv 2) pe_int (nomark _)) (pss_one (ps_ret (pe_op op_add (pv 3) (pe_call T.ok__law_pick hr (by rfl) T.g__law_pick T.k__law_pick T.b__law_pick .nil pass0 (pa_cons (pv 0) (pa_cons pe_int pa_nil)))))) pss_nil)
        (pss_cons (ps_if (pt_cmpR op_eq (pv 2) pe_int (nomark _)) (pss_one (ps_ret (pe_op op_add (pv 3) (pe_call T.ok__law_pick hr (by rfl) T.g__law_pick T.k__law_pick T.b__law_pick .nil pass0 (pa_cons (pv 0) (pa_cons pe_int pa_nil)))))) pss_nil)
        (pss_one (ps_ret (pe_op op_add (pe_op op_add (pv 3) pe_int) (pe_call T.ok__law_pick hr (by rfl) T.g__law_pick T.k__law_pick T.b__law_pick .nil pass0 (pa_cons (pv 0) (pa_cons pe_int pa_nil))))))))))), ?_⟩
    refine ⟨_, rfl, ?_⟩
    walk_at "pick"
    rename_i x H1 h0 h1 kp hT1
    refine ⟨.int n, rfl, 1, n, rfl, ?_⟩
    have l1 : 1 ≤ (if n > 1 then n else (1 : Int)) ∧ n ≤ (if n > 1 then n else (1 : Int)) ∧ (if n > 1 then n else (1 : Int)) ≤ 100 := by split <;> omega
    revert l1
    generalize (if n > 1 then n else (1 : Int)) = l
    intro l1
    refine ⟨_, rfl, rfl, _, rfl, ite2 (fun _ => ?_) (fun _ => ?_)⟩
    · exact ⟨_, rfl, q _ _ (by omega) (by omega) (by omega) (by walk_at "kp") hT1⟩
    refine ⟨_, rfl, rfl, _, rfl, ite2 (fun _ => ?_) (fun _ => ?_)⟩
    · refine ⟨_, rfl, _, rfl, ?_⟩
      walk_at "pick"
      exact ⟨_, _, rfl, rfl, q _ _ (by omega) (by omega) (by omega) (by walk_at "kp") (by assumption)⟩
    refine ⟨_, rfl, rfl, _, rfl, ite2 (fun _ => ?_) (fun _ => ?_)⟩
    · refine ⟨_, rfl, _, rfl, ?_⟩
      walk_at "pick"
      exact ⟨_, _, rfl, rfl, q _ _ (by omega) (by omega) (by omega) (by walk_at "kp") (by assumption)⟩
    · refine ⟨_, rfl, _, _, rfl, rfl, _, rfl, ?_⟩
      walk_at "pick"
      exact ⟨_, _, rfl, rfl, q _ _ (by omega) (by omega) (by omega) (by walk_at "kp") (by assumption)⟩
/-! ### _law_same -/
theorem op_isB {X : Cx} : OpR X (compareOp .Is) (fun x y H Q => ∃ b, y = .bl b ∧ Q (.bl (decide (x = .bl b))) H) := by
  intro pins s σ H x y v u Q I rx ry h
  obtain ⟨b, rfl, q⟩ := h
  cases (show u = Value.bool b from ry)
  cases x with
  | bl c =>
    cases (show v = Value.bool c from rx)
    refine is_bool (fin_bl I q ?_)
    cases b <;> cases c <;> rfl
  | non => cases rx; exact wpAny_is_plain rfl (fin_bl I q rfl)
  | int _ => obtain ⟨t, rfl⟩ := rx; exact wpAny_is_plain rfl (fin_bl I q rfl)
  | str _ => obtain ⟨t, rfl⟩ := rx; exact wpAny_is_plain rfl (fin_bl I q rfl)
  | byt _ => obtain ⟨t, rfl⟩ := rx; exact wpAny_is_plain rfl (fin_bl I q rfl)
  | flt _ => obtain ⟨t, rfl⟩ := rx; exact wpAny_is_plain rfl (fin_bl I q rfl)
  | ref _ => cases rx; exact wpAny_is_plain rfl (fin_bl I q rfl)
  | ty _ => cases rx; exact wpAny_is_plain rfl (fin_bl I q rfl)
def atomV : V → Bool
  | .non => true
  | .bl _ => true
  | .int _ => true
  | .str _ => true
  | _ => false
/-- the same data, of at most this depth -/
inductive Sm (K : PySem.W.Frag) : Nat → Hp → V → V → Prop
  | atom {d : Nat} {H : Hp} {x : V} : atomV x = true → Sm K (d + 1) H x x
  | lst {d : Nat} {H : Hp} {a b : Addr} {xs ys : List V} : SqL K H a xs → SqL K H b ys → xs.length = ys.length → ys.length ≤ 100000 → (∀ (i : Nat) x y, xs[i]? = some x → ys[i]? = some y → Sm K d H x y) → Sm K (d + 1) H (.ref a) (.ref b)
  | tup {d : Nat} {H : Hp} {a b : Addr} {xs ys : List V} : SqT K H a xs → SqT K H b ys → xs.length = ys.length → ys.length ≤ 100000 → (∀ (i : Nat) x y, xs[i]? = some x → ys[i]? = some y → Sm K d H x y) → Sm K (d + 1) H (.ref a) (.ref b)
  | dic {d : Nat} {H : Hp} {a b : Addr} {xs ys : List (Key × V)} : H a = some (.dK xs) → H b = some (.dK ys) → xs.length = ys.length → ys.length ≤ 100000 → (∀ (i : Nat) x y, xs[i]? = some x → ys[i]? = some y → x.1 = y.1) →
      (∀ (i : Nat) x y, xs[i]? = some x → ys[i]? = some y → Sm K (d + 1) H x.2 y.2) → Sm K (d + 4) H (.ref a) (.ref b)
theorem same_t {K : PySem.W.Frag} {H H' : Hp} {a : Addr} {xs : List V} (e : Same H H') (h : SqT K H a xs) : SqT K H' a xs := by
  rcases h with (h | ⟨o, h⟩) | h
  · exact .inl (.inl (e _ _ h))
  · exact .inl (.inr ⟨o, e _ _ h⟩)
  · exact .inr h
theorem Sm.same {K : PySem.W.Frag} {d : Nat} {H : Hp} {x y : V} (h : Sm K d H x y) : ∀ {H' : Hp}, Same H H' → Sm K d H' x y := by
  induction h with
  | atom h => exact fun _ => .atom h
  | lst h1 h2 h3 h4 _ ih => exact fun s => .lst (s.seq h1) (s.seq h2) h3 h4 fun i x y e1 e2 => ih i x y e1 e2 s
  | tup h1 h2 h3 h4 _ ih => exact fun s => .tup (same_t s h1) (same_t s h2) h3 h4 fun i x y e1 e2 => ih i x y e1 e2 s
  | dic h1 h2 h3 h4 h5 _ ih => exact fun s => .dic (s _ _ h1) (s _ _ h2) h3 h4 h5 fun i x y e1 e2 => ih i x y e1 e2 s
theorem Sm.succ {K : PySem.W.Frag} {d : Nat} {H : Hp} {x y : V} (h : Sm K d H x y) : Sm K (d + 1) H x y := by
  induction h with
  | atom h => exact .atom h
  | lst h1 h2 h3 h4 _ ih => exact .lst h1 h2 h3 h4 ih
  | tup h1 h2 h3 h4 _ ih => exact .tup h1 h2 h3 h4 ih
  | dic h1 h2 h3 h4 h5 _ ih => exact .dic h1 h2 h3 h4 h5 ih
theorem Sm.int {K : PySem.W.Frag} {d : Nat} {H : Hp} {i j : Int} (h : i = j) : Sm K (d + 1) H (.int i) (.int j) := by subst h; exact .atom rfl
theorem Sm.bl {K : PySem.W.Frag} {d : Nat} {H : Hp} {i j : Bool} (h : i = j) : Sm K (d + 1) H (.bl i) (.bl j) := by subst h; exact .atom rfl
theorem tyx_l {K : PySem.W.Frag} {H : Hp} {a : Addr} {xs : List V} (h : SqL K H a xs) : TyX K H (.ref a) (.type "list") := by
  rcases h with (h | ⟨o, h⟩) | ⟨o, its, n, h1, h2, _⟩
  · exact .base (.lst h)
  · exact .base (.frz h)
  · exact .kList h1 h2
theorem tyx_t {K : PySem.W.Frag} {H : Hp} {a : Addr} {xs : List V} (h : SqT K H a xs) : TyX K H (.ref a) (.type "tuple") := by
  rcases h with (h | ⟨o, h⟩) | ⟨o, its, n, h1, h2, _⟩
  · exact .base (.tup h)
  · exact .fTuple h
  · exact .kTuple h1 h2
theorem pair_ix {R : V → V → Prop} : ∀ {xs ys : List V}, Paired R xs ys → ∀ (i : Nat) x y, xs[i]? = some x → ys[i]? = some y → R x y
  | _, _, .nil, i, x, y, h, _ => by simp at h
  | _, _, .cons r _, 0, x, y, h, g => by
    cases h
    cases g
    exact r
  | _, _, .cons _ t, i + 1, x, y, h, g => pair_ix t i x y h g
theorem Sm.lstP {K : PySem.W.Frag} {d : Nat} {H : Hp} {a b : Addr} {xs ys : List V} (h1 : SqL K H a xs) (h2 : SqL K H b ys) (h3 : ys.length ≤ 100000) (p : Paired (Sm K d H) xs ys) : Sm K (d + 1) H (.ref a) (.ref b) :=
  .lst h1 h2 p.length h3 (pair_ix p)
theorem Sm.tupP {K : PySem.W.Frag} {d : Nat} {H : Hp} {a b : Addr} {xs ys : List V} (h1 : SqT K H a xs) (h2 : SqT K H b ys) (h3 : ys.length ≤ 100000) (p : Paired (Sm K d H) xs ys) : Sm K (d + 1) H (.ref a) (.ref b) :=
  .tup h1 h2 p.length h3 (pair_ix p)
def sp__law_same (d : Nat) (K : PySem.W.Frag) : Sp := fun vs H Q _ => ∃ x y, vs = [x, y] ∧ Sm K d H x y ∧ ∀ H', Same H H' → Q (.bl true) H'
theorem fnok_never {CX : CXT} {k : Nat} {f : Addr} {fd : FuncData} {ps : List Str} {sp : Sp} (h : ∀ vs H Q E, ¬ sp vs H Q E) : FnOk P w K mg base CX k f fd ps sp where
  len := fun vs H Q E z => (h vs H Q E z).elim
  run := fun A outer s H args us vs Q E hr h0 hb hv z => (h vs H Q E z).elim
theorem T0.ok__law_same_succ (T : T0 K mg) {d : Nat} (G : FnOk P w K mg base CX0 d T.a__law_same T.fd__law_same ["actual", "due"] (sp__law_same d K)) : FnOk P w K mg base CX0 (d + 1) T.a__law_same T.fd__law_same ["actual", "due"] (sp__law_same (d + 1) K) := by
  refine T.F__law_same.ok sc__law_same (fun vs H Q E h => ?_) (fun cdv A outer s H vs Q E hr h => ?_)
  · obtain ⟨x, y, rfl, _⟩ := h
    rfl
  · obtain ⟨x, y, rfl, hS, q⟩ := h
    refine ⟨_, (pss_cons (ps_if (pt_cmpR op_isN (pv 1) pe_non (nomark _)) (pss_one (ps_ret (pe_cmpR op_isN (pv 0) pe_non (nomark _)))) pss_nil)
        (pss_cons (ps_if (pt_cmpR op_isB (pv 1) pe_bl (nomark _)) (pss_one (ps_ret (pe_cmpR op_isB (pv 0) pe_bl (nomark _)))) pss_nil)
        (pss_cons (ps_if (pt_cmpR op_isB (pv 1) pe_bl (nomark _)) (pss_one (ps_ret (pe_cmpR op_isB (pv 0) pe_bl (nomark _)))) pss_nil)
        (pss_cons (ps_if (pt_val (pe_callB (call_isinstK (K := K)) (by rfl) T.m_isinstance (by decide +kernel) (pa_cons (pv 1) (pa_cons (pe_bltn (v := .ty "int") (by rfl) T.m_int (by decide +kernel) rfl) pa_nil)))) (pss_one (ps_ret (pe_and (pe_callB (call_isinstK (K := K)) (by rfl) T.m_isinstance (by decide +kernel) (pa_cons (pv 0) (pa_cons (pe_bltn (v := .ty "int") (by rfl) T.m_int (by decide +kernel) rfl) pa_nil))) (pe_and (pe_not (pe_callB (call_isinstK (K := K)) (by rfl) T.m_isinstance (by decide +kernel) (pa_cons (pv 0) (pa_cons (pe_bltn (v := .ty "bool") (by rfl) T.m_bool (by decide +kernel) rfl) pa_nil)))) (pe_one (pe_cmpR op_eq (pv 0) (pv 1) (nomark _))))))) pss_nil)
        (pss_cons (ps_if (pt_val (pe_callB (call_isinstK (K := K)) (by rfl) T.m_isinstance (by decide +kernel) (pa_cons (pv 1) (pa_cons (pe_bltn (v := .ty "str") (by rfl) T.m_str (by decide +kernel) rfl) pa_nil)))) (pss_one (ps_ret (pe_and (pe_callB (call_isinstK (K := K)) (by rfl) T.m_isinstance (by decide +kernel) (pa_cons (pv 0) (pa_cons (pe_bltn (v := .ty "str") (by rfl) T.m_str (by decide +kernel) rfl) pa_nil))) (pe_one (pe_cmpR op_eq (pv 0) (pv 1) (nomark _)))))) pss_nil)
        (pss_cons (ps_if (pt_val (pe_callB (call_isinstK (K := K)) (by rfl) T.m_isinstance (by decide +kernel) (pa_cons (pv 1) (pa_cons (pe_bltn (v := .ty "dict") (by rfl) T.m_dict (by decide +kernel) rfl) pa_nil)))) (pss_one (ps_ret (pe_and (pe_callB (call_isinstK (K := K)) (by rfl) T.m_isinstance (by decide +kernel) (pa_cons (pv 0) (pa_cons (pe_bltn (v := .ty "dict") (by rfl) T.m_dict (by decide +kernel) rfl) pa_nil))) (pe_one (pe_call G hr (by rfl) T.g__law_same T.k__law_same T.b__law_same .nil pass0 (pa_cons (LiI.pe_listItems rfl (pv 0) (by rfl) T.m_list (by decide +kernel)) (pa_cons (LiI.pe_listItems rfl (pv 1) (by rfl) T.m_list (by decide +kernel)) pa_nil))))))) pss_nil)
        (C8.pss_cut (ps_if (PW.pt (pw_and (pt_val (pe_callB (call_isinstK (K := K)) (by rfl) T.m_isinstance (by decide +kernel) (pa_cons (pv 1) (pa_cons (pe_bltn (v := .ty "tuple") (by rfl) T.m_tuple (by decide +kernel) rfl) pa_nil)))) (pw_and1 (pt_not (pt_val (pe_callB (call_isinstK (K := K)) (by rfl) T.m_isinstance (by decide +kernel) (pa_cons (pv 0) (pa_cons (pe_bltn (v := .ty "tuple") (by rfl) T.m_tuple (by decide +kernel) rfl) pa_nil)))))))) (pss_one (ps_ret pe_bl)) pss_nil)
        (C8.pss_cut (ps_if (PW.pt (pw_and (pt_val (pe_callB (call_isinstK (K := K)) (by rfl) T.m_isinstance (by decide +kernel) (pa_cons (pv 1) (pa_cons (pe_bltn (v := .ty "list") (by rfl) T.m_list (by decide +kernel) rfl) pa_nil)))) (pw_and1 (pt_not (pt_val (pe_callB (call_isinstK (K := K)) (by rfl) T.m_isinstance (by decide +kernel) (pa_cons (pv 0) (pa_cons (pe_bltn (v := .ty "list") (by rfl) T.m_list (by decide +kernel) rfl) pa_nil)))))))) (pss_one (ps_ret pe_bl)) pss_nil)
        (pss_cons (ps_if (pt_cmpR op_ne (pe_callB (call_lenK (K := K)) (by rfl) T.m_len PySem.boot_len (pa_cons (pv 0) pa_nil)) (pe_callB (call_lenK (K := K)) (by rfl) T.m_len PySem.boot_len (pa_cons (pv 1) pa_nil)) (nomark _)) (pss_one (ps_ret pe_bl)) pss_nil)
        (pss_cons (ps_for PassesOwn.never rfl (pi_range1 (by rfl) T.m_range (pa_cons (pe_callB (call_lenK (K := K)) (by rfl) T.m_len PySem.boot_len (pa_cons (pv 1) pa_nil)) pa_nil)) (pg_name (i := 2) sc__law_same.nd rfl (Or.inl rfl)) (pss_one (ps_if (pt_not (pt_val (pe_call G hr (by rfl) T.g__law_same T.k__law_same T.b__law_same .nil pass0 (pa_cons (pe_ix ix_seq (pv 0) (pv 2) (fun _ _ => rfl)) (pa_cons (pe_ix ix_seq (pv 1) (pv 2) (fun _ _ => rfl)) pa_nil))))) (pss_one (ps_ret pe_bl)) pss_nil)))
        (pss_one (ps_ret pe_bl)))))))))))), ?_⟩
    refine ⟨_, rfl, rfl, _, rfl, ite2 (fun e => ?_) (fun e => ?_)⟩
    · have e := of_decide_eq_true e
      subst e
      cases hS with
      | atom _ => exact ⟨_, rfl, rfl, q _ (.refl _)⟩
    refine ⟨_, rfl, _, rfl, _, rfl, ite2 (fun e => ?_) (fun e => ?_)⟩
    · have e := of_decide_eq_true e
      subst e
      cases hS with
      | atom _ => exact ⟨_, rfl, _, rfl, q _ (.refl _)⟩
    refine ⟨_, rfl, _, rfl, _, rfl, ite2 (fun e => ?_) (fun e => ?_)⟩
    · have e := of_decide_eq_true e
      subst e
      cases hS with
      | atom _ => exact ⟨_, rfl, _, rfl, q _ (.refl _)⟩
    rename_i hn ht
    have hS' : (x = y ∧ atomV x = true) ∨ (∃ (T : String) (a b : Addr) (xs ys : List V), x = .ref a ∧ y = .ref b ∧ (T = "list" ∧ SqL K H a xs ∧ SqL K H b ys ∨ T = "tuple" ∧ SqT K H a xs ∧ SqT K H b ys) ∧ xs.length = ys.length ∧ ys.length ≤ 100000 ∧ ∀ (i : Nat) x y, xs[i]? = some x → ys[i]? = some y → Sm K d H x y) ∨
        (∃ (e : Nat) (a b : Addr) (xs ys : List (Key × V)), d = e + 3 ∧ x = .ref a ∧ y = .ref b ∧ H a = some (.dK xs) ∧ H b = some (.dK ys) ∧ xs.length = ys.length ∧ ys.length ≤ 100000 ∧ (∀ (i : Nat) x y, xs[i]? = some x → ys[i]? = some y → x.1 = y.1) ∧
          ∀ (i : Nat) x y, xs[i]? = some x → ys[i]? = some y → Sm K (e + 1) H x.2 y.2) := by
      cases hS with
      | atom h => exact .inl ⟨rfl, h⟩
      | lst h1 h2 h3 h4 h5 => exact .inr (.inl ⟨"list", _, _, _, _, rfl, rfl, .inl ⟨rfl, h1, h2⟩, h3, h4, h5⟩)
      | tup h1 h2 h3 h4 h5 => exact .inr (.inl ⟨"tuple", _, _, _, _, rfl, rfl, .inr ⟨rfl, h1, h2⟩, h3, h4, h5⟩)
      | dic h1 h2 h3 h4 h5 h6 => exact .inr (.inr ⟨_, _, _, _, _, rfl, rfl, rfl, h1, h2, h3, h4, h5, h6⟩)
    rcases hS' with ⟨rfl, hx⟩ | ⟨t, a, b, xs, ys, rfl, rfl, hk, hl, hz, hi⟩ | ⟨c, a, b, xs, ys, rfl, rfl, rfl, h1, h2, hl, hz, hk, hi⟩
    · cases x with
      | non => exact absurd (decide_eq_true rfl) hn
      | bl b => cases b with
        | true => exact absurd (decide_eq_true rfl) ht
        | false => exact absurd (decide_eq_true rfl) e
      | int i =>
        refine ⟨_, rfl, _, _, _, _, true, rfl, .ty "int", .base (.int _), kit_ty (by decide +kernel), _, rfl, iteT ?_⟩
        refine ⟨_, rfl, _, _, _, _, true, rfl, .ty "int", .base (.int _), kit_ty (by decide +kernel), _, rfl, iteT ?_⟩
        refine ⟨_, rfl, _, _, _, _, false, rfl, .ty "bool", .base (.int _), kit_ty (by decide +kernel), _, rfl, _, rfl, iteT ?_⟩
        refine ⟨_, rfl, _, rfl, rfl, ?_⟩
        rw [decide_eq_true rfl]
        exact q _ (.refl _)
      | str i =>
        refine ⟨_, rfl, _, _, _, _, false, rfl, .ty "int", .base (.str _), kit_ty (by decide +kernel), _, rfl, iteF ?_⟩
        refine ⟨_, rfl, _, _, _, _, true, rfl, .ty "str", .base (.str _), kit_ty (by decide +kernel), _, rfl, iteT ?_⟩
        refine ⟨_, rfl, _, _, _, _, true, rfl, .ty "str", .base (.str _), kit_ty (by decide +kernel), _, rfl, iteT ?_⟩
        refine ⟨_, rfl, _, rfl, rfl, ?_⟩
        rw [decide_eq_true rfl]
        exact q _ (.refl _)
      | _ => cases hx
    · have tb : TyX K H (.ref b) (.type t) := by
        rcases hk with ⟨rfl, _, h⟩ | ⟨rfl, _, h⟩
        · exact tyx_l h
        · exact tyx_t h
      have ta : TyX K H (.ref a) (.type t) := by
        rcases hk with ⟨rfl, h, _⟩ | ⟨rfl, h, _⟩
        · exact tyx_l h
        · exact tyx_t h
      have tt : t = "list" ∨ t = "tuple" := hk.imp (fun h => h.1) (fun h => h.1)
      refine ⟨_, rfl, _, _, _, _, false, rfl, .ty "int", tb, kit_ty (by rcases tt with rfl | rfl <;> decide +kernel), _, rfl, iteF ?_⟩
      refine ⟨_, rfl, _, _, _, _, false, rfl, .ty "str", tb, kit_ty (by rcases tt with rfl | rfl <;> decide +kernel), _, rfl, iteF ?_⟩
      refine ⟨_, rfl, _, _, _, _, false, rfl, .ty "dict", tb, kit_ty (by rcases tt with rfl | rfl <;> decide +kernel), _, rfl, iteF ?_⟩
      refine ⟨fun σ' H' => σ' = [some (.ref a), some (.ref b), none] ∧ H = H', ?_, ?_⟩
      · rcases tt with rfl | rfl
        · refine ⟨_, rfl, _, _, _, _, false, rfl, .ty "tuple", tb, kit_ty (by decide +kernel), _, rfl, iteF (iteF ⟨rfl, rfl⟩)⟩
        · refine ⟨_, rfl, _, _, _, _, true, rfl, .ty "tuple", tb, kit_ty (by decide +kernel), _, rfl, iteT ?_⟩
          refine ⟨_, rfl, _, _, _, _, true, rfl, .ty "tuple", ta, kit_ty (by decide +kernel), _, rfl, iteF ⟨rfl, rfl⟩⟩
      rintro _ _ ⟨rfl, rfl⟩
      refine ⟨fun σ' H' => σ' = [some (.ref a), some (.ref b), none] ∧ H = H', ?_, ?_⟩
      · rcases tt with rfl | rfl
        · refine ⟨_, rfl, _, _, _, _, true, rfl, .ty "list", tb, kit_ty (by decide +kernel), _, rfl, iteT ?_⟩
          refine ⟨_, rfl, _, _, _, _, true, rfl, .ty "list", ta, kit_ty (by decide +kernel), _, rfl, iteF ⟨rfl, rfl⟩⟩
        · refine ⟨_, rfl, _, _, _, _, false, rfl, .ty "list", tb, kit_ty (by decide +kernel), _, rfl, iteF (iteF ⟨rfl, rfl⟩)⟩
      rintro _ _ ⟨rfl, rfl⟩
      have la : SqL K H a xs ∨ SqT K H a xs := hk.imp (fun h => h.2.1) (fun h => h.2.1)
      have lb : SqL K H b ys ∨ SqT K H b ys := hk.imp (fun h => h.2.2) (fun h => h.2.2)
      refine ⟨_, rfl, a, xs, rfl, la, _, rfl, b, ys, rfl, lb, rfl, _, rfl, ?_⟩
      rw [hl, decide_eq_true rfl]
      refine iteF ?_
      -- for k in range(len(due))
      refine ⟨_, rfl, b, ys, rfl, lb, (ys.length : Int), rfl, by omega, by omega, ?_⟩
      rw [Int.toNat_natCast]
      refine for_range (lo := 0) (n := ys.length) (fun _ σ' H' => (∃ o, σ' = [some (.ref a), some (.ref b), o]) ∧ Same H H') ⟨⟨none, rfl⟩, .refl _⟩ (fun i σ' H' hlt p => ?_) (fun σ' H' p => ?_)
      · obtain ⟨⟨o, rfl⟩, sm⟩ := p
        obtain ⟨u, hu⟩ : ∃ u, xs[i]? = some u := ⟨_, List.getElem?_eq_getElem (by omega)⟩
        obtain ⟨v, hv⟩ : ∃ v, ys[i]? = some v := ⟨_, List.getElem?_eq_getElem (by omega)⟩
        rw [Int.zero_add]
        have sa : ∀ Q : VK, Q u H' → rIx K (.ref a) (.int (i : Int)) H' Q := fun Q h => by
          rcases la with l | l
          · exact .inl ⟨a, xs, i, u, rfl, rfl, sm.seq l, atI_nat hu, h⟩
          · exact .inr (.inl ⟨a, xs, i, u, rfl, rfl, same_t sm l, atI_nat hu, h⟩)
        have sb : ∀ Q : VK, Q v H' → rIx K (.ref b) (.int (i : Int)) H' Q := fun Q h => by
          rcases lb with l | l
          · exact .inl ⟨b, ys, i, v, rfl, rfl, sm.seq l, atI_nat hv, h⟩
          · exact .inr (.inl ⟨b, ys, i, v, rfl, rfl, same_t sm l, atI_nat hv, h⟩)
        refine ⟨_, rfl, _, rfl, sa _ ⟨_, rfl, _, rfl, sb _ ⟨u, v, rfl, (hi i u v hu hv).same sm, fun H2 s2 => ⟨true, rfl, iteF ?_⟩⟩⟩⟩
        exact ⟨⟨_, rfl⟩, sm.trans s2⟩
      · obtain ⟨⟨o, rfl⟩, sm⟩ := p
        exact q _ sm
    · have tb : TyX K H (.ref b) (.type "dict") := .base (.dK h2)
      have ta : TyX K H (.ref a) (.type "dict") := .base (.dK h1)
      refine ⟨_, rfl, _, _, _, _, false, rfl, .ty "int", tb, kit_ty (by decide +kernel), _, rfl, iteF ?_⟩
      refine ⟨_, rfl, _, _, _, _, false, rfl, .ty "str", tb, kit_ty (by decide +kernel), _, rfl, iteF ?_⟩
      refine ⟨_, rfl, _, _, _, _, true, rfl, .ty "dict", tb, kit_ty (by decide +kernel), _, rfl, iteT ?_⟩
      refine ⟨_, rfl, _, _, _, _, true, rfl, .ty "dict", ta, kit_ty (by decide +kernel), _, rfl, iteT ?_⟩
      refine ⟨_, rfl, a, xs, rfl, h1, fun H2 p1 t1 s2 n1 nt1 np1 e1 pr1 => ?_⟩
      refine ⟨_, rfl, b, ys, rfl, s2 _ _ h2, fun H3 p2 t2 s3 n2 nt2 np2 e2 pr2 => ?_⟩
      have l1 : t1.length = xs.length := pr1.length
      have l2 : t2.length = ys.length := pr2.length
      refine ⟨_, _, rfl, .lst (SqL.of (s3 _ _ e1)) (SqL.of e2) (by rw [List.length_map, List.length_map]; omega) (by rw [List.length_map]; omega) (fun i u v hu hv => ?_), fun H4 s4 => q _ (Same.trans (Same.trans s2 s3) s4)⟩
      rw [List.getElem?_map] at hu hv
      obtain ⟨u1, hu1, rfl⟩ := Option.map_eq_some_iff.mp hu
      obtain ⟨v1, hv1, rfl⟩ := Option.map_eq_some_iff.mp hv
      obtain ⟨x1, hx1, r1⟩ := paired_get pr1 hu1
      obtain ⟨x2, hx2, r2⟩ := paired_get pr2 hv1
      refine .tup (SqT.of (s3 _ _ r1)) (SqT.of r2) rfl (by show 2 ≤ 100000; decide) (fun j y z hy hz => ?_)
      have e12 := hk i x1 x2 hx1 hx2
      match j with
      | 0 =>
        cases hy
        cases hz
        rw [e12]
        exact .atom (by cases x2.1 <;> rfl)
      | 1 =>
        cases hy
        cases hz
        exact (hi i x1 x2 hx1 hx2).same (Same.trans s2 s3)
      | j + 2 => cases hy
theorem T0.ok__law_same (T : T0 K mg) : ∀ d : Nat, FnOk P w K mg base CX0 d T.a__law_same T.fd__law_same ["actual", "due"] (sp__law_same d K)
  | 0 => fnok_never fun vs H Q E h => by
    obtain ⟨x, y, _, h, _⟩ := h
    cases h
  | d + 1 => T.ok__law_same_succ (T.ok__law_same d)
/-! ### far -/
def farL (n a b : Int) : Int := (b - a - 1).fmod n + 1
def sp_far (K : PySem.W.Frag) : Sp := fun vs H Q _ => ∃ n a b : Int, vs = [.int n, .int a, .int b] ∧ 0 < n ∧ Q (.int (farL n a b)) H
theorem T0.ok_far (T : T0 K mg) : FnOk P w K mg base CX0 1 T.a_far T.fd_far ["size", "start", "end"] (sp_far K) := by
  refine T.F_far.ok sc_far (fun vs H Q E h => ?_) (fun cdv A outer s H vs Q E hr h => ?_)
  · obtain ⟨n, a, b, rfl, _⟩ := h
    rfl
  · obtain ⟨n, a, b, rfl, hn, q⟩ := h
    refine ⟨_, (pss_one (ps_ret (pe_op op_add (pe_op op_modN (pe_op op_sub (pe_op op_sub (pv 2) (pv 1)) pe_int) (pv 0)) pe_int))), ?_⟩
    exact ⟨_, rfl, _, rfl, _, _, rfl, rfl, _, _, rfl, rfl, _, rfl, _, _, rfl, rfl, by omega, _, _, rfl, rfl, q⟩
theorem far_range (a b : Int) {n : Int} (h : 0 < n) : 1 ≤ farL n a b ∧ farL n a b ≤ n := by
  have := fmod_range (b - a - 1) h
  unfold farL
  omega
theorem far_emod (a b : Int) {n : Int} (h : 0 < n) : farL n a b = (b - a - 1) % n + 1 := by
  unfold farL
  rw [Int.fmod_eq_emod_of_nonneg _ (by omega)]
theorem far_eq (a b : Int) {n : Int} (h : 0 < n) : farL n a b = if (b - a).fmod n = 0 then n else (b - a).fmod n := by
  rw [far_emod a b h, Int.fmod_eq_emod_of_nonneg _ (by omega)]
  have e := Int.emod_add_mul_ediv (b - a) n
  have h0 := Int.emod_nonneg (b - a) (by omega : n ≠ 0)
  have h1 := Int.emod_lt_of_pos (b - a) h
  by_cases z : (b - a) % n = 0
  · rw [if_pos z]
    rw [z] at e
    rw [show b - a - 1 = (n - 1) + n * ((b - a) / n - 1) by rw [Int.mul_sub]; omega, Int.add_mul_emod_self_left, Int.emod_eq_of_lt (by omega) (by omega)]
    omega
  · rw [if_neg z]
    rw [show b - a - 1 = ((b - a) % n - 1) + n * ((b - a) / n) by omega, Int.add_mul_emod_self_left, Int.emod_eq_of_lt (by omega) (by omega)]
    omega
def sp_between (K : PySem.W.Frag) : Sp := fun vs H Q _ => ∃ n a p b : Int, vs = [.int n, .int a, .int p, .int b] ∧ 0 < n ∧ Q (.bl (decide (farL n a p < farL n a b))) H
theorem T0.ok_between (T : T0 K mg) : FnOk P w K mg base CX0 2 T.a_between T.fd_between ["size", "start", "place", "end"] (sp_between K) := by
  refine T.F_between.ok sc_between (fun vs H Q E h => ?_) (fun cdv A outer s H vs Q E hr h => ?_)
  · obtain ⟨n, a, p, b, rfl, _⟩ := h
    rfl
  · obtain ⟨n, a, p, b, rfl, hn, q⟩ := h
    refine ⟨_, (pss_one (ps_ret (pe_cmpR op_lt (pe_call T.ok_far hr (by rfl) T.g_far T.k_far T.b_far .nil pass0 (pa_cons (pv 0) (pa_cons (pv 1) (pa_cons (pv 2) pa_nil)))) (pe_call T.ok_far hr (by rfl) T.g_far T.k_far T.b_far .nil pass0 (pa_cons (pv 0) (pa_cons (pv 1) (pa_cons (pv 3) pa_nil)))) (nomark _)))), ?_⟩
    exact ⟨_, rfl, _, rfl, _, rfl, _, _, _, rfl, hn, _, rfl, _, rfl, _, rfl, _, _, _, rfl, hn, _, _, rfl, rfl, q⟩
/-! ### a house -/
def hf (n p x : Int) (b : V) : List (Str × V) := [("size", .int n), ("place", .int p), ("next_house", .int x), ("before", b)]
theorem hf_size {n p x : Int} {b : V} : (hf n p x b).lookup ("size" : Str) = some (.int n) := by unfold hf; walk_at "lk"
theorem hf_place {n p x : Int} {b : V} : (hf n p x b).lookup ("place" : Str) = some (.int p) := by unfold hf; walk_at "lk"
theorem hf_next {n p x : Int} {b : V} : (hf n p x b).lookup ("next_house" : Str) = some (.int x) := by unfold hf; walk_at "lk"
theorem hf_before {n p x : Int} {b : V} : (hf n p x b).lookup ("before" : Str) = some b := by unfold hf; walk_at "lk"
def HouseAt (C : Addr) (H : Hp) (a : Addr) (n p x : Int) (b : V) : Prop := ∃ dx, H a = some (.ins C dx (hf n p x b))
def sp_House__init (C : Addr) : Sp := fun vs H Q _ => ∃ (h dx : Addr) (n p x : Int) (b : V), vs = [.ref h, .int n, .int p, .int x, b] ∧ H h = some (.ins C dx []) ∧ ∀ H', HouseAt C H' h n p x b → Kp h H H' → Q .non H'
theorem T0.ok_House__init (T : T0 K mg) : FnOk P w K mg base CX0 1 T.a_House__init T.fd_House__init ["self", "size", "place", "next_house", "before"] (sp_House__init T.C_House) := by
  refine T.F_House__init.ok sc_House__init (fun vs H Q E h => ?_) (fun cdv A outer s H vs Q E hr h => ?_)
  · obtain ⟨h, dx, n, p, x, b, rfl, _⟩ := h
    rfl
  · obtain ⟨h, dx, n, p, x, b, rfl, hh, q⟩ := h
    refine ⟨_, (pss_cons (ps_fld (pv 0) (pv 1) rfl)
        (pss_cons (ps_fld (pv 0) (pv 2) rfl)
        (pss_cons (ps_fld (pv 0) (pv 3) rfl)
        (pss_one (ps_fld (pv 0) (pv 4) rfl))))), ?_⟩
    refine ⟨_, rfl, _, rfl, h, _, dx, [], rfl, hh, T.cl_House, T.na_House_size, (by show 0 < 1000; decide), ?_⟩
    refine ⟨_, rfl, _, rfl, h, _, dx, _, rfl, upd_same, T.cl_House, T.na_House_place, (by show 1 < 1000; decide), ?_⟩
    refine ⟨_, rfl, _, rfl, h, _, dx, _, rfl, upd_same, T.cl_House, T.na_House_next_house, (by show 2 < 1000; decide), ?_⟩
    refine ⟨_, rfl, _, rfl, h, _, dx, _, rfl, upd_same, T.cl_House, T.na_House_before, (by show 3 < 1000; decide), ?_⟩
    refine q _ ⟨dx, ?_⟩ (fun b' o ne e => ?_)
    · rw [upd_same]
      have e : putF "before" b (putF "next_house" (.int x) (putF "place" (.int p) (putF "size" (.int n) []))) = hf n p x b := by
        walk_at "pf"
        rfl
      exact congrArg (fun z => some (HO.ins _ _ z)) e
    · rw [upd_ne ne, upd_ne ne, upd_ne ne, upd_ne ne]
      exact e
def sp_letter (C : Addr) (z : Str) : Sp := fun vs H Q _ => ∃ (h : Addr) (n p x : Int) (b : V), vs = [.ref h] ∧ HouseAt C H h n p x b ∧ ∀ l, H l = none → Q (.ref l) (upd H l (.tup [.str z, .int x, .int p]))
theorem T0.ok_House__tell_letter (T : T0 K mg) : FnOk P w K mg base CX0 1 T.a_House__tell_letter T.fd_House__tell_letter ["self"] (sp_letter T.C_House "tell") := by
  refine T.F_House__tell_letter.ok sc_House__tell_letter (fun vs H Q E h => ?_) (fun cdv A outer s H vs Q E hr h => ?_)
  · obtain ⟨h, n, p, x, b, rfl, _⟩ := h
    rfl
  · obtain ⟨h, n, p, x, b, rfl, ⟨dx, hh⟩, q⟩ := h
    refine ⟨_, (pss_one (ps_ret (pe_tup (pa_cons pe_str (pa_cons (show PE _ _ (tFld K _ _) from pe_fld (pv 0) rfl) (pa_cons (show PE _ _ (tFld K _ _) from pe_fld (pv 0) rfl) pa_nil)))))), ?_⟩
    refine ⟨_, rfl, h, _, dx, _, _, rfl, hh, T.cl_House, T.na_House_next_house, hf_next, ?_⟩
    refine ⟨_, rfl, h, _, dx, _, _, rfl, hh, T.cl_House, T.na_House_place, hf_place, lenL (by show 3 ≤ 100000; decide), q⟩
theorem T0.ok_House__ask_letter (T : T0 K mg) : FnOk P w K mg base CX0 1 T.a_House__ask_letter T.fd_House__ask_letter ["self"] (sp_letter T.C_House "ask") := by
  refine T.F_House__ask_letter.ok sc_House__ask_letter (fun vs H Q E h => ?_) (fun cdv A outer s H vs Q E hr h => ?_)
  · obtain ⟨h, n, p, x, b, rfl, _⟩ := h
    rfl
  · obtain ⟨h, n, p, x, b, rfl, ⟨dx, hh⟩, q⟩ := h
    refine ⟨_, (pss_one (ps_ret (pe_tup (pa_cons pe_str (pa_cons (show PE _ _ (tFld K _ _) from pe_fld (pv 0) rfl) (pa_cons (show PE _ _ (tFld K _ _) from pe_fld (pv 0) rfl) pa_nil)))))), ?_⟩
    refine ⟨_, rfl, h, _, dx, _, _, rfl, hh, T.cl_House, T.na_House_next_house, hf_next, ?_⟩
    refine ⟨_, rfl, h, _, dx, _, _, rfl, hh, T.cl_House, T.na_House_place, hf_place, lenL (by show 3 ≤ 100000; decide), q⟩
/-- what a house without a before, or with one, answers -/
def okB (b : V) : Prop := b = .non ∨ ∃ z : Int, b = .int z
def sp_House__answer_to (C : Addr) : Sp := fun vs H Q _ => ∃ (h : Addr) (n p x u : Int) (b : V), vs = [.ref h, .int u] ∧ HouseAt C H h n p x b ∧ (b = .non → Q .non H) ∧ (∀ z : Int, b = .int z → ∀ l, H l = none → Q (.ref l) (upd H l (.tup [.str "answer", .int u, .int p, .int z]))) ∧ okB b
theorem T0.ok_House__answer_to (T : T0 K mg) : FnOk P w K mg base CX0 1 T.a_House__answer_to T.fd_House__answer_to ["self", "sender"] (sp_House__answer_to T.C_House) := by
  refine T.F_House__answer_to.ok sc_House__answer_to (fun vs H Q E h => ?_) (fun cdv A outer s H vs Q E hr h => ?_)
  · obtain ⟨h, n, p, x, u, b, rfl, _⟩ := h
    rfl
  · obtain ⟨h, n, p, x, u, b, rfl, ⟨dx, hh⟩, q0, q1, ob⟩ := h
    refine ⟨_, (pss_cons (ps_if (pt_cmpR op_isN (show PE _ _ (tFld K _ _) from pe_fld (pv 0) rfl) pe_non (nomark _)) (pss_one (ps_ret pe_non)) pss_nil)
        (pss_one (ps_ret (pe_tup (pa_cons pe_str (pa_cons (pv 1) (pa_cons (show PE _ _ (tFld K _ _) from pe_fld (pv 0) rfl) (pa_cons (show PE _ _ (tFld K _ _) from pe_fld (pv 0) rfl) pa_nil)))))))), ?_⟩
    refine ⟨_, rfl, h, _, dx, _, _, rfl, hh, T.cl_House, T.na_House_before, hf_before, rfl, _, rfl, ite2 (fun e => ?_) (fun e => ?_)⟩
    · exact q0 (of_decide_eq_true e)
    · rcases ob with rfl | ⟨z, rfl⟩
      · exact absurd (decide_eq_true rfl) e
      · refine ⟨_, rfl, _, rfl, h, _, dx, _, _, rfl, hh, T.cl_House, T.na_House_place, hf_place, ?_⟩
        exact ⟨_, rfl, h, _, dx, _, _, rfl, hh, T.cl_House, T.na_House_before, hf_before, lenL (by show 4 ≤ 100000; decide), q1 z rfl⟩
def hTell (n p u : Int) (b : V) : V := match b with
  | .int z => if farL n z u < farL n z p then .int u else .int z
  | _ => .int u
def hAns (n p x u m : Int) : Int := if x = u ∧ farL n p m < farL n p u then m else x
theorem hf_pb {n p x : Int} {b c : V} : putF "before" c (hf n p x b) = hf n p x c := by
  unfold hf
  walk_at "pf"
theorem hf_pn {n p x y : Int} {b : V} : putF "next_house" (.int y) (hf n p x b) = hf n p y b := by
  unfold hf
  walk_at "pf"
def sp_House__hear_tell (C : Addr) : Sp := fun vs H Q _ => ∃ (h : Addr) (n p x u : Int) (b : V), vs = [.ref h, .int u] ∧ HouseAt C H h n p x b ∧ okB b ∧ 0 < n ∧ ∀ H', HouseAt C H' h n p x (hTell n p u b) → Kp h H H' → Q .non H'
theorem T0.ok_House__hear_tell (T : T0 K mg) : FnOk P w K mg base CX0 3 T.a_House__hear_tell T.fd_House__hear_tell ["self", "sender"] (sp_House__hear_tell T.C_House) := by
  refine T.F_House__hear_tell.ok sc_House__hear_tell (fun vs H Q E h => ?_) (fun cdv A outer s H vs Q E hr h => ?_)
  · obtain ⟨h, n, p, x, u, b, rfl, _⟩ := h
    rfl
  · obtain ⟨h, n, p, x, u, b, rfl, ⟨dx, hh⟩, ob, hn, q⟩ := h
    refine ⟨_, (pss_one (ps_if (PW.pt (pw_or (pt_cmpR op_isN (show PE _ _ (tFld K _ _) from pe_fld (pv 0) rfl) pe_non (nomark _)) (pw_or1 (pt_val (pe_call T.ok_between hr (by rfl) T.g_between T.k_between T.b_between .nil pass0 (pa_cons (show PE _ _ (tFld K _ _) from pe_fld (pv 0) rfl) (pa_cons (show PE _ _ (tFld K _ _) from pe_fld (pv 0) rfl) (pa_cons (pv 1) (pa_cons (show PE _ _ (tFld K _ _) from pe_fld (pv 0) rfl) pa_nil))))))))) (pss_one (ps_fld (pv 0) (pv 1) rfl)) pss_nil)), ?_⟩
    have set : ∀ Q' : L2.St → Hp → Prop, (∀ H', HouseAt T.C_House H' h n p x (.int u) → Kp h H H' → Q' [some (.ref h), some (.int u)] H') → sFld K (tVar 0) (tVar 1) "before" { nx := Q', rt := Q } [some (.ref h), some (.int u)] H := fun Q' k =>
      ⟨_, rfl, _, rfl, h, _, dx, _, rfl, hh, T.cl_House, T.na_House_before, (by show 4 < 1000; decide), k _ ⟨dx, by rw [upd_same, hf_pb]⟩ .put⟩
    refine ⟨_, rfl, h, _, dx, _, _, rfl, hh, T.cl_House, T.na_House_before, hf_before, rfl, _, rfl, ite2 (fun e => ?_) (fun e => ?_)⟩
    · have e := of_decide_eq_true e
      subst e
      exact iteT (set _ fun H' h1 h2 => q H' h1 h2)
    · rcases ob with rfl | ⟨z, rfl⟩
      · exact absurd (decide_eq_true rfl) e
      · refine ⟨_, rfl, h, _, dx, _, _, rfl, hh, T.cl_House, T.na_House_size, hf_size, _, rfl, h, _, dx, _, _, rfl, hh, T.cl_House, T.na_House_before, hf_before, ?_⟩
        refine ⟨_, rfl, _, rfl, h, _, dx, _, _, rfl, hh, T.cl_House, T.na_House_place, hf_place, n, z, u, p, rfl, hn, _, rfl, ite2 (fun f => ?_) (fun f => ?_)⟩
        · refine set _ fun H' h1 h2 => q H' ?_ h2
          have f := of_decide_eq_true f
          rw [show hTell n p u (.int z) = .int u from if_pos f]
          exact h1
        · have f : ¬ (farL n z u < farL n z p) := fun g => f (decide_eq_true g)
          refine q H ?_ (.refl _ _)
          rw [show hTell n p u (.int z) = .int z from if_neg f]
          exact ⟨dx, hh⟩
def sp_House__hear_answer (C : Addr) : Sp := fun vs H Q _ => ∃ (h : Addr) (n p x u m : Int) (b : V), vs = [.ref h, .int u, .int m] ∧ HouseAt C H h n p x b ∧ 0 < n ∧ ∀ H', HouseAt C H' h n p (hAns n p x u m) b → Kp h H H' → Q .non H'
theorem T0.ok_House__hear_answer (T : T0 K mg) : FnOk P w K mg base CX0 3 T.a_House__hear_answer T.fd_House__hear_answer ["self", "sender", "named"] (sp_House__hear_answer T.C_House) := by
  refine T.F_House__hear_answer.ok sc_House__hear_answer (fun vs H Q E h => ?_) (fun cdv A outer s H vs Q E hr h => ?_)
  · obtain ⟨h, n, p, x, u, m, b, rfl, _⟩ := h
    rfl
  · obtain ⟨h, n, p, x, u, m, b, rfl, ⟨dx, hh⟩, hn, q⟩ := h
    refine ⟨_, (pss_one (ps_if (PW.pt (pw_and (pt_cmpR op_eq (show PE _ _ (tFld K _ _) from pe_fld (pv 0) rfl) (pv 1) (nomark _)) (pw_and1 (pt_val (pe_call T.ok_between hr (by rfl) T.g_between T.k_between T.b_between .nil pass0 (pa_cons (show PE _ _ (tFld K _ _) from pe_fld (pv 0) rfl) (pa_cons (show PE _ _ (tFld K _ _) from pe_fld (pv 0) rfl) (pa_cons (pv 2) (pa_cons (pv 1) pa_nil))))))))) (pss_one (ps_fld (pv 0) (pv 2) rfl)) pss_nil)), ?_⟩
    refine ⟨_, rfl, h, _, dx, _, _, rfl, hh, T.cl_House, T.na_House_next_house, hf_next, _, rfl, rfl, _, rfl, ite2 (fun e => ?_) (fun e => ?_)⟩
    · have e := V.int.inj (of_decide_eq_true e)
      refine ⟨_, rfl, h, _, dx, _, _, rfl, hh, T.cl_House, T.na_House_size, hf_size, _, rfl, h, _, dx, _, _, rfl, hh, T.cl_House, T.na_House_place, hf_place, ?_⟩
      refine ⟨_, rfl, _, rfl, n, p, m, u, rfl, hn, _, rfl, ite2 (fun f => ?_) (fun f => ?_)⟩
      · have f := of_decide_eq_true f
        have g : hAns n p x u m = m := if_pos ⟨e, f⟩
        rw [g] at q
        exact ⟨_, rfl, _, rfl, h, _, dx, _, rfl, hh, T.cl_House, T.na_House_next_house, (by show 4 < 1000; decide), q _ ⟨dx, by rw [upd_same, hf_pn]⟩ .put⟩
      · have f : ¬ (farL n p m < farL n p u) := fun g => f (decide_eq_true g)
        have g : hAns n p x u m = x := if_neg (fun z => f z.2)
        rw [g] at q
        exact q H ⟨dx, hh⟩ (.refl _ _)
    · have e : ¬ x = u := fun g => e (decide_eq_true (congrArg V.int g))
      have g : hAns n p x u m = x := if_neg (fun z => e z.1)
      rw [g] at q
      exact q H ⟨dx, hh⟩ (.refl _ _)
/-- a letter as a row of values -/
inductive Let where
  | tell (r u : Int) | ask (r u : Int) | answer (r u m : Int)
def Let.vals : Let → List V
  | .tell r u => [.str "tell", .int r, .int u]
  | .ask r u => [.str "ask", .int r, .int u]
  | .answer r u m => [.str "answer", .int r, .int u, .int m]
/-- the before, the next behind the letter, and the answer -/
def hB (n p : Int) (b : V) : Let → V
  | .tell _ u => hTell n p u b
  | _ => b
def hN (n p x : Int) : Let → Int
  | .answer _ u m => hAns n p x u m
  | _ => x
def hA (p : Int) (b : V) : Let → Option (List V)
  | .ask _ u => match b with
    | .int z => some [.str "answer", .int u, .int p, .int z]
    | _ => none
  | _ => none
def sp_House__hear (K : PySem.W.Frag) (C : Addr) : Sp := fun vs H Q _ => ∃ (h l : Addr) (n p x : Int) (b : V) (L : Let), vs = [.ref h, .ref l] ∧ HouseAt C H h n p x b ∧ okB b ∧ 0 < n ∧ SqT K H l L.vals ∧
  ∀ v H', HouseAt C H' h n p (hN n p x L) (hB n p b L) → Kp h H H' → (match hA p b L with | none => v = .non | some ys => ∃ a, v = .ref a ∧ H' a = some (.tup ys)) → Q v H'
theorem T0.ok_House__hear (T : T0 K mg) : FnOk P w K mg base CX0 4 T.a_House__hear T.fd_House__hear ["self", "letter"] (sp_House__hear K T.C_House) := by
  refine T.F_House__hear.ok sc_House__hear (fun vs H Q E h => ?_) (fun cdv A outer s H vs Q E hr h => ?_)
  · obtain ⟨h, l, n, p, x, b, L, rfl, _⟩ := h
    rfl
  · obtain ⟨h, l, n, p, x, b, L, rfl, hh, ob, hn, hl, q⟩ := h
    refine ⟨_, (pss_cons (ps_set (i := 2) sc_House__hear.nd rfl (Or.inl rfl) (pe_ix (ix_tupK (K := K)) (pv 1) pe_int (fun _ _ => rfl)))
        (pss_cons (ps_set (i := 3) sc_House__hear.nd rfl (Or.inl rfl) (pe_ix (ix_tupK (K := K)) (pv 1) pe_int (fun _ _ => rfl)))
        (pss_cons (ps_if (pt_cmpR op_eq (pv 2) pe_str (nomark _)) (pss_one (ps_ret (pe_meth (pv 0) T.cl_House T.me_House__answer_to T.ok_House__answer_to (hr.mono (by decide)) T.b_House__answer_to .nil pass0 (pa_cons (pv 3) pa_nil)))) pss_nil)
        (pss_cons (ps_if (pt_cmpR op_eq (pv 2) pe_str (nomark _)) (pss_one (ps_expr (pe_meth (pv 0) T.cl_House T.me_House__hear_tell T.ok_House__hear_tell hr T.b_House__hear_tell .nil pass0 (pa_cons (pv 3) pa_nil)))) (pss_one (ps_expr (pe_meth (pv 0) T.cl_House T.me_House__hear_answer T.ok_House__hear_answer hr T.b_House__hear_answer .nil pass0 (pa_cons (pv 3) (pa_cons (pe_ix (ix_tupK (K := K)) (pv 1) pe_int (fun _ _ => rfl)) pa_nil))))))
        (pss_one (ps_ret pe_non)))))), ?_⟩
    cases L with
    | tell r u =>
      refine ⟨_, rfl, l, _, 0, .str "tell", rfl, rfl, hl, rfl, _, rfl, l, _, 2, .int u, rfl, rfl, hl, rfl, ?_⟩
      refine ⟨_, rfl, rfl, _, rfl, ?_⟩
      rw [show decide (V.str "tell" = V.str "ask") = false by decide +kernel]
      refine iteF ⟨_, rfl, rfl, _, rfl, ?_⟩
      rw [show decide (V.str "tell" = V.str "tell") = true by decide +kernel]
      obtain ⟨dx, hh'⟩ := hh
      refine iteT ⟨_, rfl, h, dx, _, rfl, hh', ?_, _, rfl, h, n, p, x, u, b, rfl, ⟨dx, hh'⟩, ob, hn, fun H' h1 h2 => ?_⟩
      · unfold hf; walk_at "lk"
      · exact q .non H' h1 h2 rfl
    | ask r u =>
      refine ⟨_, rfl, l, _, 0, .str "ask", rfl, rfl, hl, rfl, _, rfl, l, _, 2, .int u, rfl, rfl, hl, rfl, ?_⟩
      refine ⟨_, rfl, rfl, _, rfl, ?_⟩
      rw [show decide (V.str "ask" = V.str "ask") = true by decide +kernel]
      obtain ⟨dx, hh'⟩ := hh
      refine iteT ⟨_, rfl, h, dx, _, rfl, hh', ?_, _, rfl, h, n, p, x, u, b, rfl, ⟨dx, hh'⟩, fun e => ?_, fun z e l' nl => ?_, ob⟩
      · unfold hf; walk_at "lk"
      · subst e
        exact q .non H ⟨dx, hh'⟩ (.refl _ _) rfl
      · subst e
        refine q (.ref l') _ ⟨dx, ?_⟩ (Kp.of_same (same_upd nl)) ⟨l', rfl, upd_same⟩
        rw [upd_ne (ne_of_none hh' nl)]
        exact hh'
    | answer r u m =>
      refine ⟨_, rfl, l, _, 0, .str "answer", rfl, rfl, hl, rfl, _, rfl, l, _, 2, .int u, rfl, rfl, hl, rfl, ?_⟩
      refine ⟨_, rfl, rfl, _, rfl, ?_⟩
      rw [show decide (V.str "answer" = V.str "ask") = false by decide +kernel]
      refine iteF ⟨_, rfl, rfl, _, rfl, ?_⟩
      rw [show decide (V.str "answer" = V.str "tell") = false by decide +kernel]
      obtain ⟨dx, hh'⟩ := hh
      refine iteF ⟨_, rfl, h, dx, _, rfl, hh', ?_, _, rfl, _, rfl, l, _, 3, .int m, rfl, rfl, hl, rfl, h, n, p, x, u, m, b, rfl, ⟨dx, hh'⟩, hn, fun H' h1 h2 => ?_⟩
      · unfold hf; walk_at "lk"
      · exact q .non H' h1 h2 rfl
--CUT
--CUT
/-! ### a net -/
def nf (n : Int) (dn db dl : Addr) : List (Str × V) := [("size", .int n), ("_nexts", .ref dn), ("_befores", .ref db), ("_letters", .ref dl)]
theorem nf_size {n : Int} {dn db dl : Addr} : (nf n dn db dl).lookup ("size" : Str) = some (.int n) := by unfold nf; walk_at "lk"
theorem nf_nexts {n : Int} {dn db dl : Addr} : (nf n dn db dl).lookup ("_nexts" : Str) = some (.ref dn) := by unfold nf; walk_at "lk"
theorem nf_befores {n : Int} {dn db dl : Addr} : (nf n dn db dl).lookup ("_befores" : Str) = some (.ref db) := by unfold nf; walk_at "lk"
theorem nf_letters {n : Int} {dn db dl : Addr} : (nf n dn db dl).lookup ("_letters" : Str) = some (.ref dl) := by unfold nf; walk_at "lk"
/-- the net at a; ks its houses in the order in which they came -/
structure NetAt (C : Addr) (H : Hp) (a : Addr) (n : Int) (dn db dl : Addr) (nx bf : List (Key × V)) (ls : List V) : Prop where
  me : ∃ dx, H a = some (.ins C dx (nf n dn db dl))
  hn : H dn = some (.dK nx)
  hb : H db = some (.dK bf)
  hl : H dl = some (.lst ls)
theorem none_back {H H1 : Hp} {p : Addr} (s : Same H H1) (h : H1 p = none) : H p = none := by
  cases e : H p with
  | none => rfl
  | some o => rw [s _ _ e] at h; cases h
theorem NetAt.same {C a dn db dl : Addr} {H H' : Hp} {n : Int} {nx bf : List (Key × V)} {ls : List V} (N : NetAt C H a n dn db dl nx bf ls) (s : Same H H') : NetAt C H' a n dn db dl nx bf ls :=
  ⟨let ⟨dx, e⟩ := N.me; ⟨dx, s _ _ e⟩, s _ _ N.hn, s _ _ N.hb, s _ _ N.hl⟩
def sp_Net__houses (C : Addr) : Sp := fun vs H Q _ => ∃ (h dn db dl : Addr) (n : Int) (nx bf : List (Key × V)) (ls : List V) (ks : List Int), vs = [.ref h] ∧ NetAt C H h n dn db dl nx bf ls ∧ nx.map (·.1) = ks.map Sum.inl ∧ ks.length < 64 ∧
  ∀ (ys : List Int) (p : Addr), ys.Perm ks → ys.Pairwise (· ≤ ·) → H p = none → Q (.ref p) (upd H p (.lst (ys.map V.int)))
theorem T0.ok_Net__houses (T : T0 K mg) : FnOk P w K mg base CX0 1 T.a_Net__houses T.fd_Net__houses ["self"] (sp_Net__houses T.C_Net) := by
  refine T.F_Net__houses.ok sc_Net__houses (fun vs H Q E h => ?_) (fun cdv A outer s H vs Q E hr h => ?_)
  · obtain ⟨h, dn, db, dl, n, nx, bf, ls, ks, rfl, _⟩ := h
    rfl
  · obtain ⟨h, dn, db, dl, n, nx, bf, ls, ks, rfl, hN, hk, h64, q⟩ := h
    obtain ⟨dx, hh⟩ := hN.me
    refine ⟨_, (pss_one (ps_ret (pe_callB (call_sortedDI rfl) (by rfl) T.m_sorted (by decide +kernel) (pa_cons (show PE _ _ (tFld K _ _) from pe_fld (pv 0) rfl) pa_nil)))), ?_⟩
    exact ⟨_, rfl, h, _, dx, _, _, rfl, hh, T.cl_Net, T.na_Net__nexts, nf_nexts, dn, nx, ks, rfl, .inl hN.hn, hk, h64, q⟩
def sp_Net__check_house (C : Addr) : Sp := fun vs H Q _ => ∃ (h dn db dl : Addr) (n p : Int) (nx bf : List (Key × V)) (ls : List V), vs = [.ref h, .int p] ∧ NetAt C H h n dn db dl nx bf ls ∧ (valV nx (.inl p)).isSome = true ∧ Q .non H
theorem T0.ok_Net__check_house (T : T0 K mg) : FnOk P w K mg base CX0 1 T.a_Net__check_house T.fd_Net__check_house ["self", "place"] (sp_Net__check_house T.C_Net) := by
  refine T.F_Net__check_house.ok sc_Net__check_house (fun vs H Q E h => ?_) (fun cdv A outer s H vs Q E hr h => ?_)
  · obtain ⟨h, dn, db, dl, n, p, nx, bf, ls, rfl, _⟩ := h
    rfl
  · obtain ⟨h, dn, db, dl, n, p, nx, bf, ls, rfl, hN, hk, q⟩ := h
    obtain ⟨dx, hh⟩ := hN.me
    refine ⟨_, (pss_one (ps_if (pt_cmp (pc_dnotin (un1 hr) (pv 1) (show PE _ _ (tFld K _ _) from pe_fld (pv 0) rfl))) (pss_one (ps_never)) pss_nil)), ?_⟩
    refine ⟨_, rfl, _, rfl, h, _, dx, _, _, rfl, hh, T.cl_Net, T.na_Net__nexts, nf_nexts, dn, _, rfl, DGet.k (k := Sum.inl p) hN.hn, _, rfl, ?_⟩
    rw [hk]
    exact iteF q
def sp_check_on_circle : Sp := fun vs H Q _ => ∃ (n p : Int), vs = [.int n, .int p] ∧ 0 ≤ p ∧ p < n ∧ Q .non H
theorem T0.ok_check_on_circle (T : T0 K mg) : FnOk P w K mg base CX0 1 T.a_check_on_circle T.fd_check_on_circle ["size", "place"] sp_check_on_circle := by
  refine T.F_check_on_circle.ok sc_check_on_circle (fun vs H Q E h => ?_) (fun cdv A outer s H vs Q E hr h => ?_)
  · obtain ⟨n, p, rfl, _⟩ := h
    rfl
  · obtain ⟨n, p, rfl, p0, p1, q⟩ := h
    refine ⟨_, (pss_one (ps_if (PW.pt (pw_or (pt_cmpR op_lt (pv 1) pe_int (nomark _)) (pw_or1 (pt_cmpR op_ge (pv 1) (pv 0) (nomark _))))) (pss_one (ps_never)) pss_nil)), ?_⟩
    refine ⟨_, rfl, _, _, rfl, rfl, _, rfl, ite2 (fun e => absurd (of_decide_eq_true e) (by omega)) (fun _ => ?_)⟩
    refine ⟨_, rfl, _, rfl, _, _, rfl, rfl, _, rfl, ite2 (fun e => absurd (of_decide_eq_true e) (by omega)) (fun _ => ?_)⟩
    exact q
def sp_Net__check_letter (C : Addr) : Sp := fun vs H Q _ => ∃ (h dn db dl : Addr) (n p : Int) (nx bf : List (Key × V)) (ls : List V), vs = [.ref h, .int p] ∧ NetAt C H h n dn db dl nx bf ls ∧ 0 ≤ p ∧ p < ls.length ∧ Q .non H
theorem T0.ok_Net__check_letter (T : T0 K mg) : FnOk P w K mg base CX0 1 T.a_Net__check_letter T.fd_Net__check_letter ["self", "at"] (sp_Net__check_letter T.C_Net) := by
  refine T.F_Net__check_letter.ok sc_Net__check_letter (fun vs H Q E h => ?_) (fun cdv A outer s H vs Q E hr h => ?_)
  · obtain ⟨h, dn, db, dl, n, p, nx, bf, ls, rfl, _⟩ := h
    rfl
  · obtain ⟨h, dn, db, dl, n, p, nx, bf, ls, rfl, hN, p0, p1, q⟩ := h
    obtain ⟨dx, hh⟩ := hN.me
    refine ⟨_, (pss_one (ps_if (PW.pt (pw_or (pt_cmpR op_lt (pv 1) pe_int (nomark _)) (pw_or1 (pt_cmpR op_ge (pv 1) (pe_callB (call_lenK (K := K)) (by rfl) T.m_len PySem.boot_len (pa_cons (show PE _ _ (tFld K _ _) from pe_fld (pv 0) rfl) pa_nil)) (nomark _))))) (pss_one (ps_never)) pss_nil)), ?_⟩
    refine ⟨_, rfl, _, _, rfl, rfl, _, rfl, ite2 (fun e => absurd (of_decide_eq_true e) (by omega)) (fun _ => ?_)⟩
    refine ⟨_, rfl, _, rfl, h, _, dx, _, _, rfl, hh, T.cl_Net, T.na_Net__letters, nf_letters, dl, ls, rfl, .inl (SqL.of hN.hl), _, _, rfl, rfl, _, rfl, ite2 (fun e => absurd (of_decide_eq_true e) (by omega)) (fun _ => ?_)⟩
    exact q
theorem dget_of {H : Hp} {a : Addr} {kvs : List (Key × V)} {k : Key} {v : V} (e : H a = some (.dK kvs)) (h : valV kvs k = some v) : DGet H a (kV k) (some v) := h ▸ DGet.k e
def sp_Net__house_at (C D : Addr) : Sp := fun vs H Q _ => ∃ (h dn db dl : Addr) (n p x : Int) (b : V) (nx bf : List (Key × V)) (ls : List V), vs = [.ref h, .int p] ∧ NetAt C H h n dn db dl nx bf ls ∧ valV nx (.inl p) = some (.int x) ∧ valV bf (.inl p) = some b ∧
  ∀ H' r, Same H H' → H r = none → HouseAt D H' r n p x b → Q (.ref r) H'
theorem T0.ok_Net__house_at (T : T0 K mg) : FnOk P w K mg base CX0 3 T.a_Net__house_at T.fd_Net__house_at ["self", "place"] (sp_Net__house_at T.C_Net T.C_House) := by
  refine T.F_Net__house_at.ok sc_Net__house_at (fun vs H Q E h => ?_) (fun cdv A outer s H vs Q E hr h => ?_)
  · obtain ⟨h, dn, db, dl, n, p, x, b, nx, bf, ls, rfl, _⟩ := h
    rfl
  · obtain ⟨h, dn, db, dl, n, p, x, b, nx, bf, ls, rfl, hN, hx, hb, q⟩ := h
    obtain ⟨dx, hh⟩ := hN.me
    refine ⟨_, (pss_one (ps_ret (pe_make T.mk_House T.ok_House__init hr (by rfl) T.mc_House T.b_House__init .nil pass0 (pa_cons (show PE _ _ (tFld K _ _) from pe_fld (pv 0) rfl) (pa_cons (pv 1) (pa_cons (pe_dget (un1 hr) (show PE _ _ (tFld K _ _) from pe_fld (pv 0) rfl) (pv 1) (fun _ _ => rfl)) (pa_cons (pe_dget (un1 hr) (show PE _ _ (tFld K _ _) from pe_fld (pv 0) rfl) (pv 1) (fun _ _ => rfl)) pa_nil))))))), ?_⟩
    refine ⟨_, rfl, h, _, dx, _, _, rfl, hh, T.cl_Net, T.na_Net_size, nf_size, _, rfl, ?_⟩
    refine ⟨_, rfl, h, _, dx, _, _, rfl, hh, T.cl_Net, T.na_Net__nexts, nf_nexts, _, rfl, dn, _, rfl, dget_of hN.hn hx, ?_⟩
    refine ⟨_, rfl, h, _, dx, _, _, rfl, hh, T.cl_Net, T.na_Net__befores, nf_befores, _, rfl, db, _, rfl, dget_of hN.hb hb, ?_⟩
    refine fun r dx' nr ndx ne => ⟨r, dx', n, p, x, b, rfl, upd_same, fun H' hA k => ⟨rfl, q H' r (fun c o e => ?_) nr hA⟩⟩
    refine k c o (ne_of_none e nr) ?_
    rw [upd_ne (ne_of_none e nr), upd_ne (ne_of_none e ndx)]
    exact e
def sp_Net__send (C : Addr) : Sp := fun vs H Q _ => ∃ (h dn db dl : Addr) (n : Int) (nx bf : List (Key × V)) (ls : List V) (v : V), vs = [.ref h, v] ∧ NetAt C H h n dn db dl nx bf ls ∧ ls.length ≤ 100000 ∧ Q v (upd H dl (.lst (ls ++ [v])))
theorem T0.ok_Net__send (T : T0 K mg) : FnOk P w K mg base CX0 1 T.a_Net__send T.fd_Net__send ["self", "letter"] (sp_Net__send T.C_Net) := by
  refine T.F_Net__send.ok sc_Net__send (fun vs H Q E h => ?_) (fun cdv A outer s H vs Q E hr h => ?_)
  · obtain ⟨h, dn, db, dl, n, nx, bf, ls, v, rfl, _⟩ := h
    rfl
  · obtain ⟨h, dn, db, dl, n, nx, bf, ls, v, rfl, hN, hz, q⟩ := h
    obtain ⟨dx, hh⟩ := hN.me
    refine ⟨_, (pss_cons (ps_expr (pe_bm PySem.F.plainAttrs_list PySem.F.slot_list_append PySem.F.type_list_append mt_append (show PE _ _ (tFld K _ _) from pe_fld (pv 0) rfl) (pa_cons (pv 1) pa_nil)))
        (pss_one (ps_ret (pv 1)))), ?_⟩
    refine ⟨_, rfl, h, _, dx, _, _, rfl, hh, T.cl_Net, T.na_Net__letters, nf_letters, ?_⟩
    exact ⟨.inl ⟨rfl, _, SqL.of hN.hl⟩, _, rfl, dl, ls, v, rfl, rfl, hN.hl, small1000' hz, _, rfl, q⟩
def sp_Net__letters (C : Addr) : Sp := fun vs H Q _ => ∃ (h dn db dl : Addr) (n : Int) (nx bf : List (Key × V)) (ls : List V), vs = [.ref h] ∧ NetAt C H h n dn db dl nx bf ls ∧ ∀ p, H p = none → Q (.ref p) (upd H p (.lst ls))
theorem T0.ok_Net__letters (T : T0 K mg) : FnOk P w K mg base CX0 1 T.a_Net__letters T.fd_Net__letters ["self"] (sp_Net__letters T.C_Net) := by
  refine T.F_Net__letters.ok sc_Net__letters (fun vs H Q E h => ?_) (fun cdv A outer s H vs Q E hr h => ?_)
  · obtain ⟨h, dn, db, dl, n, nx, bf, ls, rfl, _⟩ := h
    rfl
  · obtain ⟨h, dn, db, dl, n, nx, bf, ls, rfl, hN, q⟩ := h
    obtain ⟨dx, hh⟩ := hN.me
    refine ⟨_, (pss_one (ps_ret (pe_callTy (call_list_ofK (K := K)) (by rfl) T.m_list (by decide +kernel) (pa_cons (show PE _ _ (tFld K _ _) from pe_fld (pv 0) rfl) pa_nil)))), ?_⟩
    exact ⟨_, rfl, h, _, dx, _, _, rfl, hh, T.cl_Net, T.na_Net__letters, nf_letters, dl, ls, rfl, .inl (SqL.of hN.hl), q⟩
def sp_Net__say (C : Addr) (z : Str) : Sp := fun vs H Q _ => ∃ (h dn db dl : Addr) (n p x : Int) (b : V) (nx bf : List (Key × V)) (ls : List V), vs = [.ref h, .int p] ∧ NetAt C H h n dn db dl nx bf ls ∧ valV nx (.inl p) = some (.int x) ∧ valV bf (.inl p) = some b ∧ ls.length ≤ 1000 ∧
  ∀ H' l, Same H H' → H l = none → H' l = some (.tup [.str z, .int x, .int p]) → Q (.ref l) (upd H' dl (.lst (ls ++ [.ref l])))
theorem T0.ok_Net__tell (T : T0 K mg) : FnOk P w K mg base CX0 4 T.a_Net__tell T.fd_Net__tell ["self", "house"] (sp_Net__say T.C_Net "tell") := by
  refine T.F_Net__tell.ok sc_Net__tell (fun vs H Q E h => ?_) (fun cdv A outer s H vs Q E hr h => ?_)
  · obtain ⟨h, dn, db, dl, n, p, x, b, nx, bf, ls, rfl, _⟩ := h
    rfl
  · obtain ⟨h, dn, db, dl, n, p, x, b, nx, bf, ls, rfl, hN, hx, hb, hz, q⟩ := h
    obtain ⟨dx, hh⟩ := hN.me
    refine ⟨_, (pss_cons (ps_expr (pe_meth (pv 0) T.cl_Net T.me_Net__check_house T.ok_Net__check_house (hr.mono (by decide)) T.b_Net__check_house .nil pass0 (pa_cons (pv 1) pa_nil)))
        (pss_one (ps_ret (pe_meth (pv 0) T.cl_Net T.me_Net__send T.ok_Net__send (hr.mono (by decide)) T.b_Net__send .nil pass0 (pa_cons (pe_meth0 (pe_meth (pv 0) T.cl_Net T.me_Net__house_at T.ok_Net__house_at hr T.b_Net__house_at .nil pass0 (pa_cons (pv 1) pa_nil)) T.cl_House T.me_House__tell_letter T.ok_House__tell_letter (hr.mono (by decide)) T.b_House__tell_letter .nil pass0) pa_nil))))), ?_⟩
    refine ⟨_, rfl, h, dx, _, rfl, hh, (by unfold nf; walk_at "lk"), _, rfl, h, dn, db, dl, n, p, nx, bf, ls, rfl, hN, (by rw [hx]; rfl), ?_⟩
    refine ⟨_, rfl, h, dx, _, rfl, hh, (by unfold nf; walk_at "lk"), _, rfl, h, dx, _, rfl, hh, (by unfold nf; walk_at "lk"), _, rfl, h, dn, db, dl, n, p, x, b, nx, bf, ls, rfl, hN, hx, hb, fun H1 r sm nr hA => ?_⟩
    obtain ⟨d2, hA2⟩ := id hA
    refine ⟨r, d2, _, rfl, hA2, (by unfold hf; walk_at "lk"), r, n, p, x, b, rfl, hA, fun l nl => ?_⟩
    refine ⟨h, dn, db, dl, n, nx, bf, ls, .ref l, rfl, (hN.same sm).same (same_upd nl), by omega, q _ l (Same.trans sm (same_upd nl)) ?_ upd_same⟩
    cases e : H l with
    | none => rfl
    | some o => rw [sm _ _ e] at nl; cases nl
theorem T0.ok_Net__ask (T : T0 K mg) : FnOk P w K mg base CX0 4 T.a_Net__ask T.fd_Net__ask ["self", "house"] (sp_Net__say T.C_Net "ask") := by
  refine T.F_Net__ask.ok sc_Net__ask (fun vs H Q E h => ?_) (fun cdv A outer s H vs Q E hr h => ?_)
  · obtain ⟨h, dn, db, dl, n, p, x, b, nx, bf, ls, rfl, _⟩ := h
    rfl
  · obtain ⟨h, dn, db, dl, n, p, x, b, nx, bf, ls, rfl, hN, hx, hb, hz, q⟩ := h
    obtain ⟨dx, hh⟩ := hN.me
    refine ⟨_, (pss_cons (ps_expr (pe_meth (pv 0) T.cl_Net T.me_Net__check_house T.ok_Net__check_house (hr.mono (by decide)) T.b_Net__check_house .nil pass0 (pa_cons (pv 1) pa_nil)))
        (pss_one (ps_ret (pe_meth (pv 0) T.cl_Net T.me_Net__send T.ok_Net__send (hr.mono (by decide)) T.b_Net__send .nil pass0 (pa_cons (pe_meth0 (pe_meth (pv 0) T.cl_Net T.me_Net__house_at T.ok_Net__house_at hr T.b_Net__house_at .nil pass0 (pa_cons (pv 1) pa_nil)) T.cl_House T.me_House__ask_letter T.ok_House__ask_letter (hr.mono (by decide)) T.b_House__ask_letter .nil pass0) pa_nil))))), ?_⟩
    refine ⟨_, rfl, h, dx, _, rfl, hh, (by unfold nf; walk_at "lk"), _, rfl, h, dn, db, dl, n, p, nx, bf, ls, rfl, hN, (by rw [hx]; rfl), ?_⟩
    refine ⟨_, rfl, h, dx, _, rfl, hh, (by unfold nf; walk_at "lk"), _, rfl, h, dx, _, rfl, hh, (by unfold nf; walk_at "lk"), _, rfl, h, dn, db, dl, n, p, x, b, nx, bf, ls, rfl, hN, hx, hb, fun H1 r sm nr hA => ?_⟩
    obtain ⟨d2, hA2⟩ := id hA
    refine ⟨r, d2, _, rfl, hA2, (by unfold hf; walk_at "lk"), r, n, p, x, b, rfl, hA, fun l nl => ?_⟩
    refine ⟨h, dn, db, dl, n, nx, bf, ls, .ref l, rfl, (hN.same sm).same (same_upd nl), by omega, q _ l (Same.trans sm (same_upd nl)) ?_ upd_same⟩
    cases e : H l with
    | none => rfl
    | some o => rw [sm _ _ e] at nl; cases nl
def sp_Net__lose (C : Addr) : Sp := fun vs H Q _ => ∃ (h dn db dl : Addr) (n : Int) (k : Nat) (v : V) (nx bf : List (Key × V)) (ls : List V), vs = [.ref h, .int k] ∧ NetAt C H h n dn db dl nx bf ls ∧ ls[k]? = some v ∧ ls.length ≤ 1000 ∧ Q v (upd H dl (.lst (ls.eraseIdx k)))
theorem T0.ok_Net__lose (T : T0 K mg) : FnOk P w K mg base CX0 2 T.a_Net__lose T.fd_Net__lose ["self", "at"] (sp_Net__lose T.C_Net) := by
  refine T.F_Net__lose.ok sc_Net__lose (fun vs H Q E h => ?_) (fun cdv A outer s H vs Q E hr h => ?_)
  · obtain ⟨h, dn, db, dl, n, k, v, nx, bf, ls, rfl, _⟩ := h
    rfl
  · obtain ⟨h, dn, db, dl, n, k, v, nx, bf, ls, rfl, hN, hv, hz, q⟩ := h
    obtain ⟨dx, hh⟩ := hN.me
    have hk := (List.getElem?_eq_some_iff.mp hv).1
    refine ⟨_, (pss_cons (ps_expr (pe_meth (pv 0) T.cl_Net T.me_Net__check_letter T.ok_Net__check_letter hr T.b_Net__check_letter .nil pass0 (pa_cons (pv 1) pa_nil)))
        (pss_one (ps_ret (pe_bm PySem.F.plainAttrs_list PySem.F.slot_list_pop PySem.F.type_list_pop mt_popAt (show PE _ _ (tFld K _ _) from pe_fld (pv 0) rfl) (pa_cons (pv 1) pa_nil))))), ?_⟩
    refine ⟨_, rfl, h, dx, _, rfl, hh, (by unfold nf; walk_at "lk"), _, rfl, h, dn, db, dl, n, k, nx, bf, ls, rfl, hN, by omega, by omega, ?_⟩
    refine ⟨_, rfl, h, _, dx, _, _, rfl, hh, T.cl_Net, T.na_Net__letters, nf_letters, .inl ⟨rfl, _, SqL.of hN.hl⟩, _, rfl, dl, ls, k, k, v, rfl, rfl, hN.hl, by omega, by omega, seq_nat hk, hv, q⟩
def sp_Net__repeat (C : Addr) : Sp := fun vs H Q _ => ∃ (h dn db dl : Addr) (n : Int) (k : Nat) (v : V) (nx bf : List (Key × V)) (ls : List V), vs = [.ref h, .int k] ∧ NetAt C H h n dn db dl nx bf ls ∧ ls[k]? = some v ∧ ls.length ≤ 1000 ∧ Q v (upd H dl (.lst (ls ++ [v])))
theorem T0.ok_Net__repeat (T : T0 K mg) : FnOk P w K mg base CX0 2 T.a_Net__repeat T.fd_Net__repeat ["self", "at"] (sp_Net__repeat T.C_Net) := by
  refine T.F_Net__repeat.ok sc_Net__repeat (fun vs H Q E h => ?_) (fun cdv A outer s H vs Q E hr h => ?_)
  · obtain ⟨h, dn, db, dl, n, k, v, nx, bf, ls, rfl, _⟩ := h
    rfl
  · obtain ⟨h, dn, db, dl, n, k, v, nx, bf, ls, rfl, hN, hv, hz, q⟩ := h
    obtain ⟨dx, hh⟩ := hN.me
    have hk := (List.getElem?_eq_some_iff.mp hv).1
    refine ⟨_, (pss_cons (ps_expr (pe_meth (pv 0) T.cl_Net T.me_Net__check_letter T.ok_Net__check_letter hr T.b_Net__check_letter .nil pass0 (pa_cons (pv 1) pa_nil)))
        (pss_one (ps_ret (pe_meth (pv 0) T.cl_Net T.me_Net__send T.ok_Net__send hr T.b_Net__send .nil pass0 (pa_cons (pe_ix (ix_listK (K := K)) (show PE _ _ (tFld K _ _) from pe_fld (pv 0) rfl) (pv 1) (fun _ _ => rfl)) pa_nil))))), ?_⟩
    refine ⟨_, rfl, h, dx, _, rfl, hh, (by unfold nf; walk_at "lk"), _, rfl, h, dn, db, dl, n, k, nx, bf, ls, rfl, hN, by omega, by omega, ?_⟩
    refine ⟨_, rfl, h, dx, _, rfl, hh, (by unfold nf; walk_at "lk"), _, rfl, h, _, dx, _, _, rfl, hh, T.cl_Net, T.na_Net__letters, nf_letters, _, rfl, dl, ls, k, v, rfl, rfl, SqL.of hN.hl, atI_nat hv, ?_⟩
    exact ⟨h, dn, db, dl, n, nx, bf, ls, v, rfl, hN, by omega, q⟩
def sp_Net__nexts (C : Addr) : Sp := fun vs H Q _ => ∃ (h dn db dl : Addr) (n : Int) (nx bf : List (Key × V)) (ls : List V) (ks : List Int) (f : Int → V), vs = [.ref h] ∧ NetAt C H h n dn db dl nx bf ls ∧ nx.map (·.1) = ks.map Sum.inl ∧ ks.length < 64 ∧ ks.Nodup ∧ (∀ k ∈ ks, valV nx (.inl k) = some (f k)) ∧
  ∀ (ys : List Int) (p : Addr) (H' : Hp), ys.Perm ks → ys.Pairwise (· ≤ ·) → Same H H' → H p = none → H' p = some (.dK (ys.map fun y => (.inl y, f y))) → Q (.ref p) H'
theorem T0.ok_Net__nexts (T : T0 K mg) : FnOk P w K mg base CX0 2 T.a_Net__nexts T.fd_Net__nexts ["self"] (sp_Net__nexts T.C_Net) := by
  refine T.F_Net__nexts.ok sc_Net__nexts (fun vs H Q E h => ?_) (fun cdv A outer s H vs Q E hr h => ?_)
  · obtain ⟨h, dn, db, dl, n, nx, bf, ls, ks, f, rfl, _⟩ := h
    rfl
  · obtain ⟨h, dn, db, dl, n, nx, bf, ls, ks, f, rfl, hN, hk, h64, hnd, hf, q⟩ := h
    obtain ⟨dx, hh⟩ := hN.me
    refine ⟨_, (pss_one (ps_ret (pe_dc (own := [("house", 1)]) (g := gName 1) (by rfl) sc_Net__nexts.nd (pi_list (pe_meth0 (pv 0) T.cl_Net T.me_Net__houses T.ok_Net__houses hr T.b_Net__houses .nil pass0)) (blkOk_by (own := [("house", 1)]) (N := ["self", "house"]) (sc := defScope s_Net__nexts) (by decide +kernel)) (fun _ _ _ _ _ => pg_name (i := 1) sc_Net__nexts.nd rfl (Or.inl rfl)) (fun _ _ _ _ _ => pts_nil) (fun _ _ _ _ _ => (pv 1)) (fun _ _ _ _ _ => (pe_dget (un1 hr) (show PE _ _ (tFld K _ _) from pe_fld (pv 0) rfl) (pv 1) (fun _ _ => rfl)))))), ?_⟩
    refine ⟨_, rfl, h, dx, _, rfl, hh, (by unfold nf; walk_at "lk"), h, dn, db, dl, n, nx, bf, ls, ks, rfl, hN, hk, h64, fun ys l perm pw nl => ?_⟩
    have hl : upd H l (.lst (ys.map V.int)) l = some (.lst (ys.map V.int)) := upd_same
    have sm := same_upd (o := .lst (ys.map V.int)) nl
    generalize upd H l (.lst (ys.map V.int)) = H1 at hl sm
    have ynd : ys.Nodup := perm.nodup_iff.mpr hnd
    have ylen := perm.length_eq
    refine ⟨l, rfl, ⟨_, SqL.of hl⟩, fun D hD => ?_⟩
    refine dc_list (K := K) (a := l) (xs := ys.map V.int) (fun i H' => Same H1 H' ∧ H' D = some (.dK ((ys.take i).map fun y => (.inl y, f y)))) ⟨same_upd hD, upd_same⟩ (fun i H' _ p => SqL.of (p.1 _ _ hl)) (fun i x H' hx pv => ?_) (fun H2 pv => ?_)
    · obtain ⟨s2, e2⟩ := pv
      rw [List.getElem?_map] at hx
      obtain ⟨y, hy, rfl⟩ := Option.map_eq_some_iff.mp hx
      have hN2 := (hN.same sm).same s2
      obtain ⟨dx, hh⟩ := hN2.me
      refine ⟨rfl, lc_yes ?_⟩
      refine ⟨_, rfl, _, rfl, h, _, dx, _, _, rfl, hh, T.cl_Net, T.na_Net__nexts, nf_nexts, _, rfl, dn, _, rfl, dget_of (k := Sum.inl y) hN2.hn (hf y (perm.mem_iff.mp (List.mem_of_getElem? hy))), _, Sum.inl y, rfl, e2, small1000' (by rw [List.length_map, List.length_take]; omega), fun b o e => ?_, ?_⟩
      · rw [upd_ne (ne_of_none e hD)]
        exact s2 b o e
      · rw [upd_same, putK_new _ (valV_none_of (not_in_take ynd hy)), List.take_add_one, hy, List.map_append]
        rfl
    · obtain ⟨s2, e2⟩ := pv
      rw [List.length_map, List.take_length] at e2
      exact q ys D H2 perm pw (Same.trans sm s2) (none_back sm hD) e2
def sp_Net__befores (C : Addr) : Sp := fun vs H Q _ => ∃ (h dn db dl : Addr) (n : Int) (nx bf : List (Key × V)) (ls : List V) (ks : List Int) (f : Int → V), vs = [.ref h] ∧ NetAt C H h n dn db dl nx bf ls ∧ nx.map (·.1) = ks.map Sum.inl ∧ ks.length < 64 ∧ ks.Nodup ∧ (∀ k ∈ ks, valV bf (.inl k) = some (f k)) ∧
  ∀ (ys : List Int) (p : Addr) (H' : Hp), ys.Perm ks → ys.Pairwise (· ≤ ·) → Same H H' → H p = none → H' p = some (.dK ((ys.filter fun y => decide (f y ≠ .non)).map fun y => (.inl y, f y))) → Q (.ref p) H'
theorem filter_step {f : Int → V} {ys : List Int} {i : Nat} {y : Int} (h : ys[i]? = some y) : (ys.take (i + 1)).filter (fun y => decide (f y ≠ .non)) = if f y = .non then (ys.take i).filter (fun y => decide (f y ≠ .non)) else (ys.take i).filter (fun y => decide (f y ≠ .non)) ++ [y] := by
  rw [List.take_add_one, h, List.filter_append]
  show _ ++ List.filter _ [y] = _
  by_cases e : f y = .non
  · rw [if_pos e]
    simp only [List.filter_cons, List.filter_nil, e, ne_eq, not_true_eq_false, decide_false, Bool.false_eq_true, if_false, List.append_nil]
  · rw [if_neg e]
    simp only [List.filter_cons, List.filter_nil, e, ne_eq, not_false_eq_true, decide_true, if_true]
theorem T0.ok_Net__befores (T : T0 K mg) : FnOk P w K mg base CX0 2 T.a_Net__befores T.fd_Net__befores ["self"] (sp_Net__befores T.C_Net) := by
  refine T.F_Net__befores.ok sc_Net__befores (fun vs H Q E h => ?_) (fun cdv A outer s H vs Q E hr h => ?_)
  · obtain ⟨h, dn, db, dl, n, nx, bf, ls, ks, f, rfl, _⟩ := h
    rfl
  · obtain ⟨h, dn, db, dl, n, nx, bf, ls, ks, f, rfl, hN, hk, h64, hnd, hf, q⟩ := h
    obtain ⟨dx, hh⟩ := hN.me
    refine ⟨_, (pss_cons (ps_set (i := 1) sc_Net__befores.nd rfl (Or.inr rfl) (show PE _ _ (tFld K _ _) from pe_fld (pv 0) rfl))
        (pss_one (ps_ret (pe_dc (own := [("house", 2)]) (g := gName 2) (by rfl) sc_Net__befores.nd (pi_list (pe_meth0 (pv 0) T.cl_Net T.me_Net__houses T.ok_Net__houses hr T.b_Net__houses .nil pass0)) (blkOk_by (own := [("house", 2)]) (N := ["self", "befores", "house"]) (sc := defScope s_Net__befores) (by decide +kernel)) (fun _ _ _ _ _ => pg_name (i := 2) sc_Net__befores.nd rfl (Or.inl rfl)) (fun _ _ _ _ _ => pts_one (pt_cmpR op_notN (pe_dget (un1 hr) (pv 1) (pv 2) (fun _ _ => rfl)) pe_non (nomark _))) (fun _ _ _ _ _ => (pv 2)) (fun _ _ _ _ _ => (pe_dget (un1 hr) (pv 1) (pv 2) (fun _ _ => rfl))))))), ?_⟩
    refine ⟨_, rfl, h, _, dx, _, _, rfl, hh, T.cl_Net, T.na_Net__befores, nf_befores, ?_⟩
    refine ⟨_, rfl, h, dx, _, rfl, hh, (by unfold nf; walk_at "lk"), h, dn, db, dl, n, nx, bf, ls, ks, rfl, hN, hk, h64, fun ys l perm pw nl => ?_⟩
    have hl : upd H l (.lst (ys.map V.int)) l = some (.lst (ys.map V.int)) := upd_same
    have sm := same_upd (o := .lst (ys.map V.int)) nl
    generalize upd H l (.lst (ys.map V.int)) = H1 at hl sm
    have ynd : ys.Nodup := perm.nodup_iff.mpr hnd
    have ylen := perm.length_eq
    refine ⟨l, rfl, ⟨_, SqL.of hl⟩, fun D hD => ?_⟩
    refine dc_list (K := K) (a := l) (xs := ys.map V.int) (fun i H' => Same H1 H' ∧ H' D = some (.dK (((ys.take i).filter fun y => decide (f y ≠ .non)).map fun y => (.inl y, f y)))) ⟨same_upd hD, upd_same⟩ (fun i H' _ p => SqL.of (p.1 _ _ hl)) (fun i x H' hx pv => ?_) (fun H2 pv => ?_)
    · obtain ⟨s2, e2⟩ := pv
      rw [List.getElem?_map] at hx
      obtain ⟨y, hy, rfl⟩ := Option.map_eq_some_iff.mp hx
      have hN2 := (hN.same sm).same s2
      have g := dget_of (k := Sum.inl y) hN2.hb (hf y (perm.mem_iff.mp (List.mem_of_getElem? hy)))
      have fs := filter_step (f := f) hy
      refine ⟨rfl, _, rfl, _, rfl, db, _, rfl, g, ?_⟩
      refine ⟨rfl, _, rfl, ?_⟩
      by_cases e : f y = .non
      · rw [if_pos e] at fs
        refine iteF' (by rw [decide_eq_true e]; rfl) ?_
        rw [fs]
        exact ⟨s2, e2⟩
      · rw [if_neg e] at fs
        refine iteT' (by rw [decide_eq_false e]; rfl) ?_
        have nin : y ∉ (ys.take i).filter fun y => decide (f y ≠ .non) := fun m => not_in_take ynd hy (List.mem_filter.mp m).1
        refine ⟨_, rfl, _, rfl, _, rfl, db, _, rfl, g, _, Sum.inl y, rfl, e2, small1000' ?_, fun b o e => ?_, ?_⟩
        · rw [List.length_map]
          refine Nat.le_trans (List.length_filter_le _ _) ?_
          rw [List.length_take]
          omega
        · rw [upd_ne (ne_of_none e hD)]
          exact s2 b o e
        · rw [upd_same, putK_new _ (valV_none_of nin), fs, List.map_append]
          rfl
    · obtain ⟨s2, e2⟩ := pv
      rw [List.length_map, List.take_length] at e2
      exact q ys D H2 perm pw (Same.trans sm s2) (none_back sm hD) e2
theorem NetAt.setl {C a dn db dl : Addr} {H : Hp} {n : Int} {nx bf : List (Key × V)} {ls ls' : List V} (N : NetAt C H a n dn db dl nx bf ls) : NetAt C (upd H dl (.lst ls')) a n dn db dl nx bf ls' where
  me := let ⟨dx, e⟩ := N.me; ⟨dx, (upd_ne (fun z => by rw [z, N.hl] at e; cases e)).trans e⟩
  hn := (upd_ne (fun z => by have e := N.hn; rw [z, N.hl] at e; cases e)).trans N.hn
  hb := (upd_ne (fun z => by have e := N.hb; rw [z, N.hl] at e; cases e)).trans N.hb
  hl := upd_same
theorem NetAt.setb {C a dn db dl : Addr} {H : Hp} {n : Int} {nx bf bf' : List (Key × V)} {ls : List V} (N : NetAt C H a n dn db dl nx bf ls) (ne : db ≠ dn) : NetAt C (upd H db (.dK bf')) a n dn db dl nx bf' ls where
  me := let ⟨dx, e⟩ := N.me; ⟨dx, (upd_ne (fun z => by rw [z, N.hb] at e; cases e)).trans e⟩
  hn := (upd_ne (Ne.symm ne)).trans N.hn
  hb := upd_same
  hl := (upd_ne (fun z => by have e := N.hl; rw [z, N.hb] at e; cases e)).trans N.hl
theorem NetAt.setn {C a dn db dl : Addr} {H : Hp} {n : Int} {nx nx' bf : List (Key × V)} {ls : List V} (N : NetAt C H a n dn db dl nx bf ls) (ne : db ≠ dn) : NetAt C (upd H dn (.dK nx')) a n dn db dl nx' bf ls where
  me := let ⟨dx, e⟩ := N.me; ⟨dx, (upd_ne (fun z => by rw [z, N.hn] at e; cases e)).trans e⟩
  hn := upd_same
  hb := (upd_ne ne).trans N.hb
  hl := (upd_ne (fun z => by have e := N.hl; rw [z, N.hn] at e; cases e)).trans N.hl
theorem scal_ok {x y : V} (h : okB x) (g : okB y) : scal x y = true := by
  rcases h with rfl | ⟨i, rfl⟩ <;> rcases g with rfl | ⟨j, rfl⟩ <;> rfl
theorem okB_hB {n p : Int} {b : V} {L : Let} (h : okB b) : okB (hB n p b L) := by
  cases L with
  | tell r u =>
    show okB (hTell n p u b)
    unfold hTell
    split <;> first | exact .inr ⟨_, rfl⟩ | assumption | (split <;> first | exact .inr ⟨_, rfl⟩ | assumption)
  | ask r u => exact h
  | answer r u m => exact h
def Let.to : Let → Int
  | .tell r _ => r
  | .ask r _ => r
  | .answer r _ _ => r
theorem Let.at1 (L : Let) : atI L.vals (1 : Int) = some (.int L.to) := by cases L <;> rfl
/-- what reading leaves: the two dicts, the letters, what is returned -/
structure RdPost (C h dn db dl : Addr) (n r x : Int) (b : V) (L : Let) (nx bf : List (Key × V)) (ls : List V) (H H' : Hp) (v : V) : Prop where
  keep : ∀ a o, a ≠ dn → a ≠ db → a ≠ dl → H a = some o → H' a = some o
  net : NetAt C H' h n dn db dl (if hA r b L = none ∧ hB n r b L = b ∧ hN n r x L ≠ x then putK nx (.inl r) (.int (hN n r x L)) else nx) (if hA r b L = none ∧ hB n r b L ≠ b then putK bf (.inl r) (hB n r b L) else bf) ls
  told : ∃ a, v = .ref a ∧ H' a = some (.tup (if hA r b L ≠ none then [.str "wrote", .int r, hB n r b L] else if hB n r b L ≠ b then [.str "before", .int r, hB n r b L] else if hN n r x L ≠ x then [.str "next", .int r, .int (hN n r x L)] else [.str "kept", .int r, .non]))
def sp_Net__read (K : PySem.W.Frag) (C : Addr) : Sp := fun vs H Q _ => ∃ (h dn db dl lt : Addr) (n x : Int) (b : V) (k : Nat) (L : Let) (nx bf : List (Key × V)) (ls : List V), vs = [.ref h, .int k] ∧ NetAt C H h n dn db dl nx bf ls ∧ ls[k]? = some (.ref lt) ∧ H lt = some (.tup L.vals) ∧ valV nx (.inl L.to) = some (.int x) ∧ valV bf (.inl L.to) = some b ∧ okB b ∧ 0 < n ∧ db ≠ dn ∧ nx.length ≤ 1000 ∧ bf.length ≤ 1000 ∧ ls.length ≤ 1000 ∧
  ∀ H' v ls', (match hA L.to b L with | none => ls' = ls.eraseIdx k | some ys => ∃ a, ls' = ls.eraseIdx k ++ [.ref a] ∧ H' a = some (.tup ys)) → RdPost C h dn db dl n L.to x b L nx bf ls' H H' v → Q v H'
theorem T0.ok_Net__read (T : T0 K mg) : FnOk P w K mg base CX0 5 T.a_Net__read T.fd_Net__read ["self", "at"] (sp_Net__read K T.C_Net) := by
  refine T.F_Net__read.ok sc_Net__read (fun vs H Q E h => ?_) (fun cdv A outer s H vs Q E hr h => ?_)
  · obtain ⟨h, dn, db, dl, lt, n, x, b, k, L, nx, bf, ls, rfl, _⟩ := h
    rfl
  · obtain ⟨h, dn, db, dl, lt, n, x, b, k, L, nx, bf, ls, rfl, hN, hv, hlt, hx, hb, ob, hn, ne, z1, z2, z3, q⟩ := h
    obtain ⟨dx, hh⟩ := hN.me
    have hk := (List.getElem?_eq_some_iff.mp hv).1
    refine ⟨_, (pss_cons (ps_expr (pe_meth (pv 0) T.cl_Net T.me_Net__check_letter T.ok_Net__check_letter (hr.mono (by decide)) T.b_Net__check_letter .nil pass0 (pa_cons (pv 1) pa_nil)))
        (pss_cons (ps_set (i := 2) sc_Net__read.nd rfl (Or.inl rfl) (pe_bm PySem.F.plainAttrs_list PySem.F.slot_list_pop PySem.F.type_list_pop mt_popAt (show PE _ _ (tFld K _ _) from pe_fld (pv 0) rfl) (pa_cons (pv 1) pa_nil)))
        (pss_cons (ps_set (i := 3) sc_Net__read.nd rfl (Or.inl rfl) (pe_ix (ix_tupK (K := K)) (pv 2) pe_int (fun _ _ => rfl)))
        (pss_cons (ps_set (i := 4) sc_Net__read.nd rfl (Or.inl rfl) (pe_meth (pv 0) T.cl_Net T.me_Net__house_at T.ok_Net__house_at (hr.mono (by decide)) T.b_Net__house_at .nil pass0 (pa_cons (pv 3) pa_nil)))
        (pss_cons (ps_set (i := 5) sc_Net__read.nd rfl (Or.inl rfl) (pe_meth (pv 4) T.cl_House T.me_House__hear T.ok_House__hear hr T.b_House__hear .nil pass0 (pa_cons (pv 2) pa_nil)))
        (pss_cons (ps_if (pt_cmpR op_notN (pv 5) pe_non (nomark _)) (pss_cons (ps_expr (pe_meth (pv 0) T.cl_Net T.me_Net__send T.ok_Net__send (hr.mono (by decide)) T.b_Net__send .nil pass0 (pa_cons (pv 5) pa_nil)))
        (pss_one (ps_ret (pe_tup (pa_cons pe_str (pa_cons (pv 3) (pa_cons (show PE _ _ (tFld K _ _) from pe_fld (pv 4) rfl) pa_nil))))))) pss_nil)
        (pss_cons (ps_if (pt_cmpR op_ne (show PE _ _ (tFld K _ _) from pe_fld (pv 4) rfl) (pe_dget (un1 hr) (show PE _ _ (tFld K _ _) from pe_fld (pv 0) rfl) (pv 3) (fun _ _ => rfl)) (nomark _)) (pss_cons (ps_asg (show PE _ _ (tFld K _ _) from pe_fld (pv 4) rfl) (pg_sub (show PE _ _ (tFld K _ _) from pe_fld (pv 0) rfl) (pv 3) (set_dict (un1 hr))))
        (pss_one (ps_ret (pe_tup (pa_cons pe_str (pa_cons (pv 3) (pa_cons (show PE _ _ (tFld K _ _) from pe_fld (pv 4) rfl) pa_nil))))))) pss_nil)
        (pss_cons (ps_if (pt_cmpR op_ne (show PE _ _ (tFld K _ _) from pe_fld (pv 4) rfl) (pe_dget (un1 hr) (show PE _ _ (tFld K _ _) from pe_fld (pv 0) rfl) (pv 3) (fun _ _ => rfl)) (nomark _)) (pss_cons (ps_asg (show PE _ _ (tFld K _ _) from pe_fld (pv 4) rfl) (pg_sub (show PE _ _ (tFld K _ _) from pe_fld (pv 0) rfl) (pv 3) (set_dict (un1 hr))))
        (pss_one (ps_ret (pe_tup (pa_cons pe_str (pa_cons (pv 3) (pa_cons (show PE _ _ (tFld K _ _) from pe_fld (pv 4) rfl) pa_nil))))))) pss_nil)
        (pss_one (ps_ret (pe_tup (pa_cons pe_str (pa_cons (pv 3) (pa_cons pe_non pa_nil)))))))))))))), ?_⟩
    refine ⟨_, rfl, h, dx, _, rfl, hh, (by unfold nf; walk_at "lk"), _, rfl, h, dn, db, dl, n, k, nx, bf, ls, rfl, hN, by omega, by omega, ?_⟩
    refine ⟨_, rfl, h, _, dx, _, _, rfl, hh, T.cl_Net, T.na_Net__letters, nf_letters, .inl ⟨rfl, _, SqL.of hN.hl⟩, _, rfl, dl, ls, k, k, .ref lt, rfl, rfl, hN.hl, by omega, by omega, seq_nat hk, hv, ?_⟩
    have off : ∀ {a : Addr} {o : HO}, H a = some o → (∀ xs, o ≠ .lst xs) → a ≠ dl := fun e no z => by rw [z, hN.hl] at e; exact no _ (Option.some.inj e).symm
    have k1 : ∀ a o, a ≠ dl → H a = some o → upd H dl (.lst (ls.eraseIdx k)) a = some o := fun a o na e => (upd_ne na).trans e
    have N1 : NetAt T.C_Net (upd H dl (.lst (ls.eraseIdx k))) h n dn db dl nx bf (ls.eraseIdx k) := ⟨⟨dx, k1 _ _ (off hh fun _ z => nomatch z) hh⟩, k1 _ _ (off hN.hn fun _ z => nomatch z) hN.hn, k1 _ _ (off hN.hb fun _ z => nomatch z) hN.hb, upd_same⟩
    have lt1 := k1 _ _ (off hlt fun _ z => nomatch z) hlt
    generalize upd H dl (.lst (ls.eraseIdx k)) = H1 at k1 N1 lt1
    obtain ⟨dx, hh1⟩ := N1.me
    refine ⟨_, rfl, lt, _, 1, _, rfl, rfl, SqT.of lt1, L.at1, ?_⟩
    refine ⟨_, rfl, h, dx, _, rfl, hh1, (by unfold nf; walk_at "lk"), _, rfl, h, dn, db, dl, n, L.to, x, b, nx, bf, _, rfl, N1, hx, hb, fun H2 r2 sm nr hA1 => ?_⟩
    obtain ⟨d2, hA2⟩ := id hA1
    refine ⟨_, rfl, r2, d2, _, rfl, hA2, (by unfold hf; walk_at "lk"), _, rfl, r2, lt, n, L.to, x, b, L, rfl, hA1, ob, hn, SqT.of (sm _ _ lt1), fun v H3 hA3 k3 post => ?_⟩
    have k2 : ∀ a o, a ≠ dl → H a = some o → H3 a = some o := fun a o na e => k3 _ _ (ne_of_none (k1 _ _ na e) nr) (sm _ _ (k1 _ _ na e))
    have kp3 : Same H1 H3 := fun a o e => k3 _ _ (ne_of_none e nr) (sm _ _ e)
    have N3 := N1.same kp3
    obtain ⟨dx, hh3⟩ := N3.me
    have nd : r2 ≠ dl := fun z => by rw [z, N1.hl] at nr; cases nr
    have ndb : r2 ≠ db := fun z => by rw [z, N1.hb] at nr; cases nr
    have ndn : r2 ≠ dn := fun z => by rw [z, N1.hn] at nr; cases nr
    have le : (ls.eraseIdx k).length ≤ 1000 := Nat.le_trans (List.length_eraseIdx_le _ _) z3
    obtain ⟨d3, hA3'⟩ := id hA3
    cases eA : hA L.to b L with
    | some ys =>
      rw [eA] at post
      obtain ⟨a, rfl, hy⟩ := post
      refine ⟨_, rfl, rfl, _, rfl, ?_⟩
      refine iteT' (by rw [decide_eq_false (fun z => nomatch z)]; rfl) ?_
      refine ⟨_, rfl, h, dx, _, rfl, hh3, (by unfold nf; walk_at "lk"), _, rfl, h, dn, db, dl, n, nx, bf, _, .ref a, rfl, N3, by omega, ?_⟩
      refine ⟨_, rfl, _, rfl, r2, _, d3, _, _, rfl, (upd_ne nd).trans hA3', T.cl_House, T.na_House_before, hf_before, lenL (by show 3 ≤ 100000; decide), fun p np => ?_⟩
      have ap : a ≠ dl := fun z => by rw [z, N3.hl] at hy; cases hy
      have hy4 : upd H3 dl (.lst (ls.eraseIdx k ++ [.ref a])) a = some (.tup ys) := (upd_ne ap).trans hy
      refine q _ _ (ls.eraseIdx k ++ [.ref a]) ?_ ⟨fun c o n1 n2 n3 e => ?_, ?_, p, rfl, ?_⟩
      · rw [eA]
        exact ⟨a, rfl, (upd_ne (ne_of_none hy4 np)).trans hy4⟩
      · have e4 : upd H3 dl (.lst (ls.eraseIdx k ++ [.ref a])) c = some o := (upd_ne n3).trans (k2 c o n3 e)
        exact (upd_ne (ne_of_none e4 np)).trans e4
      · rw [eA]
        rw [if_neg (fun z => nomatch z.1), if_neg (fun z => nomatch z.1)]
        exact (N3.setl).same (same_upd np)
      · rw [eA, upd_same, if_pos (fun z => nomatch z)]
    | none =>
      rw [eA] at post
      subst post
      refine ⟨_, rfl, rfl, _, rfl, ?_⟩
      refine iteF' (by rfl) ?_
      have okb := okB_hB (n := n) (p := L.to) (L := L) ob
      refine ⟨_, rfl, r2, _, d3, _, _, rfl, hA3', T.cl_House, T.na_House_before, hf_before, _, rfl, h, _, dx, _, _, rfl, hh3, T.cl_Net, T.na_Net__befores, nf_befores, _, rfl, db, b, rfl, dget_of N3.hb hb, scal_ok okb ob, _, rfl, ?_⟩
      by_cases eb : hB n L.to b L = b
      · refine iteF' (by rw [decide_eq_true eb]; rfl) ?_
        refine ⟨_, rfl, r2, _, d3, _, _, rfl, hA3', T.cl_House, T.na_House_next_house, hf_next, _, rfl, h, _, dx, _, _, rfl, hh3, T.cl_Net, T.na_Net__nexts, nf_nexts, _, rfl, dn, _, rfl, dget_of N3.hn hx, rfl, _, rfl, ?_⟩
        by_cases ex : Z.hN n L.to x L = x
        · refine iteF' (by rw [decide_eq_true (congrArg V.int ex)]; rfl) ?_
          refine ⟨_, rfl, lenL (by show 3 ≤ 100000; decide), fun p np => q _ _ (ls.eraseIdx k) (by rw [eA]) ⟨fun c o n1 n2 n3 e => ?_, ?_, p, rfl, ?_⟩⟩
          · exact (upd_ne (ne_of_none (k2 c o n3 e) np)).trans (k2 c o n3 e)
          · rw [if_neg (fun z => z.2.2 ex), if_neg (fun z => z.2 eb)]
            exact N3.same (same_upd np)
          · rw [upd_same, if_neg (fun z => z eA), if_neg (fun z => z eb), if_neg (fun z => z ex)]
        · refine iteT' (by rw [decide_eq_false (fun z => ex (V.int.inj z))]; rfl) ?_
          refine ⟨_, rfl, r2, _, d3, _, _, rfl, hA3', T.cl_House, T.na_House_next_house, hf_next, ?_⟩
          refine ⟨_, rfl, h, _, dx, _, _, rfl, hh3, T.cl_Net, T.na_Net__nexts, nf_nexts, _, rfl, dn, _, rfl, DPut.k (k := Sum.inl L.to) N3.hn (small1000' (by omega)), ?_⟩
          refine ⟨_, rfl, _, rfl, r2, _, d3, _, _, rfl, (upd_ne ndn).trans hA3', T.cl_House, T.na_House_next_house, hf_next, lenL (by show 3 ≤ 100000; decide), fun p np => q _ _ (ls.eraseIdx k) (by rw [eA]) ⟨fun c o n1 n2 n3 e => ?_, ?_, p, rfl, ?_⟩⟩
          · have e4 := (upd_ne (o := .dK (putK nx (Sum.inl L.to) (.int (Z.hN n L.to x L)))) n1).trans (k2 c o n3 e)
            exact (upd_ne (ne_of_none e4 np)).trans e4
          · rw [if_pos ⟨eA, eb, ex⟩, if_neg (fun z => z.2 eb)]
            exact (N3.setn ne).same (same_upd np)
          · rw [upd_same, if_neg (fun z => z eA), if_neg (fun z => z eb), if_pos ex]
      · refine iteT' (by rw [decide_eq_false eb]; rfl) ?_
        refine ⟨_, rfl, r2, _, d3, _, _, rfl, hA3', T.cl_House, T.na_House_before, hf_before, ?_⟩
        refine ⟨_, rfl, h, _, dx, _, _, rfl, hh3, T.cl_Net, T.na_Net__befores, nf_befores, _, rfl, db, _, rfl, DPut.k (k := Sum.inl L.to) N3.hb (small1000' (by omega)), ?_⟩
        refine ⟨_, rfl, _, rfl, r2, _, d3, _, _, rfl, (upd_ne ndb).trans hA3', T.cl_House, T.na_House_before, hf_before, lenL (by show 3 ≤ 100000; decide), fun p np => q _ _ (ls.eraseIdx k) (by rw [eA]) ⟨fun c o n1 n2 n3 e => ?_, ?_, p, rfl, ?_⟩⟩
        · have e4 := (upd_ne (o := .dK (putK bf (Sum.inl L.to) (hB n L.to b L))) n2).trans (k2 c o n3 e)
          exact (upd_ne (ne_of_none e4 np)).trans e4
        · rw [if_neg (fun z => eb z.2.1), if_pos ⟨eA, eb⟩]
          exact (N3.setb ne).same (same_upd np)
        · rw [upd_same, if_neg (fun z => z eA), if_pos eb]
def sp_Net__check_letters (K : PySem.W.Frag) (C : Addr) : Sp := fun vs H Q _ => ∃ (h dn db dl : Addr) (n : Int) (nx bf : List (Key × V)) (ls : List V), vs = [.ref h] ∧ NetAt C H h n dn db dl nx bf ls ∧ ls.length ≤ 1000 ∧ (∀ v ∈ ls, ∃ (a : Addr) (z : Str) (qs : List Int), v = .ref a ∧ H a = some (.tup (.str z :: qs.map V.int)) ∧ ∀ q ∈ qs, (valV nx (.inl q)).isSome = true) ∧ ∀ H', Same H H' → Q .non H'
theorem T0.ok_Net__check_letters (T : T0 K mg) : FnOk P w K mg base CX0 2 T.a_Net__check_letters T.fd_Net__check_letters ["self"] (sp_Net__check_letters K T.C_Net) := by
  refine T.F_Net__check_letters.ok sc_Net__check_letters (fun vs H Q E h => ?_) (fun cdv A outer s H vs Q E hr h => ?_)
  · obtain ⟨h, dn, db, dl, n, nx, bf, ls, rfl, _⟩ := h
    rfl
  · obtain ⟨h, dn, db, dl, n, nx, bf, ls, rfl, hN, hz, hl, q⟩ := h
    obtain ⟨dx, hh⟩ := hN.me
    refine ⟨_, (pss_one (ps_for PassesOwn.never rfl (pi_list (show PE _ _ (tFld K _ _) from pe_fld (pv 0) rfl)) (pg_name (i := 1) sc_Net__check_letters.nd rfl (Or.inl rfl)) (pss_one (ps_for PassesOwn.never rfl (pi_tup (pe_slice (sl_tupK (K := K)) (pv 1) (po_some pe_int) po_none)) (pg_name (i := 2) sc_Net__check_letters.nd rfl (Or.inl rfl)) (pss_one (ps_expr (pe_meth (pv 0) T.cl_Net T.me_Net__check_house T.ok_Net__check_house hr T.b_Net__check_house .nil pass0 (pa_cons (pv 2) pa_nil)))))))), ?_⟩
    refine ⟨_, rfl, h, _, dx, _, _, rfl, hh, T.cl_Net, T.na_Net__letters, nf_letters, dl, rfl, ⟨_, SqL.of hN.hl⟩, ?_⟩
    refine for_list (K := K) (a := dl) (xs := ls) (fun i σ' H' => ∃ o1 o2, σ' = [some (.ref h), o1, o2] ∧ Same H H') ⟨none, none, rfl, fun _ _ e => e⟩ (fun i σ' H' _ p => by obtain ⟨_, _, _, s⟩ := p; exact SqL.of (s _ _ hN.hl)) (fun i v σ' H1 hv p => ?_) (fun σ' H1 p => ?_)
    · obtain ⟨o1, o2, rfl, s1⟩ := p
      obtain ⟨a, z, qs, rfl, ha, hq⟩ := hl v (List.mem_of_getElem? hv)
      have i1 : HT.sIx (V.str z :: qs.map V.int).length 0 (some (1 : Int)) = 1 := by rw [show (1 : Int) = ((1 : Nat) : Int) from rfl, HT.sIx_nat, List.length_cons]; omega
      have cut : cutV (V.str z :: qs.map V.int) (some 1) none = qs.map V.int := by
        unfold cutV
        rw [i1, HT.sIx_none, List.take_of_length_le (by rw [List.length_drop]; exact Nat.le_refl _)]
        rfl
      refine ⟨_, rfl, 1, rfl, a, _, rfl, SqT.of (s1 _ _ ha), (fun y => by rw [i1] at y; exact absurd y.1 (by decide)), fun u nu => ?_⟩
      rw [cut]
      have hu : upd H1 u (.tup (qs.map V.int)) u = some (.tup (qs.map V.int)) := upd_same
      have s2 := Same.trans s1 (same_upd (o := .tup (qs.map V.int)) nu)
      generalize upd H1 u (.tup (qs.map V.int)) = H2 at hu s2
      refine ⟨u, rfl, ⟨_, SqT.of hu⟩, ?_⟩
      refine for_tup (K := K) (a := u) (xs := qs.map V.int) (fun j σ' H' => ∃ o2, σ' = [some (.ref h), some (.ref a), o2] ∧ Same H2 H') ⟨o2, rfl, fun _ _ e => e⟩ (fun j σ' H' _ p => by obtain ⟨_, _, s⟩ := p; exact SqT.of (s _ _ hu)) (fun j v σ' H3 hv p => ?_) (fun σ' H3 p => ?_)
      · obtain ⟨o2, rfl, s3⟩ := p
        rw [List.getElem?_map] at hv
        obtain ⟨y, hy, rfl⟩ := Option.map_eq_some_iff.mp hv
        have N3 := hN.same (Same.trans s2 s3)
        obtain ⟨dx, hh⟩ := N3.me
        exact ⟨_, rfl, h, dx, _, rfl, hh, (by unfold nf; walk_at "lk"), _, rfl, h, dn, db, dl, n, y, nx, bf, ls, rfl, N3, hq y (List.mem_of_getElem? hy), _, rfl, s3⟩
      · obtain ⟨o2, rfl, s3⟩ := p
        exact ⟨_, _, rfl, Same.trans s2 s3⟩
    · obtain ⟨o1, o2, rfl, s1⟩ := p
      exact q H1 s1
def sp_Net__check_places (C : Addr) : Sp := fun vs H Q _ => ∃ (h dn db dl : Addr) (n : Int) (nx bf : List (Key × V)) (ls : List V) (ks : List Int), vs = [.ref h] ∧ NetAt C H h n dn db dl nx bf ls ∧ nx.map (·.1) = ks.map Sum.inl ∧ ks.length < 64 ∧ (∀ k ∈ ks, 0 ≤ k ∧ k < n ∧ ∃ x, valV nx (.inl k) = some (.int x) ∧ (valV nx (.inl x)).isSome = true) ∧ ∀ H', Same H H' → Q .non H'
theorem T0.ok_Net__check_places (T : T0 K mg) : FnOk P w K mg base CX0 2 T.a_Net__check_places T.fd_Net__check_places ["self"] (sp_Net__check_places T.C_Net) := by
  refine T.F_Net__check_places.ok sc_Net__check_places (fun vs H Q E h => ?_) (fun cdv A outer s H vs Q E hr h => ?_)
  · obtain ⟨h, dn, db, dl, n, nx, bf, ls, ks, rfl, _⟩ := h
    rfl
  · obtain ⟨h, dn, db, dl, n, nx, bf, ls, ks, rfl, hN, hk, h64, hv, q⟩ := h
    obtain ⟨dx, hh⟩ := hN.me
    refine ⟨_, (pss_cons (ps_for PassesOwn.never rfl (pi_list (pe_meth0 (pv 0) T.cl_Net T.me_Net__houses T.ok_Net__houses hr T.b_Net__houses .nil pass0)) (pg_name (i := 1) sc_Net__check_places.nd rfl (Or.inl rfl)) (pss_one (ps_expr (pe_call T.ok_check_on_circle hr (by rfl) T.g_check_on_circle T.k_check_on_circle T.b_check_on_circle .nil pass0 (pa_cons (show PE _ _ (tFld K _ _) from pe_fld (pv 0) rfl) (pa_cons (pv 1) pa_nil))))))
        (pss_one (ps_for PassesOwn.never rfl (pi_list (pe_meth0 (pv 0) T.cl_Net T.me_Net__houses T.ok_Net__houses hr T.b_Net__houses .nil pass0)) (pg_name (i := 1) sc_Net__check_places.nd rfl (Or.inl rfl)) (pss_one (ps_expr (pe_meth (pv 0) T.cl_Net T.me_Net__check_house T.ok_Net__check_house hr T.b_Net__check_house .nil pass0 (pa_cons (pe_dget (un1 hr) (show PE _ _ (tFld K _ _) from pe_fld (pv 0) rfl) (pv 1) (fun _ _ => rfl)) pa_nil))))))), ?_⟩
    refine ⟨_, rfl, h, dx, _, rfl, hh, (by unfold nf; walk_at "lk"), h, dn, db, dl, n, nx, bf, ls, ks, rfl, hN, hk, h64, fun ys l perm pw nl => ?_⟩
    have hl : upd H l (.lst (ys.map V.int)) l = some (.lst (ys.map V.int)) := upd_same
    have sm := same_upd (o := .lst (ys.map V.int)) nl
    generalize upd H l (.lst (ys.map V.int)) = H1 at hl sm
    refine ⟨l, rfl, ⟨_, SqL.of hl⟩, ?_⟩
    refine for_list (K := K) (a := l) (xs := ys.map V.int) (fun i σ' H' => ∃ o1, σ' = [some (.ref h), o1] ∧ H1 = H') ⟨none, rfl, rfl⟩ (fun i σ' H' _ p => by obtain ⟨_, _, rfl⟩ := p; exact SqL.of hl) (fun i v σ' H' hv' p => ?_) (fun σ' H' p => ?_)
    · obtain ⟨o1, rfl, rfl⟩ := p
      rw [List.getElem?_map] at hv'
      obtain ⟨y, hy, rfl⟩ := Option.map_eq_some_iff.mp hv'
      have N1 := hN.same sm
      obtain ⟨dx, hh⟩ := N1.me
      obtain ⟨y0, y1, _⟩ := hv y (perm.mem_iff.mp (List.mem_of_getElem? hy))
      exact ⟨_, rfl, h, _, dx, _, _, rfl, hh, T.cl_Net, T.na_Net_size, nf_size, _, rfl, n, y, rfl, y0, y1, _, rfl, rfl⟩
    obtain ⟨o1, rfl, rfl⟩ := p
    have N1 := hN.same sm
    obtain ⟨dx, hh⟩ := N1.me
    refine ⟨_, rfl, h, dx, _, rfl, hh, (by unfold nf; walk_at "lk"), h, dn, db, dl, n, nx, bf, ls, ks, rfl, N1, hk, h64, fun ys l perm pw nl => ?_⟩
    have hl : upd H1 l (.lst (ys.map V.int)) l = some (.lst (ys.map V.int)) := upd_same
    have sm2 := Same.trans sm (same_upd (o := .lst (ys.map V.int)) nl)
    generalize upd H1 l (.lst (ys.map V.int)) = H2 at hl sm2
    refine ⟨l, rfl, ⟨_, SqL.of hl⟩, ?_⟩
    refine for_list (K := K) (a := l) (xs := ys.map V.int) (fun i σ' H' => ∃ o1, σ' = [some (.ref h), o1] ∧ H2 = H') ⟨_, rfl, rfl⟩ (fun i σ' H' _ p => by obtain ⟨_, _, rfl⟩ := p; exact SqL.of hl) (fun i v σ' H' hv' p => ?_) (fun σ' H' p => ?_)
    · obtain ⟨o1, rfl, rfl⟩ := p
      rw [List.getElem?_map] at hv'
      obtain ⟨y, hy, rfl⟩ := Option.map_eq_some_iff.mp hv'
      have N2 := hN.same sm2
      obtain ⟨dx, hh⟩ := N2.me
      obtain ⟨_, _, x, hx, hx2⟩ := hv y (perm.mem_iff.mp (List.mem_of_getElem? hy))
      refine ⟨_, rfl, h, dx, _, rfl, hh, (by unfold nf; walk_at "lk"), _, rfl, h, _, dx, _, _, rfl, hh, T.cl_Net, T.na_Net__nexts, nf_nexts, _, rfl, dn, _, rfl, dget_of (k := Sum.inl y) N2.hn hx, h, dn, db, dl, n, x, nx, bf, ls, rfl, N2, hx2, _, rfl, rfl⟩
    · obtain ⟨o1, rfl, rfl⟩ := p
      exact q _ sm2
def sp_Net__take_befores (C : Addr) : Sp := fun vs H Q _ => ∃ (h dn db dl d : Addr) (n : Int) (nx bf bs : List (Key × V)) (ls : List V) (js : List Int), vs = [.ref h, .ref d] ∧ NetAt C H h n dn db dl nx bf ls ∧ H d = some (.dK bs) ∧ bs.map (·.1) = js.map Sum.inl ∧ js.length < 64 ∧ (∀ j ∈ js, (valV nx (.inl j)).isSome = true ∧ ∃ x, valV bs (.inl j) = some (.int x) ∧ (valV nx (.inl x)).isSome = true) ∧ d ≠ db ∧ db ≠ dn ∧ bf.length ≤ 1000 ∧
  ∀ H' bf', NetAt C H' h n dn db dl nx bf' ls → (∀ a o, a ≠ db → H a = some o → H' a = some o) → (∀ p : Int, valV bf' (.inl p) = if p ∈ js then valV bs (.inl p) else valV bf (.inl p)) → bf'.length ≤ bf.length + js.length → Q .non H'
theorem T0.ok_Net__take_befores (T : T0 K mg) : FnOk P w K mg base CX0 2 T.a_Net__take_befores T.fd_Net__take_befores ["self", "befores"] (sp_Net__take_befores T.C_Net) := by
  refine T.F_Net__take_befores.ok sc_Net__take_befores (fun vs H Q E h => ?_) (fun cdv A outer s H vs Q E hr h => ?_)
  · obtain ⟨h, dn, db, dl, d, n, nx, bf, bs, ls, js, rfl, _⟩ := h
    rfl
  · obtain ⟨h, dn, db, dl, d, n, nx, bf, bs, ls, js, rfl, hN, hd, hk, h64, hv, ned, ne, hz, q⟩ := h
    refine ⟨_, (pss_one (ps_for PassesOwn.never rfl (pi_list (pe_callB (call_sortedDI rfl) (by rfl) T.m_sorted (by decide +kernel) (pa_cons (pv 1) pa_nil))) (pg_name (i := 2) sc_Net__take_befores.nd rfl (Or.inl rfl)) (pss_cons (ps_expr (pe_meth (pv 0) T.cl_Net T.me_Net__check_house T.ok_Net__check_house hr T.b_Net__check_house .nil pass0 (pa_cons (pv 2) pa_nil)))
        (pss_cons (ps_expr (pe_meth (pv 0) T.cl_Net T.me_Net__check_house T.ok_Net__check_house hr T.b_Net__check_house .nil pass0 (pa_cons (pe_dget (un1 hr) (pv 1) (pv 2) (fun _ _ => rfl)) pa_nil)))
        (pss_one (ps_asg (pe_dget (un1 hr) (pv 1) (pv 2) (fun _ _ => rfl)) (pg_sub (show PE _ _ (tFld K _ _) from pe_fld (pv 0) rfl) (pv 2) (set_dict (un1 hr))))))))), ?_⟩
    refine ⟨_, rfl, d, bs, js, rfl, .inl hd, hk, h64, fun ys l perm pw nl => ?_⟩
    have hl : upd H l (.lst (ys.map V.int)) l = some (.lst (ys.map V.int)) := upd_same
    have sm := same_upd (o := .lst (ys.map V.int)) nl
    generalize upd H l (.lst (ys.map V.int)) = H1 at hl sm
    have ylen := perm.length_eq
    have nldb : l ≠ db := fun z => by rw [z, hN.hb] at nl; cases nl
    refine ⟨l, rfl, ⟨_, SqL.of hl⟩, ?_⟩
    refine for_list (K := K) (a := l) (xs := ys.map V.int) (fun i σ' H' => ∃ o1 bf', σ' = [some (.ref h), some (.ref d), o1] ∧ NetAt T.C_Net H' h n dn db dl nx bf' ls ∧ (∀ a o, a ≠ db → H1 a = some o → H' a = some o) ∧ (∀ p : Int, valV bf' (.inl p) = if p ∈ ys.take i then valV bs (.inl p) else valV bf (.inl p)) ∧ bf'.length ≤ bf.length + i)
      ⟨none, bf, rfl, hN.same sm, fun _ _ _ e => e, fun p => by rw [List.take_zero, if_neg (List.not_mem_nil)], Nat.le_refl _⟩ (fun i σ' H' _ p => by obtain ⟨_, _, _, _, k, _⟩ := p; exact SqL.of (k _ _ nldb hl)) (fun i v σ' H' hv' p => ?_) (fun σ' H' p => ?_)
    · obtain ⟨o1, bf', rfl, N1, k1, vl, ln⟩ := p
      rw [List.getElem?_map] at hv'
      obtain ⟨y, hy, rfl⟩ := Option.map_eq_some_iff.mp hv'
      have hi : i < ys.length := (List.getElem?_eq_some_iff.mp hy).1
      obtain ⟨dx, hh⟩ := N1.me
      obtain ⟨y0, x, hx, hx2⟩ := hv y (perm.mem_iff.mp (List.mem_of_getElem? hy))
      have hd1 := k1 _ _ ned (sm _ _ hd)
      refine ⟨_, rfl, h, dx, _, rfl, hh, (by unfold nf; walk_at "lk"), _, rfl, h, dn, db, dl, n, y, nx, bf', ls, rfl, N1, y0, ?_⟩
      refine ⟨_, rfl, h, dx, _, rfl, hh, (by unfold nf; walk_at "lk"), _, rfl, _, rfl, d, _, rfl, dget_of (k := Sum.inl y) hd1 hx, h, dn, db, dl, n, x, nx, bf', ls, rfl, N1, hx2, ?_⟩
      refine ⟨_, rfl, _, rfl, d, _, rfl, dget_of (k := Sum.inl y) hd1 hx, ?_⟩
      refine ⟨_, rfl, h, _, dx, _, _, rfl, hh, T.cl_Net, T.na_Net__befores, nf_befores, _, rfl, db, _, rfl, DPut.k (k := Sum.inl y) N1.hb (small1000' (by omega)), ?_⟩
      refine ⟨_, _, rfl, N1.setb ne, fun a o na e => (upd_ne na).trans (k1 _ _ na e), fun p => ?_, ?_⟩
      · rw [valV_put, vl p, List.take_add_one, hy, Option.toList_some]
        by_cases e : p = y
        · subst e
          rw [if_pos rfl, if_pos (List.mem_append_right _ (List.mem_singleton.mpr rfl)), hx]
        · have e1 : ¬ (Sum.inl p : Key) = Sum.inl y := fun z => e (Sum.inl.inj z)
          rw [if_neg e1]
          by_cases g : p ∈ ys.take i
          · rw [if_pos g, if_pos (List.mem_append_left _ g)]
          · rw [if_neg g, if_neg (fun z => (List.mem_append.mp z).elim g (fun z => e (List.mem_singleton.mp z)))]
      · have := length_putK bf' (Sum.inl y : Key) (.int x)
        omega
    · obtain ⟨o1, bf', rfl, N1, k1, vl, ln⟩ := p
      refine q H' bf' N1 (fun a o na e => k1 a o na (sm _ _ e)) (fun p => ?_) (by rw [List.length_map] at ln; omega)
      rw [vl p, List.length_map, List.take_length]
      by_cases g : p ∈ ys
      · rw [if_pos g, if_pos (perm.mem_iff.mp g)]
      · rw [if_neg g, if_neg (fun z => g (perm.mem_iff.mpr z))]
def bef (bs : List (Key × V)) (k : Int) : V := (valV bs (.inl k)).getD .non
theorem valV_none_keys {kvs : List (Key × V)} {js : List Int} {p : Int} (h : kvs.map (·.1) = js.map Sum.inl) (hp : p ∉ js) : valV kvs (.inl p) = none := by
  induction kvs generalizing js with
  | nil => rfl
  | cons kv r ih =>
    cases js with
    | nil => cases h
    | cons j js =>
      obtain ⟨k, v⟩ := kv
      have h1 : k = Sum.inl j := (List.cons.inj h).1
      rw [valV_neg (fun e => hp (by rw [h1] at e; rw [Sum.inl.inj e]; exact List.mem_cons_self)), ih (List.cons.inj h).2 (fun m => hp (List.mem_cons_of_mem _ m))]
theorem valV_all_non {ks : List Int} {k : Int} (h : k ∈ ks) : valV (ks.map fun z => ((Sum.inl z : Key), V.non)) (Sum.inl k) = some .non := by
  induction ks with
  | nil => cases h
  | cons z r ih =>
    rw [List.map_cons]
    by_cases e : z = k
    · subst e
      exact valV_pos (p := ((Sum.inl z : Key), V.non)) rfl
    · rw [valV_neg (fun g => e (Sum.inl.inj g))]
      exact ih ((List.mem_cons.mp h).resolve_left (fun g => e g.symm))
def sp_Net__init (K : PySem.W.Frag) (C : Addr) : Sp := fun vs H Q _ => ∃ (h dx d1 d2 pl : Addr) (n : Int) (nx bs : List (Key × V)) (ls : List V) (ks js : List Int), vs = [.ref h, .int n, .ref d1, .ref d2, .ref pl] ∧ H h = some (.ins C dx []) ∧ H d1 = some (.dK nx) ∧ H d2 = some (.dK bs) ∧ H pl = some (.lst ls) ∧
  nx.map (·.1) = ks.map Sum.inl ∧ ks.length < 64 ∧ ks.Nodup ∧ bs.map (·.1) = js.map Sum.inl ∧ js.length < 64 ∧ ls.length ≤ 1000 ∧
  (∀ k ∈ ks, 0 ≤ k ∧ k < n ∧ ∃ x, valV nx (.inl k) = some (.int x) ∧ (valV nx (.inl x)).isSome = true) ∧ (∀ j ∈ js, (valV nx (.inl j)).isSome = true ∧ ∃ x, valV bs (.inl j) = some (.int x) ∧ (valV nx (.inl x)).isSome = true) ∧
  (∀ v ∈ ls, ∃ (a : Addr) (z : Str) (qs : List Int), v = .ref a ∧ H a = some (.tup (.str z :: qs.map V.int)) ∧ ∀ q ∈ qs, (valV nx (.inl q)).isSome = true) ∧
  ∀ H' dn db dl bf, NetAt C H' h n dn db dl nx bf ls → (∀ a o, a ≠ h → H a = some o → H' a = some o) → H dn = none → H db = none → H dl = none → db ≠ dn → (∀ p ∈ ks, valV bf (.inl p) = some (bef bs p)) → bf.length ≤ ks.length + js.length → Q .non H'
theorem T0.ok_Net__init (T : T0 K mg) : FnOk P w K mg base CX0 3 T.a_Net__init T.fd_Net__init ["self", "size", "nexts", "befores", "letters"] (sp_Net__init K T.C_Net) := by
  refine T.F_Net__init.ok sc_Net__init (fun vs H Q E h => ?_) (fun cdv A outer s H vs Q E hr h => ?_)
  · obtain ⟨h, dx, d1, d2, pl, n, nx, bs, ls, ks, js, rfl, _⟩ := h
    rfl
  · obtain ⟨h, dx, d1, d2, pl, n, nx, bs, ls, ks, js, rfl, hh, h1, h2, hpl, hk, h64, hnd, hj, hj64, hz, hv, hw, hu, q⟩ := h
    refine ⟨_, (pss_cons (ps_fld (pv 0) (pv 1) rfl)
        (pss_cons (ps_fld (pv 0) (pe_callTy call_dictD (by rfl) T.m_dict (by decide +kernel) (pa_cons (pv 2) pa_nil)) rfl)
        (pss_cons (ps_fld (pv 0) (pe_lock <| pe_dc (own := [("house", 5)]) (g := gName 5) (by rfl) sc_Net__init.nd (pi_keys (show PE _ _ (tFld K _ _) from pe_fld (pv 0) rfl)) (blkOk_by (own := [("house", 5)]) (N := ["self", "size", "nexts", "befores", "letters", "house"]) (sc := defScope s_Net__init) (by decide +kernel)) (fun _ _ _ _ _ => pg_name (i := 5) sc_Net__init.nd rfl (Or.inl rfl)) (fun _ _ _ _ _ => pts_nil) (fun _ _ _ _ _ => (pv 5)) (fun _ _ _ _ _ => pe_non)) rfl)
        (C8.pss_cut (ps_fld (pv 0) (pe_callTy (call_list_ofK (K := K)) (by rfl) T.m_list (by decide +kernel) (pa_cons (show PE _ _ (tOrT K _ _) from pe_orT (pv 4) (pe_one (pe_lst pa_nil))) pa_nil)) rfl)
        (pss_cons (ps_expr (pe_meth0 (pv 0) T.cl_Net T.me_Net__check_places T.ok_Net__check_places hr T.b_Net__check_places .nil pass0))
        (C8.pss_cut (ps_expr (pe_meth (pv 0) T.cl_Net T.me_Net__take_befores T.ok_Net__take_befores hr T.b_Net__take_befores .nil pass0 (pa_cons (show PE _ _ (tOrT K _ _) from pe_orT (pv 3) (pe_one pe_dnewK)) pa_nil)))
        (pss_one (ps_expr (pe_meth0 (pv 0) T.cl_Net T.me_Net__check_letters T.ok_Net__check_letters hr T.b_Net__check_letters .nil pass0))))))))), ?_⟩
    have nd1 : h ≠ d1 := fun e => by rw [e, h1] at hh; cases hh
    have nd2 : h ≠ d2 := fun e => by rw [e, h2] at hh; cases hh
    have npl : h ≠ pl := fun e => by rw [e, hpl] at hh; cases hh
    refine ⟨_, rfl, _, rfl, h, _, dx, [], rfl, hh, T.cl_Net, T.na_Net_size, (by show 0 < 1000; decide), ?_⟩
    refine ⟨_, rfl, d1, nx, rfl, .inl ((upd_ne nd1.symm).trans h1), fun dn ndn => ?_⟩
    have e1 : h ≠ dn := fun e => by rw [← e, upd_same] at ndn; cases ndn
    have ndn0 : H dn = none := by rw [upd_ne e1.symm] at ndn; exact ndn
    refine ⟨_, rfl, h, _, dx, _, rfl, (upd_ne e1).trans upd_same, T.cl_Net, T.na_Net__nexts, (by show 1 < 1000; decide), ?_⟩
    have k3 : ∀ a o, a ≠ h → H a = some o → upd (upd (upd H h (.ins T.C_Net dx (putF "size" (.int n) []))) dn (.dK nx)) h (.ins T.C_Net dx (putF "_nexts" (.ref dn) (putF "size" (.int n) []))) a = some o := fun a o na e => by
      rw [upd_ne na, upd_ne (ne_of_none e ndn0), upd_ne na]
      exact e
    have hdn : upd (upd (upd H h (.ins T.C_Net dx (putF "size" (.int n) []))) dn (.dK nx)) h (.ins T.C_Net dx (putF "_nexts" (.ref dn) (putF "size" (.int n) []))) dn = some (.dK nx) := (upd_ne e1.symm).trans upd_same
    have hh3 : upd (upd (upd H h (.ins T.C_Net dx (putF "size" (.int n) []))) dn (.dK nx)) h (.ins T.C_Net dx (putF "_nexts" (.ref dn) (putF "size" (.int n) []))) h = some (.ins T.C_Net dx (putF "_nexts" (.ref dn) (putF "size" (.int n) []))) := upd_same
    generalize upd (upd (upd H h (.ins T.C_Net dx (putF "size" (.int n) []))) dn (.dK nx)) h (.ins T.C_Net dx (putF "_nexts" (.ref dn) (putF "size" (.int n) []))) = H3 at k3 hdn hh3
    refine ⟨dn, nx, hdn, fun od => ?_⟩
    refine ⟨_, rfl, h, _, dx, _, _, rfl, (upd_ne e1).trans hh3, T.cl_Net, T.na_Net__nexts, (by walk_at "pf"; walk_at "lk"), dn, od, rfl, .inl ⟨nx, upd_same, fun D hD => ?_⟩⟩
    have nDdn : D ≠ dn := fun z => by rw [z, upd_same] at hD; cases hD
    refine dc_it walk_keys (fun i H' => Same (upd H3 dn (.frz od (.dK nx))) H' ∧ H' D = some (.dK ((ks.take i).map fun k => (.inl k, .non)))) ⟨same_upd hD, upd_same⟩ (fun i H' _ p => p.1 _ _ upd_same) (fun i x H4 H5 hi pv hy => ?_) (fun H4 pv => ?_)
    · obtain ⟨rfl, k, v, hkv, rfl⟩ := hy
      obtain ⟨s4, e4⟩ := pv
      have hki : ks[i]?.map (Sum.inl : Int → Key) = some k := by rw [← List.getElem?_map, ← hk, List.getElem?_map, hkv]; rfl
      obtain ⟨y, hy, rfl⟩ := Option.map_eq_some_iff.mp hki
      refine ⟨rfl, lc_yes ?_⟩
      refine ⟨_, rfl, _, Sum.inl y, rfl, e4, small1000' (by rw [List.length_map, List.length_take]; omega), fun b o e => ?_, ?_⟩
      · rw [upd_ne (ne_of_none e hD)]
        exact s4 b o e
      · rw [upd_same, putK_new _ (valV_none_of (f := fun _ => V.non) (not_in_take hnd hy)), List.take_add_one, hy, List.map_append]
        rfl
    · obtain ⟨s4, e4⟩ := pv
      refine ⟨s4 _ _ upd_same, ?_⟩
      have nl : nx.length = ks.length := by have := congrArg List.length hk; rw [List.length_map, List.length_map] at this; exact this
      rw [nl, List.take_length] at e4
      have h5 := (upd_ne (o := .dK nx) e1).trans (s4 _ _ ((upd_ne e1).trans hh3))
      have k5 : ∀ a o, a ≠ h → H a = some o → upd H4 dn (.dK nx) a = some o := fun a o na e => (upd_ne (ne_of_none e ndn0)).trans (s4 _ _ ((upd_ne (ne_of_none e ndn0)).trans (k3 a o na e)))
      have d5 : upd H4 dn (.dK nx) dn = some (.dK nx) := upd_same
      have D5 := (upd_ne (o := .dK nx) nDdn).trans e4
      have nDh : D ≠ h := fun z => by rw [z, (upd_ne e1 : upd H3 dn _ h = _), hh3] at hD; cases hD
      have nD0 : H D = none := by
        cases e : H D with
        | none => rfl
        | some o => rw [upd_ne nDdn, k3 D o nDh e] at hD; cases hD
      generalize upd H4 dn (.dK nx) = H5 at h5 k5 d5 D5
      refine ⟨_, rfl, h, _, dx, _, rfl, h5, T.cl_Net, T.na_Net__befores, (by show 2 < 1000; decide), ?_⟩
      have h6 : upd H5 h (.ins T.C_Net dx (putF "_befores" (.ref D) (putF "_nexts" (.ref dn) (putF "size" (.int n) [])))) h = _ := upd_same
      have k6 : ∀ a o, a ≠ h → H a = some o → upd H5 h (.ins T.C_Net dx (putF "_befores" (.ref D) (putF "_nexts" (.ref dn) (putF "size" (.int n) [])))) a = some o := fun a o na e => (upd_ne na).trans (k5 a o na e)
      have d6 := (upd_ne (o := .ins T.C_Net dx (putF "_befores" (.ref D) (putF "_nexts" (.ref dn) (putF "size" (.int n) [])))) e1.symm).trans d5
      have D6 := (upd_ne (o := .ins T.C_Net dx (putF "_befores" (.ref D) (putF "_nexts" (.ref dn) (putF "size" (.int n) [])))) nDh).trans D5
      generalize upd H5 h (.ins T.C_Net dx (putF "_befores" (.ref D) (putF "_nexts" (.ref dn) (putF "size" (.int n) [])))) = H6 at h6 k6 d6 D6
      have nn : (bef [] 0 : V) = .non := rfl
      refine ⟨fun σ' H' => σ' = [some (.ref h), some (.int n), some (.ref d1), some (.ref d2), some (.ref pl), none] ∧ ∃ dl, NetAt T.C_Net H' h n dn D dl nx (ks.map fun k => (.inl k, .non)) ls ∧ (∀ a o, a ≠ h → H a = some o → H' a = some o) ∧ H dl = none, ?_, ?_⟩
      · have fin : ∀ (Hq : Hp) (l : Addr), Same H6 Hq → Hq l = none → ∃ dl, NetAt T.C_Net (upd (upd Hq l (.lst ls)) h (.ins T.C_Net dx (putF "_letters" (.ref l) (putF "_befores" (.ref D) (putF "_nexts" (.ref dn) (putF "size" (.int n) [])))))) h n dn D dl nx (ks.map fun k => (.inl k, .non)) ls ∧ (∀ a o, a ≠ h → H a = some o → upd (upd Hq l (.lst ls)) h (.ins T.C_Net dx (putF "_letters" (.ref l) (putF "_befores" (.ref D) (putF "_nexts" (.ref dn) (putF "size" (.int n) []))))) a = some o) ∧ H dl = none := fun Hq l sq nl => by
          have nlh : l ≠ h := fun z => by rw [z, sq _ _ h6] at nl; cases nl
          have nD : D ≠ l := fun z => by rw [← z, sq _ _ D6] at nl; cases nl
          have ndl : dn ≠ l := fun z => by rw [← z, sq _ _ d6] at nl; cases nl
          refine ⟨l, ⟨⟨dx, ?_⟩, (upd_ne e1.symm).trans ((upd_ne ndl).trans (sq _ _ d6)), (upd_ne nDh).trans ((upd_ne nD).trans (sq _ _ D6)), (upd_ne nlh).trans upd_same⟩, fun a o na e => ?_, ?_⟩
          · rw [upd_same]
            have e : putF "_letters" (.ref l) (putF "_befores" (.ref D) (putF "_nexts" (.ref dn) (putF "size" (.int n) []))) = nf n dn D l := by
              walk_at "pf"
              rfl
            exact congrArg (fun z => some (HO.ins _ _ z)) e
          · have e2 := sq _ _ (k6 a o na e)
            exact (upd_ne na).trans ((upd_ne (ne_of_none e2 nl)).trans e2)
          · cases e : H l with
            | none => rfl
            | some o => rw [sq _ _ (k6 l o nlh e)] at nl; cases nl
        refine ⟨_, rfl, !ls.isEmpty, .inl ⟨ls, SqL.of (k6 _ _ npl.symm hpl), rfl⟩, ite2 (fun e => ?_) (fun e => ?_)⟩
        · refine ⟨pl, ls, rfl, .inl (SqL.of (k6 _ _ npl.symm hpl)), fun l nl => ?_⟩
          have nlh : h ≠ l := fun z => by rw [← z, h6] at nl; cases nl
          exact ⟨_, rfl, h, _, dx, _, rfl, (upd_ne nlh).trans h6, T.cl_Net, T.na_Net__letters, (by show 3 < 1000; decide), rfl, fin H6 l (fun _ _ e => e) nl⟩
        · have e : ls = [] := by
            cases ls with
            | nil => rfl
            | cons a b => exact absurd rfl e
          subst e
          refine ⟨Nat.zero_le _, fun p np => ?_⟩
          have s7 := same_upd (o := .lst []) np
          have p7 : upd H6 p (.lst []) p = some (.lst []) := upd_same
          generalize upd H6 p (.lst []) = H7 at s7 p7
          refine ⟨p, [], rfl, .inl (SqL.of p7), fun l nl => ?_⟩
          have nlh : h ≠ l := fun z => by rw [← z, s7 _ _ h6] at nl; cases nl
          exact ⟨_, rfl, h, _, dx, _, rfl, (upd_ne nlh).trans (s7 _ _ h6), T.cl_Net, T.na_Net__letters, (by show 3 < 1000; decide), rfl, fin H7 l s7 nl⟩
      rintro _ H8 ⟨rfl, dl, N8, k8, ndl0⟩
      have nDn : D ≠ dn := nDdn
      obtain ⟨dx8, hh8⟩ := N8.me
      refine ⟨_, rfl, h, dx8, _, rfl, hh8, (by unfold nf; walk_at "lk"), h, dn, D, dl, n, nx, _, ls, ks, rfl, N8, hk, h64, hv, fun H9 s9 => ?_⟩
      have N9 := N8.same s9
      have k9 : ∀ a o, a ≠ h → H a = some o → H9 a = some o := fun a o na e => s9 _ _ (k8 a o na e)
      obtain ⟨dx9, hh9⟩ := N9.me
      refine ⟨fun σ' H' => σ' = [some (.ref h), some (.int n), some (.ref d1), some (.ref d2), some (.ref pl), none] ∧ ∃ bf, NetAt T.C_Net H' h n dn D dl nx bf ls ∧ (∀ a o, a ≠ h → H a = some o → H' a = some o) ∧ (∀ p ∈ ks, valV bf (.inl p) = some (bef bs p)) ∧ bf.length ≤ ks.length + js.length, ?_, ?_⟩
      · have lj : bs.length = js.length := by have := congrArg List.length hj; rw [List.length_map, List.length_map] at this; exact this
        refine ⟨_, rfl, h, dx9, _, rfl, hh9, (by unfold nf; walk_at "lk"), _, rfl, !bs.isEmpty, .inr (.inr ⟨bs, k9 _ _ nd2.symm h2, rfl⟩), ite2 (fun e => ?_) (fun e => ?_)⟩
        · refine ⟨h, dn, D, dl, d2, n, nx, _, bs, ls, js, rfl, N9, k9 _ _ nd2.symm h2, hj, hj64, hw, fun z => ?_, nDn, by rw [List.length_map]; omega, fun H' bf' N' k' v' l' => ⟨rfl, bf', N', fun a o na e => k' _ _ (fun z => by rw [z] at e; rw [e] at nD0; cases nD0) (k9 a o na e), fun p hp => ?_, by rw [List.length_map] at l'; exact l'⟩⟩
          · rw [z] at h2; rw [h2] at nD0; cases nD0
          · rw [v' p]
            by_cases g : p ∈ js
            · obtain ⟨_, x, hx, _⟩ := hw p g
              rw [if_pos g, bef, hx]; rfl
            · rw [if_neg g, bef, valV_none_keys hj g, valV_all_non hp]; rfl
        · have e : bs = [] := by
            cases bs with
            | nil => rfl
            | cons a b => exact absurd rfl e
          subst e
          have ej : js = [] := by
            cases js with
            | nil => rfl
            | cons a b => cases lj
          subst ej
          intro p np
          have s10 := same_upd (o := .dK []) np
          have p10 : upd H9 p (.dK []) p = some (.dK []) := upd_same
          have npD : p ≠ D := fun z => by rw [z, N9.hb] at np; cases np
          generalize upd H9 p (.dK []) = H10 at s10 p10
          refine ⟨h, dn, D, dl, p, n, nx, _, [], ls, [], rfl, N9.same s10, p10, rfl, by decide, (fun j hj => nomatch hj), npD, nDn, by rw [List.length_map]; omega, fun H' bf' N' k' v' l' => ⟨rfl, bf', N', fun a o na e => k' _ _ (fun z => by rw [z] at e; rw [e] at nD0; cases nD0) (s10 _ _ (k9 a o na e)), fun p hp => ?_, by rw [List.length_map] at l'; exact l'⟩⟩
          rw [v' p, if_neg (fun z => nomatch z), valV_all_non hp]
          rfl
      rintro _ H11 ⟨rfl, bf, N11, k11, v11, l11⟩
      obtain ⟨dx11, hh11⟩ := N11.me
      refine ⟨_, rfl, h, dx11, _, rfl, hh11, (by unfold nf; walk_at "lk"), h, dn, D, dl, n, nx, bf, ls, rfl, N11, hz, fun v hv => ?_, fun H12 s12 => ?_⟩
      · obtain ⟨a, z, qs, rfl, ha, hq⟩ := hu v hv
        exact ⟨a, z, qs, rfl, k11 _ _ (fun e => by rw [e, hh] at ha; cases ha) ha, hq⟩
      · exact q H12 dn D dl bf (N11.same s12) (fun a o na e => s12 _ _ (k11 a o na e)) ndn0 nD0 ndl0 nDn v11 l11
def sp_Net__check_free (C : Addr) : Sp := fun vs H Q _ => ∃ (h dn db dl : Addr) (n p : Int) (nx bf : List (Key × V)) (ls : List V), vs = [.ref h, .int p] ∧ NetAt C H h n dn db dl nx bf ls ∧ 0 ≤ p ∧ p < n ∧ valV nx (.inl p) = none ∧ Q .non H
theorem T0.ok_Net__check_free (T : T0 K mg) : FnOk P w K mg base CX0 2 T.a_Net__check_free T.fd_Net__check_free ["self", "place"] (sp_Net__check_free T.C_Net) := by
  refine T.F_Net__check_free.ok sc_Net__check_free (fun vs H Q E h => ?_) (fun cdv A outer s H vs Q E hr h => ?_)
  · obtain ⟨h, dn, db, dl, n, p, nx, bf, ls, rfl, _⟩ := h
    rfl
  · obtain ⟨h, dn, db, dl, n, p, nx, bf, ls, rfl, hN, p0, p1, hp, q⟩ := h
    obtain ⟨dx, hh⟩ := hN.me
    refine ⟨_, (pss_cons (ps_expr (pe_call T.ok_check_on_circle hr (by rfl) T.g_check_on_circle T.k_check_on_circle T.b_check_on_circle .nil pass0 (pa_cons (show PE _ _ (tFld K _ _) from pe_fld (pv 0) rfl) (pa_cons (pv 1) pa_nil))))
        (pss_one (ps_if (pt_cmp (pc_din (un1 hr) (pv 1) (show PE _ _ (tFld K _ _) from pe_fld (pv 0) rfl))) (pss_one (ps_never)) pss_nil))), ?_⟩
    refine ⟨_, rfl, h, _, dx, _, _, rfl, hh, T.cl_Net, T.na_Net_size, nf_size, _, rfl, n, p, rfl, p0, p1, ?_⟩
    refine ⟨_, rfl, _, rfl, h, _, dx, _, _, rfl, hh, T.cl_Net, T.na_Net__nexts, nf_nexts, dn, _, rfl, DGet.k (k := Sum.inl p) hN.hn, _, rfl, ?_⟩
    rw [hp]
    exact iteF q
def sp_Net__admit (C : Addr) : Sp := fun vs H Q _ => ∃ (h dn db dl : Addr) (n p x : Int) (nx bf : List (Key × V)) (ls : List V), vs = [.ref h, .int p, .int x] ∧ NetAt C H h n dn db dl nx bf ls ∧ 0 ≤ p ∧ p < n ∧ valV nx (.inl p) = none ∧ (x ≠ p → (valV nx (.inl x)).isSome = true) ∧ db ≠ dn ∧ nx.length ≤ 1000 ∧ bf.length ≤ 1000 ∧
  Q .non (upd (upd H dn (.dK (putK nx (.inl p) (.int x)))) db (.dK (putK bf (.inl p) .non)))
theorem T0.ok_Net__admit (T : T0 K mg) : FnOk P w K mg base CX0 3 T.a_Net__admit T.fd_Net__admit ["self", "place", "host"] (sp_Net__admit T.C_Net) := by
  refine T.F_Net__admit.ok sc_Net__admit (fun vs H Q E h => ?_) (fun cdv A outer s H vs Q E hr h => ?_)
  · obtain ⟨h, dn, db, dl, n, p, x, nx, bf, ls, rfl, _⟩ := h
    rfl
  · obtain ⟨h, dn, db, dl, n, p, x, nx, bf, ls, rfl, hN, p0, p1, hp, hx, ne, l1, l2, q⟩ := h
    obtain ⟨dx, hh⟩ := hN.me
    refine ⟨_, (pss_cons (ps_expr (pe_meth (pv 0) T.cl_Net T.me_Net__check_free T.ok_Net__check_free hr T.b_Net__check_free .nil pass0 (pa_cons (pv 1) pa_nil)))
        (pss_cons (ps_if (pt_cmpR op_ne (pv 2) (pv 1) (nomark _)) (pss_one (ps_expr (pe_meth (pv 0) T.cl_Net T.me_Net__check_house T.ok_Net__check_house (hr.mono (by decide)) T.b_Net__check_house .nil pass0 (pa_cons (pv 2) pa_nil)))) pss_nil)
        (pss_cons (ps_asg (pv 2) (pg_sub (show PE _ _ (tFld K _ _) from pe_fld (pv 0) rfl) (pv 1) (set_dict (un1 hr))))
        (pss_one (ps_asg pe_non (pg_sub (show PE _ _ (tFld K _ _) from pe_fld (pv 0) rfl) (pv 1) (set_dict (un1 hr)))))))), ?_⟩
    refine ⟨_, rfl, h, dx, _, rfl, hh, (by unfold nf; walk_at "lk"), _, rfl, h, dn, db, dl, n, p, nx, bf, ls, rfl, hN, p0, p1, hp, ?_⟩
    have ndn : h ≠ dn := fun e => by rw [e, hN.hn] at hh; cases hh
    have hh2 : upd H dn (.dK (putK nx (.inl p) (.int x))) h = some (.ins T.C_Net dx (nf n dn db dl)) := (upd_ne ndn).trans hh
    have hb2 : upd H dn (.dK (putK nx (.inl p) (.int x))) db = some (.dK bf) := (upd_ne ne).trans hN.hb
    refine ⟨_, rfl, _, rfl, rfl, _, rfl, ite2 (fun e => ?_) (fun e => ?_)⟩
    · have e : x ≠ p := fun z => by rw [z, decide_eq_true rfl] at e; cases e
      refine ⟨_, rfl, h, dx, _, rfl, hh, (by unfold nf; walk_at "lk"), _, rfl, h, dn, db, dl, n, x, nx, bf, ls, rfl, hN, hx e, ?_⟩
      refine ⟨_, rfl, _, rfl, h, _, dx, _, _, rfl, hh, T.cl_Net, T.na_Net__nexts, nf_nexts, _, rfl, dn, _, rfl, DPut.k (k := Sum.inl p) hN.hn (small1000' (by omega)), ?_⟩
      exact ⟨_, rfl, h, _, dx, _, _, rfl, hh2, T.cl_Net, T.na_Net__befores, nf_befores, _, rfl, db, _, rfl, DPut.k (k := Sum.inl p) hb2 (small1000' (by omega)), q⟩
    · refine ⟨_, rfl, _, rfl, h, _, dx, _, _, rfl, hh, T.cl_Net, T.na_Net__nexts, nf_nexts, _, rfl, dn, _, rfl, DPut.k (k := Sum.inl p) hN.hn (small1000' (by omega)), ?_⟩
      exact ⟨_, rfl, h, _, dx, _, _, rfl, hh2, T.cl_Net, T.na_Net__befores, nf_befores, _, rfl, db, _, rfl, DPut.k (k := Sum.inl p) hb2 (small1000' (by omega)), q⟩
--CUT
theorem okB.atom {b : V} (h : okB b) : atomV b = true := by
  rcases h with rfl | ⟨z, rfl⟩ <;> rfl
theorem okB.tell {n p u : Int} {b : V} : okB (hTell n p u b) := by
  cases b with
  | int z =>
    unfold hTell
    dsimp only
    split
    · exact .inr ⟨_, rfl⟩
    · exact .inr ⟨_, rfl⟩
  | _ => exact .inr ⟨_, rfl⟩
theorem okB.hB {n p : Int} {b : V} (o : okB b) : ∀ L : Let, okB (hB n p b L)
  | .tell _ _ => okB.tell
  | .ask _ _ => o
  | .answer _ _ _ => o
theorem ans_atoms {p : Int} {b : V} {ys : List V} : ∀ L : Let, hA p b L = some ys → ys.length ≤ 100000 ∧ ∀ y ∈ ys, atomV y = true := by
  intro L h
  cases L with
  | ask r u =>
    cases b with
    | int z =>
      cases h
      refine ⟨by show 4 ≤ 100000; decide, fun y hy => ?_⟩
      simp only [List.mem_cons, List.not_mem_nil, or_false] at hy
      rcases hy with rfl | rfl | rfl | rfl <;> rfl
    | _ => cases h
  | tell _ _ => cases h
  | answer _ _ _ => cases h
/-- two answers are alike -/
theorem ans_same {H : Hp} {p : Int} {b : V} {L : Let} {v u : V} (h1 : match hA p b L with | none => v = .non | some ys => ∃ a, v = .ref a ∧ H a = some (.tup ys)) (h2 : match hA p b L with | none => u = .non | some ys => ∃ a, u = .ref a ∧ H a = some (.tup ys)) : Sm K 2 H v u := by
  cases e : hA p b L with
  | none =>
    rw [e] at h1 h2
    dsimp only at h1 h2
    rw [h1, h2]
    exact .atom rfl
  | some ys =>
    rw [e] at h1 h2
    obtain ⟨a, rfl, e1⟩ := h1
    obtain ⟨a2, rfl, e2⟩ := h2
    obtain ⟨l, m⟩ := ans_atoms L e
    refine .tup (SqT.of e1) (SqT.of e2) rfl l fun i x y hx hy => ?_
    rw [hx] at hy
    cases hy
    exact .atom (m x (List.mem_of_getElem? hx))
theorem ans_keep {H H' : Hp} {p : Int} {b : V} {L : Let} {v : V} (h : match hA p b L with | none => v = .non | some ys => ∃ a, v = .ref a ∧ H a = some (.tup ys)) (k : ∀ a ys, H a = some (.tup ys) → H' a = some (.tup ys)) :
    match hA p b L with | none => v = .non | some ys => ∃ a, v = .ref a ∧ H' a = some (.tup ys) := by
  cases e : hA p b L with
  | none => rw [e] at h; exact h
  | some ys =>
    rw [e] at h
    obtain ⟨a, rfl, e1⟩ := h
    exact ⟨a, rfl, k _ _ e1⟩
def sp__law_far (K : PySem.W.Frag) : Sp := fun vs H Q _ => ∃ n a b : Int, vs = [.int n, .int a, .int b] ∧ 0 < n ∧ Q (.int (farL n a b)) H
theorem T0.ok__law_far (T : T0 K mg) : FnOk P w K mg base CX0 1 T.a__law_far T.fd__law_far ["size", "start", "end"] (sp__law_far K) := by
  refine T.F__law_far.ok sc__law_far (fun vs H Q E h => ?_) (fun cdv A outer s H vs Q E hr h => ?_)
  · obtain ⟨n, a, b, rfl, _⟩ := h
    rfl
  · obtain ⟨n, a, b, rfl, hn, q⟩ := h
    refine ⟨_, (pss_cons (ps_set (i := 3) sc__law_far.nd rfl (Or.inl rfl) (pe_op op_modN (pe_callTy call_int1 (by rfl) T.m_int (by decide +kernel) (pa_cons (pe_op op_sub (pv 2) (pv 1)) pa_nil)) (pv 0)))
        (pss_cons (ps_if (pt_cmpR op_eq (pv 3) pe_int (nomark _)) (pss_one (ps_ret (pv 0))) pss_nil)
        (pss_one (ps_ret (pv 3))))), ?_⟩
    rw [far_eq a b hn] at q
    refine ⟨_, rfl, _, rfl, _, _, rfl, rfl, .inl ⟨_, rfl, _, rfl, _, _, rfl, rfl, by omega, ?_⟩⟩
    refine ⟨_, rfl, rfl, _, rfl, ite2 (fun e => ?_) (fun e => ?_)⟩
    · rw [if_pos (V.int.inj (of_decide_eq_true e))] at q
      exact ⟨_, rfl, q⟩
    · rw [if_neg (fun z => e (decide_eq_true (congrArg V.int z)))] at q
      exact ⟨_, rfl, q⟩
def sp__law_between (K : PySem.W.Frag) : Sp := fun vs H Q _ => ∃ n a p b : Int, vs = [.int n, .int a, .int p, .int b] ∧ 0 < n ∧ Q (.bl (decide (farL n a p < farL n a b))) H
theorem T0.ok__law_between (T : T0 K mg) : FnOk P w K mg base CX0 2 T.a__law_between T.fd__law_between ["size", "start", "place", "end"] (sp__law_between K) := by
  refine T.F__law_between.ok sc__law_between (fun vs H Q E h => ?_) (fun cdv A outer s H vs Q E hr h => ?_)
  · obtain ⟨n, a, p, b, rfl, _⟩ := h
    rfl
  · obtain ⟨n, a, p, b, rfl, hn, q⟩ := h
    refine ⟨_, (pss_cons (ps_if (PW.pt (pw_or (pt_cmpR op_eq (pv 2) (pv 1) (nomark _)) (pw_or1 (pt_cmpR op_eq (pv 2) (pv 3) (nomark _))))) (pss_one (ps_ret pe_bl)) pss_nil)
        (pss_one (ps_ret (pe_cmpR op_lt (pe_call T.ok__law_far hr (by rfl) T.g__law_far T.k__law_far T.b__law_far .nil pass0 (pa_cons (pv 0) (pa_cons (pv 1) (pa_cons (pv 2) pa_nil)))) (pe_call T.ok__law_far hr (by rfl) T.g__law_far T.k__law_far T.b__law_far .nil pass0 (pa_cons (pv 0) (pa_cons (pv 1) (pa_cons (pv 3) pa_nil)))) (nomark _))))), ?_⟩
    refine v_when (by walk_at "ans") (fun e => ?_) (fun e => ?_)
    · rw [dec_int, dec_int] at e
      have e : p = a ∨ p = b := by simpa using e
      have f : ¬ (farL n a p < farL n a b) := by
        rcases e with rfl | rfl
        · have h1 := far_range p b hn
          rw [far_eq p p hn, Int.sub_self, Int.zero_fmod, if_pos rfl]
          omega
        · omega
      rw [decide_eq_false f] at q
      exact q
    · exact ⟨_, rfl, _, rfl, _, rfl, n, a, p, rfl, hn, _, rfl, _, rfl, _, rfl, n, a, b, rfl, hn, _, _, rfl, rfl, q⟩
def Let.ns : Let → List Int
  | .tell r u => [r, u]
  | .ask r u => [r, u]
  | .answer r u m => [r, u, m]
def Let.fr : Let → Int
  | .tell _ u => u
  | .ask _ u => u
  | .answer _ u _ => u
def Let.wd : Let → Str
  | .tell _ _ => "tell"
  | .ask _ _ => "ask"
  | .answer _ _ _ => "answer"
theorem Let.at2 (L : Let) : atI L.vals (2 : Int) = some (.int L.fr) := by cases L <;> rfl
theorem Let.vals_eq (L : Let) : L.vals = .str L.wd :: L.ns.map V.int := by cases L <;> rfl
theorem Let.to_ns (L : Let) : L.to ∈ L.ns := by cases L <;> exact List.mem_cons_self
def nN (n r x : Int) (b : V) (L : Let) (nx : List (Key × V)) : List (Key × V) := if hA r b L = none ∧ hB n r b L = b ∧ hN n r x L ≠ x then putK nx (.inl r) (.int (hN n r x L)) else nx
def nB (n r : Int) (b : V) (L : Let) (bs : List (Key × V)) : List (Key × V) := if hA r b L = none ∧ hB n r b L ≠ b then putK bs (.inl r) (hB n r b L) else bs
def nT (n r x : Int) (b : V) (L : Let) : List V := if hA r b L ≠ none then [.str "wrote", .int r, hB n r b L] else if hB n r b L ≠ b then [.str "before", .int r, hB n r b L] else if hN n r x L ≠ x then [.str "next", .int r, .int (hN n r x L)] else [.str "kept", .int r, .non]
theorem far_self (z : Int) {n : Int} (hn : 0 < n) : farL n z z = n := by rw [far_eq z z hn, Int.sub_self, Int.zero_fmod, if_pos rfl]
theorem far_ne {n z u r : Int} (hn : 0 < n) (h : farL n z u < farL n z r) : u ≠ z := fun e => by
  subst e
  have := far_range u r hn
  have := far_self u hn
  omega
theorem far_ne2 {n z u r : Int} (h : farL n z u < farL n z r) : u ≠ r := fun e => by
  subst e
  omega
def sp__law_read (K : PySem.W.Frag) : Sp := fun vs H Q _ => ∃ (dN dB pO lt : Addr) (n x : Int) (k : Nat) (L : Let) (nx bs : List (Key × V)) (ps : List V), vs = [.int n, .ref dN, .ref dB, .ref pO, .int k] ∧ H dN = some (.dK nx) ∧ H dB = some (.dK bs) ∧ H pO = some (.lst ps) ∧ ps[k]? = some (.ref lt) ∧ H lt = some (.tup L.vals) ∧ valV nx (.inl L.to) = some (.int x) ∧ okB (bef bs L.to) ∧ 0 < n ∧ dN ≠ dB ∧ nx.length ≤ 1000 ∧ bs.length ≤ 1000 ∧ ps.length ≤ 1000 ∧
  ∀ H' v ps', (match hA L.to (bef bs L.to) L with | none => ps' = ps.eraseIdx k | some ys => ∃ a, ps' = ps.eraseIdx k ++ [.ref a] ∧ H' a = some (.tup ys)) → (∀ a o, a ≠ dN → a ≠ dB → a ≠ pO → H a = some o → H' a = some o) →
    H' dN = some (.dK (nN n L.to x (bef bs L.to) L nx)) → H' dB = some (.dK (nB n L.to (bef bs L.to) L bs)) → H' pO = some (.lst ps') → (∃ a, v = .ref a ∧ H' a = some (.tup (nT n L.to x (bef bs L.to) L))) → Q v H'
theorem T0.ok__law_read (T : T0 K mg) : FnOk P w K mg base CX0 3 T.a__law_read T.fd__law_read ["size", "nexts", "behinds", "post", "at"] (sp__law_read K) := by
  refine T.F__law_read.ok sc__law_read (fun vs H Q E h => ?_) (fun cdv A outer s H vs Q E hr h => ?_)
  · obtain ⟨dN, dB, pO, lt, n, x, k, L, nx, bs, ps, rfl, _⟩ := h
    rfl
  · obtain ⟨dN, dB, pO, lt, n, x, k, L, nx, bs, ps, rfl, hN, hB', hP, hv, hlt, hx, ob, hn, ne, z1, z2, z3, q⟩ := h
    have hk := (List.getElem?_eq_some_iff.mp hv).1
    refine ⟨_, (pss_cons (ps_set (i := 5) sc__law_read.nd rfl (Or.inl rfl) (pe_bm PySem.F.plainAttrs_list PySem.F.slot_list_pop PySem.F.type_list_pop mt_popAt (pv 3) (pa_cons (pv 4) pa_nil)))
        (pss_cons (ps_set (i := 6) sc__law_read.nd rfl (Or.inl rfl) (pe_ix (ix_tupK (K := K)) (pv 5) pe_int (fun _ _ => rfl)))
        (pss_cons (ps_set (i := 7) sc__law_read.nd rfl (Or.inl rfl) (pe_ix (ix_tupK (K := K)) (pv 5) pe_int (fun _ _ => rfl)))
        (pss_cons (ps_set (i := 8) sc__law_read.nd rfl (Or.inl rfl) (pe_dget1 (un1 hr) (pv 2) (pv 6) ⟨rfl, rfl, rfl, rfl⟩))
        (pss_cons (ps_if (pt_cmpR op_eq (pe_ix (ix_tupK (K := K)) (pv 5) pe_int (fun _ _ => rfl)) pe_str (nomark _)) (pss_one (ps_if (PW.pt (pw_or (pt_cmpR op_isN (pv 8) pe_non (nomark _)) (pw_or1 (pt_val (pe_call T.ok__law_between hr (by rfl) T.g__law_between T.k__law_between T.b__law_between .nil pass0 (pa_cons (pv 0) (pa_cons (pv 8) (pa_cons (pv 7) (pa_cons (pv 6) pa_nil))))))))) (pss_cons (ps_asg (pv 7) (pg_sub (pv 2) (pv 6) (set_dict (un1 hr))))
        (pss_one (ps_ret (pe_tup (pa_cons pe_str (pa_cons (pv 6) (pa_cons (pv 7) pa_nil))))))) pss_nil)) (pss_one (ps_if (pt_cmpR op_eq (pe_ix (ix_tupK (K := K)) (pv 5) pe_int (fun _ _ => rfl)) pe_str (nomark _)) (pss_one (ps_if (pt_cmpR op_notN (pv 8) pe_non (nomark _)) (pss_cons (ps_expr (pe_bm PySem.F.plainAttrs_list PySem.F.slot_list_append PySem.F.type_list_append mt_append (pv 3) (pa_cons (pe_tup (pa_cons pe_str (pa_cons (pv 7) (pa_cons (pv 6) (pa_cons (pv 8) pa_nil))))) pa_nil)))
        (pss_one (ps_ret (pe_tup (pa_cons pe_str (pa_cons (pv 6) (pa_cons (pv 8) pa_nil))))))) pss_nil)) (pss_one (ps_if (PW.pt (pw_and (pt_cmpR op_eq (pe_dget (un1 hr) (pv 1) (pv 6) (fun _ _ => rfl)) (pv 7) (nomark _)) (pw_and1 (pt_val (pe_call T.ok__law_between hr (by rfl) T.g__law_between T.k__law_between T.b__law_between .nil pass0 (pa_cons (pv 0) (pa_cons (pv 6) (pa_cons (pe_ix (ix_tupK (K := K)) (pv 5) pe_int (fun _ _ => rfl)) (pa_cons (pv 7) pa_nil))))))))) (pss_cons (ps_asg (pe_ix (ix_tupK (K := K)) (pv 5) pe_int (fun _ _ => rfl)) (pg_sub (pv 1) (pv 6) (set_dict (un1 hr))))
        (pss_one (ps_ret (pe_tup (pa_cons pe_str (pa_cons (pv 6) (pa_cons (pe_ix (ix_tupK (K := K)) (pv 5) pe_int (fun _ _ => rfl)) pa_nil))))))) pss_nil)))))
        (pss_one (ps_ret (pe_tup (pa_cons pe_str (pa_cons (pv 6) (pa_cons pe_non pa_nil))))))))))), ?_⟩
    refine ⟨_, rfl, .inl ⟨rfl, _, SqL.of hP⟩, _, rfl, pO, ps, k, k, .ref lt, rfl, rfl, hP, by omega, by omega, seq_nat hk, hv, ?_⟩
    have f1 : ∀ a o, a ≠ pO → H a = some o → upd H pO (.lst (ps.eraseIdx k)) a = some o := fun a o na e => (upd_ne na).trans e
    have N1 := f1 _ _ (ne_of hN hP (by intro z; cases z)) hN
    have B1 := f1 _ _ (ne_of hB' hP (by intro z; cases z)) hB'
    have lt1 := f1 _ _ (ne_of hlt hP (by intro z; cases z)) hlt
    have P1 : upd H pO (.lst (ps.eraseIdx k)) pO = some (.lst (ps.eraseIdx k)) := upd_same
    generalize upd H pO (.lst (ps.eraseIdx k)) = H1 at f1 N1 B1 lt1 P1
    have nNP : dN ≠ pO := ne_of hN hP (by intro z; cases z)
    have nBP : dB ≠ pO := ne_of hB' hP (by intro z; cases z)
    have nln : lt ≠ dN := ne_of hlt hN (by intro z; cases z)
    have le : (ps.eraseIdx k).length ≤ 1000 := Nat.le_trans (List.length_eraseIdx_le _ _) z3
    refine ⟨_, rfl, lt, _, 1, _, rfl, rfl, SqT.of lt1, L.at1, ?_⟩
    refine ⟨_, rfl, lt, _, 2, _, rfl, rfl, SqT.of lt1, L.at2, ?_⟩
    refine ⟨_, rfl, dB, rfl, .inl ⟨_, .inl B1⟩, _, rfl, _, DGet.k (k := Sum.inl L.to) B1, ?_⟩
    have kept : hA L.to (bef bs L.to) L = none → Z.hB n L.to (bef bs L.to) L = bef bs L.to → Z.hN n L.to x L = x → ∀ p, H1 p = none → Q (.ref p) (upd H1 p (.tup [.str "kept", .int L.to, .non])) := fun a1 a2 a3 p np => by
      refine q _ _ (ps.eraseIdx k) (by rw [a1]) (fun a o n1 n2 n3 e => (upd_ne (ne_of_none (f1 a o n3 e) np)).trans (f1 a o n3 e)) ?_ ?_ ((upd_ne (ne_of_none P1 np)).trans P1) ⟨p, rfl, ?_⟩
      · rw [nN, if_neg (fun z => z.2.2 a3)]
        exact (upd_ne (ne_of_none N1 np)).trans N1
      · rw [nB, if_neg (fun z => z.2 a2)]
        exact (upd_ne (ne_of_none B1 np)).trans B1
      · rw [upd_same, nT, if_neg (fun z => z a1), if_neg (fun z => z a2), if_neg (fun z => z a3)]
    cases L with
    | tell r u =>
      refine ⟨_, rfl, lt, _, 0, .str "tell", rfl, rfl, SqT.of lt1, rfl, rfl, _, rfl, ?_⟩
      rw [show decide (V.str "tell" = V.str "tell") = true by decide +kernel]
      refine iteT ?_
      have set : Z.hB n r (bef bs r) (.tell r u) = .int u → .int u ≠ bef bs r → rSetD (.ref dB) (.int r) (.int u) H1 fun H2 => ∀ p, H2 p = none → Q (.ref p) (upd H2 p (.tup [.str "before", .int r, .int u])) := fun e1 e2 => by
        refine ⟨dB, _, rfl, DPut.k (k := Sum.inl r) B1 (small1000' (by omega)), fun p np => ?_⟩
        have f2 : ∀ a o, a ≠ dB → H1 a = some o → upd (upd H1 dB (.dK (putK bs (.inl r) (.int u)))) p (.tup [.str "before", .int r, .int u]) a = some o := fun a o na e => (upd_ne (ne_of_none ((upd_ne na).trans e) np)).trans ((upd_ne na).trans e)
        refine q _ _ (ps.eraseIdx k) rfl (fun a o n1 n2 n3 e => f2 _ _ n2 (f1 a o n3 e)) ?_ ?_ (f2 _ _ nBP.symm P1) ⟨p, rfl, ?_⟩
        · rw [nN, if_neg (fun z => z.2.2 rfl)]
          exact f2 _ _ ne N1
        · rw [nB, if_pos ⟨rfl, fun z => e2 (e1.symm.trans z)⟩]
          rw [show Z.hB n (Let.tell r u).to (bef bs (Let.tell r u).to) (Let.tell r u) = .int u from e1]
          exact (upd_ne (ne_of_none (upd_same) np)).trans upd_same
        · rw [upd_same, nT, if_neg (fun z => z rfl), if_pos (show Z.hB n (Let.tell r u).to (bef bs (Let.tell r u).to) (Let.tell r u) ≠ bef bs (Let.tell r u).to from fun z => e2 (e1.symm.trans z))]
          rw [show Z.hB n (Let.tell r u).to (bef bs (Let.tell r u).to) (Let.tell r u) = .int u from e1]
          rfl
      refine ⟨_, rfl, rfl, _, rfl, ite2 (fun e => ?_) (fun e => ?_)⟩
      · have e : bef bs r = .non := of_decide_eq_true e
        refine iteT ?_
        obtain ⟨D', H2, e1, e2, st⟩ := set (by rw [e]; rfl) (by rw [e]; exact fun z => nomatch z)
        exact ⟨_, rfl, _, rfl, _, rfl, D', H2, e1, e2, _, rfl, _, rfl, lenL (by show 3 ≤ 100000; decide), st⟩
      · rcases ob with ob | ⟨z, ob⟩
        · exact absurd (decide_eq_true ob) e
        · have ob : bef bs r = .int z := ob
          refine ⟨_, rfl, _, rfl, _, rfl, _, rfl, n, z, u, r, by rw [← ob]; rfl, hn, _, rfl, ite2 (fun f => ?_) (fun f => ?_)⟩
          · have f := of_decide_eq_true f
            obtain ⟨D', H2, e1, e2, st⟩ := set (by rw [ob]; exact if_pos f) (by rw [ob]; exact fun z => far_ne hn f (V.int.inj z))
            exact ⟨_, rfl, _, rfl, _, rfl, D', H2, e1, e2, _, rfl, _, rfl, lenL (by show 3 ≤ 100000; decide), st⟩
          · refine ⟨_, rfl, lenL (by show 3 ≤ 100000; decide), kept rfl ?_ rfl⟩
            show hTell n r u (bef bs r) = bef bs r
            rw [ob]
            exact if_neg (fun g => f (decide_eq_true g))
    | ask r u =>
      refine ⟨_, rfl, lt, _, 0, .str "ask", rfl, rfl, SqT.of lt1, rfl, rfl, _, rfl, ?_⟩
      rw [show decide (V.str "ask" = V.str "tell") = false by decide +kernel]
      refine iteF ⟨_, rfl, lt, _, 0, .str "ask", rfl, rfl, SqT.of lt1, rfl, rfl, _, rfl, ?_⟩
      rw [show decide (V.str "ask" = V.str "ask") = true by decide +kernel]
      refine iteT ⟨_, rfl, rfl, _, rfl, ?_⟩
      rcases ob with ob | ⟨z, ob⟩
      · have ob : bef bs r = .non := ob
        refine iteF' (by show (!decide (bef bs r = .non)) = false; rw [decide_eq_true ob]; rfl) ?_
        exact ⟨_, rfl, lenL (by show 3 ≤ 100000; decide), kept (by show hA r (bef bs r) (.ask r u) = none; rw [ob]; rfl) rfl rfl⟩
      · have ob : bef bs r = .int z := ob
        have ea : hA r (bef bs r) (.ask r u) = some [.str "answer", .int u, .int r, .int z] := by rw [ob]; rfl
        refine iteT' (by show (!decide (bef bs r = .non)) = true; rw [ob]; rfl) ?_
        refine ⟨_, rfl, .inl ⟨rfl, _, SqL.of P1⟩, _, rfl, _, rfl, _, rfl, lenL (by show 4 ≤ 100000; decide), fun p np => ?_⟩
        have npP : p ≠ pO := fun e => by rw [e, P1] at np; cases np
        refine ⟨pO, _, _, rfl, rfl, (upd_ne npP.symm).trans P1, small1000' (by omega), ?_⟩
        have f2 : ∀ a o, a ≠ pO → H1 a = some o → upd (upd H1 p (.tup [.str "answer", .int u, .int r, bef bs r])) pO (.lst (ps.eraseIdx k ++ [.ref p])) a = some o := fun a o na e => (upd_ne na).trans ((upd_ne (ne_of_none e np)).trans e)
        have p2 : upd (upd H1 p (.tup [.str "answer", .int u, .int r, bef bs r])) pO (.lst (ps.eraseIdx k ++ [.ref p])) p = some (.tup [.str "answer", .int u, .int r, bef bs r]) := (upd_ne npP).trans upd_same
        have P2 : upd (upd H1 p (.tup [.str "answer", .int u, .int r, bef bs r])) pO (.lst (ps.eraseIdx k ++ [.ref p])) pO = some (.lst (ps.eraseIdx k ++ [.ref p])) := upd_same
        refine ⟨_, rfl, _, rfl, lenL (by show 3 ≤ 100000; decide), fun p3 np3 => ?_⟩
        have np3 : upd (upd H1 p (.tup [.str "answer", .int u, .int r, bef bs r])) pO (.lst (ps.eraseIdx k ++ [.ref p])) p3 = none := np3
        refine q _ _ (ps.eraseIdx k ++ [.ref p]) ?_ (fun a o n1 n2 n3 e => ?_) ?_ ?_ ?_ ⟨p3, rfl, ?_⟩
        · rw [show hA (Let.ask r u).to (bef bs (Let.ask r u).to) (.ask r u) = _ from ea]
          refine ⟨p, rfl, ?_⟩
          exact ((upd_ne (ne_of_none p2 np3)).trans p2).trans (by rw [ob])
        · have e2 := f2 _ _ n3 (f1 a o n3 e)
          exact (upd_ne (ne_of_none e2 np3)).trans e2
        · rw [nN, if_neg (fun z => z.2.2 rfl)]
          have e2 := f2 _ _ nNP N1
          exact (upd_ne (ne_of_none e2 np3)).trans e2
        · rw [nB, if_neg (fun z => z.2 rfl)]
          have e2 := f2 _ _ nBP B1
          exact (upd_ne (ne_of_none e2 np3)).trans e2
        · exact (upd_ne (ne_of_none P2 np3)).trans P2
        · rw [upd_same, nT, if_pos (fun z => by rw [show hA (Let.ask r u).to (bef bs (Let.ask r u).to) (.ask r u) = _ from ea] at z; cases z)]
          rfl
    | answer r u m =>
      refine ⟨_, rfl, lt, _, 0, .str "answer", rfl, rfl, SqT.of lt1, rfl, rfl, _, rfl, ?_⟩
      rw [show decide (V.str "answer" = V.str "tell") = false by decide +kernel]
      refine iteF ⟨_, rfl, lt, _, 0, .str "answer", rfl, rfl, SqT.of lt1, rfl, rfl, _, rfl, ?_⟩
      rw [show decide (V.str "answer" = V.str "ask") = false by decide +kernel]
      refine iteF ⟨_, rfl, _, rfl, dN, _, rfl, dget_of N1 hx, _, rfl, rfl, _, rfl, ite2 (fun e => ?_) (fun e => ?_)⟩
      · have e : x = u := V.int.inj (of_decide_eq_true e)
        refine ⟨_, rfl, _, rfl, _, rfl, lt, _, 3, .int m, rfl, rfl, SqT.of lt1, rfl, _, rfl, n, r, m, u, rfl, hn, _, rfl, ite2 (fun f => ?_) (fun f => ?_)⟩
        · have f := of_decide_eq_true f
          have g : Z.hN n r x (.answer r u m) = m := if_pos ⟨e, f⟩
          have mx : m ≠ x := by rw [e]; exact far_ne2 f
          refine ⟨_, rfl, lt, _, 3, .int m, rfl, rfl, SqT.of lt1, rfl, _, rfl, _, rfl, dN, _, rfl, DPut.k (k := Sum.inl r) N1 (small1000' (by omega)), ?_⟩
          have f2 : ∀ a o, a ≠ dN → H1 a = some o → upd H1 dN (.dK (putK nx (.inl r) (.int m))) a = some o := fun a o na e => (upd_ne na).trans e
          have N2 : upd H1 dN (.dK (putK nx (.inl r) (.int m))) dN = some (.dK (putK nx (.inl r) (.int m))) := upd_same
          have lt2 := f2 _ _ nln lt1
          refine ⟨_, rfl, _, rfl, lt, _, 3, .int m, rfl, rfl, SqT.of lt2, rfl, lenL (by show 3 ≤ 100000; decide), fun p np => ?_⟩
          have np : upd H1 dN (.dK (putK nx (.inl r) (.int m))) p = none := np
          refine q _ _ (ps.eraseIdx k) rfl (fun a o n1 n2 n3 e => ?_) ?_ ?_ ?_ ⟨p, rfl, ?_⟩
          · have e2 := f2 _ _ n1 (f1 a o n3 e)
            exact (upd_ne (ne_of_none e2 np)).trans e2
          · rw [nN, if_pos ⟨rfl, rfl, fun z => mx (by rw [← z]; exact g.symm)⟩, show Z.hN n (Let.answer r u m).to x (.answer r u m) = m from g]
            exact (upd_ne (ne_of_none N2 np)).trans N2
          · rw [nB, if_neg (fun z => z.2 rfl)]
            have e2 := f2 _ _ ne.symm B1
            exact (upd_ne (ne_of_none e2 np)).trans e2
          · have e2 := f2 _ _ nNP.symm P1
            exact (upd_ne (ne_of_none e2 np)).trans e2
          · rw [upd_same, nT, if_neg (fun z => z rfl), if_neg (fun z => z rfl), if_pos (fun z => mx (by rw [← z]; exact g.symm)), show Z.hN n (Let.answer r u m).to x (.answer r u m) = m from g]
        · exact ⟨_, rfl, lenL (by show 3 ≤ 100000; decide), kept rfl rfl (if_neg (fun z => f (decide_eq_true z.2)))⟩
      · exact ⟨_, rfl, lenL (by show 3 ≤ 100000; decide), kept rfl rfl (if_neg (fun z => e (decide_eq_true (congrArg V.int z.1))))⟩
def LetSame (H : Hp) (ks : List Int) (a b : V) : Prop := ∃ (p q : Addr) (L : Let), a = .ref p ∧ b = .ref q ∧ H p = some (.tup L.vals) ∧ H q = some (.tup L.vals) ∧ ∀ k ∈ L.ns, k ∈ ks
def Alike (R : V → V → Prop) (xs ys : List V) : Prop := xs.length = ys.length ∧ ∀ (i : Nat) x y, xs[i]? = some x → ys[i]? = some y → R x y
theorem Alike.mono {R R' : V → V → Prop} {xs ys : List V} (h : Alike R xs ys) (f : ∀ x y, R x y → R' x y) : Alike R' xs ys := ⟨h.1, fun i x y e1 e2 => f _ _ (h.2 i x y e1 e2)⟩
theorem Alike.erase {R : V → V → Prop} {xs ys : List V} (h : Alike R xs ys) (k : Nat) : Alike R (xs.eraseIdx k) (ys.eraseIdx k) := by
  refine ⟨by rw [List.length_eraseIdx, List.length_eraseIdx, h.1], fun i x y e1 e2 => ?_⟩
  rw [List.getElem?_eraseIdx] at e1 e2
  split at e1
  · rename_i g
    rw [if_pos g] at e2
    exact h.2 _ _ _ e1 e2
  · rename_i g
    rw [if_neg g] at e2
    exact h.2 _ _ _ e1 e2
theorem Alike.app {R : V → V → Prop} {xs ys : List V} {a b : V} (h : Alike R xs ys) (r : R a b) : Alike R (xs ++ [a]) (ys ++ [b]) := by
  refine ⟨by rw [List.length_append, List.length_append, h.1]; rfl, fun i x y e1 e2 => ?_⟩
  rw [List.getElem?_append] at e1 e2
  by_cases g : i < xs.length
  · rw [if_pos g] at e1
    rw [if_pos (by rw [← h.1]; exact g)] at e2
    exact h.2 _ _ _ e1 e2
  · rw [if_neg g] at e1
    rw [if_neg (by rw [← h.1]; exact g)] at e2
    have e0 : i - xs.length = 0 := by
      have := (List.getElem?_eq_some_iff.mp e1).1
      simp only [List.length_cons, List.length_nil] at this
      omega
    rw [e0] at e1
    rw [← h.1, e0] at e2
    cases e1
    cases e2
    exact r
theorem Alike.get {R : V → V → Prop} {xs ys : List V} (h : Alike R xs ys) {k : Nat} (hk : k < xs.length) : ∃ a b, xs[k]? = some a ∧ ys[k]? = some b ∧ R a b := by
  have h2 : k < ys.length := by rw [← h.1]; exact hk
  exact ⟨_, _, List.getElem?_eq_getElem hk, List.getElem?_eq_getElem h2, h.2 k _ _ (List.getElem?_eq_getElem hk) (List.getElem?_eq_getElem h2)⟩
theorem LetSame.mono {H H' : Hp} {ks ks' : List Int} {a b : V} (h : LetSame H ks a b) (f : ∀ p xs, H p = some (.tup xs) → H' p = some (.tup xs)) (g : ∀ k ∈ ks, k ∈ ks') : LetSame H' ks' a b :=
  let ⟨p, q, L, e1, e2, e3, e4, e5⟩ := h
  ⟨p, q, L, e1, e2, f _ _ e3, f _ _ e4, fun k hk => g _ (e5 k hk)⟩
theorem vals_atom (L : Let) : L.vals.length ≤ 100000 ∧ ∀ y ∈ L.vals, atomV y = true := by
  cases L <;> exact ⟨by simp only [Let.vals, List.length_cons, List.length_nil]; omega, by simp [Let.vals, atomV]⟩
theorem tup_same {H : Hp} {a b : Addr} {xs : List V} (h1 : H a = some (.tup xs)) (h2 : H b = some (.tup xs)) (hl : xs.length ≤ 100000) (ha : ∀ y ∈ xs, atomV y = true) : Sm K 2 H (.ref a) (.ref b) :=
  .tup (SqT.of h1) (SqT.of h2) rfl hl fun i x y hx hy => by
    rw [hx] at hy
    cases hy
    exact .atom (ha x (List.mem_of_getElem? hx))
theorem LetSame.sm {H : Hp} {ks : List Int} {a b : V} (h : LetSame H ks a b) : Sm K 2 H a b := by
  obtain ⟨p, q, L, rfl, rfl, e3, e4, _⟩ := h
  exact tup_same e3 e4 (vals_atom L).1 (vals_atom L).2
theorem LetSame.sm' {H : Hp} {ks : List Int} {a b : V} (h : LetSame H ks a b) : Sm K 2 H b a := by
  obtain ⟨p, q, L, rfl, rfl, e3, e4, _⟩ := h
  exact tup_same e4 e3 (vals_atom L).1 (vals_atom L).2
theorem bef_ok {bs : List (Key × V)} {k : Int} (h : ∀ (p : Int) v, valV bs (.inl p) = some v → ∃ x : Int, v = .int x) : okB (bef bs k) := by
  unfold bef
  cases e : valV bs (.inl k) with
  | none => exact .inl rfl
  | some v =>
    obtain ⟨x, rfl⟩ := h _ _ e
    exact .inr ⟨x, rfl⟩
theorem tape_at {H : Hp} {t c : Addr} (h : Tape H t c) : (∃ xs, H t = some (.lst xs)) ∧ ∃ xs, H c = some (.lst xs) := by
  obtain ⟨_, _, _, _, _, e1, e2, _⟩ := h
  exact ⟨⟨_, e1⟩, ⟨_, e2⟩⟩
theorem hf_nf {n n' p x : Int} {b : V} {dn db dl : Addr} (h : hf n p x b = nf n' dn db dl) : False := by
  unfold hf nf at h
  have h1 := (List.cons.inj (List.cons.inj h).2).1
  have h2 : ("place" : Str) = "_nexts" := (Prod.mk.inj h1).1
  exact absurd h2 (by decide +kernel)
theorem keys_putK_old {kvs : List (Key × V)} {k : Key} {v : V} (h : (valV kvs k).isSome = true) : (putK kvs k v).map (·.1) = kvs.map (·.1) := by
  unfold putK
  rw [if_pos (by rw [valV_any]; exact h), List.map_map]
  refine List.map_congr_left fun kv _ => ?_
  show (if kv.1 = k then (kv.1, v) else kv).1 = kv.1
  split <;> rfl
theorem nN_val {n r x j : Int} {b : V} {L : Let} {nx : List (Key × V)} (hx : valV nx (.inl r) = some (.int x)) : valV (nN n r x b L nx) (.inl j) = if j = r then some (.int (hN n r x L)) else valV nx (.inl j) := by
  unfold nN
  split
  · rw [valV_put]
    by_cases e : j = r
    · rw [if_pos e, if_pos (by rw [e])]
    · rw [if_neg e, if_neg (fun z => e (Sum.inl.inj z))]
  · rename_i g
    by_cases e : j = r
    · rw [if_pos e, e, hx]
      have : hN n r x L = x := by
        cases L with
        | tell _ _ => rfl
        | ask _ _ => rfl
        | answer r' u m' => exact Decidable.byContradiction fun z => g ⟨rfl, rfl, z⟩
      rw [this]
    · rw [if_neg e]
theorem nB_val {n r j : Int} {b : V} {L : Let} {bf : List (Key × V)} (hb : valV bf (.inl r) = some b) : valV (nB n r b L bf) (.inl j) = if j = r then some (hB n r b L) else valV bf (.inl j) := by
  unfold nB
  split
  · rw [valV_put]
    by_cases e : j = r
    · rw [if_pos e, if_pos (by rw [e])]
    · rw [if_neg e, if_neg (fun z => e (Sum.inl.inj z))]
  · rename_i g
    by_cases e : j = r
    · rw [if_pos e, e, hb]
      have : hB n r b L = b := by
        cases L with
        | tell r' u => exact Decidable.byContradiction fun z => g ⟨rfl, z⟩
        | ask _ _ => rfl
        | answer _ _ _ => rfl
      rw [this]
    · rw [if_neg e]
theorem nB_bef {n r j : Int} {L : Let} {bs : List (Key × V)} : bef (nB n r (bef bs r) L bs) j = if j = r then hB n r (bef bs r) L else bef bs j := by
  unfold nB
  split
  · rw [bef, valV_put]
    by_cases e : j = r
    · rw [if_pos e, if_pos (by rw [e])]
      rfl
    · rw [if_neg e, if_neg (fun z => e (Sum.inl.inj z))]
      rfl
  · rename_i g
    by_cases e : j = r
    · rw [if_pos e, e]
      have : hB n r (bef bs r) L = bef bs r := by
        cases L with
        | tell r' u => exact Decidable.byContradiction fun z => g ⟨rfl, z⟩
        | ask _ _ => rfl
        | answer _ _ _ => rfl
      rw [this]
    · rw [if_neg e]
theorem hN_mem {n r x : Int} {L : Let} : hN n r x L = x ∨ hN n r x L ∈ L.ns := by
  cases L with
  | tell _ _ => exact .inl rfl
  | ask _ _ => exact .inl rfl
  | answer r' u m =>
    show hAns n r x u m = x ∨ _
    show hAns n r x u m = x ∨ hAns n r x u m ∈ [r', u, m]
    unfold hAns
    split
    · exact .inr (by simp)
    · exact .inl rfl
theorem hB_mem {n r : Int} {b : V} {L : Let} (ob : okB b) : hB n r b L = b ∨ ∃ u ∈ L.ns, hB n r b L = .int u := by
  cases L with
  | tell r' u =>
    show hTell n r u b = b ∨ ∃ u' ∈ [r', u], hTell n r u b = .int u'
    rcases ob with rfl | ⟨z, rfl⟩
    · exact .inr ⟨u, by simp, rfl⟩
    · unfold hTell
      dsimp only
      split
      · exact .inr ⟨u, by simp, rfl⟩
      · exact .inl rfl
  | ask _ _ => exact .inl rfl
  | answer _ _ _ => exact .inl rfl
theorem ne_kind {H : Hp} {a b : Addr} {o u : HO} (h : H a = some o) (g : H b = some u) (e : o ≠ u) : a ≠ b := fun z => by
  rw [z, g] at h
  exact e (Option.some.inj h).symm
theorem nT_head (n r x : Int) (b : V) (L : Let) : ∃ z : Str, atI (nT n r x b L) (0 : Int) = some (.str z) ∧ decide (V.str z = V.str "wrote") = decide (hA r b L ≠ none) := by
  unfold nT
  by_cases e : hA r b L = none
  · rw [if_neg (fun z => z e), decide_eq_false (fun z => z e)]
    split
    · exact ⟨"before", rfl, by decide +kernel⟩
    · split
      · exact ⟨"next", rfl, by decide +kernel⟩
      · exact ⟨"kept", rfl, by decide +kernel⟩
  · rw [if_pos e, decide_eq_true e]
    exact ⟨"wrote", rfl, by decide +kernel⟩
theorem nT_atom {n r x : Int} {b : V} {L : Let} (ob : okB b) : (nT n r x b L).length ≤ 100000 ∧ ∀ y ∈ nT n r x b L, atomV y = true := by
  have ab : atomV (hB n r b L) = true := by
    rcases okB.hB (n := n) (p := r) ob L with h | ⟨z, h⟩ <;> rw [h] <;> rfl
  unfold nT
  split
  · exact ⟨by show 3 ≤ 100000; decide, fun y hy => by
      simp only [List.mem_cons, List.not_mem_nil, or_false] at hy
      rcases hy with rfl | rfl | rfl <;> first | rfl | exact ab⟩
  · split
    · exact ⟨by show 3 ≤ 100000; decide, fun y hy => by
        simp only [List.mem_cons, List.not_mem_nil, or_false] at hy
        rcases hy with rfl | rfl | rfl <;> first | rfl | exact ab⟩
    · split
      · exact ⟨by show 3 ≤ 100000; decide, by simp [atomV]⟩
      · exact ⟨by show 3 ≤ 100000; decide, by simp [atomV]⟩
theorem hA_let {ks : List Int} {r : Int} {b : V} {L : Let} {ys : List V} (h : hA r b L = some ys) (hL : ∀ k ∈ L.ns, k ∈ ks) (hr : r ∈ ks) (hb : ∀ z : Int, b = .int z → z ∈ ks) : ∃ L' : Let, ys = L'.vals ∧ ∀ k ∈ L'.ns, k ∈ ks := by
  cases L with
  | ask r' u =>
    cases b with
    | int z =>
      cases h
      refine ⟨.answer u r z, rfl, fun k hk => ?_⟩
      have hk : k ∈ [u, r, z] := hk
      simp only [List.mem_cons, List.not_mem_nil, or_false] at hk
      rcases hk with rfl | rfl | rfl
      · exact hL _ (by show k ∈ [r', k]; simp)
      · exact hr
      · exact hb _ rfl
    | _ => cases h
  | tell _ _ => cases h
  | answer _ _ _ => cases h
theorem NetAt.but {C a dn db dl z : Addr} {H H' : Hp} {n : Int} {nx bf : List (Key × V)} {ls : List V} (N : NetAt C H a n dn db dl nx bf ls) (k : Kp z H H') (h1 : a ≠ z) (h2 : dn ≠ z) (h3 : db ≠ z) (h4 : dl ≠ z) : NetAt C H' a n dn db dl nx bf ls :=
  ⟨let ⟨dx, e⟩ := N.me; ⟨dx, k _ _ h1 e⟩, k _ _ h2 N.hn, k _ _ h3 N.hb, k _ _ h4 N.hl⟩
theorem perm_sorted_eq : ∀ {xs ys : List Int}, xs.Perm ys → xs.Pairwise (· ≤ ·) → ys.Pairwise (· ≤ ·) → xs = ys
  | [], ys, p, _, _ => by rw [List.nil_perm.mp p]
  | a :: r, [], p, _, _ => by have := p.length_eq; cases this
  | a :: r, b :: s, p, h1, h2 => by
    have ha : a ∈ b :: s := p.mem_iff.mp List.mem_cons_self
    have hb : b ∈ a :: r := p.mem_iff.mpr List.mem_cons_self
    obtain ⟨h3, h4⟩ := List.pairwise_cons.mp h1
    obtain ⟨h5, h6⟩ := List.pairwise_cons.mp h2
    have e : a = b := by
      rcases List.mem_cons.mp ha with e | e
      · exact e
      · rcases List.mem_cons.mp hb with g | g
        · exact g.symm
        · have := h5 a e
          have := h3 b g
          omega
    subst e
    rw [perm_sorted_eq (List.Perm.cons_inv p) h4 h6]
theorem dic_same {K : PySem.W.Frag} {H : Hp} {a b : Addr} {kvs : List (Key × V)} (h1 : H a = some (.dK kvs)) (h2 : H b = some (.dK kvs)) (hl : kvs.length ≤ 100000) (ha : ∀ kv ∈ kvs, atomV kv.2 = true) : Sm K 5 H (.ref a) (.ref b) :=
  .dic h1 h2 rfl hl (fun i x y hx hy => by rw [hx] at hy; cases hy; rfl) fun i x y hx hy => by
    rw [hx] at hy
    cases hy
    exact .atom (ha x (List.mem_of_getElem? hx))
--CUT
/-! ### the two calm rounds, in plain words -/
def iN (nx : List (Key × V)) (y : Int) : Int := match valV nx (.inl y) with | some (.int x) => x | _ => 0
def zO : V → Int | .int z => z | _ => 0
theorem iN_of {nx : List (Key × V)} {y x : Int} (h : valV nx (.inl y) = some (.int x)) : iN nx y = x := by unfold iN; rw [h]
def tellB (n : Int) (nx bs : List (Key × V)) (y : Int) : List (Key × V) := nB n (iN nx y) (bef bs (iN nx y)) (.tell (iN nx y) y) bs
def tells (n : Int) (nx bs : List (Key × V)) (ys : List Int) : List (Key × V) := ys.foldl (tellB n nx) bs
def askL (bs nx : List (Key × V)) (y : Int) : Let := .answer y (iN nx y) (zO (bef bs (iN nx y)))
def askS (n : Int) (bs : List (Key × V)) (s : List (Key × V) × Int) (y : Int) : List (Key × V) × Int := (nN n y (iN s.1 y) (bef bs y) (askL bs s.1 y) s.1, if hN n y (iN s.1 y) (askL bs s.1 y) = iN s.1 y then s.2 else s.2 + 1)
def asks (n : Int) (bs nx : List (Key × V)) (ys : List Int) : List (Key × V) × Int := ys.foldl (askS n bs) (nx, 0)
/-- befores of houses alone -/
def GB (ks : List Int) (bs : List (Key × V)) : Prop := ∀ (p : Int) v, valV bs (.inl p) = some v → p ∈ ks ∧ ∃ x ∈ ks, v = .int x
def GN (ks : List Int) (nx : List (Key × V)) : Prop := nx.map (·.1) = ks.map Sum.inl ∧ ∀ k ∈ ks, ∃ x ∈ ks, valV nx (.inl k) = some (.int x)
def KB (bs : List (Key × V)) : Prop := ∃ js : List Int, bs.map (·.1) = js.map Sum.inl ∧ js.Nodup
theorem tells_succ {n : Int} {nx bs : List (Key × V)} {ys : List Int} {i : Nat} {y : Int} (h : ys[i]? = some y) : tells n nx bs (ys.take (i + 1)) = tellB n nx (tells n nx bs (ys.take i)) y := by
  unfold tells
  rw [List.take_add_one, h, Option.toList_some, List.foldl_append]
  rfl
theorem asks_succ {n : Int} {nx bs : List (Key × V)} {ys : List Int} {i : Nat} {y : Int} (h : ys[i]? = some y) : asks n bs nx (ys.take (i + 1)) = askS n bs (asks n bs nx (ys.take i)) y := by
  unfold asks
  rw [List.take_add_one, h, Option.toList_some, List.foldl_append]
  rfl
theorem GB.nB {ks : List Int} {bs : List (Key × V)} {n r : Int} {L : Let} (g : GB ks bs) (hL : ∀ k ∈ L.ns, k ∈ ks) (hr : r ∈ ks) : GB ks (nB n r (bef bs r) L bs) := fun p v e => by
  unfold Z.nB at e
  split at e
  · rename_i h
    rw [valV_put] at e
    by_cases z : p = r
    · rw [if_pos (by rw [z])] at e
      obtain ⟨u, mu, eu⟩ := (hB_mem (n := n) (r := r) (L := L) (bef_ok fun p v e => let ⟨_, x, _, e2⟩ := g p v e; ⟨x, e2⟩)).resolve_left h.2
      exact ⟨by rw [z]; exact hr, u, hL _ mu, by rw [← Option.some.inj e, eu]⟩
    · rw [if_neg (fun y => z (Sum.inl.inj y))] at e
      exact g p v e
  · exact g p v e
theorem GB.ok {ks : List Int} {bs : List (Key × V)} (g : GB ks bs) (k : Int) : okB (bef bs k) := bef_ok fun p v e => let ⟨_, x, _, e2⟩ := g p v e; ⟨x, e2⟩
theorem GB.some {ks : List Int} {bs : List (Key × V)} (g : GB ks bs) {k : Int} (h : bef bs k ≠ .non) : ∃ z ∈ ks, bef bs k = .int z := by
  unfold bef at h ⊢
  cases e : valV bs (.inl k) with
  | none => rw [e] at h; exact absurd rfl h
  | some v =>
    obtain ⟨_, x, mx, ex⟩ := g k v e
    exact ⟨x, mx, ex⟩
theorem valV_mem_keys {kvs : List (Key × V)} {js : List Int} {p : Int} (h : kvs.map (·.1) = js.map Sum.inl) (hp : p ∈ js) : (valV kvs (.inl p)).isSome = true := by
  induction kvs generalizing js with
  | nil =>
    cases js with
    | nil => cases hp
    | cons a b => cases h
  | cons kv r ih =>
    cases js with
    | nil => cases hp
    | cons j js =>
      obtain ⟨k, v⟩ := kv
      have h1 : k = Sum.inl j := (List.cons.inj h).1
      by_cases e : p = j
      · rw [valV_pos (by rw [h1, e])]
        rfl
      · rw [valV_neg (by rw [h1]; exact fun z => e (Sum.inl.inj z).symm)]
        exact ih (List.cons.inj h).2 ((List.mem_cons.mp hp).resolve_left e)
theorem KB.put {bs : List (Key × V)} {r : Int} {v : V} (h : KB bs) : KB (putK bs (.inl r) v) := by
  obtain ⟨js, e, nd⟩ := h
  by_cases m : r ∈ js
  · exact ⟨js, by rw [keys_putK_old (valV_mem_keys e m)]; exact e, nd⟩
  · refine ⟨js ++ [r], ?_, List.nodup_append.mpr ⟨nd, List.pairwise_singleton _ _, fun a ha b hb z => by rw [List.mem_singleton.mp hb] at z; rw [z] at ha; exact m ha⟩⟩
    rw [putK_new _ (valV_none_keys e m), List.map_append, List.map_append, e]
    rfl
theorem KB.nB {bs : List (Key × V)} {n r : Int} {b : V} {L : Let} (h : KB bs) : KB (nB n r b L bs) := by
  unfold Z.nB
  split
  · exact h.put
  · exact h
theorem GN.nN {ks : List Int} {nx : List (Key × V)} {n r x : Int} {b : V} {L : Let} (g : GN ks nx) (hL : ∀ k ∈ L.ns, k ∈ ks) (hr : r ∈ ks) (hx : valV nx (.inl r) = some (.int x)) : GN ks (nN n r x b L nx) := by
  refine ⟨?_, fun j hj => ?_⟩
  · unfold Z.nN
    split
    · rw [keys_putK_old (by rw [hx]; rfl)]
      exact g.1
    · exact g.1
  · rw [nN_val hx]
    by_cases e : j = r
    · rw [if_pos e]
      refine ⟨_, ?_, rfl⟩
      rcases hN_mem (n := n) (r := r) (x := x) (L := L) with z | z
      · rw [z]
        obtain ⟨y, my, ey⟩ := g.2 _ hr
        rw [hx] at ey
        rw [V.int.inj (Option.some.inj ey)]
        exact my
      · exact hL _ z
    · rw [if_neg e]
      exact g.2 j hj
theorem nodup_sub_len : ∀ {js ks : List Int}, js.Nodup → (∀ j ∈ js, j ∈ ks) → js.length ≤ ks.length
  | [], ks, _, _ => Nat.zero_le _
  | j :: js, ks, nd, h => by
    obtain ⟨h1, h2⟩ := List.nodup_cons.mp nd
    have m := h j List.mem_cons_self
    have := nodup_sub_len (js := js) (ks := ks.erase j) h2 fun k hk => (List.mem_erase_of_ne (fun z => h1 (by rw [← z]; exact hk))).mpr (h k (List.mem_cons_of_mem _ hk))
    rw [List.length_erase_of_mem m] at this
    have := List.length_pos_of_mem m
    show js.length + 1 ≤ ks.length
    omega
theorem KB.len {ks : List Int} {bs : List (Key × V)} (h : KB bs) (g : GB ks bs) : bs.length ≤ ks.length := by
  obtain ⟨js, e, nd⟩ := h
  have l : bs.length = js.length := by have := congrArg List.length e; rw [List.length_map, List.length_map] at this; exact this
  rw [l]
  refine nodup_sub_len nd fun j hj => ?_
  obtain ⟨v, hv⟩ := Option.isSome_iff_exists.mp (valV_mem_keys e hj)
  exact (g j v hv).1
theorem tell_bef {n : Int} {nx bs : List (Key × V)} {y k : Int} : bef (tellB n nx bs y) k = if k = iN nx y then hTell n (iN nx y) y (bef bs (iN nx y)) else bef bs k := nB_bef
theorem hTell_some {n p u : Int} {b : V} : hTell n p u b ≠ .non := by
  cases b with
  | int z =>
    unfold hTell
    dsimp only
    split <;> exact fun z => nomatch z
  | _ => exact fun z => nomatch z
theorem tells_keep {n : Int} {nx : List (Key × V)} {k : Int} : ∀ {ys : List Int} {bs : List (Key × V)}, bef bs k ≠ .non → bef (tells n nx bs ys) k ≠ .non
  | [], _, h => h
  | y :: ys, bs, h => by
    show bef (tells n nx (tellB n nx bs y) ys) k ≠ .non
    refine tells_keep ?_
    rw [tell_bef]
    split
    · exact hTell_some
    · exact h
theorem tells_has {n : Int} {nx : List (Key × V)} {y : Int} : ∀ {ys : List Int} {bs : List (Key × V)}, y ∈ ys → bef (tells n nx bs ys) (iN nx y) ≠ .non
  | a :: ys, bs, h => by
    show bef (tells n nx (tellB n nx bs a) ys) (iN nx y) ≠ .non
    by_cases e : y = a
    · subst e
      refine tells_keep ?_
      rw [tell_bef, if_pos rfl]
      exact hTell_some
    · exact tells_has ((List.mem_cons.mp h).resolve_left e)
section
variable {ks : List Int} {n : Int} {nx bs : List (Key × V)}
theorem tells_all (gn : GN ks nx) : ∀ {ys : List Int} {bs : List (Key × V)}, (∀ y ∈ ys, y ∈ ks) → GB ks bs → KB bs → GB ks (tells n nx bs ys) ∧ KB (tells n nx bs ys)
  | [], _, _, g, k => ⟨g, k⟩
  | y :: ys, bs, h, g, k => by
    have hy := h y List.mem_cons_self
    obtain ⟨x, mx, ex⟩ := gn.2 y hy
    show GB ks (tells n nx (tellB n nx bs y) ys) ∧ KB (tells n nx (tellB n nx bs y) ys)
    refine tells_all gn (ys := ys) (fun z hz => h z (List.mem_cons_of_mem _ hz)) (GB.nB g (fun k hk => ?_) (by rw [iN_of ex]; exact mx)) k.nB
    have hk : k ∈ [iN nx y, y] := hk
    simp only [List.mem_cons, List.not_mem_nil, or_false] at hk
    rcases hk with rfl | rfl
    · rw [iN_of ex]; exact mx
    · exact hy
/-- what the befores of the net and those beside say alike -/
def VF (ks : List Int) (bf bs : List (Key × V)) : Prop := ∀ k ∈ ks, valV bf (.inl k) = some (bef bs k)
theorem VF.nB {bf : List (Key × V)} {r : Int} {L : Let} (h : VF ks bf bs) (hr : r ∈ ks) : VF ks (nB n r (bef bs r) L bf) (nB n r (bef bs r) L bs) := fun j hj => by
  rw [nB_val (h _ hr), nB_bef]
  by_cases e : j = r
  · rw [if_pos e, if_pos e]
  · rw [if_neg e, if_neg e]
    exact h j hj
theorem nB_len {bf : List (Key × V)} {r : Int} {b : V} {L : Let} (h : (valV bf (.inl r)).isSome = true) : (nB n r b L bf).length = bf.length := by
  unfold Z.nB
  split
  · have := congrArg List.length (keys_putK_old (v := hB n r b L) h)
    rw [List.length_map, List.length_map] at this
    exact this
  · rfl
end
/-! ### a walk over a dict that has just been made -/
def tLk (td : TE) : TE := fun σ H Q => td σ H fun x H1 => ∃ (d : Addr) (kvs : List (Key × V)), x = .ref d ∧ H1 d = some (.dK kvs) ∧ ∀ o, Q x (upd H1 d (.frz o (.dK kvs)))
theorem pe_lk {X : Cx} {e : Expr} {td : TE} (he : PE X e td) : PE X e (tLk td) := by
  refine ⟨fun pins s σ H Q I h => ?_⟩
  refine thn (he.run pins s σ _ _ I h) fun u s1 ⟨x, H1, I1, r, d, kvs, ex, hd, q⟩ => ?_
  obtain ⟨od, I2⟩ := I1.lock hd trivial
  exact ⟨x, _, I2, r, q od⟩
/-- rows of tuples -/
def LAt {α : Type} (f : α → List V) (H : Hp) (vs : List V) (qs : List α) : Prop := vs.length = qs.length ∧ ∀ (i : Nat) v q, vs[i]? = some v → qs[i]? = some q → ∃ a, v = V.ref a ∧ H a = some (.tup (f q))
section
variable {α : Type} {f : α → List V} {H H' : Hp} {vs us : List V} {qs ps : List α}
theorem LAt.nil : LAt f H [] ([] : List α) := ⟨rfl, fun i v q h => by simp at h⟩
theorem LAt.mono (h : LAt f H vs qs) (k : ∀ a xs, H a = some (.tup xs) → H' a = some (.tup xs)) : LAt f H' vs qs := ⟨h.1, fun i v q e1 e2 => let ⟨a, e3, e4⟩ := h.2 i v q e1 e2; ⟨a, e3, k _ _ e4⟩⟩
theorem LAt.same (h : LAt f H vs qs) (s : Same H H') : LAt f H' vs qs := h.mono fun _ _ e => s _ _ e
theorem LAt.cat (h : LAt f H vs qs) (g : LAt f H us ps) : LAt f H (vs ++ us) (qs ++ ps) := by
  refine ⟨by rw [List.length_append, List.length_append, h.1, g.1], fun i v q e1 e2 => ?_⟩
  rw [List.getElem?_append] at e1 e2
  by_cases z : i < vs.length
  · rw [if_pos z] at e1
    rw [if_pos (by rw [← h.1]; exact z)] at e2
    exact h.2 i v q e1 e2
  · rw [if_neg z] at e1
    rw [if_neg (by rw [← h.1]; exact z), ← h.1] at e2
    exact g.2 _ v q e1 e2
theorem LAt.one {a : Addr} {q : α} (e : H a = some (.tup (f q))) : LAt f H [.ref a] [q] := ⟨rfl, fun i v q' e1 e2 => by
  match i with
  | 0 => cases e1; cases e2; exact ⟨a, rfl, e⟩
  | i + 1 => simp at e1⟩
theorem LAt.app {a : Addr} {q : α} (h : LAt f H vs qs) (e : H a = some (.tup (f q))) : LAt f H (vs ++ [.ref a]) (qs ++ [q]) := h.cat (.one e)
theorem LAt.at (h : LAt f H vs qs) {i : Nat} {v : V} (e : vs[i]? = some v) : ∃ a q, qs[i]? = some q ∧ v = .ref a ∧ H a = some (.tup (f q)) := by
  have hi : i < qs.length := by rw [← h.1]; exact (List.getElem?_eq_some_iff.mp e).1
  obtain ⟨a, e1, e2⟩ := h.2 i v _ e (List.getElem?_eq_getElem hi)
  exact ⟨a, _, List.getElem?_eq_getElem hi, e1, e2⟩
theorem LAt.sm {K : PySem.W.Frag} (h : LAt f H vs qs) (g : LAt f H us qs) (ha : ∀ q ∈ qs, (f q).length ≤ 100000 ∧ ∀ y ∈ f q, atomV y = true) : ∀ (i : Nat) x y, vs[i]? = some x → us[i]? = some y → Sm K 2 H x y := fun i x y hx hy => by
  obtain ⟨a, q, e0, rfl, e1⟩ := h.at hx
  obtain ⟨b, e2, e3⟩ := g.2 i y q hy e0
  rw [e2]
  exact tup_same e1 e3 (ha q (List.mem_of_getElem? e0)).1 (ha q (List.mem_of_getElem? e0)).2
end
def pV (q : Int × Int) : List V := [.int q.1, .int q.2]
def sV (n : Int) (q : Int × Int) : List V := [.int q.1, .int q.2, .int (farL n q.1 q.2)]
def rV (f g : Int → V) (y : Int) : List V := [.int y, f y, g y]
def LetP : Let → List (Int × Int)
  | .tell r u => [(u, r)]
  | .ask _ _ => []
  | .answer _ u m => [(m, u)]
/-- a snapshot -/
def Shot (n : Int) (f g : Int → V) (ys : List Int) (H : Hp) (p : Addr) (ls : List V) : Prop := ∃ (r l : Addr) (rs : List V), H p = some (.tup [.int n, .ref r, .ref l]) ∧ H l = some (.tup ls) ∧ H r = some (.tup rs) ∧ LAt (rV f g) H rs ys
def sp_Net__hold (C : Addr) : Sp := fun vs H Q _ => ∃ (h dn db dl : Addr) (n p x : Int) (v : V) (nx bf : List (Key × V)) (ls : List V), vs = [.ref h, .int p, .int x] ∧ NetAt C H h n dn db dl nx bf ls ∧ valV nx (.inl p) = some v ∧ (valV nx (.inl x)).isSome = true ∧ nx.length ≤ 1000 ∧ Q v (upd H dn (.dK (putK nx (.inl p) (.int x))))
theorem T0.ok_Net__hold (T : T0 K mg) : FnOk P w K mg base CX0 2 T.a_Net__hold T.fd_Net__hold ["self", "house", "target"] (sp_Net__hold T.C_Net) := by
  refine T.F_Net__hold.ok sc_Net__hold (fun vs H Q E h => ?_) (fun cdv A outer s H vs Q E hr h => ?_)
  · obtain ⟨h, dn, db, dl, n, p, x, v, nx, bf, ls, rfl, _⟩ := h
    rfl
  · obtain ⟨h, dn, db, dl, n, p, x, v, nx, bf, ls, rfl, hN, hp, hx, hz, q⟩ := h
    obtain ⟨dx, hh⟩ := hN.me
    refine ⟨_, (pss_cons (ps_expr (pe_meth (pv 0) T.cl_Net T.me_Net__check_house T.ok_Net__check_house hr T.b_Net__check_house .nil pass0 (pa_cons (pv 1) pa_nil)))
        (pss_cons (ps_expr (pe_meth (pv 0) T.cl_Net T.me_Net__check_house T.ok_Net__check_house hr T.b_Net__check_house .nil pass0 (pa_cons (pv 2) pa_nil)))
        (pss_cons (ps_set (i := 3) sc_Net__hold.nd rfl (Or.inl rfl) (pe_dget (un1 hr) (show PE _ _ (tFld K _ _) from pe_fld (pv 0) rfl) (pv 1) (fun _ _ => rfl)))
        (pss_cons (ps_asg (pv 2) (pg_sub (show PE _ _ (tFld K _ _) from pe_fld (pv 0) rfl) (pv 1) (set_dict (un1 hr))))
        (pss_one (ps_ret (pv 3))))))), ?_⟩
    refine ⟨_, rfl, h, dx, _, rfl, hh, (by unfold nf; walk_at "lk"), _, rfl, h, dn, db, dl, n, p, nx, bf, ls, rfl, hN, (by rw [hp]; rfl), ?_⟩
    refine ⟨_, rfl, h, dx, _, rfl, hh, (by unfold nf; walk_at "lk"), _, rfl, h, dn, db, dl, n, x, nx, bf, ls, rfl, hN, hx, ?_⟩
    refine ⟨_, rfl, h, _, dx, _, _, rfl, hh, T.cl_Net, T.na_Net__nexts, nf_nexts, _, rfl, dn, _, rfl, dget_of (k := Sum.inl p) hN.hn hp, ?_⟩
    refine ⟨_, rfl, _, rfl, h, _, dx, _, _, rfl, hh, T.cl_Net, T.na_Net__nexts, nf_nexts, _, rfl, dn, _, rfl, DPut.k (k := Sum.inl p) hN.hn (small1000' (by omega)), ?_⟩
    exact ⟨_, rfl, q⟩
def sp_Net__set_before (C : Addr) : Sp := fun vs H Q _ => ∃ (h dn db dl : Addr) (n p : Int) (b : V) (nx bf : List (Key × V)) (ls : List V), vs = [.ref h, .int p, b] ∧ NetAt C H h n dn db dl nx bf ls ∧ (valV nx (.inl p)).isSome = true ∧ (b = .non ∨ ∃ x : Int, b = .int x ∧ (valV nx (.inl x)).isSome = true) ∧ bf.length ≤ 1000 ∧ Q .non (upd H db (.dK (putK bf (.inl p) b)))
theorem T0.ok_Net__set_before (T : T0 K mg) : FnOk P w K mg base CX0 2 T.a_Net__set_before T.fd_Net__set_before ["self", "house", "before"] (sp_Net__set_before T.C_Net) := by
  refine T.F_Net__set_before.ok sc_Net__set_before (fun vs H Q E h => ?_) (fun cdv A outer s H vs Q E hr h => ?_)
  · obtain ⟨h, dn, db, dl, n, p, b, nx, bf, ls, rfl, _⟩ := h
    rfl
  · obtain ⟨h, dn, db, dl, n, p, b, nx, bf, ls, rfl, hN, hp, hb, hz, q⟩ := h
    obtain ⟨dx, hh⟩ := hN.me
    refine ⟨_, (pss_cons (ps_expr (pe_meth (pv 0) T.cl_Net T.me_Net__check_house T.ok_Net__check_house hr T.b_Net__check_house .nil pass0 (pa_cons (pv 1) pa_nil)))
        (pss_cons (ps_if (pt_cmpR op_notN (pv 2) pe_non (nomark _)) (pss_one (ps_expr (pe_meth (pv 0) T.cl_Net T.me_Net__check_house T.ok_Net__check_house hr T.b_Net__check_house .nil pass0 (pa_cons (pv 2) pa_nil)))) pss_nil)
        (pss_one (ps_asg (pv 2) (pg_sub (show PE _ _ (tFld K _ _) from pe_fld (pv 0) rfl) (pv 1) (set_dict (un1 hr))))))), ?_⟩
    refine ⟨_, rfl, h, dx, _, rfl, hh, (by unfold nf; walk_at "lk"), _, rfl, h, dn, db, dl, n, p, nx, bf, ls, rfl, hN, hp, ?_⟩
    refine ⟨_, rfl, rfl, _, rfl, ?_⟩
    rcases hb with rfl | ⟨x, rfl, hx⟩
    · refine iteF' (by rw [decide_eq_true rfl]; rfl) ?_
      exact ⟨_, rfl, _, rfl, h, _, dx, _, _, rfl, hh, T.cl_Net, T.na_Net__befores, nf_befores, _, rfl, db, _, rfl, DPut.k (k := Sum.inl p) hN.hb (small1000' (by omega)), q⟩
    · refine iteT' rfl ?_
      refine ⟨_, rfl, h, dx, _, rfl, hh, (by unfold nf; walk_at "lk"), _, rfl, h, dn, db, dl, n, x, nx, bf, ls, rfl, hN, hx, ?_⟩
      exact ⟨_, rfl, _, rfl, h, _, dx, _, _, rfl, hh, T.cl_Net, T.na_Net__befores, nf_befores, _, rfl, db, _, rfl, DPut.k (k := Sum.inl p) hN.hb (small1000' (by omega)), q⟩
def sp_Net__snapshot (C : Addr) : Sp := fun vs H Q _ => ∃ (h dn db dl : Addr) (n : Int) (nx bf : List (Key × V)) (ls : List V) (ks : List Int) (f g : Int → V), vs = [.ref h] ∧ NetAt C H h n dn db dl nx bf ls ∧ nx.map (·.1) = ks.map Sum.inl ∧ ks.length < 64 ∧ (∀ k ∈ ks, valV nx (.inl k) = some (f k) ∧ valV bf (.inl k) = some (g k)) ∧
  ∀ (ys : List Int) p H', ys.Perm ks → ys.Pairwise (· ≤ ·) → Same H H' → Shot n f g ys H' p ls → Q (.ref p) H'
theorem T0.ok_Net__snapshot (T : T0 K mg) : FnOk P w K mg base CX0 2 T.a_Net__snapshot T.fd_Net__snapshot ["self"] (sp_Net__snapshot T.C_Net) := by
  refine T.F_Net__snapshot.ok sc_Net__snapshot (fun vs H Q E h => ?_) (fun cdv A outer s H vs Q E hr h => ?_)
  · obtain ⟨h, dn, db, dl, n, nx, bf, ls, ks, f, g, rfl, _⟩ := h
    rfl
  · obtain ⟨h, dn, db, dl, n, nx, bf, ls, ks, f, g, rfl, hN, hk, h64, hv, q⟩ := h
    obtain ⟨dx, hh⟩ := hN.me
    refine ⟨_, (pss_cons (ps_setLc (i := 1) (own := [("house", 2)]) (g := gName 2) (by rfl) sc_Net__snapshot.nd rfl rfl (sw_true rfl rfl rfl (by decide +kernel)) (pi_list (pe_meth0 (pv 0) T.cl_Net T.me_Net__houses T.ok_Net__houses hr T.b_Net__houses .nil pass0)) (blkOk_by (own := [("house", 2)]) (N := ["self", "rows", "house"]) (sc := defScope s_Net__snapshot) (by decide +kernel)) (fun _ _ _ _ _ => pg_name (i := 2) sc_Net__snapshot.nd rfl (Or.inl rfl)) (fun _ _ _ _ _ => pts_nil) (fun _ _ _ _ _ => (pe_tup (pa_cons (pv 2) (pa_cons (pe_dget (un1 hr) (show PE _ _ (tFld K _ _) from pe_fld (pv 0) rfl) (pv 2) (fun _ _ => rfl)) (pa_cons (pe_dget (un1 hr) (show PE _ _ (tFld K _ _) from pe_fld (pv 0) rfl) (pv 2) (fun _ _ => rfl)) pa_nil))))))
        (pss_one (ps_ret (pe_tup (pa_cons (show PE _ _ (tFld K _ _) from pe_fld (pv 0) rfl) (pa_cons (pe_callTy (call_tuple_ofK (K := K)) (by rfl) T.m_tuple (by decide +kernel) (pa_cons (pv 1) pa_nil)) (pa_cons (pe_callTy (call_tuple_ofK (K := K)) (by rfl) T.m_tuple (by decide +kernel) (pa_cons (show PE _ _ (tFld K _ _) from pe_fld (pv 0) rfl) pa_nil)) pa_nil))))))), ?_⟩
    refine ⟨_, rfl, h, dx, _, rfl, hh, (by unfold nf; walk_at "lk"), h, dn, db, dl, n, nx, bf, ls, ks, rfl, hN, hk, h64, fun ys l perm pw nl => ?_⟩
    have hl : upd H l (.lst (ys.map V.int)) l = some (.lst (ys.map V.int)) := upd_same
    have sm := same_upd (o := .lst (ys.map V.int)) nl
    generalize upd H l (.lst (ys.map V.int)) = H1 at hl sm
    have ylen := perm.length_eq
    refine ⟨l, rfl, ⟨_, SqL.of hl⟩, fun D hD => ?_⟩
    refine lc_list (K := K) (a := l) (xs := ys.map V.int) (fun i H' => Same H1 H' ∧ ∃ rs, H' D = some (.lst rs) ∧ LAt (rV f g) H' rs (ys.take i)) ⟨same_upd hD, [], upd_same, .nil⟩ (fun i H' _ p => SqL.of (p.1 _ _ hl)) (fun i x H2 hx pv => ?_) (fun H2 pv => ?_)
    · obtain ⟨s2, rs, e2, la⟩ := pv
      rw [List.getElem?_map] at hx
      obtain ⟨y, hy, rfl⟩ := Option.map_eq_some_iff.mp hx
      obtain ⟨v1, v2⟩ := hv y (perm.mem_iff.mp (List.mem_of_getElem? hy))
      have hN2 := (hN.same sm).same s2
      obtain ⟨dx, hh⟩ := hN2.me
      have lr := la.1
      rw [List.length_take] at lr
      refine ⟨rfl, lc_yes ?_⟩
      refine ⟨_, rfl, _, rfl, h, _, dx, _, _, rfl, hh, T.cl_Net, T.na_Net__nexts, nf_nexts, _, rfl, dn, _, rfl, dget_of (k := Sum.inl y) hN2.hn v1, _, rfl, h, _, dx, _, _, rfl, hh, T.cl_Net, T.na_Net__befores, nf_befores, _, rfl, db, _, rfl, dget_of (k := Sum.inl y) hN2.hb v2, lenL (by show 3 ≤ 100000; decide), fun p np => ?_⟩
      have s3 := same_upd (o := .tup [.int y, f y, g y]) np
      have e3 := s3 _ _ e2
      refine ⟨_, e3, small1000' (by omega), fun b o e => ?_, rs ++ [.ref p], upd_same, ?_⟩
      · exact (upd_ne (ne_of_none e hD)).trans (s3 _ _ (s2 _ _ e))
      · rw [List.take_add_one, hy]
        exact ((la.same s3).app (q := y) upd_same).mono fun a xs e => (upd_ne (ne_kind e e3 (fun z => nomatch z))).trans e
    · obtain ⟨s2, rs, e2, la⟩ := pv
      rw [List.length_map, List.take_length] at la
      have hN2 := (hN.same sm).same s2
      obtain ⟨dx, hh⟩ := hN2.me
      refine ⟨_, rfl, h, _, dx, _, _, rfl, hh, T.cl_Net, T.na_Net_size, nf_size, _, rfl, D, rs, rfl, .inl ⟨SqL.of e2, fun r nr => ?_⟩⟩
      have s3 := same_upd (o := .tup rs) nr
      have hr' : upd H2 r (.tup rs) r = some (.tup rs) := upd_same
      generalize upd H2 r (.tup rs) = H3 at s3 hr'
      have hN3 := hN2.same s3
      obtain ⟨dx, hh⟩ := hN3.me
      refine ⟨_, rfl, h, _, dx, _, _, rfl, hh, T.cl_Net, T.na_Net__letters, nf_letters, dl, ls, rfl, .inl ⟨SqL.of hN3.hl, fun l4 nl4 => ?_⟩⟩
      have s4 := same_upd (o := .tup ls) nl4
      have hl4 : upd H3 l4 (.tup ls) l4 = some (.tup ls) := upd_same
      generalize upd H3 l4 (.tup ls) = H4 at s4 hl4
      refine ⟨lenL (by show 3 ≤ 100000; decide), fun p np => ?_⟩
      have s5 := same_upd (o := .tup [.int n, .ref r, .ref l4]) np
      exact q ys p _ perm pw (Same.trans sm (Same.trans s2 (Same.trans s3 (Same.trans s4 s5)))) ⟨r, l4, rs, upd_same, s5 _ _ hl4, s5 _ _ (s4 _ _ hr'), ((la.same s3).same s4).same s5⟩
def sp__pairs_said_by (K : PySem.W.Frag) : Sp := fun vs H Q _ => ∃ (a : Addr) (L : Let), vs = [.ref a] ∧ H a = some (.tup L.vals) ∧ ∀ p us H', Same H H' → H p = none → H' p = some (.lst us) → LAt pV H' us (LetP L) → Q (.ref p) H'
theorem T0.ok__pairs_said_by (T : T0 K mg) : FnOk P w K mg base CX0 1 T.a__pairs_said_by T.fd__pairs_said_by ["letter"] (sp__pairs_said_by K) := by
  refine T.F__pairs_said_by.ok sc__pairs_said_by (fun vs H Q E h => ?_) (fun cdv A outer s H vs Q E hr h => ?_)
  · obtain ⟨a, L, rfl, _⟩ := h
    rfl
  · obtain ⟨a, L, rfl, ha, q⟩ := h
    refine ⟨_, (pss_cons (ps_asg (pv 0) (pg_star rfl (pgs_cons (pg_name (i := 1) sc__pairs_said_by.nd rfl (Or.inl rfl)) (pgs_cons (pg_name (i := 2) sc__pairs_said_by.nd rfl (Or.inl rfl)) (pgs_cons (pg_name (i := 3) sc__pairs_said_by.nd rfl (Or.inl rfl)) (pgs_star (pg_name (i := 4) sc__pairs_said_by.nd rfl (Or.inl rfl))))))))
        (pss_cons (ps_if (pt_cmpR op_eq (pv 1) pe_str (nomark _)) (pss_one (ps_ret (pe_lst (pa_cons (pe_tup (pa_cons (pv 3) (pa_cons (pv 2) pa_nil))) pa_nil)))) pss_nil)
        (pss_cons (ps_if (pt_cmpR op_eq (pv 1) pe_str (nomark _)) (pss_one (ps_ret (pe_lst (pa_cons (pe_tup (pa_cons (pe_ix (ix_listK (K := K)) (pv 4) pe_int (fun _ _ => rfl)) (pa_cons (pv 3) pa_nil))) pa_nil)))) pss_nil)
        (pss_one (ps_ret (pe_lst pa_nil)))))), ?_⟩
    have end1 : ∀ (H1 : Hp) (x y : Int), Same H H1 → LetP L = [(x, y)] → ∀ p, H1 p = none → ∀ l, upd H1 p (.tup [.int x, .int y]) l = none → Q (.ref l) (upd (upd H1 p (.tup [.int x, .int y])) l (.lst [.ref p])) := fun H1 x y s1 e p np l nl => by
      have s2 := same_upd (o := .tup [.int x, .int y]) np
      have s3 := same_upd (o := .lst [.ref p]) nl
      refine q l [.ref p] _ (Same.trans s1 (Same.trans s2 s3)) (none_back (Same.trans s1 s2) nl) upd_same ?_
      rw [e]
      exact .one (f := pV) (q := (x, y)) (s3 _ _ upd_same)
    cases L with
    | tell r u =>
      refine ⟨_, rfl, a, _, rfl, SqT.of ha, by show 3 ≤ 3; decide, by show 3 ≤ 1000; decide, fun D nD => ?_⟩
      have s1 := same_upd (o := .lst []) nD
      refine ⟨_, _, rfl, _, _, rfl, _, _, rfl, _, _, rfl, rfl, ?_⟩
      refine ⟨_, rfl, rfl, _, rfl, ?_⟩
      rw [show decide (V.str "tell" = V.str "tell") = true by decide +kernel]
      refine iteT ⟨_, rfl, _, rfl, lenL (by show 2 ≤ 100000; decide), fun p np => ⟨lenL (by show 1 ≤ 100000; decide), fun l nl => end1 _ _ _ s1 rfl p np l nl⟩⟩
    | ask r u =>
      refine ⟨_, rfl, a, _, rfl, SqT.of ha, by show 3 ≤ 3; decide, by show 3 ≤ 1000; decide, fun D nD => ?_⟩
      have s1 := same_upd (o := .lst []) nD
      refine ⟨_, _, rfl, _, _, rfl, _, _, rfl, _, _, rfl, rfl, ?_⟩
      refine ⟨_, rfl, rfl, _, rfl, ?_⟩
      rw [show decide (V.str "ask" = V.str "tell") = false by decide +kernel]
      refine iteF ⟨_, rfl, rfl, _, rfl, ?_⟩
      rw [show decide (V.str "ask" = V.str "answer") = false by decide +kernel]
      refine iteF ⟨Nat.zero_le _, fun l nl => ?_⟩
      exact q l [] _ (Same.trans s1 (same_upd nl)) (none_back s1 nl) upd_same .nil
    | answer r u m =>
      refine ⟨_, rfl, a, _, rfl, SqT.of ha, by show 3 ≤ 4; decide, by show 4 ≤ 1000; decide, fun D nD => ?_⟩
      have s1 := same_upd (o := .lst [.int m]) nD
      refine ⟨_, _, rfl, _, _, rfl, _, _, rfl, _, _, rfl, rfl, ?_⟩
      refine ⟨_, rfl, rfl, _, rfl, ?_⟩
      rw [show decide (V.str "answer" = V.str "tell") = false by decide +kernel]
      refine iteF ⟨_, rfl, rfl, _, rfl, ?_⟩
      rw [show decide (V.str "answer" = V.str "answer") = true by decide +kernel]
      refine iteT ⟨_, rfl, D, _, 0, .int m, rfl, rfl, SqL.of upd_same, rfl, _, rfl, lenL (by show 2 ≤ 100000; decide), fun p np => ⟨lenL (by show 1 ≤ 100000; decide), fun l nl => end1 _ _ _ s1 rfl p np l nl⟩⟩
--CUT
theorem lc_it {J : It} {n : Nat} {G : Hp → Prop} {Y : Nat → Hp → V → Hp → Prop} (w : Walk J n G Y) {g : TG} {tt : TT} {te : TE} {vs : List Nat} {σ : L2.St} {H1 : Hp} {D : Addr} {Qd : Hp → Prop} (Pv : Nat → Hp → Prop) (h0 : Pv 0 (upd H1 D (.lst []))) (hG : ∀ i H, i ≤ n → Pv i H → G H)
    (hs : ∀ i x H H', i < n → Pv i H → Y i H x H' → g x (wipe σ vs) H' fun σ2 H2 => wipe σ2 vs = wipe σ vs ∧ tt σ2 H2 fun b H3 =>
      if b = true then te σ2 H3 fun y H4 => ∃ acc, H4 D = some (.lst acc) ∧ acc.length < sizeLine ∧ Pv (i + 1) (upd H4 D (.lst (acc ++ [y]))) else Pv (i + 1) H3) (hd : ∀ H, Pv n H → Qd H) :
    ∃ W : Nat → Nat → Hp → Prop, (∃ m, W 0 m (upd H1 D (.lst []))) ∧ ∀ i m H, W i m H →
      (J.stop i H ∧ Qd H) ∨ (J.go i H ∧ ∃ Nx : Hp → Prop, (∀ H', Nx H' → ∃ m', m' < m ∧ W (i + 1) m' H') ∧ ∀ x H', J.yld i H x H' → g x (wipe σ vs) H' fun σ2 H2 => wipe σ2 vs = wipe σ vs ∧ tt σ2 H2 fun b H3 =>
        if b = true then te σ2 H3 fun y H4 => ∃ acc, H4 D = some (.lst acc) ∧ acc.length < sizeLine ∧ Nx (upd H4 D (.lst (acc ++ [y]))) else Nx H3) := by
  refine ⟨fun i m H => i + m = n ∧ Pv i H, ⟨n, Nat.zero_add n, h0⟩, fun i m H hp => ?_⟩
  have q := hG i H (hp.1 ▸ Nat.le_add_right i m) hp.2
  cases m with
  | zero =>
    obtain ⟨rfl, p⟩ := hp
    exact .inl ⟨w.stops H q, hd H p⟩
  | succ m =>
    obtain ⟨e, p⟩ := hp
    have hi : i < n := by omega
    exact .inr ⟨w.goes i H hi q, Pv (i + 1), fun H' p' => ⟨m, Nat.lt_succ_self m, by omega, p'⟩, fun x H' y => hs i x H H' hi p (w.yields i H x H' hi q y)⟩
theorem valV_map_mem {f : Int → V} {ks : List Int} {k : Int} (h : k ∈ ks) : valV (ks.map fun z => ((Sum.inl z : Key), f z)) (Sum.inl k) = some (f k) := by
  induction ks with
  | nil => cases h
  | cons z r ih =>
    rw [List.map_cons]
    by_cases e : z = k
    · subst e
      exact valV_pos (p := ((Sum.inl z : Key), f z)) rfl
    · rw [valV_neg (fun g => e (Sum.inl.inj g))]
      exact ih ((List.mem_cons.mp h).resolve_left (fun g => e g.symm))
def gV (nx : List (Key × V)) (k : Int) : V := (valV nx (.inl k)).getD .non
theorem gV_of {nx : List (Key × V)} {k : Int} {v : V} (h : valV nx (.inl k) = some v) : gV nx k = v := by unfold gV; rw [h]; rfl
theorem gV_iN {ks : List Int} {nx : List (Key × V)} (gn : GN ks nx) {k : Int} (hk : k ∈ ks) : gV nx k = .int (iN nx k) := by
  obtain ⟨x, _, e⟩ := gn.2 k hk
  rw [gV_of e, iN_of e]
def fO (bs : List (Key × V)) (ys : List Int) : List Int := ys.filter fun y => decide (bef bs y ≠ .non)
def qA (nx : List (Key × V)) (y : Int) : Int × Int := (y, iN nx y)
def qB (bs : List (Key × V)) (y : Int) : Int × Int := (zO (bef bs y), y)
def Prs (nx bs : List (Key × V)) (ys : List Int) (Ls : List Let) : List (Int × Int) := ys.map (qA nx) ++ (fO bs ys).map (qB bs) ++ Ls.flatMap LetP
theorem letP_len (L : Let) : (LetP L).length ≤ 1 := by
  cases L
  all_goals first
    | exact Nat.zero_le _
    | exact Nat.le_refl _
theorem flat_len : ∀ Ls : List Let, (Ls.flatMap LetP).length ≤ Ls.length
  | [] => Nat.le_refl _
  | L :: r => by
    rw [List.flatMap_cons, List.length_append, List.length_cons]
    have := flat_len r
    have : (LetP L).length ≤ 1 := letP_len L
    omega
theorem okB_zO {b : V} (o : okB b) (h : b ≠ .non) : b = .int (zO b) := by
  rcases o with rfl | ⟨z, rfl⟩
  · exact absurd rfl h
  · rfl
def sp_sayings (C : Addr) : Sp := fun vs H Q _ => ∃ (h dn db dl : Addr) (n : Int) (nx bf bs : List (Key × V)) (ls : List V) (ks : List Int) (Ls : List Let), vs = [.ref h] ∧ NetAt C H h n dn db dl nx bf ls ∧ 0 < n ∧ ks.length < 64 ∧ ks.Nodup ∧ GN ks nx ∧ VF ks bf bs ∧ (∀ k ∈ ks, okB (bef bs k)) ∧ ls.length ≤ 1000 ∧ LAt Let.vals H ls Ls ∧
  ∀ (ys : List Int) p us H', ys.Perm ks → ys.Pairwise (· ≤ ·) → Same H H' → H p = none → H' p = some (.lst us) → LAt (sV n) H' us (Prs nx bs ys Ls) → us.length ≤ 2000 → Q (.ref p) H'
theorem T0.ok_sayings (T : T0 K mg) : FnOk P w K mg base CX0 3 T.a_sayings T.fd_sayings ["net"] (sp_sayings T.C_Net) := by
  refine T.F_sayings.ok sc_sayings (fun vs H Q E h => ?_) (fun cdv A outer s H vs Q E hr h => ?_)
  · obtain ⟨h, dn, db, dl, n, nx, bf, bs, ls, ks, Ls, rfl, _⟩ := h
    rfl
  · obtain ⟨h, dn, db, dl, n, nx, bf, bs, ls, ks, Ls, rfl, hN, hn, h64, nd, gn, vf, ob, hz, hL, q⟩ := h
    obtain ⟨dx, hh⟩ := hN.me
    refine ⟨_, (pss_cons (ps_set (i := 1) sc_sayings.nd rfl (Or.inl rfl) (LiI.pe_listItems rfl (pe_meth0 (pv 0) T.cl_Net T.me_Net__nexts T.ok_Net__nexts hr T.b_Net__nexts .nil pass0) (by rfl) T.m_list (by decide +kernel)))
        (pss_cons (ps_expr (pe_bm PySem.F.plainAttrs_list PySem.F.slot_list_extend PySem.F.type_list_extend mt_extend (pv 1) (pa_cons (pe_lc (own := [("house", 5), ("before", 6)]) (g := gTup K 2 (gCons (gName 5) (gCons (gName 6) gNil))) (by rfl) sc_sayings.nd (pi_items (pe_lk (pe_meth0 (pv 0) T.cl_Net T.me_Net__befores T.ok_Net__befores hr T.b_Net__befores .nil pass0))) (blkOk_by (own := [("house", 5), ("before", 6)]) (N := ["net", "pairs", "letter", "start", "end", "house", "before"]) (sc := defScope s_sayings) (by decide +kernel)) (fun _ _ _ _ _ => pg_tup rfl (pgs_cons (pg_name (i := 5) sc_sayings.nd rfl (Or.inl rfl)) (pgs_cons (pg_name (i := 6) sc_sayings.nd rfl (Or.inl rfl)) pgs_nil))) (fun _ _ _ _ _ => pts_nil) (fun _ _ _ _ _ => (pe_tup (pa_cons (pv 6) (pa_cons (pv 5) pa_nil))))) pa_nil)))
        (pss_cons (ps_for PassesOwn.never rfl (pi_list (pe_meth0 (pv 0) T.cl_Net T.me_Net__letters T.ok_Net__letters (hr.mono (by decide)) T.b_Net__letters .nil pass0)) (pg_name (i := 2) sc_sayings.nd rfl (Or.inl rfl)) (pss_one (ps_expr (pe_bm PySem.F.plainAttrs_list PySem.F.slot_list_extend PySem.F.type_list_extend mt_extend (pv 1) (pa_cons (pe_call T.ok__pairs_said_by (hr.mono (by decide)) (by rfl) T.g__pairs_said_by T.k__pairs_said_by T.b__pairs_said_by .nil pass0 (pa_cons (pv 2) pa_nil)) pa_nil)))))
        (pss_one (ps_ret (pe_lc (own := [("start", 3), ("end", 4)]) (g := gTup K 2 (gCons (gName 3) (gCons (gName 4) gNil))) (by rfl) sc_sayings.nd (pi_list (pv 1)) (blkOk_by (own := [("start", 3), ("end", 4)]) (N := ["net", "pairs", "letter", "start", "end", "house", "before"]) (sc := defScope s_sayings) (by decide +kernel)) (fun _ _ _ _ _ => pg_tup rfl (pgs_cons (pg_name (i := 3) sc_sayings.nd rfl (Or.inl rfl)) (pgs_cons (pg_name (i := 4) sc_sayings.nd rfl (Or.inl rfl)) pgs_nil))) (fun _ _ _ _ _ => pts_nil) (fun _ _ _ _ _ => (pe_tup (pa_cons (pv 3) (pa_cons (pv 4) (pa_cons (pe_call T.ok_far (hr.mono (by decide)) (by rfl) T.g_far T.k_far T.b_far .nil pass0 (pa_cons (show PE _ _ (tFld K _ _) from pe_fld (pv 0) rfl) (pa_cons (pv 3) (pa_cons (pv 4) pa_nil)))) pa_nil))))))))))), ?_⟩
    refine ⟨_, rfl, h, dx, _, rfl, hh, (by unfold nf; walk_at "lk"), h, dn, db, dl, n, nx, bf, ls, ks, gV nx, rfl, hN, gn.1, h64, nd, fun k hk => ?_, fun ys d1 H1 perm pw s1 nd1 e1 => ?_⟩
    · obtain ⟨x, _, e⟩ := gn.2 k hk
      rw [gV_of e, e]
    have ylen := perm.length_eq
    refine ⟨d1, _, rfl, e1, fun H2 pl ts s2 npl nts npts epl prd => ?_⟩
    have tlen : ts.length = ys.length := by rw [prd.length, List.length_map]
    have la2 : LAt pV H2 (ts.map V.ref) (ys.map (qA nx)) := by
      refine ⟨by rw [List.length_map, List.length_map, tlen], fun i v q' hv hq => ?_⟩
      rw [List.getElem?_map] at hv hq
      obtain ⟨t, ht, rfl⟩ := Option.map_eq_some_iff.mp hv
      obtain ⟨y, hy, rfl⟩ := Option.map_eq_some_iff.mp hq
      obtain ⟨kv, hkv, e⟩ := paired_get prd ht
      have hkv : (ys.map fun y => ((.inl y : Key), gV nx y))[i]? = some kv := hkv
      rw [List.getElem?_map, hy] at hkv
      cases hkv
      exact ⟨t, rfl, e.trans (by dsimp only; rw [gV_iN gn (perm.mem_iff.mp (List.mem_of_getElem? hy))]; rfl)⟩
    have s12 := Same.trans s1 s2
    have npl0 : H pl = none := none_back s1 npl
    have N2 := hN.same s12
    obtain ⟨dx2, hh2⟩ := N2.me
    refine ⟨_, rfl, .inl ⟨rfl, _, SqL.of epl⟩, _, rfl, h, dx2, _, rfl, hh2, (by unfold nf; walk_at "lk"), h, dn, db, dl, n, nx, bf, ls, ks, bef bs, rfl, N2, gn.1, h64, nd, vf, fun ws d2 H3 permw pww s3 nd2 e3 => ?_⟩
    have wy : ws = ys := perm_sorted_eq (permw.trans perm.symm) pww pw
    subst wy
    refine ⟨d2, _, rfl, e3, fun o => ⟨d2, o, _, rfl, upd_same, fun D hD => ?_⟩⟩
    have s3f : Same H2 (upd H3 d2 (.frz o (.dK ((fO bs ws).map fun y => (.inl y, bef bs y))))) := fun a u e => (upd_ne (ne_of_none e nd2)).trans (s3 _ _ e)
    have hd2 : upd H3 d2 (.frz o (.dK ((fO bs ws).map fun y => (.inl y, bef bs y)))) d2 = some (.frz o (.dK ((fO bs ws).map fun y => (.inl y, bef bs y)))) := upd_same
    have lf : (fO bs ws).length ≤ ws.length := List.length_filter_le _ _
    refine lc_it walk_items (fun i H' => Same (upd H3 d2 (.frz o (.dK ((fO bs ws).map fun y => (.inl y, bef bs y))))) H' ∧ ∃ rs, H' D = some (.lst rs) ∧ LAt pV H' rs (((fO bs ws).take i).map (qB bs))) ⟨same_upd hD, [], upd_same, .nil⟩ (fun i H' _ p => p.1 _ _ hd2) (fun i x H4 H5 hi pv hy => ?_) (fun H4 pv => ?_)
    · obtain ⟨s4, rs, e4, la⟩ := pv
      obtain ⟨Tt, kx, ky, rfl, nT, rfl, ekx, eky⟩ := hy
      have lr := la.1
      rw [List.length_map, List.length_take] at lr
      have ekx : (((fO bs ws).map fun y => ((.inl y : Key), bef bs y))[i]?).map (fun kv => kV kv.1) = some kx := ekx
      have eky : (((fO bs ws).map fun y => ((.inl y : Key), bef bs y))[i]?).map Prod.snd = some ky := eky
      obtain ⟨kv, hkv, rfl⟩ := Option.map_eq_some_iff.mp ekx
      rw [hkv] at eky
      have eky : kv.2 = ky := Option.some.inj eky
      rw [List.getElem?_map] at hkv
      have hkv2 := hkv
      obtain ⟨y, hyi, ekv⟩ := Option.map_eq_some_iff.mp hkv2
      subst ekv
      subst eky
      have hy := List.mem_of_getElem? hyi
      obtain ⟨hy1, hy2⟩ := List.mem_filter.mp hy
      have bz := okB_zO (ob y (perm.mem_iff.mp hy1)) (of_decide_eq_true hy2)
      have s5 := same_upd (o := .tup [kV (Sum.inl y), bef bs y]) nT
      refine ⟨Tt, _, rfl, SqT.of upd_same, rfl, _, _, rfl, _, _, rfl, rfl, rfl, lc_yes ?_⟩
      refine ⟨_, rfl, _, rfl, lenL (by show 2 ≤ 100000; decide), fun p np => ?_⟩
      have np : upd H4 Tt (.tup [kV (Sum.inl y), bef bs y]) p = none := np
      have s6 := Same.trans s5 (same_upd (o := .tup [bef bs y, .int y]) np)
      have e6 := s6 _ _ e4
      refine ⟨_, e6, small1000' (by omega), fun b u e => ?_, rs ++ [.ref p], upd_same, ?_⟩
      · exact (upd_ne (ne_of_none e hD)).trans (s6 _ _ (s4 _ _ e))
      · rw [List.take_add_one, hyi, Option.toList_some, List.map_append]
        refine ((la.same s6).app (q := qB bs y) ?_).mono fun a xs e => (upd_ne (ne_kind e e6 (fun z => nomatch z))).trans e
        refine upd_same.trans ?_
        show some (HO.tup [bef bs y, .int y]) = some (HO.tup [.int (zO (bef bs y)), .int y])
        rw [← bz]
    · obtain ⟨s4, rs, e4, la4⟩ := pv
      rw [List.length_map] at la4
      have la4 : LAt pV H4 rs (((fO bs ws).take (fO bs ws).length).map (qB bs)) := la4
      rw [List.take_length] at la4
      have s24 : Same H2 H4 := Same.trans s3f s4
      have epl4 := s24 _ _ epl
      have lr := la4.1
      rw [List.length_map] at lr
      have hz41 : ws.length < 64 := by omega
      refine ⟨pl, D, _, _, rfl, rfl, epl4, e4, lenL (by rw [List.length_map, tlen, lr]; omega), ?_⟩
      have f5 : ∀ a u, a ≠ pl → H4 a = some u → upd H4 pl (.lst (ts.map V.ref ++ rs)) a = some u := fun a u na e => (upd_ne na).trans e
      have epl5 : upd H4 pl (.lst (ts.map V.ref ++ rs)) pl = some (.lst (ts.map V.ref ++ rs)) := upd_same
      have la5 : LAt pV (upd H4 pl (.lst (ts.map V.ref ++ rs))) (ts.map V.ref ++ rs) (ws.map (qA nx) ++ (fO bs ws).map (qB bs)) := ((la2.same s24).cat la4).mono fun a xs e => f5 _ _ (ne_kind e epl4 (fun z => nomatch z)) e
      generalize upd H4 pl (.lst (ts.map V.ref ++ rs)) = H5 at f5 epl5 la5
      have s5 : Same H H5 := fun a u e => f5 _ _ (ne_of_none e npl0) (s24 _ _ (s12 _ _ e))
      have N5 := hN.same s5
      obtain ⟨dx5, hh5⟩ := N5.me
      refine ⟨_, rfl, h, dx5, _, rfl, hh5, (by unfold nf; walk_at "lk"), h, dn, db, dl, n, nx, bf, ls, rfl, N5, fun p np => ?_⟩
      have s6 := same_upd (o := .lst ls) np
      have ep6 : upd H5 p (.lst ls) p = some (.lst ls) := upd_same
      have epl6 := s6 _ _ epl5
      have la6 := la5.same s6
      have npp : p ≠ pl := fun z => by rw [z, epl5] at np; cases np
      have s06 := Same.trans s5 s6
      generalize upd H5 p (.lst ls) = H6 at s6 ep6 epl6 la6 s06
      have u0 : (ts.map V.ref ++ rs).length ≤ 128 := by rw [List.length_append, List.length_map, tlen, lr]; omega
      refine ⟨p, rfl, ⟨_, SqL.of ep6⟩, ?_⟩
      refine for_list (K := K) (a := p) (xs := ls) (fun i σ' H' => ∃ (o2 : Option V) (us : List V), σ' = [some (.ref h), some (.ref pl), o2, none, none, none, none] ∧ H' pl = some (.lst us) ∧ LAt pV H' us (ws.map (qA nx) ++ (fO bs ws).map (qB bs) ++ (Ls.take i).flatMap LetP) ∧ Same H H' ∧ H' p = some (.lst ls))
        ⟨none, _, rfl, epl6, by rw [List.take_zero, List.flatMap_nil, List.append_nil]; exact la6, s06, ep6⟩ (fun i σ' H' _ pv => by obtain ⟨_, _, _, _, _, _, h⟩ := pv; exact SqL.of h) (fun i v σ' H7 hv pv => ?_) (fun σ' H7 pv => ?_)
      · obtain ⟨o2, us, rfl, epl7, la7, s7, ep7⟩ := pv
        obtain ⟨a, L, hLi, rfl, ea⟩ := hL.at hv
        have ul := la7.1
        have fl := flat_len (Ls.take i)
        have tl : (Ls.take i).length ≤ 1000 := by rw [List.length_take, ← hL.1]; omega
        rw [List.length_append, List.length_append, List.length_map, List.length_map] at ul
        refine ⟨_, rfl, .inl ⟨rfl, _, SqL.of epl7⟩, _, rfl, a, L, rfl, s7 _ _ ea, fun q' us' H8 s8 nq eq la8 => ?_⟩
        have epl8 := s8 _ _ epl7
        have l1 : us'.length ≤ 1 := by rw [la8.1]; exact letP_len L
        refine ⟨pl, q', _, _, rfl, rfl, epl8, eq, lenL (by omega), ?_⟩
        refine ⟨_, us ++ us', rfl, upd_same, ?_, fun b u e => (upd_ne (ne_of_none e npl0)).trans (s8 _ _ (s7 _ _ e)), (upd_ne npp).trans (s8 _ _ ep7)⟩
        rw [List.take_add_one, hLi, Option.toList_some, List.flatMap_append, ← List.append_assoc]
        refine ((la7.same s8).cat (ps := [L].flatMap LetP) (by rw [List.flatMap_cons, List.flatMap_nil, List.append_nil]; exact la8)).mono fun a xs e => (upd_ne (ne_kind e epl8 (fun z => nomatch z))).trans e
      · obtain ⟨o2, us, rfl, epl7, la7, s7, ep7⟩ := pv
        rw [hL.1, List.take_length] at la7
        have ul := la7.1
        have fl := flat_len Ls
        have tl : Ls.length ≤ 1000 := by rw [← hL.1]; exact hz
        rw [List.length_append, List.length_append, List.length_map, List.length_map] at ul
        have N7 := hN.same s7
        refine ⟨_, rfl, pl, rfl, ⟨_, SqL.of epl7⟩, fun D2 hD2 => ?_⟩
        refine lc_list (K := K) (a := pl) (xs := us) (fun i H' => Same H7 H' ∧ ∃ rs, H' D2 = some (.lst rs) ∧ LAt (sV n) H' rs ((Prs nx bs ws Ls).take i)) ⟨same_upd hD2, [], upd_same, .nil⟩ (fun i H' _ p => SqL.of (p.1 _ _ epl7)) (fun i x H8 hx pv => ?_) (fun H8 pv => ?_)
        · obtain ⟨s8, rs, e8, la8⟩ := pv
          obtain ⟨a, q', hq', rfl, ea⟩ := la7.at hx
          have lr8 := la8.1
          have lt8 : ((Prs nx bs ws Ls).take i).length ≤ us.length := by
            have hi : i < us.length := (List.getElem?_eq_some_iff.mp hx).1
            rw [List.length_take]
            omega
          have N8 := N7.same s8
          obtain ⟨dx8, hh8⟩ := N8.me
          refine ⟨a, _, rfl, SqT.of (s8 _ _ ea), rfl, _, _, rfl, _, _, rfl, rfl, rfl, lc_yes ?_⟩
          refine ⟨_, rfl, _, rfl, _, rfl, h, _, dx8, _, _, rfl, hh8, T.cl_Net, T.na_Net_size, nf_size, _, rfl, _, rfl, n, q'.1, q'.2, rfl, hn, lenL (by show 3 ≤ 100000; decide), fun p' np' => ?_⟩
          have np' : H8 p' = none := np'
          have s9 := same_upd (o := .tup (sV n q')) np'
          have e9 := s9 _ _ e8
          refine ⟨_, e9, small1000' (by omega), fun b u e => ?_, rs ++ [.ref p'], upd_same, ?_⟩
          · exact (upd_ne (ne_of_none e hD2)).trans (s9 _ _ (s8 _ _ e))
          · rw [List.take_add_one, show (Prs nx bs ws Ls)[i]? = some q' from hq']
            exact ((la8.same s9).app (q := q') upd_same).mono fun a xs e => (upd_ne (ne_kind e e9 (fun z => nomatch z))).trans e
        · obtain ⟨s8, rs, e8, la8⟩ := pv
          rw [la7.1] at la8
          rw [show (Prs nx bs ws Ls).take ((ws.map (qA nx) ++ (fO bs ws).map (qB bs) ++ Ls.flatMap LetP).length) = Prs nx bs ws Ls from List.take_length] at la8
          refine q ws D2 rs H8 perm pw (Same.trans s7 s8) ?_ e8 la8 ?_
          · exact none_back s7 hD2
          · rw [la8.1]
            show (ws.map (qA nx) ++ (fO bs ws).map (qB bs) ++ Ls.flatMap LetP).length ≤ 2000
            rw [List.length_append, List.length_append, List.length_map, List.length_map]
            omega
--CUT
def GC (ks : List Int) (bs : List (Key × V)) : Prop := ∀ (p : Int) v, valV bs (.inl p) = some v → p ∈ ks ∧ (v = .non ∨ ∃ x ∈ ks, v = .int x)
theorem GC.ok {ks : List Int} {bs : List (Key × V)} (g : GC ks bs) (k : Int) : okB (bef bs k) := by
  unfold bef
  cases e : valV bs (.inl k) with
  | none => exact .inl rfl
  | some v =>
    rcases (g _ _ e).2 with rfl | ⟨x, _, rfl⟩
    · exact .inl rfl
    · exact .inr ⟨x, rfl⟩
theorem GC.mem {ks : List Int} {bs : List (Key × V)} (g : GC ks bs) {k : Int} (h : bef bs k ≠ .non) : k ∈ ks := by
  unfold bef at h
  cases e : valV bs (.inl k) with
  | none => rw [e] at h; exact absurd rfl h
  | some v => exact (g _ _ e).1
theorem bef_some {bs : List (Key × V)} {k : Int} {v : V} (h : valV bs (.inl k) = some v) : bef bs k = v := by unfold bef; rw [h]; rfl
def sp__law_sayings (K : PySem.W.Frag) : Sp := fun vs H Q _ => ∃ (dN dB pO : Addr) (n : Int) (nx bs : List (Key × V)) (ps : List V) (ks : List Int) (Ls : List Let), vs = [.int n, .ref dN, .ref dB, .ref pO] ∧ H dN = some (.dK nx) ∧ H dB = some (.dK bs) ∧ H pO = some (.lst ps) ∧ 0 < n ∧ ks.length < 64 ∧ ks.Nodup ∧ GN ks nx ∧ GC ks bs ∧ KB bs ∧ ps.length ≤ 1000 ∧ LAt Let.vals H ps Ls ∧
  ∀ (ys : List Int) p us H', ys.Perm ks → ys.Pairwise (· ≤ ·) → Same H H' → H p = none → H' p = some (.lst us) → LAt (sV n) H' us (Prs nx bs ys Ls) → us.length ≤ 2000 → Q (.ref p) H'
theorem T0.ok__law_sayings (T : T0 K mg) : FnOk P w K mg base CX0 2 T.a__law_sayings T.fd__law_sayings ["size", "nexts", "behinds", "post"] (sp__law_sayings K) := by
  refine T.F__law_sayings.ok sc__law_sayings (fun vs H Q E h => ?_) (fun cdv A outer s H vs Q E hr h => ?_)
  · obtain ⟨dN, dB, pO, n, nx, bs, ps, ks, Ls, rfl, _⟩ := h
    rfl
  · obtain ⟨dN, dB, pO, n, nx, bs, ps, ks, Ls, rfl, hN, hB, hP, hn, h64, nd, gn, gc, kb, hz, hL, q⟩ := h
    refine ⟨_, (pss_cons (ps_setLc (i := 5) (own := [("one", 4)]) (g := gName 4) (by rfl) sc__law_sayings.nd rfl rfl (sw_true rfl rfl rfl (by decide +kernel)) (pi_list (pe_callB (call_sortedDI rfl) (by rfl) T.m_sorted (by decide +kernel) (pa_cons (pv 1) pa_nil))) (blkOk_by (own := [("one", 4)]) (N := ["size", "nexts", "behinds", "post", "one", "said", "letter"]) (sc := defScope s__law_sayings) (by decide +kernel)) (fun _ _ _ _ _ => pg_name (i := 4) sc__law_sayings.nd rfl (Or.inl rfl)) (fun _ _ _ _ _ => pts_nil) (fun _ _ _ _ _ => (pe_tup (pa_cons (pv 4) (pa_cons (pe_dget (un1 hr) (pv 1) (pv 4) (fun _ _ => rfl)) (pa_cons (pe_call T.ok__law_far hr (by rfl) T.g__law_far T.k__law_far T.b__law_far .nil pass0 (pa_cons (pv 0) (pa_cons (pv 4) (pa_cons (pe_dget (un1 hr) (pv 1) (pv 4) (fun _ _ => rfl)) pa_nil)))) pa_nil))))))
        (pss_cons (ps_for PassesOwn.never rfl (pi_list (pe_callB (call_sortedDI rfl) (by rfl) T.m_sorted (by decide +kernel) (pa_cons (pv 2) pa_nil))) (pg_name (i := 4) sc__law_sayings.nd rfl (Or.inl rfl)) (pss_one (ps_if (pt_cmpR op_notN (pe_dget (un1 hr) (pv 2) (pv 4) (fun _ _ => rfl)) pe_non (nomark _)) (pss_one (ps_expr (pe_bm PySem.F.plainAttrs_list PySem.F.slot_list_append PySem.F.type_list_append mt_append (pv 5) (pa_cons (pe_tup (pa_cons (pe_dget (un1 hr) (pv 2) (pv 4) (fun _ _ => rfl)) (pa_cons (pv 4) (pa_cons (pe_call T.ok__law_far hr (by rfl) T.g__law_far T.k__law_far T.b__law_far .nil pass0 (pa_cons (pv 0) (pa_cons (pe_dget (un1 hr) (pv 2) (pv 4) (fun _ _ => rfl)) (pa_cons (pv 4) pa_nil)))) pa_nil)))) pa_nil)))) pss_nil)))
        (pss_cons (ps_for PassesOwn.never rfl (pi_list (pv 3)) (pg_name (i := 6) sc__law_sayings.nd rfl (Or.inl rfl)) (pss_cons (ps_if (pt_cmpR op_eq (pe_ix (ix_tupK (K := K)) (pv 6) pe_int (fun _ _ => rfl)) pe_str (nomark _)) (pss_one (ps_expr (pe_bm PySem.F.plainAttrs_list PySem.F.slot_list_append PySem.F.type_list_append mt_append (pv 5) (pa_cons (pe_tup (pa_cons (pe_ix (ix_tupK (K := K)) (pv 6) pe_int (fun _ _ => rfl)) (pa_cons (pe_ix (ix_tupK (K := K)) (pv 6) pe_int (fun _ _ => rfl)) (pa_cons (pe_call T.ok__law_far hr (by rfl) T.g__law_far T.k__law_far T.b__law_far .nil pass0 (pa_cons (pv 0) (pa_cons (pe_ix (ix_tupK (K := K)) (pv 6) pe_int (fun _ _ => rfl)) (pa_cons (pe_ix (ix_tupK (K := K)) (pv 6) pe_int (fun _ _ => rfl)) pa_nil)))) pa_nil)))) pa_nil)))) pss_nil)
        (pss_one (ps_if (pt_cmpR op_eq (pe_ix (ix_tupK (K := K)) (pv 6) pe_int (fun _ _ => rfl)) pe_str (nomark _)) (pss_one (ps_expr (pe_bm PySem.F.plainAttrs_list PySem.F.slot_list_append PySem.F.type_list_append mt_append (pv 5) (pa_cons (pe_tup (pa_cons (pe_ix (ix_tupK (K := K)) (pv 6) pe_int (fun _ _ => rfl)) (pa_cons (pe_ix (ix_tupK (K := K)) (pv 6) pe_int (fun _ _ => rfl)) (pa_cons (pe_call T.ok__law_far hr (by rfl) T.g__law_far T.k__law_far T.b__law_far .nil pass0 (pa_cons (pv 0) (pa_cons (pe_ix (ix_tupK (K := K)) (pv 6) pe_int (fun _ _ => rfl)) (pa_cons (pe_ix (ix_tupK (K := K)) (pv 6) pe_int (fun _ _ => rfl)) pa_nil)))) pa_nil)))) pa_nil)))) pss_nil))))
        (pss_one (ps_ret (pv 5)))))), ?_⟩
    refine ⟨_, rfl, dN, nx, ks, rfl, .inl hN, gn.1, h64, fun ys l perm pw nl => ?_⟩
    have ylen := perm.length_eq
    have ynd : ys.Nodup := perm.nodup_iff.mpr nd
    have s1 := same_upd (o := .lst (ys.map V.int)) nl
    have hl : upd H l (.lst (ys.map V.int)) l = some (.lst (ys.map V.int)) := upd_same
    generalize upd H l (.lst (ys.map V.int)) = H1 at s1 hl
    refine ⟨l, rfl, ⟨_, SqL.of hl⟩, fun D hD => ?_⟩
    have D0 := none_back s1 hD
    refine lc_list (K := K) (a := l) (xs := ys.map V.int) (fun i H' => Same H1 H' ∧ ∃ rs, H' D = some (.lst rs) ∧ LAt (sV n) H' rs ((ys.take i).map (qA nx))) ⟨same_upd hD, [], upd_same, .nil⟩ (fun i H' _ p => SqL.of (p.1 _ _ hl)) (fun i x H2 hx pv => ?_) (fun H2 pv => ?_)
    · obtain ⟨s2, rs, e2, la⟩ := pv
      have hx' : (ys.map V.int)[i]? = some x := hx
      rw [List.getElem?_map] at hx'
      obtain ⟨y, hyi, rfl⟩ := Option.map_eq_some_iff.mp hx'
      obtain ⟨x', _, ex⟩ := gn.2 y (perm.mem_iff.mp (List.mem_of_getElem? hyi))
      have lr := la.1
      rw [List.length_map, List.length_take] at lr
      have N2 := s2 _ _ (s1 _ _ hN)
      refine ⟨rfl, lc_yes ?_⟩
      refine ⟨_, rfl, _, rfl, _, rfl, dN, _, rfl, dget_of (k := Sum.inl y) N2 ex, _, rfl, _, rfl, _, rfl, _, rfl, dN, _, rfl, dget_of (k := Sum.inl y) N2 ex, n, y, x', rfl, hn, lenL (by show 3 ≤ 100000; decide), fun p np => ?_⟩
      have s3 := same_upd (o := .tup [.int y, .int x', .int (farL n y x')]) np
      have e3 := s3 _ _ e2
      refine ⟨_, e3, small1000' (by omega), fun b u e => (upd_ne (ne_of_none e hD)).trans (s3 _ _ (s2 _ _ e)), rs ++ [.ref p], upd_same, ?_⟩
      rw [List.take_add_one, hyi, Option.toList_some, List.map_append]
      refine ((la.same s3).app (q := qA nx y) ?_).mono fun a xs e => (upd_ne (ne_kind e e3 (fun z => nomatch z))).trans e
      refine upd_same.trans ?_
      show some (HO.tup [.int y, .int x', .int (farL n y x')]) = some (HO.tup [.int y, .int (iN nx y), .int (farL n y (iN nx y))])
      rw [iN_of ex]
    · obtain ⟨s2, rs, e2, la⟩ := pv
      rw [List.length_map, List.take_length] at la
      have s02 : Same H H2 := Same.trans s1 s2
      obtain ⟨js, ejs, ndj⟩ := kb
      have ljs : js.length ≤ ks.length := nodup_sub_len ndj fun j hj => by
        obtain ⟨v, hv⟩ := Option.isSome_iff_exists.mp (valV_mem_keys ejs hj)
        exact (gc _ _ hv).1
      refine ⟨_, rfl, dB, bs, js, rfl, .inl (s02 _ _ hB), ejs, by omega, fun zs l2 permz pwz nl2 => ?_⟩
      have zlen := permz.length_eq
      have znd : zs.Nodup := permz.nodup_iff.mpr ndj
      have zf : fO bs zs = fO bs ys := by
        refine perm_sorted_eq ((List.perm_ext_iff_of_nodup (znd.filter _) (ynd.filter _)).mpr fun j => ?_) (pwz.filter _) (pw.filter _)
        rw [List.mem_filter, List.mem_filter, decide_eq_true_eq]
        refine ⟨fun h => ⟨perm.mem_iff.mpr (gc.mem h.2), h.2⟩, fun h => ⟨permz.mem_iff.mpr ?_, h.2⟩⟩
        refine Decidable.byContradiction fun nj => h.2 ?_
        unfold bef
        rw [valV_none_keys ejs nj]
        rfl
      have s3 := same_upd (o := .lst (zs.map V.int)) nl2
      have hl2 : upd H2 l2 (.lst (zs.map V.int)) l2 = some (.lst (zs.map V.int)) := upd_same
      have e3 := s3 _ _ e2
      have la3 := la.same s3
      have nlD : l2 ≠ D := fun z => by rw [z, e2] at nl2; cases nl2
      have s03 := Same.trans s02 s3
      have lr0 := la.1
      rw [List.length_map] at lr0
      generalize upd H2 l2 (.lst (zs.map V.int)) = H3 at s3 hl2 e3 la3 s03
      refine ⟨l2, rfl, ⟨_, SqL.of hl2⟩, ?_⟩
      refine for_list (K := K) (a := l2) (xs := zs.map V.int) (fun i σ' H' => ∃ (o4 o6 : Option V) (us : List V), σ' = [some (.int n), some (.ref dN), some (.ref dB), some (.ref pO), o4, some (.ref D), o6] ∧ H' D = some (.lst us) ∧ LAt (sV n) H' us (ys.map (qA nx) ++ (fO bs (zs.take i)).map (qB bs)) ∧ Same H H' ∧ H' l2 = some (.lst (zs.map V.int)))
        ⟨_, _, rs, rfl, e3, by rw [List.take_zero]; show LAt (sV n) H3 rs (ys.map (qA nx) ++ []); rw [List.append_nil]; exact la3, s03, hl2⟩ (fun i σ' H' _ pv => by obtain ⟨_, _, _, _, _, _, _, h⟩ := pv; exact SqL.of h) (fun i v σ' H4 hv pv => ?_) (fun σ' H4 pv => ?_)
      · obtain ⟨o4, o6, us, rfl, e4, la4, s4, hl4⟩ := pv
        have hv' : (zs.map V.int)[i]? = some v := hv
        rw [List.getElem?_map] at hv'
        obtain ⟨z, hzi, rfl⟩ := Option.map_eq_some_iff.mp hv'
        obtain ⟨b, hb⟩ := Option.isSome_iff_exists.mp (valV_mem_keys ejs (permz.mem_iff.mp (List.mem_of_getElem? hzi)))
        have B4 := s4 _ _ hB
        have gz := dget_of (k := Sum.inl z) B4 hb
        have ul := la4.1
        have fl : (fO bs (zs.take i)).length ≤ (zs.take i).length := List.length_filter_le _ _
        rw [List.length_append, List.length_map, List.length_map] at ul
        rw [List.length_take] at fl
        refine ⟨_, rfl, _, rfl, dB, _, rfl, gz, rfl, _, rfl, ?_⟩
        rcases (gc _ _ hb).2 with rfl | ⟨x, _, rfl⟩
        · refine iteF' rfl ?_
          refine ⟨_, _, us, rfl, e4, ?_, s4, hl4⟩
          rw [List.take_add_one, hzi, Option.toList_some]
          have : fO bs (zs.take i ++ [z]) = fO bs (zs.take i) := by
            unfold fO
            rw [List.filter_append, List.filter_cons_of_neg (by rw [bef_some hb]; simp), List.filter_nil, List.append_nil]
          rw [this]
          exact la4
        · refine iteT' rfl ?_
          refine ⟨_, rfl, .inl ⟨rfl, _, SqL.of e4⟩, _, rfl, _, rfl, dB, _, rfl, gz, _, rfl, _, rfl, _, rfl, _, rfl, dB, _, rfl, gz, _, rfl, n, x, z, rfl, hn, lenL (by show 3 ≤ 100000; decide), fun p np => ?_⟩
          have s5 := same_upd (o := .tup [.int x, .int z, .int (farL n x z)]) np
          have e5 := s5 _ _ e4
          refine ⟨D, _, _, rfl, rfl, e5, small1000' (by omega), ?_⟩
          refine ⟨_, _, us ++ [.ref p], rfl, upd_same, ?_, fun a u e => (upd_ne (ne_of_none e D0)).trans (s5 _ _ (s4 _ _ e)), (upd_ne nlD).trans (s5 _ _ hl4)⟩
          rw [List.take_add_one, hzi, Option.toList_some]
          have : fO bs (zs.take i ++ [z]) = fO bs (zs.take i) ++ [z] := by
            unfold fO
            rw [List.filter_append, List.filter_cons_of_pos (by rw [bef_some hb]; simp), List.filter_nil]
          rw [this, List.map_append, ← List.append_assoc]
          refine ((la4.same s5).app (q := qB bs z) ?_).mono fun a xs e => (upd_ne (ne_kind e e5 (fun z => nomatch z))).trans e
          refine upd_same.trans ?_
          show some (HO.tup [.int x, .int z, .int (farL n x z)]) = some (HO.tup [.int (zO (bef bs z)), .int z, .int (farL n (zO (bef bs z)) z)])
          rw [bef_some hb]
          rfl
      · obtain ⟨o4, o6, us, rfl, e4, la4, s4, hl4⟩ := pv
        rw [List.length_map, List.take_length, zf] at la4
        have lf : (fO bs ys).length ≤ ys.length := List.length_filter_le _ _
        have P4 := s4 _ _ hP
        refine ⟨_, rfl, pO, rfl, ⟨_, SqL.of P4⟩, ?_⟩
        have nPD : pO ≠ D := fun z => by rw [← z, hP] at D0; cases D0
        refine for_list (K := K) (a := pO) (xs := ps) (fun i σ' H' => ∃ (o4 o6 : Option V) (us : List V), σ' = [some (.int n), some (.ref dN), some (.ref dB), some (.ref pO), o4, some (.ref D), o6] ∧ H' D = some (.lst us) ∧ LAt (sV n) H' us (ys.map (qA nx) ++ (fO bs ys).map (qB bs) ++ (Ls.take i).flatMap LetP) ∧ Same H H' ∧ H' pO = some (.lst ps))
          ⟨_, _, us, rfl, e4, by rw [List.take_zero, List.flatMap_nil, List.append_nil]; exact la4, s4, P4⟩ (fun i σ' H' _ pv => by obtain ⟨_, _, _, _, _, _, _, h⟩ := pv; exact SqL.of h) (fun i v σ' H5 hv pv => ?_) (fun σ' H5 pv => ?_)
        · obtain ⟨o4, o6, us, rfl, e5, la5, s5, P5⟩ := pv
          obtain ⟨a, L, hLi, rfl, ea⟩ := hL.at hv
          have ul := la5.1
          have fl := flat_len (Ls.take i)
          have tl : (Ls.take i).length ≤ 1000 := by rw [List.length_take, ← hL.1]; omega
          rw [List.length_append, List.length_append, List.length_map, List.length_map] at ul
          have et := s5 _ _ ea
          have aD : a ≠ D := ne_of_none ea D0
          have done0 : LetP L = [] → LAt (sV n) H5 us (ys.map (qA nx) ++ (fO bs ys).map (qB bs) ++ (Ls.take (i + 1)).flatMap LetP) := fun e => by
            rw [List.take_add_one, hLi, Option.toList_some, List.flatMap_append, List.flatMap_cons, List.flatMap_nil, e, List.append_nil, List.append_nil]
            exact la5
          have done1 : ∀ x y, LetP L = [(x, y)] → ∀ p, H5 p = none → LAt (sV n) (upd (upd H5 p (.tup [.int x, .int y, .int (farL n x y)])) D (.lst (us ++ [.ref p]))) (us ++ [.ref p]) (ys.map (qA nx) ++ (fO bs ys).map (qB bs) ++ (Ls.take (i + 1)).flatMap LetP) ∧ Same H (upd (upd H5 p (.tup [.int x, .int y, .int (farL n x y)])) D (.lst (us ++ [.ref p]))) := fun x y e p np => by
            have s6 := same_upd (o := .tup [.int x, .int y, .int (farL n x y)]) np
            have e6 := s6 _ _ e5
            refine ⟨?_, fun a u e => (upd_ne (ne_of_none e D0)).trans (s6 _ _ (s5 _ _ e))⟩
            rw [List.take_add_one, hLi, Option.toList_some, List.flatMap_append, List.flatMap_cons, List.flatMap_nil, e, List.append_nil, ← List.append_assoc]
            exact ((la5.same s6).app (q := (x, y)) upd_same).mono fun a xs e => (upd_ne (ne_kind e e6 (fun z => nomatch z))).trans e
          cases L with
          | tell r u =>
            refine ⟨_, rfl, a, _, 0, .str "tell", rfl, rfl, SqT.of et, rfl, rfl, _, rfl, ?_⟩
            rw [show decide (V.str "tell" = V.str "tell") = true by decide +kernel]
            refine iteT ⟨_, rfl, .inl ⟨rfl, _, SqL.of e5⟩, _, rfl, a, _, 2, .int u, rfl, rfl, SqT.of et, rfl, _, rfl, a, _, 1, .int r, rfl, rfl, SqT.of et, rfl, _, rfl, _, rfl, a, _, 2, .int u, rfl, rfl, SqT.of et, rfl, _, rfl, a, _, 1, .int r, rfl, rfl, SqT.of et, rfl, n, u, r, rfl, hn, lenL (by show 3 ≤ 100000; decide), fun p np => ?_⟩
            have s6 := same_upd (o := .tup [.int u, .int r, .int (farL n u r)]) np
            refine ⟨D, _, _, rfl, rfl, s6 _ _ e5, small1000' (by omega), ?_⟩
            have et6 := (upd_ne (o := .lst (us ++ [.ref p])) aD).trans (s6 _ _ et)
            refine ⟨_, rfl, a, _, 0, .str "tell", rfl, rfl, SqT.of et6, rfl, rfl, _, rfl, ?_⟩
            rw [show decide (V.str "tell" = V.str "answer") = false by decide +kernel]
            refine iteF ?_
            obtain ⟨h1, h2⟩ := done1 u r rfl p np
            exact ⟨_, _, _, rfl, upd_same, h1, h2, (upd_ne nPD).trans (s6 _ _ P5)⟩
          | ask r u =>
            refine ⟨_, rfl, a, _, 0, .str "ask", rfl, rfl, SqT.of et, rfl, rfl, _, rfl, ?_⟩
            rw [show decide (V.str "ask" = V.str "tell") = false by decide +kernel]
            refine iteF ⟨_, rfl, a, _, 0, .str "ask", rfl, rfl, SqT.of et, rfl, rfl, _, rfl, ?_⟩
            rw [show decide (V.str "ask" = V.str "answer") = false by decide +kernel]
            exact iteF ⟨_, _, us, rfl, e5, done0 rfl, s5, P5⟩
          | answer r u m =>
            refine ⟨_, rfl, a, _, 0, .str "answer", rfl, rfl, SqT.of et, rfl, rfl, _, rfl, ?_⟩
            rw [show decide (V.str "answer" = V.str "tell") = false by decide +kernel]
            refine iteF ⟨_, rfl, a, _, 0, .str "answer", rfl, rfl, SqT.of et, rfl, rfl, _, rfl, ?_⟩
            rw [show decide (V.str "answer" = V.str "answer") = true by decide +kernel]
            refine iteT ⟨_, rfl, .inl ⟨rfl, _, SqL.of e5⟩, _, rfl, a, _, 3, .int m, rfl, rfl, SqT.of et, rfl, _, rfl, a, _, 2, .int u, rfl, rfl, SqT.of et, rfl, _, rfl, _, rfl, a, _, 3, .int m, rfl, rfl, SqT.of et, rfl, _, rfl, a, _, 2, .int u, rfl, rfl, SqT.of et, rfl, n, m, u, rfl, hn, lenL (by show 3 ≤ 100000; decide), fun p np => ?_⟩
            have s6 := same_upd (o := .tup [.int m, .int u, .int (farL n m u)]) np
            refine ⟨D, _, _, rfl, rfl, s6 _ _ e5, small1000' (by omega), ?_⟩
            obtain ⟨h1, h2⟩ := done1 m u rfl p np
            exact ⟨_, _, _, rfl, upd_same, h1, h2, (upd_ne nPD).trans (s6 _ _ P5)⟩
        · obtain ⟨o4, o6, us, rfl, e5, la5, s5, P5⟩ := pv
          rw [hL.1, List.take_length] at la5
          have ul := la5.1
          have fl := flat_len Ls
          have tl : Ls.length ≤ 1000 := by rw [← hL.1]; exact hz
          rw [List.length_append, List.length_append, List.length_map, List.length_map] at ul
          exact ⟨_, rfl, q ys D us H5 perm pw s5 D0 e5 la5 (by omega)⟩
def sp__law_snapshot (K : PySem.W.Frag) : Sp := fun vs H Q _ => ∃ (dN dB pO : Addr) (n : Int) (nx bs : List (Key × V)) (ps : List V) (ks : List Int), vs = [.int n, .ref dN, .ref dB, .ref pO] ∧ H dN = some (.dK nx) ∧ H dB = some (.dK bs) ∧ H pO = some (.lst ps) ∧ ks.length < 64 ∧ GN ks nx ∧
  ∀ (ys : List Int) p H', ys.Perm ks → ys.Pairwise (· ≤ ·) → Same H H' → Shot n (gV nx) (bef bs) ys H' p ps → Q (.ref p) H'
theorem T0.ok__law_snapshot (T : T0 K mg) : FnOk P w K mg base CX0 1 T.a__law_snapshot T.fd__law_snapshot ["size", "nexts", "behinds", "post"] (sp__law_snapshot K) := by
  refine T.F__law_snapshot.ok sc__law_snapshot (fun vs H Q E h => ?_) (fun cdv A outer s H vs Q E hr h => ?_)
  · obtain ⟨dN, dB, pO, n, nx, bs, ps, ks, rfl, _⟩ := h
    rfl
  · obtain ⟨dN, dB, pO, n, nx, bs, ps, ks, rfl, hN, hB, hP, h64, gn, q⟩ := h
    refine ⟨_, (pss_cons (ps_setLc (i := 4) (own := [("one", 5)]) (g := gName 5) (by rfl) sc__law_snapshot.nd rfl rfl (sw_true rfl rfl rfl (by decide +kernel)) (pi_list (pe_callB (call_sortedDI rfl) (by rfl) T.m_sorted (by decide +kernel) (pa_cons (pv 1) pa_nil))) (blkOk_by (own := [("one", 5)]) (N := ["size", "nexts", "behinds", "post", "rows", "one"]) (sc := defScope s__law_snapshot) (by decide +kernel)) (fun _ _ _ _ _ => pg_name (i := 5) sc__law_snapshot.nd rfl (Or.inl rfl)) (fun _ _ _ _ _ => pts_nil) (fun _ _ _ _ _ => (pe_tup (pa_cons (pv 5) (pa_cons (pe_dget (un1 hr) (pv 1) (pv 5) (fun _ _ => rfl)) (pa_cons (pe_dget1 (un1 hr) (pv 2) (pv 5) ⟨rfl, rfl, rfl, rfl⟩) pa_nil))))))
        (pss_one (ps_ret (pe_tup (pa_cons (pv 0) (pa_cons (pe_callTy (call_tuple_ofK (K := K)) (by rfl) T.m_tuple (by decide +kernel) (pa_cons (pv 4) pa_nil)) (pa_cons (pe_callTy (call_tuple_ofK (K := K)) (by rfl) T.m_tuple (by decide +kernel) (pa_cons (pv 3) pa_nil)) pa_nil))))))), ?_⟩
    refine ⟨_, rfl, dN, nx, ks, rfl, .inl hN, gn.1, h64, fun ys l perm pw nl => ?_⟩
    have hl : upd H l (.lst (ys.map V.int)) l = some (.lst (ys.map V.int)) := upd_same
    have sm := same_upd (o := .lst (ys.map V.int)) nl
    generalize upd H l (.lst (ys.map V.int)) = H1 at hl sm
    have ylen := perm.length_eq
    refine ⟨l, rfl, ⟨_, SqL.of hl⟩, fun D hD => ?_⟩
    refine lc_list (K := K) (a := l) (xs := ys.map V.int) (fun i H' => Same H1 H' ∧ ∃ rs, H' D = some (.lst rs) ∧ LAt (rV (gV nx) (bef bs)) H' rs (ys.take i)) ⟨same_upd hD, [], upd_same, .nil⟩ (fun i H' _ p => SqL.of (p.1 _ _ hl)) (fun i x H2 hx pv => ?_) (fun H2 pv => ?_)
    · obtain ⟨s2, rs, e2, la⟩ := pv
      have hx' : (ys.map V.int)[i]? = some x := hx
      rw [List.getElem?_map] at hx'
      obtain ⟨y, hy, rfl⟩ := Option.map_eq_some_iff.mp hx'
      obtain ⟨x', _, ex⟩ := gn.2 y (perm.mem_iff.mp (List.mem_of_getElem? hy))
      have s02 := Same.trans sm s2
      have lr := la.1
      rw [List.length_take] at lr
      refine ⟨rfl, lc_yes ?_⟩
      refine ⟨_, rfl, _, rfl, _, rfl, dN, _, rfl, dget_of (k := Sum.inl y) (s02 _ _ hN) ex, _, rfl, dB, rfl, .inl ⟨_, .inl (s02 _ _ hB)⟩, _, rfl, _, DGet.k (k := Sum.inl y) (s02 _ _ hB), lenL (by show 3 ≤ 100000; decide), fun p np => ?_⟩
      have s3 := same_upd (o := .tup [.int y, .int x', bef bs y]) np
      have e3 := s3 _ _ e2
      refine ⟨_, e3, small1000' (by omega), fun b o e => ?_, rs ++ [.ref p], upd_same, ?_⟩
      · exact (upd_ne (ne_of_none e hD)).trans (s3 _ _ (s2 _ _ e))
      · rw [List.take_add_one, hy]
        refine ((la.same s3).app (q := y) ?_).mono fun a xs e => (upd_ne (ne_kind e e3 (fun z => nomatch z))).trans e
        refine upd_same.trans ?_
        show some (HO.tup [.int y, .int x', bef bs y]) = some (HO.tup [.int y, gV nx y, bef bs y])
        rw [gV_of ex]
    · obtain ⟨s2, rs, e2, la⟩ := pv
      rw [List.length_map, List.take_length] at la
      have s02 := Same.trans sm s2
      refine ⟨_, rfl, _, rfl, D, rs, rfl, .inl ⟨SqL.of e2, fun r nr => ?_⟩⟩
      have s3 := same_upd (o := .tup rs) nr
      have hr' : upd H2 r (.tup rs) r = some (.tup rs) := upd_same
      generalize upd H2 r (.tup rs) = H3 at s3 hr'
      refine ⟨_, rfl, pO, ps, rfl, .inl ⟨SqL.of (s3 _ _ (s02 _ _ hP)), fun l4 nl4 => ?_⟩⟩
      have s4 := same_upd (o := .tup ps) nl4
      have hl4 : upd H3 l4 (.tup ps) l4 = some (.tup ps) := upd_same
      generalize upd H3 l4 (.tup ps) = H4 at s4 hl4
      refine ⟨lenL (by show 3 ≤ 100000; decide), fun p np => ?_⟩
      have s5 := same_upd (o := .tup [.int n, .ref r, .ref l4]) np
      exact q ys p _ perm pw (Same.trans s02 (Same.trans s3 (Same.trans s4 s5))) ⟨r, l4, rs, upd_same, s5 _ _ hl4, s5 _ _ (s4 _ _ hr'), ((la.same s3).same s4).same s5⟩
--CUT
/-! ### the law's own defs -/
def BI (x : Int) (ys : List Int) (j : Nat) (y : Int) : Prop := x ≤ y ∧ y ≤ x + j ∧ ((∀ e ∈ ys.take j, e < y) ∨ ∃ e ∈ ys.take j, y < e ∧ ∀ f ∈ ys.take j, f ≠ y)
theorem BI.zero {x : Int} {ys : List Int} : BI x ys 0 x := ⟨Int.le_refl _, by omega, .inl fun e h => by rw [List.take_zero] at h; cases h⟩
theorem mem_take_le {ys : List Int} (pw : ys.Pairwise (· ≤ ·)) {j : Nat} {z e : Int} (hz : ys[j]? = some z) (he : e ∈ ys.take j) : e ≤ z := by
  obtain ⟨i, hi⟩ := List.mem_iff_getElem?.mp he
  rw [List.getElem?_take] at hi
  split at hi
  · rename_i lt
    obtain ⟨h1, rfl⟩ := List.getElem?_eq_some_iff.mp hi
    obtain ⟨h2, rfl⟩ := List.getElem?_eq_some_iff.mp hz
    exact List.pairwise_iff_getElem.mp pw i j h1 h2 lt
  · cases hi
theorem BI.step {x : Int} {ys : List Int} {j : Nat} {y z : Int} (pw : ys.Pairwise (· ≤ ·)) (hz : ys[j]? = some z) (h : BI x ys j y) : BI x ys (j + 1) (if z ≤ y then y + 1 else y) := by
  obtain ⟨a, b, c⟩ := h
  have mt : ∀ f, f ∈ ys.take (j + 1) ↔ f ∈ ys.take j ∨ f = z := fun f => by rw [List.take_add_one, hz, Option.toList_some, List.mem_append, List.mem_singleton]
  by_cases e : z ≤ y
  · rw [if_pos e]
    refine ⟨by omega, by omega, ?_⟩
    rcases c with c | ⟨f, hf, hy, _⟩
    · refine .inl fun g hg => ?_
      rcases (mt g).mp hg with hg | rfl
      · have := c g hg
        omega
      · omega
    · have := mem_take_le pw hz hf
      omega
  · rw [if_neg e]
    refine ⟨a, by omega, .inr ?_⟩
    rcases c with c | ⟨f, hf, hy, hn⟩
    · refine ⟨z, (mt z).mpr (.inr rfl), by omega, fun g hg => ?_⟩
      rcases (mt g).mp hg with hg | rfl
      · have := c g hg
        omega
      · omega
    · refine ⟨f, (mt f).mpr (.inl hf), hy, fun g hg => ?_⟩
      rcases (mt g).mp hg with hg | rfl
      · exact hn g hg
      · omega
theorem BI.done {x : Int} {ys : List Int} {y : Int} (h : BI x ys ys.length y) : y ∉ ys := by
  obtain ⟨_, _, c⟩ := h
  rw [List.take_length] at c
  intro m
  rcases c with c | ⟨f, hf, hy, hn⟩
  · have := c y m
    omega
  · exact hn y m rfl
theorem Kp.free {t c l : Addr} {H H' : Hp} (k : Kp t H H') (T : Tape H' t c) (nl : H' l = none) : H l = none := by
  cases e : H l with
  | none => rfl
  | some o =>
    by_cases z : l = t
    · obtain ⟨_, _, _, _, _, e1, _⟩ := T
      rw [z, e1] at nl
      cases nl
    · rw [k _ _ z e] at nl
      cases nl
def sp__law_places (K : PySem.W.Frag) : Sp := fun vs H Q _ => ∃ (t c : Addr) (n m : Int), vs = [.ref t, .int n, .int m] ∧ Tape H t c ∧ 0 ≤ m ∧ m ≤ n ∧ m ≤ 60 ∧ n ≤ 1000000000 ∧ ∀ p (ms : List Int) H', H p = none → H' p = some (.lst (ms.map V.int)) → (ms.length : Int) = m → ms.Nodup → (∀ k ∈ ms, 0 ≤ k ∧ k < n) → Kp t H H' → Tape H' t c → Q (.ref p) H'
theorem T0.ok__law_places (T : T0 K mg) : FnOk P w K mg base CX0 2 T.a__law_places T.fd__law_places ["tape", "size", "count"] (sp__law_places K) := by
  refine T.F__law_places.ok sc__law_places (fun vs H Q E h => ?_) (fun cdv A outer s H vs Q E hr h => ?_)
  · obtain ⟨t, c, n, m, rfl, _⟩ := h
    rfl
  · obtain ⟨t, c, n, m, rfl, hT, hm0, hmn, hm6, hn9, q⟩ := h
    refine ⟨_, (pss_cons (ps_set (i := 3) sc__law_places.nd rfl (Or.inl rfl) (pe_lst pa_nil))
        (pss_cons (ps_for PassesOwn.never rfl (pi_range1 (by rfl) T.m_range (pa_cons (pv 2) pa_nil)) (pg_name (i := 4) sc__law_places.nd rfl (Or.inl rfl)) (pss_cons (ps_set (i := 5) sc__law_places.nd rfl (Or.inl rfl) (pe_call T.ok__law_pick hr (by rfl) T.g__law_pick T.k__law_pick T.b__law_pick .nil pass0 (pa_cons (pv 0) (pa_cons (pe_op op_sub (pv 1) (pv 4)) pa_nil))))
        (pss_cons (ps_for PassesOwn.never rfl (pi_list (pe_callB (cr_sortedK (K := K)) (by rfl) T.m_sorted (by decide +kernel) (pa_cons (pv 3) pa_nil))) (pg_name (i := 6) sc__law_places.nd rfl (Or.inl rfl)) (pss_one (ps_if (pt_cmpR op_le (pv 6) (pv 5) (nomark _)) (pss_one (ps_set (i := 5) sc__law_places.nd rfl (Or.inl rfl) (pe_op op_add (pv 5) pe_int))) pss_nil)))
        (pss_one (ps_expr (pe_bm PySem.F.plainAttrs_list PySem.F.slot_list_append PySem.F.type_list_append mt_append (pv 3) (pa_cons (pv 5) pa_nil)))))))
        (pss_one (ps_ret (pv 3))))), ?_⟩
    refine ⟨Nat.zero_le _, fun p np => ?_⟩
    have off := hT.off np
    refine ⟨_, rfl, m, rfl, by omega, by omega, ?_⟩
    refine for_range (lo := 0) (n := m.toNat) (fun i σ' H' => ∃ (o1 o2 o3 : Option V) (ms : List Int), σ' = [some (.ref t), some (.int n), some (.int m), some (.ref p), o1, o2, o3] ∧ ms.length = i ∧ ms.Nodup ∧ (∀ k ∈ ms, 0 ≤ k ∧ k < n) ∧ H' p = some (.lst (ms.map V.int)) ∧ Kp t H H' ∧ Tape H' t c)
      ⟨none, none, none, [], rfl, rfl, List.nodup_nil, fun _ h => (nomatch h), upd_same, Kp.of_same (same_upd np), hT.put off⟩ (fun i σ' H' hi pv => ?_) (fun σ' H' pv => ?_)
    · obtain ⟨o1, o2, o3, ms, rfl, hl, hnd, hrg, hp, kp, hT1⟩ := pv
      rw [Int.zero_add]
      refine ⟨_, rfl, _, rfl, _, rfl, _, _, rfl, rfl, ?_⟩
      refine ⟨t, c, n - i, rfl, hT1, by omega, by omega, fun x H2 x0 x1 kp2 hT2 => ?_⟩
      have hp2 := kp2 _ _ off.1 hp
      refine ⟨_, rfl, p, ms, rfl, SqL.of hp2, by omega, fun ss l perm pw nl => ?_⟩
      have hp3 : upd H2 l (.lst (ss.map V.int)) p = some (.lst (ms.map V.int)) := by rw [upd_ne (ne_of_none hp2 nl)]; exact hp2
      have kp3 : Kp t H (upd H2 l (.lst (ss.map V.int))) := (kp.trans kp2).new nl
      have hT3 : Tape (upd H2 l (.lst (ss.map V.int))) t c := hT2.put (hT2.off nl)
      have hl3 : upd H2 l (.lst (ss.map V.int)) l = some (.lst (ss.map V.int)) := upd_same
      generalize upd H2 l (.lst (ss.map V.int)) = H3 at hp3 kp3 hT3 hl3
      refine ⟨l, rfl, ⟨_, SqL.of hl3⟩, for_list (K := K) (a := l) (xs := ss.map V.int) (fun j σ2 H4 => ∃ (o3 : Option V) (y : Int), σ2 = [some (.ref t), some (.int n), some (.int m), some (.ref p), some (.int i), some (.int y), o3] ∧ H3 = H4 ∧ BI x ss j y) ⟨_, x, rfl, rfl, BI.zero⟩ (fun j σ2 H4 _ pv => by obtain ⟨_, _, _, rfl, _⟩ := pv; exact SqL.of hl3) (fun j v σ2 H4 hv pv => ?_) (fun σ2 H4 pv => ?_)⟩
      · obtain ⟨o3, y, rfl, rfl, bi⟩ := pv
        rw [List.getElem?_map] at hv
        obtain ⟨z, hz, rfl⟩ := Option.map_eq_some_iff.mp hv
        have st := bi.step pw hz
        refine ⟨_, rfl, _, rfl, _, _, rfl, rfl, _, rfl, ite2 (fun e => ?_) (fun e => ?_)⟩
        · rw [if_pos (of_decide_eq_true e)] at st
          exact ⟨_, rfl, _, _, rfl, rfl, _, _, rfl, rfl, st⟩
        · rw [if_neg (fun g => e (decide_eq_true g))] at st
          exact ⟨_, _, rfl, rfl, st⟩
      · obtain ⟨o3, y, rfl, rfl, bi⟩ := pv
        have sl := perm.length_eq
        rw [List.length_map] at bi
        have ny : y ∉ ms := fun g => bi.done (perm.mem_iff.mpr g)
        have yb := bi.2.1
        have ya := bi.1
        refine ⟨_, rfl, .inl ⟨rfl, _, SqL.of hp3⟩, _, rfl, p, _, _, rfl, rfl, hp3, small1000' (by rw [List.length_map]; omega), _, _, _, ms ++ [y], rfl, by rw [List.length_append, hl]; rfl, ?_, fun k hk => ?_, ?_, ?_, hT3.put off⟩
        · exact List.nodup_append.mpr ⟨hnd, List.pairwise_singleton _ _, fun a ha b hb z => by rw [List.mem_singleton.mp hb] at z; rw [z] at ha; exact ny ha⟩
        · rcases List.mem_append.mp hk with hk | hk
          · exact hrg k hk
          · rw [List.mem_singleton.mp hk]
            omega
        · rw [upd_same, List.map_append]
          rfl
        · intro b o nb e
          have nbp : b ≠ p := ne_of_none e np
          rw [upd_ne nbp]
          exact kp3 b o nb e
    · obtain ⟨o1, o2, o3, ms, rfl, hl, hnd, hrg, hp, kp, hT1⟩ := pv
      exact ⟨_, rfl, q p ms _ np hp (by omega) hnd hrg kp hT1⟩
def sp__law_nexts (K : PySem.W.Frag) : Sp := fun vs H Q _ => ∃ (t c pl : Addr) (ms : List Int), vs = [.ref t, .ref pl] ∧ Tape H t c ∧ pl ≠ t ∧ H pl = some (.lst (ms.map V.int)) ∧ ms.Nodup ∧ ms.length ≤ 1000 ∧
  ∀ p (nx : List (Key × V)) H', H p = none → H' p = some (.dK nx) → nx.map (·.1) = ms.map Sum.inl → (∀ k ∈ ms, ∃ x ∈ ms, valV nx (.inl k) = some (.int x)) → Kp t H H' → Tape H' t c → Q (.ref p) H'
theorem T0.ok__law_nexts (T : T0 K mg) : FnOk P w K mg base CX0 2 T.a__law_nexts T.fd__law_nexts ["tape", "places"] (sp__law_nexts K) := by
  refine T.F__law_nexts.ok sc__law_nexts (fun vs H Q E h => ?_) (fun cdv A outer s H vs Q E hr h => ?_)
  · obtain ⟨t, c, pl, ms, rfl, _⟩ := h
    rfl
  · obtain ⟨t, c, pl, ms, rfl, hT, n1, hp, hnd, l1, q⟩ := h
    refine ⟨_, (pss_cons (ps_set (i := 2) sc__law_nexts.nd rfl (Or.inl rfl) pe_dnewK)
        (pss_cons (ps_set (i := 3) sc__law_nexts.nd rfl (Or.inl rfl) (pe_callB (call_lenK (K := K)) (by rfl) T.m_len PySem.boot_len (pa_cons (pv 1) pa_nil)))
        (pss_cons (ps_set (i := 4) sc__law_nexts.nd rfl (Or.inl rfl) pe_int)
        (pss_cons (ps_set (i := 5) sc__law_nexts.nd rfl (Or.inl rfl) pe_int)
        (pss_cons (ps_set (i := 6) sc__law_nexts.nd rfl (Or.inl rfl) pe_int)
        (pss_cons (ps_for PassesOwn.never rfl (pi_range1 (by rfl) T.m_range (pa_cons (pv 3) pa_nil)) (pg_name (i := 7) sc__law_nexts.nd rfl (Or.inl rfl)) (C8.pss_cut (ps_if (pt_cmpR op_eq (pv 7) (pv 5) (nomark _)) (pss_cons (ps_set (i := 4) sc__law_nexts.nd rfl (Or.inl rfl) (pv 7))
        (pss_cons (ps_set (i := 5) sc__law_nexts.nd rfl (Or.inl rfl) (pv 3))
        (C8.pss_cut (ps_if (pt_cmpR op_eq (pe_call T.ok__law_pick hr (by rfl) T.g__law_pick T.k__law_pick T.b__law_pick .nil pass0 (pa_cons (pv 0) (pa_cons pe_int pa_nil))) pe_int (nomark _)) (pss_one (ps_set (i := 5) sc__law_nexts.nd rfl (Or.inl rfl) (pe_op op_add (pe_op op_add (pv 7) pe_int) (pe_call T.ok__law_pick hr (by rfl) T.g__law_pick T.k__law_pick T.b__law_pick .nil pass0 (pa_cons (pv 0) (pa_cons (pe_op op_sub (pv 3) (pv 7)) pa_nil)))))) pss_nil)
        (pss_one (ps_set (i := 6) sc__law_nexts.nd rfl (Or.inl rfl) (pe_op op_add pe_int (pe_call T.ok__law_pick hr (by rfl) T.g__law_pick T.k__law_pick T.b__law_pick .nil pass0 (pa_cons (pv 0) (pa_cons (pe_op op_sub (pv 5) (pv 4)) pa_nil))))))))) pss_nil)
        (pss_one (ps_if (pt_cmpR op_lt (pe_op op_sub (pv 7) (pv 4)) (pe_op op_sub (pv 6) pe_int) (nomark _)) (pss_one (ps_asg (pe_ix (ix_listK (K := K)) (pv 1) (pe_op op_add (pv 7) pe_int) (fun _ _ => rfl)) (pg_sub (pv 2) (pe_ix (ix_listK (K := K)) (pv 1) (pv 7) (fun _ _ => rfl)) (set_dict (un1 hr))))) (pss_one (ps_if (pt_cmpR op_eq (pe_op op_sub (pv 7) (pv 4)) (pe_op op_sub (pv 6) pe_int) (nomark _)) (pss_one (ps_asg (pe_ix (ix_listK (K := K)) (pv 1) (pv 4) (fun _ _ => rfl)) (pg_sub (pv 2) (pe_ix (ix_listK (K := K)) (pv 1) (pv 7) (fun _ _ => rfl)) (set_dict (un1 hr))))) (pss_one (ps_asg (pe_ix (ix_listK (K := K)) (pv 1) (pe_op op_add (pv 4) (pe_call T.ok__law_pick hr (by rfl) T.g__law_pick T.k__law_pick T.b__law_pick .nil pass0 (pa_cons (pv 0) (pa_cons (pe_op op_sub (pv 7) (pv 4)) pa_nil)))) (fun _ _ => rfl)) (pg_sub (pv 2) (pe_ix (ix_listK (K := K)) (pv 1) (pv 7) (fun _ _ => rfl)) (set_dict (un1 hr)))))))))))
        (pss_one (ps_ret (pv 2))))))))), fun D nD => ?_⟩
    have oD := hT.off nD
    have hp1 := (upd_ne (o := .dK []) (ne_of_none hp nD)).trans hp
    refine ⟨_, rfl, pl, _, rfl, .inl (SqL.of hp1), ?_⟩
    rw [List.length_map]
    refine ⟨_, rfl, (ms.length : Int), rfl, by omega, by omega, ?_⟩
    rw [Int.toNat_natCast]
    refine for_range (lo := 0) (n := ms.length) (fun i σ' H' => ∃ (f l r : Int) (o7 : Option V) (nx : List (Key × V)), σ' = [some (.ref t), some (.ref pl), some (.ref D), some (.int ms.length), some (.int f), some (.int l), some (.int r), o7] ∧ 0 ≤ f ∧ f ≤ i ∧ i ≤ l ∧ l ≤ ms.length ∧ (i < l → 1 ≤ r ∧ r ≤ l - f) ∧ H' D = some (.dK nx) ∧ nx.map (·.1) = (ms.take i).map Sum.inl ∧ (∀ k ∈ ms.take i, ∃ x ∈ ms, valV nx (.inl k) = some (.int x)) ∧ Kp t H H' ∧ Tape H' t c)
      ⟨0, 0, 0, none, [], rfl, by omega, by omega, by omega, by omega, fun h => by omega, upd_same, by rw [List.take_zero]; rfl, fun k h => (by rw [List.take_zero] at h; cases h), Kp.of_same (same_upd nD), hT.put oD⟩ (fun i σ' H' hi pv => ?_) (fun σ' H' pv => ?_)
    · obtain ⟨f, l, r, o7, nx, rfl, f0, fi, il, lN, hr', hD, hk, hx, k1, T1⟩ := pv
      rw [Int.zero_add]
      refine ⟨fun σ' H' => ∃ f l r : Int, σ' = [some (.ref t), some (.ref pl), some (.ref D), some (.int ms.length), some (.int f), some (.int l), some (.int r), some (.int i)] ∧ 0 ≤ f ∧ f ≤ i ∧ i < l ∧ l ≤ ms.length ∧ 1 ≤ r ∧ r ≤ l - f ∧ H' D = some (.dK nx) ∧ Kp t H H' ∧ Tape H' t c, ?_, ?_⟩
      · refine ⟨_, rfl, _, rfl, rfl, _, rfl, ite2 (fun e => ?_) (fun e => ?_)⟩
        · refine ⟨_, rfl, _, rfl, ?_⟩
          refine ⟨fun σ' H' => ∃ l : Int, σ' = [some (.ref t), some (.ref pl), some (.ref D), some (.int ms.length), some (.int i), some (.int l), some (.int r), some (.int i)] ∧ i < l ∧ l ≤ ms.length ∧ H' D = some (.dK nx) ∧ Kp t H H' ∧ Tape H' t c, ?_, ?_⟩
          · refine ⟨_, rfl, t, c, 4, rfl, T1, by decide, by decide, fun d H2 d0 d1 k2 T2 => ⟨rfl, _, rfl, ite2 (fun _ => ?_) (fun _ => ?_)⟩⟩
            · refine ⟨_, rfl, _, _, rfl, rfl, _, rfl, _, rfl, _, rfl, _, _, rfl, rfl, t, c, ms.length - i, rfl, T2, by omega, by omega, fun d H3 d0 d1 k3 T3 => ⟨_, _, rfl, rfl, _, rfl, by omega, by omega, k3 _ _ oD.1 (k2 _ _ oD.1 hD), (k1.trans k2).trans k3, T3⟩⟩
            · exact ⟨_, rfl, by omega, by omega, k2 _ _ oD.1 hD, k1.trans k2, T2⟩
          rintro _ H3 ⟨l', rfl, il', lN', hD3, k3, T3⟩
          refine ⟨_, rfl, _, rfl, _, rfl, _, _, rfl, rfl, t, c, l' - i, rfl, T3, by omega, by omega, fun d H4 d0 d1 k4 T4 => ⟨_, _, rfl, rfl, i, l', 1 + d, rfl, by omega, by omega, il', lN', by omega, by omega, k4 _ _ oD.1 hD3, k3.trans k4, T4⟩⟩
        · have ne : ¬ (i : Int) = l := fun z => e (decide_eq_true (congrArg V.int z))
          exact ⟨f, l, r, rfl, f0, fi, by omega, lN, (hr' (by omega)).1, (hr' (by omega)).2, hD, k1, T1⟩
      rintro _ H2 ⟨f, l, r, rfl, f0, fi, il, lN, r1, r2, hD2, k2, T2⟩
      have hp2 := k2 _ _ n1 hp
      have gi : ms[i]? = some ms[i] := List.getElem?_eq_getElem hi
      have lx : nx.length = (ms.take i).length := by have := congrArg List.length hk; rw [List.length_map, List.length_map] at this; exact this
      have sx : nx.length < sizeLine := small1000' (by rw [lx, List.length_take]; omega)
      have fin : ∀ (H3 : Hp) (x : Int), x ∈ ms → Kp t H H3 → Tape H3 t c → ∃ (f' l' r' : Int) (o7 : Option V) (nx' : List (Key × V)), [some (V.ref t), some (.ref pl), some (.ref D), some (.int ms.length), some (.int f), some (.int l), some (.int r), some (.int i)] = [some (.ref t), some (.ref pl), some (.ref D), some (.int ms.length), some (.int f'), some (.int l'), some (.int r'), o7] ∧ 0 ≤ f' ∧ f' ≤ ((i + 1 : Nat) : Int) ∧ ((i + 1 : Nat) : Int) ≤ l' ∧ l' ≤ ms.length ∧ (((i + 1 : Nat) : Int) < l' → 1 ≤ r' ∧ r' ≤ l' - f') ∧ upd H3 D (.dK (putK nx (.inl ms[i]) (.int x))) D = some (.dK nx') ∧ nx'.map (·.1) = (ms.take (i + 1)).map Sum.inl ∧ (∀ k ∈ ms.take (i + 1), ∃ x ∈ ms, valV nx' (.inl k) = some (.int x)) ∧ Kp t H (upd H3 D (.dK (putK nx (.inl ms[i]) (.int x)))) ∧ Tape (upd H3 D (.dK (putK nx (.inl ms[i]) (.int x)))) t c := fun H3 x mx k3 T3 => by
        refine ⟨f, l, r, _, _, rfl, f0, by omega, by omega, lN, fun _ => ⟨r1, r2⟩, upd_same, ?_, fun k hk2 => ?_, fun a o na e => ?_, T3.put oD⟩
        · rw [putK_new _ (valV_none_keys hk (not_in_take hnd gi)), List.map_append, hk, List.take_add_one, gi, Option.toList_some, List.map_append]
          rfl
        · rw [valV_put]
          by_cases e : k = ms[i]
          · rw [e, if_pos rfl]
            exact ⟨x, mx, rfl⟩
          · rw [if_neg (fun z => e (Sum.inl.inj z))]
            rw [List.take_add_one, gi, Option.toList_some] at hk2
            exact hx k ((List.mem_append.mp hk2).resolve_right (fun z => e (List.mem_singleton.mp z)))
        · exact (upd_ne (ne_of_none e nD)).trans (k3 _ _ na e)
      have pick : ∀ (j : Nat) (h : j < ms.length), atI (ms.map V.int) (j : Int) = some (.int ms[j]) := fun j h => at_ints h
      refine ⟨_, rfl, _, rfl, _, _, rfl, rfl, _, rfl, _, _, rfl, rfl, _, _, rfl, rfl, _, rfl, ite2 (fun e => ?_) (fun e => ?_)⟩
      · have e := of_decide_eq_true e
        have hj : i + 1 < ms.length := by omega
        exact ⟨_, rfl, _, rfl, _, _, rfl, rfl, pl, _, _, .int ms[i + 1], rfl, rfl, SqL.of hp2, pick (i + 1) hj, _, rfl, _, rfl, _, rfl, pl, _, _, .int ms[i], rfl, rfl, SqL.of hp2, pick i hi, D, _, rfl, DPut.k (k := Sum.inl ms[i]) hD2 sx, fin H2 ms[i + 1] (List.getElem_mem _) k2 T2⟩
      · refine ⟨_, rfl, _, rfl, _, _, rfl, rfl, _, rfl, _, _, rfl, rfl, rfl, _, rfl, ite2 (fun g => ?_) (fun g => ?_)⟩
        · have hj : f.toNat < ms.length := by omega
          have ef : f = ((f.toNat : Nat) : Int) := by omega
          exact ⟨_, rfl, _, rfl, pl, _, _, .int ms[f.toNat], rfl, rfl, SqL.of hp2, (congrArg (atI (ms.map V.int)) ef).trans (pick _ hj), _, rfl, _, rfl, _, rfl, pl, _, _, .int ms[i], rfl, rfl, SqL.of hp2, pick i hi, D, _, rfl, DPut.k (k := Sum.inl ms[i]) hD2 sx, fin H2 ms[f.toNat] (List.getElem_mem _) k2 T2⟩
        · have e : ¬ (i : Int) - f < r - 1 := fun z => e (decide_eq_true z)
          have g : ¬ (i : Int) - f = r - 1 := fun z => g (decide_eq_true (congrArg V.int z))
          refine ⟨_, rfl, _, rfl, _, rfl, _, rfl, _, rfl, _, _, rfl, rfl, t, c, i - f, rfl, T2, by omega, by omega, fun d H3 d0 d1 k3 T3 => ?_⟩
          have hj : (f + d).toNat < ms.length := by omega
          have ef : f + d = (((f + d).toNat : Nat) : Int) := by omega
          have hp3 := k3 _ _ n1 hp2
          exact ⟨_, _, rfl, rfl, pl, _, _, .int ms[(f + d).toNat], rfl, rfl, SqL.of hp3, (congrArg (atI (ms.map V.int)) ef).trans (pick _ hj), _, rfl, _, rfl, _, rfl, pl, _, _, .int ms[i], rfl, rfl, SqL.of hp3, pick i hi, D, _, rfl, DPut.k (k := Sum.inl ms[i]) (k3 _ _ oD.1 hD2) sx, fin H3 ms[(f + d).toNat] (List.getElem_mem _) (k2.trans k3) T3⟩
    · obtain ⟨f, l, r, o7, nx, rfl, f0, fi, il, lN, hr', hD, hk, hx, k1, T1⟩ := pv
      rw [List.take_length] at hk hx
      exact ⟨_, rfl, q D nx _ nD hD hk hx k1 T1⟩
--CUT
theorem cut_lo {ms : List Int} {d : Int} (h0 : 0 ≤ d) : cutV (ms.map V.int) none (some d) = (ms.take d.toNat).map V.int := by
  unfold cutV
  rw [HT.sIx_none, show HT.sIx (ms.map V.int).length (ms.map V.int).length (some d) = min d.toNat (ms.map V.int).length from if_neg (by omega), List.drop_zero, List.length_map, List.map_take, Nat.sub_zero]
  by_cases e : d.toNat ≤ ms.length
  · rw [Nat.min_eq_left e]
  · rw [Nat.min_eq_right (by omega), List.take_of_length_le (by rw [List.length_map]; omega), List.take_of_length_le (by rw [List.length_map]; omega)]
theorem cut_hi {ms : List Int} {d : Int} (h0 : 0 ≤ d) : cutV (ms.map V.int) (some d) none = (ms.drop d.toNat).map V.int := by
  unfold cutV
  rw [HT.sIx_none, show HT.sIx (ms.map V.int).length 0 (some d) = min d.toNat (ms.map V.int).length from if_neg (by omega), List.length_map, List.map_drop]
  by_cases e : d.toNat ≤ ms.length
  · rw [Nat.min_eq_left e, List.take_of_length_le (by rw [List.length_drop, List.length_map]; omega)]
  · rw [Nat.min_eq_right (by omega), List.drop_of_length_le (by rw [List.length_map]; omega), List.drop_of_length_le (by rw [List.length_map]; omega), List.take_nil]
def GK (ms ks : List Int) (nx : List (Key × V)) : Prop := nx.map (·.1) = ks.map Sum.inl ∧ ∀ k ∈ ks, ∃ x ∈ ms, valV nx (.inl k) = some (.int x)
def sp__law_parts (K : PySem.W.Frag) : Sp := fun vs H Q _ => ∃ (t c pl : Addr) (ms : List Int), vs = [.ref t, .ref pl] ∧ Tape H t c ∧ pl ≠ t ∧ H pl = some (.lst (ms.map V.int)) ∧ ms.Nodup ∧ ms.length ≤ 1000 ∧
  ∀ p (nx : List (Key × V)) H', H p = none → H' p = some (.dK nx) → GN ms nx → Kp t H H' → Tape H' t c → Q (.ref p) H'
theorem T0.ok__law_parts (T : T0 K mg) : FnOk P w K mg base CX0 3 T.a__law_parts T.fd__law_parts ["tape", "places"] (sp__law_parts K) := by
  refine T.F__law_parts.ok sc__law_parts (fun vs H Q E h => ?_) (fun cdv A outer s H vs Q E hr h => ?_)
  · obtain ⟨t, c, pl, ms, rfl, _⟩ := h
    rfl
  · obtain ⟨t, c, pl, ms, rfl, hT, n1, hp, hnd, l1, q⟩ := h
    refine ⟨_, (pss_cons (ps_set (i := 2) sc__law_parts.nd rfl (Or.inl rfl) pe_int)
        (C8.pss_cut (ps_if (pt_cmpR op_eq (pe_call T.ok__law_pick (hr.mono (by decide)) (by rfl) T.g__law_pick T.k__law_pick T.b__law_pick .nil pass0 (pa_cons (pv 0) (pa_cons pe_int pa_nil))) pe_int (nomark _)) (pss_one (ps_set (i := 2) sc__law_parts.nd rfl (Or.inl rfl) (pe_call T.ok__law_pick (hr.mono (by decide)) (by rfl) T.g__law_pick T.k__law_pick T.b__law_pick .nil pass0 (pa_cons (pv 0) (pa_cons (pe_op op_add (pe_callB (call_lenK (K := K)) (by rfl) T.m_len PySem.boot_len (pa_cons (pv 1) pa_nil)) pe_int) pa_nil))))) pss_nil)
        (pss_cons (ps_set (i := 3) sc__law_parts.nd rfl (Or.inl rfl) (pe_call T.ok__law_nexts hr (by rfl) T.g__law_nexts T.k__law_nexts T.b__law_nexts .nil pass0 (pa_cons (pv 0) (pa_cons (pe_slice (sl_listK (K := K)) (pv 1) po_none (po_some (pv 2))) pa_nil))))
        (pss_cons (ps_set (i := 4) sc__law_parts.nd rfl (Or.inl rfl) (pe_call T.ok__law_nexts hr (by rfl) T.g__law_nexts T.k__law_nexts T.b__law_nexts .nil pass0 (pa_cons (pv 0) (pa_cons (pe_slice (sl_listK (K := K)) (pv 1) (po_some (pv 2)) po_none) pa_nil))))
        (pss_cons (ps_for PassesOwn.never rfl (pi_list (pe_slice (sl_listK (K := K)) (pv 1) (po_some (pv 2)) po_none)) (pg_name (i := 5) sc__law_parts.nd rfl (Or.inl rfl)) (pss_one (ps_asg (pe_dget (un1 hr) (pv 4) (pv 5) (fun _ _ => rfl)) (pg_sub (pv 3) (pv 5) (set_dict (un1 hr))))))
        (pss_one (ps_ret (pv 3)))))))), ?_⟩
    refine ⟨fun σ' H' => ∃ d : Int, σ' = [some (.ref t), some (.ref pl), some (.int d), none, none, none] ∧ 0 ≤ d ∧ d ≤ ms.length ∧ Kp t H H' ∧ Tape H' t c, ?_, ?_⟩
    · refine ⟨_, rfl, t, c, 2, rfl, hT, by decide, by decide, fun x H1 x0 x1 k1 T1 => ⟨rfl, _, rfl, ite2 (fun _ => ?_) (fun _ => ?_)⟩⟩
      · refine ⟨_, rfl, _, rfl, pl, _, rfl, .inl (SqL.of (k1 _ _ n1 hp)), _, _, rfl, rfl, t, c, _, rfl, T1, ?_, ?_, fun d H2 d0 d1 k2 T2 => ⟨d, rfl, d0, ?_, k1.trans k2, T2⟩⟩
        all_goals rw [List.length_map] at *
        all_goals omega
      · exact ⟨0, rfl, by omega, by omega, k1, T1⟩
    rintro _ H1 ⟨d, rfl, d0, d1, k1, T1⟩
    have hp1 := k1 _ _ n1 hp
    -- nexts of the first part
    refine ⟨_, rfl, _, rfl, _, rfl, d, rfl, pl, _, rfl, SqL.of hp1, fun l1 nl1 => ?_⟩
    rw [cut_lo d0]
    have o1 := T1.off nl1
    have T2 := T1.put (o := .lst ((ms.take d.toNat).map V.int)) o1
    have hl1 : upd H1 l1 (.lst ((ms.take d.toNat).map V.int)) l1 = some (.lst ((ms.take d.toNat).map V.int)) := upd_same
    have s2 := same_upd (o := .lst ((ms.take d.toNat).map V.int)) nl1
    have k2 := k1.trans (.of_same s2)
    have hp2 := s2 _ _ hp1
    generalize upd H1 l1 (.lst ((ms.take d.toNat).map V.int)) = H2 at T2 hl1 s2 hp2 k2
    refine ⟨t, c, l1, ms.take d.toNat, rfl, T2, o1.1, hl1, (List.take_sublist _ _).nodup hnd, by rw [List.length_take]; omega, fun D nx H3 nD eD keys vx k3 T3 => ?_⟩
    have oD := T2.off nD
    have hp3 := k3 _ _ n1 hp2
    refine ⟨_, rfl, _, rfl, _, rfl, d, rfl, pl, _, rfl, SqL.of hp3, fun l2 nl2 => ?_⟩
    rw [cut_hi d0]
    have o2 := T3.off nl2
    have T4 := T3.put (o := .lst ((ms.drop d.toNat).map V.int)) o2
    have hl2 : upd H3 l2 (.lst ((ms.drop d.toNat).map V.int)) l2 = some (.lst ((ms.drop d.toNat).map V.int)) := upd_same
    have s4 := same_upd (o := .lst ((ms.drop d.toNat).map V.int)) nl2
    have k4 := (k2.trans k3).trans (.of_same s4)
    have hp4 := s4 _ _ hp3
    have eD4 := s4 _ _ eD
    generalize upd H3 l2 (.lst ((ms.drop d.toNat).map V.int)) = H4 at T4 hl2 s4 hp4 k4 eD4
    refine ⟨t, c, l2, ms.drop d.toNat, rfl, T4, o2.1, hl2, (List.drop_sublist _ _).nodup hnd, by rw [List.length_drop]; omega, fun R rx H5 nR eR rkeys rvx k5 T5 => ?_⟩
    have hp5 := k5 _ _ n1 hp4
    have eD5 := k5 _ _ oD.1 eD4
    have k05 := k4.trans k5
    have DR : D ≠ R := ne_of_none eD4 nR
    have oR := T4.off nR
    refine ⟨_, rfl, _, rfl, d, rfl, pl, _, rfl, SqL.of hp5, fun l3 nl3 => ?_⟩
    rw [cut_hi d0]
    have o3 := T5.off nl3
    have T6 := T5.put (o := .lst ((ms.drop d.toNat).map V.int)) o3
    have hl3 : upd H5 l3 (.lst ((ms.drop d.toNat).map V.int)) l3 = some (.lst ((ms.drop d.toNat).map V.int)) := upd_same
    have s6 := same_upd (o := .lst ((ms.drop d.toNat).map V.int)) nl3
    have k6 := k05.trans (.of_same s6)
    have eD6 := s6 _ _ eD5
    have eR6 := s6 _ _ eR
    generalize upd H5 l3 (.lst ((ms.drop d.toNat).map V.int)) = H6 at T6 hl3 s6 k6 eD6 eR6
    have D0 : H D = none := k2.free T2 nD
    have nlD : l3 ≠ D := ne_kind hl3 eD6 (fun z => nomatch z)
    have ndD : (ms.drop d.toNat).Nodup := (List.drop_sublist _ _).nodup hnd
    have lt1 : (ms.take d.toNat).length = d.toNat := by rw [List.length_take]; omega
    have all : ms.take d.toNat ++ ms.drop d.toNat = ms := List.take_append_drop _ _
    have dis : ∀ y ∈ ms.drop d.toNat, y ∉ ms.take d.toNat := fun y hy hy2 => by
      rw [← all] at hnd
      exact (List.nodup_append.mp hnd).2.2 y hy2 y hy rfl
    refine ⟨l3, rfl, ⟨_, SqL.of hl3⟩, ?_⟩
    refine for_list (K := K) (a := l3) (xs := (ms.drop d.toNat).map V.int) (fun i σ' H' => ∃ (o5 : Option V) (nx : List (Key × V)), σ' = [some (.ref t), some (.ref pl), some (.int d), some (.ref D), some (.ref R), o5] ∧ H' D = some (.dK nx) ∧ GK ms (ms.take d.toNat ++ (ms.drop d.toNat).take i) nx ∧ H' R = some (.dK rx) ∧ H' l3 = some (.lst ((ms.drop d.toNat).map V.int)) ∧ Kp t H H' ∧ Tape H' t c)
      ⟨none, nx, rfl, eD6, ⟨by rw [List.take_zero, List.append_nil]; exact keys, fun k hk => ?_⟩, eR6, hl3, k6, T6⟩ (fun i σ' H' _ pv => by obtain ⟨_, _, _, _, _, _, h, _⟩ := pv; exact SqL.of h) (fun i v σ' H7 hv pv => ?_) (fun σ' H7 pv => ?_)
    · rw [List.take_zero, List.append_nil] at hk
      obtain ⟨x, mx, e⟩ := vx k hk
      exact ⟨x, List.mem_of_mem_take mx, e⟩
    · obtain ⟨o5, nx', rfl, eD7, g7, eR7, hl7, k7, T7⟩ := pv
      have hv' : ((ms.drop d.toNat).map V.int)[i]? = some v := hv
      rw [List.getElem?_map] at hv'
      obtain ⟨y, hyi, rfl⟩ := Option.map_eq_some_iff.mp hv'
      have my := List.mem_of_getElem? hyi
      obtain ⟨x, mx, ex⟩ := rvx y my
      have ny : y ∉ ms.take d.toNat ++ (ms.drop d.toNat).take i := fun h => (List.mem_append.mp h).elim (dis y my) (not_in_take ndD hyi)
      have lx : nx'.length ≤ 1000 := by
        have := congrArg List.length g7.1
        rw [List.length_map, List.length_map, List.length_append, List.length_take, List.length_take, List.length_drop] at this
        omega
      refine ⟨_, rfl, _, rfl, R, _, rfl, dget_of (k := Sum.inl y) eR7 ex, _, rfl, _, rfl, D, _, rfl, DPut.k (k := Sum.inl y) eD7 (small1000' (by omega)), ?_⟩
      refine ⟨_, _, rfl, upd_same, ⟨?_, fun k hk => ?_⟩, (upd_ne DR.symm).trans eR7, (upd_ne nlD).trans hl7, fun a o na e => (upd_ne (ne_of_none e D0)).trans (k7 _ _ na e), T7.put oD⟩
      · rw [putK_new _ (valV_none_keys g7.1 ny), List.map_append, g7.1, List.take_add_one, hyi, Option.toList_some, ← List.append_assoc, List.map_append (l₂ := [y])]
        rfl
      · rw [valV_put]
        by_cases e : k = y
        · rw [e, if_pos rfl]
          exact ⟨x, List.mem_of_mem_drop mx, rfl⟩
        · rw [if_neg (fun z => e (Sum.inl.inj z))]
          refine g7.2 k ?_
          rw [List.take_add_one, hyi, Option.toList_some, ← List.append_assoc] at hk
          exact (List.mem_append.mp hk).resolve_right (fun z => e (List.mem_singleton.mp z))
    · obtain ⟨o5, nx', rfl, eD7, g7, eR7, hl7, k7, T7⟩ := pv
      rw [List.length_map, List.take_length, all] at g7
      exact ⟨_, rfl, q D nx' H7 D0 eD7 g7 k7 T7⟩
--CUT
theorem draw {t c l : Addr} {ms : List Int} {H1 : Hp} (nl : l ≠ t) (e : H1 l = some (.lst (ms.map V.int))) (h0 : 0 < ms.length) (h1 : ms.length ≤ 1000) (t1 : Tape H1 t c) {Q' : VK} (k : ∀ (z : Int) H2, z ∈ ms → Kp t H1 H2 → Tape H2 t c → Q' (.int z) H2) :
    (sp__law_pick K) ([.ref t, .int ((ms.map V.int).length : Int)] ++ []) H1 (fun y H2 => rIxL K (.ref l) y H2 Q') E0 := by
  refine ⟨t, c, _, rfl, t1, by rw [List.length_map]; omega, by rw [List.length_map]; omega, fun z H2 z0 z1 k2 t2 => ?_⟩
  rw [List.length_map] at z1
  have hz : z.toNat < ms.length := by omega
  have az : atI (ms.map V.int) z = some (.int ms[z.toNat]) := by
    rw [← at_ints hz, Int.toNat_of_nonneg z0]
  exact ⟨l, _, z, _, rfl, rfl, SqL.of (k2 _ _ nl e), az, k _ H2 (List.getElem_mem hz) k2 t2⟩
/-- the houses whose next is y -/
def hO (nx : List (Key × V)) (ys : List Int) (y : Int) : List Int := ys.filter fun o => decide (iN nx o = y)
def sp__law_behinds (K : PySem.W.Frag) : Sp := fun vs H Q _ => ∃ (t c dN : Addr) (ks : List Int) (nx : List (Key × V)), vs = [.ref t, .ref dN] ∧ Tape H t c ∧ dN ≠ t ∧ H dN = some (.dK nx) ∧ GN ks nx ∧ ks.Nodup ∧ ks.length < 64 ∧
  ∀ p (bs : List (Key × V)) H', H p = none → H' p = some (.dK bs) → GB ks bs → KB bs → Kp t H H' → Tape H' t c → Q (.ref p) H'
theorem T0.ok__law_behinds (T : T0 K mg) : FnOk P w K mg base CX0 2 T.a__law_behinds T.fd__law_behinds ["tape", "nexts"] (sp__law_behinds K) := by
  refine T.F__law_behinds.ok sc__law_behinds (fun vs H Q E h => ?_) (fun cdv A outer s H vs Q E hr h => ?_)
  · obtain ⟨t, c, dN, ks, nx, rfl, _⟩ := h
    rfl
  · obtain ⟨t, c, dN, ks, nx, rfl, hT, n1, hN, gn, nd, h64, q⟩ := h
    refine ⟨_, (pss_cons (ps_set (i := 2) sc__law_behinds.nd rfl (Or.inl rfl) (pe_callB (call_sortedDI rfl) (by rfl) T.m_sorted (by decide +kernel) (pa_cons (pv 1) pa_nil)))
        (pss_cons (ps_set (i := 3) sc__law_behinds.nd rfl (Or.inl rfl) pe_dnewK)
        (pss_cons (ps_set (i := 4) sc__law_behinds.nd rfl (Or.inl rfl) (pe_call T.ok__law_pick hr (by rfl) T.g__law_pick T.k__law_pick T.b__law_pick .nil pass0 (pa_cons (pv 0) (pa_cons pe_int pa_nil))))
        (pss_cons (ps_for PassesOwn.never rfl (pi_list (pv 2)) (pg_name (i := 5) sc__law_behinds.nd rfl (Or.inr rfl)) (pss_cons (ps_set (i := 6) sc__law_behinds.nd rfl (Or.inl rfl) (pe_call T.ok__law_pick hr (by rfl) T.g__law_pick T.k__law_pick T.b__law_pick .nil pass0 (pa_cons (pv 0) (pa_cons pe_int pa_nil))))
        (pss_cons (ps_setLc (i := 7) (own := [("one", 8)]) (g := gName 8) (by rfl) sc__law_behinds.nd rfl rfl (sw_true rfl rfl rfl (by decide +kernel)) (pi_list (pv 2)) (blkOk_by (own := [("one", 8)]) (N := ["tape", "nexts", "houses", "behinds", "mood", "house", "kind", "holders", "one"]) (sc := defScope s__law_behinds) (by decide +kernel)) (fun _ _ _ _ _ => pg_name (i := 8) sc__law_behinds.nd rfl (Or.inl rfl)) (fun _ _ _ _ _ => pts_one (pt_cmpR op_eq (pe_dget (un1 hr) (pv 1) (pv 8) (fun _ _ => rfl)) (pv 5) (nomark _))) (fun _ _ _ _ _ => (pv 8)))
        (C8.pss_cut (ps_if (PW.pt (pw_and (pt_cmpR op_eq (pv 4) pe_int (nomark _)) (pw_and (pt_cmpR op_gt (pv 6) pe_int (nomark _)) (pw_and1 (pt_cmpR op_gt (pe_callB (call_lenK (K := K)) (by rfl) T.m_len PySem.boot_len (pa_cons (pv 7) pa_nil)) pe_int (nomark _)))))) (pss_one (ps_asg (pe_ix (ix_listK (K := K)) (pv 7) (pe_call T.ok__law_pick hr (by rfl) T.g__law_pick T.k__law_pick T.b__law_pick .nil pass0 (pa_cons (pv 0) (pa_cons (pe_callB (call_lenK (K := K)) (by rfl) T.m_len PySem.boot_len (pa_cons (pv 7) pa_nil)) pa_nil))) (fun _ _ => rfl)) (pg_sub (pv 3) (pv 5) (set_dict (un1 hr))))) pss_nil)
        (pss_one (ps_if (PW.pt (pw_and (pt_cmpR op_eq (pv 4) pe_int (nomark _)) (pw_and1 (pt_cmpR op_gt (pv 6) pe_int (nomark _))))) (pss_one (ps_asg (pe_ix (ix_listK (K := K)) (pv 2) (pe_call T.ok__law_pick hr (by rfl) T.g__law_pick T.k__law_pick T.b__law_pick .nil pass0 (pa_cons (pv 0) (pa_cons (pe_callB (call_lenK (K := K)) (by rfl) T.m_len PySem.boot_len (pa_cons (pv 2) pa_nil)) pa_nil))) (fun _ _ => rfl)) (pg_sub (pv 3) (pv 5) (set_dict (un1 hr))))) pss_nil))))))
        (pss_one (ps_ret (pv 3))))))), ?_⟩
    refine ⟨_, rfl, dN, nx, ks, rfl, .inl hN, gn.1, h64, fun ys l perm pw nl => ?_⟩
    have ylen := perm.length_eq
    have ynd : ys.Nodup := perm.nodup_iff.mpr nd
    have ol := hT.off nl
    have T1 := hT.put (o := .lst (ys.map V.int)) ol
    have s1 := same_upd (o := .lst (ys.map V.int)) nl
    have hl : upd H l (.lst (ys.map V.int)) l = some (.lst (ys.map V.int)) := upd_same
    generalize upd H l (.lst (ys.map V.int)) = H1 at s1 hl T1
    intro D nD
    have oD := T1.off nD
    have s2 := Same.trans s1 (same_upd (o := .dK []) nD)
    have T2 := T1.put (o := .dK []) oD
    have nlD : l ≠ D := ne_of_none hl nD
    have nND : dN ≠ D := ne_of_none (s1 _ _ hN) nD
    have D0 := none_back s1 nD
    have hl2 := (upd_ne (o := .dK []) nlD).trans hl
    have eD2 : upd H1 D (.dK []) D = some (.dK []) := upd_same
    generalize upd H1 D (.dK []) = H2 at s2 T2 hl2 eD2
    refine ⟨_, rfl, t, c, 3, rfl, T2, by decide, by decide, fun mo H3 m0 m1 k3 T3 => ?_⟩
    have k03 := (Kp.of_same (t := t) s2).trans k3
    refine ⟨_, rfl, l, rfl, ⟨_, SqL.of (k3 _ _ ol.1 hl2)⟩, ?_⟩
    refine for_list (K := K) (a := l) (xs := ys.map V.int) (fun i σ' H' => ∃ (o5 o6 o7 : Option V) (bs : List (Key × V)), σ' = [some (.ref t), some (.ref dN), some (.ref l), some (.ref D), some (.int mo), o5, o6, o7, none] ∧ H' D = some (.dK bs) ∧ GB ks bs ∧ KB bs ∧ H' l = some (.lst (ys.map V.int)) ∧ H' dN = some (.dK nx) ∧ Kp t H H' ∧ Tape H' t c)
      ⟨none, none, none, [], rfl, k3 _ _ oD.1 eD2, (fun _ _ h => nomatch h), ⟨[], rfl, List.nodup_nil⟩, k3 _ _ ol.1 hl2, k03 _ _ n1 hN, k03, T3⟩ (fun i σ' H' _ pv => by obtain ⟨_, _, _, _, _, _, _, _, h, _⟩ := pv; exact SqL.of h) (fun i v σ' H4 hv pv => ?_) (fun σ' H4 pv => ?_)
    · obtain ⟨o5, o6, o7, bs, rfl, eD4, gb, kb, hl4, hN4, k4, T4⟩ := pv
      have hv' : (ys.map V.int)[i]? = some v := hv
      rw [List.getElem?_map] at hv'
      obtain ⟨y, hyi, rfl⟩ := Option.map_eq_some_iff.mp hv'
      have my := perm.mem_iff.mp (List.mem_of_getElem? hyi)
      have ly : 0 < ys.length := List.length_pos_of_mem (List.mem_of_getElem? hyi)
      refine ⟨_, rfl, t, c, 4, rfl, T4, by decide, by decide, fun kd H5 d0 d1 k5 T5 => ?_⟩
      have k45 := k4.trans k5
      have hl5 := k5 _ _ ol.1 hl4
      have hN5 := k5 _ _ n1 hN4
      have eD5 := k5 _ _ oD.1 eD4
      refine ⟨_, rfl, l, rfl, ⟨_, SqL.of hl5⟩, fun D2 hD2 => ?_⟩
      refine lc_list (K := K) (a := l) (xs := ys.map V.int) (fun j H' => Same H5 H' ∧ H' D2 = some (.lst ((hO nx (ys.take j) y).map V.int))) ⟨same_upd hD2, upd_same⟩ (fun i H' _ p => SqL.of (p.1 _ _ hl5)) (fun j x H6 hx pv => ?_) (fun H6 pv => ?_)
      · obtain ⟨s6, e6⟩ := pv
        have hx' : (ys.map V.int)[j]? = some x := hx
        rw [List.getElem?_map] at hx'
        obtain ⟨o, hoj, rfl⟩ := Option.map_eq_some_iff.mp hx'
        obtain ⟨x', _, ex⟩ := gn.2 o (perm.mem_iff.mp (List.mem_of_getElem? hoj))
        have lf : (hO nx (ys.take j) y).length ≤ (ys.take j).length := List.length_filter_le _ _
        rw [List.length_take] at lf
        refine ⟨rfl, ?_⟩
        refine ⟨_, rfl, _, rfl, dN, _, rfl, dget_of (k := Sum.inl o) (s6 _ _ hN5) ex, _, rfl, rfl, _, rfl, ?_⟩
        have ap : hO nx (ys.take (j + 1)) y = hO nx (ys.take j) y ++ if iN nx o = y then [o] else [] := by
          unfold hO
          rw [List.take_add_one, hoj, Option.toList_some, List.filter_append, List.filter_cons, List.filter_nil]
          by_cases g : iN nx o = y
          · rw [if_pos (decide_eq_true g), if_pos g]
          · rw [if_neg (fun z => g (of_decide_eq_true z)), if_neg g]
        by_cases g : x' = y
        · refine iteT' (by rw [dec_int]; exact decide_eq_true g) ?_
          refine ⟨_, rfl, _, e6, small1000' (by rw [List.length_map]; omega), fun b u e => (upd_ne (ne_of_none e hD2)).trans (s6 _ _ e), ?_⟩
          rw [upd_same, ap, if_pos (by rw [iN_of ex]; exact g), List.map_append]
          rfl
        · refine iteF' (by rw [dec_int]; exact decide_eq_false g) ?_
          rw [ap, if_neg (by rw [iN_of ex]; exact g), List.append_nil]
          exact ⟨s6, e6⟩
      · obtain ⟨s6, e6⟩ := pv
        rw [List.length_map, List.take_length] at e6
        have oD2 := T5.off hD2
        have T6 := T5.same s6
        have hl6 := s6 _ _ hl5
        have hN6 := s6 _ _ hN5
        have eD6 := s6 _ _ eD5
        have k6 := k45.trans (.of_same s6)
        have lf : (hO nx ys y).length ≤ ys.length := List.length_filter_le _ _
        have mh : ∀ z ∈ hO nx ys y, z ∈ ks := fun z hz => perm.mem_iff.mp (List.mem_filter.mp hz).1
        have st1 : ∀ (bs : List (Key × V)) (H7 : Hp) (z : Int), z ∈ ks → GB ks bs → KB bs → GB ks (putK bs (.inl y) (.int z)) ∧ KB (putK bs (.inl y) (.int z)) := fun bs H7 z mz gb kb => by
          refine ⟨fun p v e => ?_, kb.put⟩
          rw [valV_put] at e
          by_cases g : p = y
          · rw [if_pos (by rw [g])] at e
            exact ⟨by rw [g]; exact my, z, mz, (Option.some.inj e).symm⟩
          · rw [if_neg (fun z => g (Sum.inl.inj z))] at e
            exact gb p v e
        refine ⟨fun σ' H' => ∃ (bs : List (Key × V)), σ' = [some (.ref t), some (.ref dN), some (.ref l), some (.ref D), some (.int mo), some (.int y), some (.int kd), some (.ref D2), none] ∧ H' D = some (.dK bs) ∧ GB ks bs ∧ KB bs ∧ H' l = some (.lst (ys.map V.int)) ∧ H' dN = some (.dK nx) ∧ Kp t H H' ∧ Tape H' t c, ?_, ?_⟩
        · refine v_if1 (ans_a (fun _ q => ⟨_, rfl, rfl, _, rfl, q⟩) fun _ => ans_a (fun _ q => ⟨_, rfl, _, _, rfl, rfl, _, rfl, q⟩) fun _ => (fun _ q => ⟨_, rfl, D2, _, rfl, .inl (SqL.of e6), _, _, rfl, rfl, _, rfl, q⟩)) (fun e => ?_) (fun _ => ?_)
          · rw [Bool.and_eq_true, Bool.and_eq_true] at e
            have e := of_decide_eq_true e.2.2
            rw [List.length_map] at e
            refine ⟨_, rfl, _, rfl, _, rfl, D2, _, rfl, .inl (SqL.of e6), draw oD2.1 e6 (by omega) (by omega) T6 fun z H7 mz k7 T7 => ?_⟩
            have lb := kb.len gb
            refine ⟨_, rfl, _, rfl, D, _, rfl, DPut.k (k := Sum.inl y) (k7 _ _ oD.1 eD6) (small1000' (by omega)), ?_⟩
            obtain ⟨g1, g2⟩ := st1 bs H7 z (mh z mz) gb kb
            exact ⟨_, rfl, upd_same, g1, g2, (upd_ne nlD).trans (k7 _ _ ol.1 hl6), (upd_ne nND).trans (k7 _ _ n1 hN6), fun a o na e => (upd_ne (ne_of_none e D0)).trans (k7 _ _ na (k6 _ _ na e)), T7.put oD⟩
          · exact ⟨bs, rfl, eD6, gb, kb, hl6, hN6, k6, T6⟩
        rintro _ H7 ⟨bs, rfl, eD7, gb, kb, hl7, hN7, k7, T7⟩
        refine v_if1 (ans_a (fun _ q => ⟨_, rfl, rfl, _, rfl, q⟩) fun _ => (fun _ q => ⟨_, rfl, _, _, rfl, rfl, _, rfl, q⟩)) (fun e => ?_) (fun _ => ?_)
        · refine ⟨_, rfl, _, rfl, _, rfl, l, _, rfl, .inl (SqL.of hl7), draw ol.1 hl7 ly (by omega) T7 fun z H8 mz k8 T8 => ?_⟩
          have lb := kb.len gb
          refine ⟨_, rfl, _, rfl, D, _, rfl, DPut.k (k := Sum.inl y) (k8 _ _ oD.1 eD7) (small1000' (by omega)), ?_⟩
          obtain ⟨g1, g2⟩ := st1 bs H7 z (perm.mem_iff.mp mz) gb kb
          exact ⟨_, _, _, _, rfl, upd_same, g1, g2, (upd_ne nlD).trans (k8 _ _ ol.1 hl7), (upd_ne nND).trans (k8 _ _ n1 hN7), fun a o na e => (upd_ne (ne_of_none e D0)).trans (k8 _ _ na (k7 _ _ na e)), T8.put oD⟩
        · exact ⟨_, _, _, bs, rfl, eD7, gb, kb, hl7, hN7, k7, T7⟩
    · obtain ⟨o5, o6, o7, bs, rfl, eD4, gb, kb, hl4, hN4, k4, T4⟩ := pv
      exact ⟨_, rfl, q D bs H4 D0 eD4 gb kb k4 T4⟩
--CUT
theorem LAt.kp {α : Type} {f : α → List V} {t c : Addr} {H H' : Hp} {vs : List V} {qs : List α} (h : LAt f H vs qs) (T : Tape H t c) (k : Kp t H H') : LAt f H' vs qs := by
  obtain ⟨⟨xt, et⟩, _⟩ := tape_at T
  exact h.mono fun a xs e => k _ _ (ne_kind e et (fun z => nomatch z)) e
def Ltr (ks : List Int) (H : Hp) (vs : List V) (Ls : List Let) : Prop := LAt Let.vals H vs Ls ∧ ∀ L ∈ Ls, ∀ k ∈ L.ns, k ∈ ks
theorem Ltr.kp {ks : List Int} {t c : Addr} {H H' : Hp} {vs : List V} {Ls : List Let} (h : Ltr ks H vs Ls) (T : Tape H t c) (k : Kp t H H') : Ltr ks H' vs Ls := ⟨h.1.kp T k, h.2⟩
theorem Ltr.same {ks : List Int} {H H' : Hp} {vs : List V} {Ls : List Let} (h : Ltr ks H vs Ls) (s : Same H H') : Ltr ks H' vs Ls := ⟨h.1.same s, h.2⟩
theorem Ltr.app {ks : List Int} {H : Hp} {vs : List V} {Ls : List Let} {a : Addr} {L : Let} (h : Ltr ks H vs Ls) (e : H a = some (.tup L.vals)) (g : ∀ k ∈ L.ns, k ∈ ks) : Ltr ks H (vs ++ [.ref a]) (Ls ++ [L]) := ⟨h.1.app e, fun M hM => (List.mem_append.mp hM).elim (h.2 M) fun z => by rw [List.mem_singleton.mp z]; exact g⟩
def sp__law_post (K : PySem.W.Frag) : Sp := fun vs H Q _ => ∃ (t c dN : Addr) (ks : List Int) (nx : List (Key × V)), vs = [.ref t, .ref dN] ∧ Tape H t c ∧ dN ≠ t ∧ H dN = some (.dK nx) ∧ GN ks nx ∧ ks.Nodup ∧ ks.length < 64 ∧
  ∀ p (us : List V) (Ls : List Let) H', H p = none → H' p = some (.lst us) → Ltr ks H' us Ls → us.length ≤ 60 → Kp t H H' → Tape H' t c → Q (.ref p) H'
theorem T0.ok__law_post (T : T0 K mg) : FnOk P w K mg base CX0 2 T.a__law_post T.fd__law_post ["tape", "nexts"] (sp__law_post K) := by
  refine T.F__law_post.ok sc__law_post (fun vs H Q E h => ?_) (fun cdv A outer s H vs Q E hr h => ?_)
  · obtain ⟨t, c, dN, ks, nx, rfl, _⟩ := h
    rfl
  · obtain ⟨t, c, dN, ks, nx, rfl, hT, n1, hN, gn, nd, h64, q⟩ := h
    refine ⟨_, (pss_cons (ps_set (i := 2) sc__law_post.nd rfl (Or.inl rfl) (pe_callB (call_sortedDI rfl) (by rfl) T.m_sorted (by decide +kernel) (pa_cons (pv 1) pa_nil)))
        (pss_cons (ps_set (i := 3) sc__law_post.nd rfl (Or.inl rfl) (pe_lst pa_nil))
        (pss_cons (ps_set (i := 4) sc__law_post.nd rfl (Or.inl rfl) (pe_call T.ok__law_pick hr (by rfl) T.g__law_pick T.k__law_pick T.b__law_pick .nil pass0 (pa_cons (pv 0) (pa_cons pe_int pa_nil))))
        (pss_cons (ps_set (i := 5) sc__law_post.nd rfl (Or.inl rfl) (pe_call T.ok__law_pick hr (by rfl) T.g__law_pick T.k__law_pick T.b__law_pick .nil pass0 (pa_cons (pv 0) (pa_cons pe_int pa_nil))))
        (C8.pss_cut (ps_if (pt_cmpR op_eq (pe_call T.ok__law_pick hr (by rfl) T.g__law_pick T.k__law_pick T.b__law_pick .nil pass0 (pa_cons (pv 0) (pa_cons pe_int pa_nil))) pe_int (nomark _)) (pss_one (ps_set (i := 5) sc__law_post.nd rfl (Or.inl rfl) (pe_call T.ok__law_pick hr (by rfl) T.g__law_pick T.k__law_pick T.b__law_pick .nil pass0 (pa_cons (pv 0) (pa_cons pe_int pa_nil))))) pss_nil)
        (C8.pss_cut (ps_if (PW.pt (pw_or (pt_cmpR op_eq (pv 4) pe_int (nomark _)) (pw_or1 (pt_cmpR op_eq (pe_callB (call_lenK (K := K)) (by rfl) T.m_len PySem.boot_len (pa_cons (pv 2) pa_nil)) pe_int (nomark _))))) (pss_one (ps_set (i := 5) sc__law_post.nd rfl (Or.inl rfl) pe_int)) pss_nil)
        (pss_cons (ps_for PassesOwn.never rfl (pi_range1 (by rfl) T.m_range (pa_cons (pv 5) pa_nil)) (pg_name (i := 6) sc__law_post.nd rfl (Or.inl rfl)) (pss_cons (ps_set (i := 7) sc__law_post.nd rfl (Or.inr rfl) (pe_ix (ix_listK (K := K)) (pv 2) (pe_call T.ok__law_pick hr (by rfl) T.g__law_pick T.k__law_pick T.b__law_pick .nil pass0 (pa_cons (pv 0) (pa_cons (pe_callB (call_lenK (K := K)) (by rfl) T.m_len PySem.boot_len (pa_cons (pv 2) pa_nil)) pa_nil))) (fun _ _ => rfl)))
        (pss_cons (ps_set (i := 8) sc__law_post.nd rfl (Or.inl rfl) (pe_ix (ix_listK (K := K)) (pv 2) (pe_call T.ok__law_pick hr (by rfl) T.g__law_pick T.k__law_pick T.b__law_pick .nil pass0 (pa_cons (pv 0) (pa_cons (pe_callB (call_lenK (K := K)) (by rfl) T.m_len PySem.boot_len (pa_cons (pv 2) pa_nil)) pa_nil))) (fun _ _ => rfl)))
        (pss_cons (ps_set (i := 9) sc__law_post.nd rfl (Or.inl rfl) (pe_ix (ix_listK (K := K)) (pv 2) (pe_call T.ok__law_pick hr (by rfl) T.g__law_pick T.k__law_pick T.b__law_pick .nil pass0 (pa_cons (pv 0) (pa_cons (pe_callB (call_lenK (K := K)) (by rfl) T.m_len PySem.boot_len (pa_cons (pv 2) pa_nil)) pa_nil))) (fun _ _ => rfl)))
        (pss_cons (ps_setLc (i := 10) (own := [("one", 12)]) (g := gName 12) (by rfl) sc__law_post.nd rfl rfl (sw_true rfl rfl rfl (by decide +kernel)) (pi_list (pv 2)) (blkOk_by (own := [("one", 12)]) (N := ["tape", "nexts", "houses", "post", "mood", "many", "k", "sender", "reader", "named", "holders", "kind", "one"]) (sc := defScope s__law_post) (by decide +kernel)) (fun _ _ _ _ _ => pg_name (i := 12) sc__law_post.nd rfl (Or.inl rfl)) (fun _ _ _ _ _ => pts_one (pt_cmpR op_eq (pe_dget (un1 hr) (pv 1) (pv 12) (fun _ _ => rfl)) (pv 7) (nomark _))) (fun _ _ _ _ _ => (pv 12)))
        (pss_cons (ps_set (i := 11) sc__law_post.nd rfl (Or.inl rfl) (pe_call T.ok__law_pick hr (by rfl) T.g__law_pick T.k__law_pick T.b__law_pick .nil pass0 (pa_cons (pv 0) (pa_cons pe_int pa_nil))))
        (pss_one (ps_if (PW.pt (pw_and (pt_cmpR op_eq (pv 4) pe_int (nomark _)) (pw_and (pt_cmpR op_eq (pv 11) pe_int (nomark _)) (pw_and1 (pt_cmpR op_gt (pe_callB (call_lenK (K := K)) (by rfl) T.m_len PySem.boot_len (pa_cons (pv 10) pa_nil)) pe_int (nomark _)))))) (pss_one (ps_expr (pe_bm PySem.F.plainAttrs_list PySem.F.slot_list_append PySem.F.type_list_append mt_append (pv 3) (pa_cons (pe_tup (pa_cons pe_str (pa_cons (pv 8) (pa_cons (pv 7) (pa_cons (pe_ix (ix_listK (K := K)) (pv 10) (pe_call T.ok__law_pick hr (by rfl) T.g__law_pick T.k__law_pick T.b__law_pick .nil pass0 (pa_cons (pv 0) (pa_cons (pe_callB (call_lenK (K := K)) (by rfl) T.m_len PySem.boot_len (pa_cons (pv 10) pa_nil)) pa_nil))) (fun _ _ => rfl)) pa_nil))))) pa_nil)))) (pss_one (ps_if (pt_cmpR op_eq (pv 11) pe_int (nomark _)) (pss_one (ps_expr (pe_bm PySem.F.plainAttrs_list PySem.F.slot_list_append PySem.F.type_list_append mt_append (pv 3) (pa_cons (pe_tup (pa_cons pe_str (pa_cons (pv 8) (pa_cons (pv 7) pa_nil)))) pa_nil)))) (pss_one (ps_if (pt_cmpR op_eq (pv 4) pe_int (nomark _)) (pss_one (ps_expr (pe_bm PySem.F.plainAttrs_list PySem.F.slot_list_append PySem.F.type_list_append mt_append (pv 3) (pa_cons (pe_tup (pa_cons pe_str (pa_cons (pe_dget (un1 hr) (pv 1) (pv 7) (fun _ _ => rfl)) (pa_cons (pv 7) pa_nil)))) pa_nil)))) (pss_one (ps_if (pt_cmpR op_eq (pv 11) pe_int (nomark _)) (pss_one (ps_expr (pe_bm PySem.F.plainAttrs_list PySem.F.slot_list_append PySem.F.type_list_append mt_append (pv 3) (pa_cons (pe_tup (pa_cons pe_str (pa_cons (pv 8) (pa_cons (pv 7) pa_nil)))) pa_nil)))) (pss_one (ps_expr (pe_bm PySem.F.plainAttrs_list PySem.F.slot_list_append PySem.F.type_list_append mt_append (pv 3) (pa_cons (pe_tup (pa_cons pe_str (pa_cons (pv 8) (pa_cons (pv 7) (pa_cons (pv 9) pa_nil))))) pa_nil))))))))))))))))))
        (pss_one (ps_ret (pv 3)))))))))), ?_⟩
    refine ⟨_, rfl, dN, nx, ks, rfl, .inl hN, gn.1, h64, fun ys l perm pw nl => ?_⟩
    have ylen := perm.length_eq
    have ynd : ys.Nodup := perm.nodup_iff.mpr nd
    have ol := hT.off nl
    have T1 := hT.put (o := .lst (ys.map V.int)) ol
    have s1 := same_upd (o := .lst (ys.map V.int)) nl
    have hl : upd H l (.lst (ys.map V.int)) l = some (.lst (ys.map V.int)) := upd_same
    generalize upd H l (.lst (ys.map V.int)) = H1 at s1 hl T1
    refine ⟨Nat.zero_le _, fun D nD => ?_⟩
    have oD := T1.off nD
    have s2 := Same.trans s1 (same_upd (o := .lst []) nD)
    have T2 := T1.put (o := .lst []) oD
    have nlD : l ≠ D := ne_of_none hl nD
    have nND : dN ≠ D := ne_of_none (s1 _ _ hN) nD
    have D0 := none_back s1 nD
    have hl2 := (upd_ne (o := .lst []) nlD).trans hl
    have eD2 : upd H1 D (.lst []) D = some (.lst []) := upd_same
    generalize upd H1 D (.lst []) = H2 at s2 T2 hl2 eD2
    refine ⟨_, rfl, t, c, 3, rfl, T2, by decide, by decide, fun mo H3 m0 m1 k3 T3 => ?_⟩
    have k03 := (Kp.of_same (t := t) s2).trans k3
    refine ⟨_, rfl, t, c, 7, rfl, T3, by decide, by decide, fun ma H4 a0 a1 k4 T4 => ?_⟩
    have k04 := k03.trans k4
    have k24 := k3.trans k4
    refine ⟨fun σ' H' => ∃ ma : Int, σ' = [some (.ref t), some (.ref dN), some (.ref l), some (.ref D), some (.int mo), some (.int ma), none, none, none, none, none, none, none] ∧ 0 ≤ ma ∧ ma ≤ 60 ∧ Kp t H2 H' ∧ Tape H' t c, ?_, ?_⟩
    · refine ⟨_, rfl, t, c, 16, rfl, T4, by decide, by decide, fun z H5 z0 z1 k5 T5 => ⟨rfl, _, rfl, ite2 (fun _ => ?_) (fun _ => ?_)⟩⟩
      · exact ⟨_, rfl, t, c, 61, rfl, T5, by decide, by decide, fun ma H6 a0 a1 k6 T6 => ⟨ma, rfl, a0, by omega, (k24.trans k5).trans k6, T6⟩⟩
      · exact ⟨ma, rfl, a0, by omega, k24.trans k5, T5⟩
    rintro _ H5 ⟨ma, rfl, a0, a1, k25, T5⟩
    have hl5 := k25 _ _ ol.1 hl2
    refine ⟨fun σ' H' => ∃ ma : Int, H' = H5 ∧ σ' = [some (.ref t), some (.ref dN), some (.ref l), some (.ref D), some (.int mo), some (.int ma), none, none, none, none, none, none, none] ∧ 0 ≤ ma ∧ ma ≤ 60 ∧ (0 < ma → 0 < ys.length), ?_, ?_⟩
    · refine v_if1 (ans_o (fun _ q => ⟨_, rfl, rfl, _, rfl, q⟩) fun _ => (fun _ q => ⟨_, rfl, l, _, rfl, .inl (SqL.of hl5), rfl, _, rfl, q⟩)) (fun _ => ?_) (fun e => ?_)
      · exact ⟨0, rfl, rfl, by omega, by omega, fun z => by omega⟩
      · refine ⟨ma, rfl, rfl, a0, a1, fun _ => ?_⟩
        rw [dec_int, dec_int] at e
        simp only [Bool.or_eq_false_iff, decide_eq_false_iff_not, List.length_map] at e
        omega
    rintro _ H5' ⟨ma, e5, rfl, a0, a1, a2⟩
    subst e5
    have k05 := (Kp.of_same (t := t) s2).trans k25
    refine ⟨_, rfl, ma, rfl, by omega, by omega, ?_⟩
    refine for_range (lo := 0) (n := ma.toNat) (fun i σ' H' => ∃ (o6 o7 o8 o9 o10 o11 : Option V) (us : List V) (Ls : List Let), σ' = [some (.ref t), some (.ref dN), some (.ref l), some (.ref D), some (.int mo), some (.int ma), o6, o7, o8, o9, o10, o11, none] ∧ H' D = some (.lst us) ∧ Ltr ks H' us Ls ∧ us.length = i ∧ H' l = some (.lst (ys.map V.int)) ∧ H' dN = some (.dK nx) ∧ Kp t H H' ∧ Tape H' t c)
      ⟨none, none, none, none, none, none, [], [], rfl, k25 _ _ oD.1 eD2, ⟨.nil, fun _ h => nomatch h⟩, rfl, hl5, k05 _ _ n1 hN, k05, T5⟩ (fun i σ' H6 hi pv => ?_) (fun σ' H6 pv => ?_)
    · obtain ⟨o6, o7, o8, o9, o10, o11, us, Ls, rfl, eD, lt, ul, hl6, hN6, k6, T6⟩ := pv
      have ly := a2 (by omega)
      have my : ∀ z ∈ ys, z ∈ ks := fun z hz => perm.mem_iff.mp hz
      refine ⟨_, rfl, _, rfl, _, rfl, l, _, rfl, .inl (SqL.of hl6), draw ol.1 hl6 ly (by omega) T6 fun se H7 mse k7 T7 => ?_⟩
      have hl7 := k7 _ _ ol.1 hl6
      refine ⟨_, rfl, _, rfl, _, rfl, l, _, rfl, .inl (SqL.of hl7), draw ol.1 hl7 ly (by omega) T7 fun re H8 mre k8 T8 => ?_⟩
      have hl8 := k8 _ _ ol.1 hl7
      refine ⟨_, rfl, _, rfl, _, rfl, l, _, rfl, .inl (SqL.of hl8), draw ol.1 hl8 ly (by omega) T8 fun na H9 mna k9 T9 => ?_⟩
      have k69 := (k7.trans k8).trans k9
      have hl9 := k69 _ _ ol.1 hl6
      have hN9 := k69 _ _ n1 hN6
      have eD9 := k69 _ _ oD.1 eD
      have lt9 := lt.kp T6 k69
      refine ⟨_, rfl, l, rfl, ⟨_, SqL.of hl9⟩, fun D2 hD2 => ?_⟩
      refine lc_list (K := K) (a := l) (xs := ys.map V.int) (fun j H' => Same H9 H' ∧ H' D2 = some (.lst ((hO nx (ys.take j) se).map V.int))) ⟨same_upd hD2, upd_same⟩ (fun i H' _ p => SqL.of (p.1 _ _ hl9)) (fun j x H10 hx pv => ?_) (fun H10 pv => ?_)
      · obtain ⟨s10, e10⟩ := pv
        have hx' : (ys.map V.int)[j]? = some x := hx
        rw [List.getElem?_map] at hx'
        obtain ⟨o, hoj, rfl⟩ := Option.map_eq_some_iff.mp hx'
        obtain ⟨x', _, ex⟩ := gn.2 o (my _ (List.mem_of_getElem? hoj))
        have lf : (hO nx (ys.take j) se).length ≤ (ys.take j).length := List.length_filter_le _ _
        rw [List.length_take] at lf
        refine ⟨rfl, ?_⟩
        refine ⟨_, rfl, _, rfl, dN, _, rfl, dget_of (k := Sum.inl o) (s10 _ _ hN9) ex, _, rfl, rfl, _, rfl, ?_⟩
        have ap : hO nx (ys.take (j + 1)) se = hO nx (ys.take j) se ++ if iN nx o = se then [o] else [] := by
          unfold hO
          rw [List.take_add_one, hoj, Option.toList_some, List.filter_append, List.filter_cons, List.filter_nil]
          by_cases g : iN nx o = se
          · rw [if_pos (decide_eq_true g), if_pos g]
          · rw [if_neg (fun z => g (of_decide_eq_true z)), if_neg g]
        by_cases g : x' = se
        · refine iteT' (by rw [dec_int]; exact decide_eq_true g) ?_
          refine ⟨_, rfl, _, e10, small1000' (by rw [List.length_map]; omega), fun b u e => (upd_ne (ne_of_none e hD2)).trans (s10 _ _ e), ?_⟩
          rw [upd_same, ap, if_pos (by rw [iN_of ex]; exact g), List.map_append]
          rfl
        · refine iteF' (by rw [dec_int]; exact decide_eq_false g) ?_
          rw [ap, if_neg (by rw [iN_of ex]; exact g), List.append_nil]
          exact ⟨s10, e10⟩
      · obtain ⟨s10, e10⟩ := pv
        rw [List.length_map, List.take_length] at e10
        have oD2 := T9.off hD2
        have T10 := T9.same s10
        have k910 := k69.trans (.of_same s10)
        have mh : ∀ z ∈ hO nx ys se, z ∈ ks := fun z hz => my _ (List.mem_filter.mp hz).1
        have lh : (hO nx ys se).length ≤ ys.length := List.length_filter_le _ _
        have D2D : D2 ≠ D := fun z => by rw [z, eD9] at hD2; cases hD2
        have eD10 := s10 _ _ eD9
        have lt10 := lt9.same s10
        refine ⟨_, rfl, t, c, 3, rfl, T10, by decide, by decide, fun kd H11 d0 d1 k11 T11 => ?_⟩
        have eD11 := k11 _ _ oD.1 eD10
        have lt11 := lt10.kp T10 k11
        have k611 := k910.trans k11
        have e11 := k11 _ _ oD2.1 e10
        have hl11 := k611 _ _ ol.1 hl6
        have hN11 := k611 _ _ n1 hN6
        have post : ∀ (L : Let) (H12 : Hp), (∀ k ∈ L.ns, k ∈ ks) → Kp t H11 H12 → Tape H12 t c → ∀ p, H12 p = none → ∃ (o6 o7 o8 o9 o10 o11 : Option V) (us' : List V) (Ls' : List Let), [some (V.ref t), some (.ref dN), some (.ref l), some (.ref D), some (.int mo), some (.int ma), some (.int (0 + (i : Int))), some (.int se), some (.int re), some (.int na), some (.ref D2), some (.int kd), none] = [some (.ref t), some (.ref dN), some (.ref l), some (.ref D), some (.int mo), some (.int ma), o6, o7, o8, o9, o10, o11, none] ∧ upd (upd H12 p (.tup L.vals)) D (.lst (us ++ [.ref p])) D = some (.lst us') ∧ Ltr ks (upd (upd H12 p (.tup L.vals)) D (.lst (us ++ [.ref p]))) us' Ls' ∧ us'.length = i + 1 ∧ upd (upd H12 p (.tup L.vals)) D (.lst (us ++ [.ref p])) l = some (.lst (ys.map V.int)) ∧ upd (upd H12 p (.tup L.vals)) D (.lst (us ++ [.ref p])) dN = some (.dK nx) ∧ Kp t H (upd (upd H12 p (.tup L.vals)) D (.lst (us ++ [.ref p]))) ∧ Tape (upd (upd H12 p (.tup L.vals)) D (.lst (us ++ [.ref p]))) t c := fun L H12 hL k12 T12 p np => by
          have s13 := same_upd (o := .tup L.vals) np
          have T13 := T12.put (o := .tup L.vals) (T12.off np)
          have p13 : upd H12 p (.tup L.vals) p = some (.tup L.vals) := upd_same
          have lt13 := (lt11.kp T11 k12).same s13
          have D13 := s13 _ _ (k12 _ _ oD.1 eD11)
          generalize upd H12 p (.tup L.vals) = H13 at s13 T13 p13 lt13 D13
          refine ⟨_, _, _, _, _, _, us ++ [.ref p], Ls ++ [L], rfl, upd_same, ?_, by rw [List.length_append, ul]; rfl, (upd_ne nlD).trans (s13 _ _ (k12 _ _ ol.1 hl11)), (upd_ne nND).trans (s13 _ _ (k12 _ _ n1 hN11)), fun a o na e => (upd_ne (ne_of_none e D0)).trans (s13 _ _ (k12 _ _ na (k611 _ _ na (k6 _ _ na e)))), T13.put oD⟩
          refine Ltr.app ⟨lt13.1.mono fun a xs e => (upd_ne (ne_kind e D13 (fun z => nomatch z))).trans e, lt13.2⟩ ?_ hL
          exact (upd_ne (ne_kind p13 D13 (fun z => nomatch z))).trans p13
        have szD : us.length < sizeLine := small1000' (by omega)
        have at13 : ∀ (L : Let) (H12 : Hp), Kp t H11 H12 → ∀ p, H12 p = none → upd H12 p (.tup L.vals) D = some (.lst us) := fun L H12 k12 p np => (same_upd np) _ _ (k12 _ _ oD.1 eD11)
        walk_at "nf"
        refine v_if1 (ans_a (fun _ q => ⟨_, rfl, rfl, _, rfl, q⟩) fun _ => ans_a (fun _ q => ⟨_, rfl, rfl, _, rfl, q⟩) fun _ => (fun _ q => ⟨_, rfl, D2, _, rfl, .inl (SqL.of e11), _, _, rfl, rfl, _, rfl, q⟩)) (fun e => ?_) (fun _ => ?_)
        · rw [Bool.and_eq_true, Bool.and_eq_true] at e
          have e := of_decide_eq_true e.2.2
          rw [List.length_map] at e
          refine ⟨_, rfl, .inl ⟨rfl, _, SqL.of eD11⟩, _, rfl, _, rfl, _, rfl, _, rfl, _, rfl, D2, _, rfl, .inl (SqL.of e11), draw oD2.1 e11 (by omega) (by omega) T11 fun z H12 mz k12 T12 => ?_⟩
          refine ⟨lenL (by show 4 ≤ 100000; decide), fun p np => ?_⟩
          refine ⟨D, _, _, rfl, rfl, at13 (.answer re se z) H12 k12 p np, szD, post (.answer re se z) H12 (fun k hk => ?_) k12 T12 p np⟩
          simp only [Let.ns, List.mem_cons, List.not_mem_nil, or_false] at hk
          rcases hk with rfl | rfl | rfl
          · exact my _ mre
          · exact my _ mse
          · exact mh _ mz
        refine ⟨_, rfl, rfl, _, rfl, ite2 (fun _ => ?_) (fun _ => ?_)⟩
        · refine ⟨_, rfl, .inl ⟨rfl, _, SqL.of eD11⟩, _, rfl, _, rfl, lenL (by show 3 ≤ 100000; decide), fun p np => ?_⟩
          refine ⟨D, _, _, rfl, rfl, at13 (.ask re se) H11 (.refl _ _) p np, szD, post (.ask re se) H11 (fun k hk => ?_) (.refl _ _) T11 p np⟩
          simp only [Let.ns, List.mem_cons, List.not_mem_nil, or_false] at hk
          rcases hk with rfl | rfl
          · exact my _ mre
          · exact my _ mse
        refine ⟨_, rfl, rfl, _, rfl, ite2 (fun _ => ?_) (fun _ => ?_)⟩
        · obtain ⟨x', mx, ex⟩ := gn.2 se (my _ mse)
          refine ⟨_, rfl, .inl ⟨rfl, _, SqL.of eD11⟩, _, rfl, _, rfl, dN, _, rfl, dget_of (k := Sum.inl se) hN11 ex, _, rfl, lenL (by show 3 ≤ 100000; decide), fun p np => ?_⟩
          refine ⟨D, _, _, rfl, rfl, at13 (.tell x' se) H11 (.refl _ _) p np, szD, post (.tell x' se) H11 (fun k hk => ?_) (.refl _ _) T11 p np⟩
          simp only [Let.ns, List.mem_cons, List.not_mem_nil, or_false] at hk
          rcases hk with rfl | rfl
          · exact mx
          · exact my _ mse
        refine ⟨_, rfl, rfl, _, rfl, ite2 (fun _ => ?_) (fun _ => ?_)⟩
        · refine ⟨_, rfl, .inl ⟨rfl, _, SqL.of eD11⟩, _, rfl, _, rfl, lenL (by show 3 ≤ 100000; decide), fun p np => ?_⟩
          refine ⟨D, _, _, rfl, rfl, at13 (.tell re se) H11 (.refl _ _) p np, szD, post (.tell re se) H11 (fun k hk => ?_) (.refl _ _) T11 p np⟩
          simp only [Let.ns, List.mem_cons, List.not_mem_nil, or_false] at hk
          rcases hk with rfl | rfl
          · exact my _ mre
          · exact my _ mse
        · refine ⟨_, rfl, .inl ⟨rfl, _, SqL.of eD11⟩, _, rfl, _, rfl, _, rfl, lenL (by show 4 ≤ 100000; decide), fun p np => ?_⟩
          refine ⟨D, _, _, rfl, rfl, at13 (.answer re se na) H11 (.refl _ _) p np, szD, post (.answer re se na) H11 (fun k hk => ?_) (.refl _ _) T11 p np⟩
          simp only [Let.ns, List.mem_cons, List.not_mem_nil, or_false] at hk
          rcases hk with rfl | rfl | rfl
          · exact my _ mre
          · exact my _ mse
          · exact my _ mna
    · obtain ⟨o6, o7, o8, o9, o10, o11, us, Ls, rfl, eD, lt, ul, hl6, hN6, k6, T6⟩ := pv
      exact ⟨_, rfl, q D us Ls H6 D0 eD lt (by omega) k6 T6⟩
--CUT
/-! ### one net and what stands beside it -/
structure Bd where
  (h dn db dl dN dB pO : Addr)
structure Ws where
  ks : List Int
  (nx bs bf : List (Key × V))
  (ps ls : List V)
structure NJ (CN t c : Addr) (A : Bd) (n : Int) (S : Ws) (H : Hp) : Prop where
  tape : Tape H t c
  net : NetAt CN H A.h n A.dn A.db A.dl S.nx S.bf S.ls
  hN : H A.dN = some (.dK S.nx)
  hB : H A.dB = some (.dK S.bs)
  hP : H A.pO = some (.lst S.ps)
  gn : GN S.ks S.nx
  nd : S.ks.Nodup
  rng : ∀ k ∈ S.ks, 0 ≤ k ∧ k < n
  n0 : 0 < n
  gb : GB S.ks S.bs
  kb : KB S.bs
  vf : VF S.ks S.bf S.bs
  lets : Alike (LetSame H S.ks) S.ps S.ls
  ndl : A.pO ≠ t ∧ A.pO ≠ c ∧ A.dl ≠ t ∧ A.dl ≠ c ∧ A.pO ≠ A.dl
  ndd : A.dn ≠ A.db ∧ A.dn ≠ A.dN ∧ A.dn ≠ A.dB ∧ A.db ≠ A.dN ∧ A.db ≠ A.dB ∧ A.dN ≠ A.dB
  lks : S.ks.length ≤ 41
  lps : S.ps.length ≤ 60
  lbf : S.bf.length ≤ 200
/-- nothing but the tape and what belongs to A has changed -/
def Fo (t : Addr) (A : Bd) (H H' : Hp) : Prop := ∀ a o, a ≠ t → a ≠ A.dn → a ≠ A.db → a ≠ A.dl → a ≠ A.dN → a ≠ A.dB → a ≠ A.pO → H a = some o → H' a = some o
theorem Fo.of {t : Addr} {A : Bd} {H H' : Hp} (s : Same H H') : Fo t A H H' := fun a o _ _ _ _ _ _ _ e => s a o e
theorem Fo.kp {t : Addr} {A : Bd} {H H' : Hp} (s : Kp t H H') : Fo t A H H' := fun a o n _ _ _ _ _ _ e => s a o n e
theorem Fo.trans {t : Addr} {A : Bd} {H H' H2 : Hp} (f : Fo t A H H') (g : Fo t A H' H2) : Fo t A H H2 := fun a o n1 n2 n3 n4 n5 n6 n7 e => g a o n1 n2 n3 n4 n5 n6 n7 (f a o n1 n2 n3 n4 n5 n6 n7 e)
section
variable {CN t c : Addr} {A : Bd} {n : Int} {S : Ws} {H H' : Hp}
theorem NJ.kp (I : NJ CN t c A n S H) (f : Kp t H H') (T : Tape H' t c) : NJ CN t c A n S H' := by
  obtain ⟨⟨xt, et⟩, _⟩ := tape_at I.tape
  have g : ∀ {a : Addr} {o : HO}, H a = Option.some o → (∀ xs, o ≠ .lst xs) → H' a = Option.some o := fun e no => f _ _ (fun z => by rw [z, et] at e; exact no _ (Option.some.inj e).symm) e
  exact { I with
    tape := T
    net := ⟨let ⟨d, e⟩ := I.net.me; ⟨d, g e (fun _ z => nomatch z)⟩, g I.net.hn (fun _ z => nomatch z), g I.net.hb (fun _ z => nomatch z), f _ _ I.ndl.2.2.1 I.net.hl⟩
    hN := g I.hN (fun _ z => nomatch z)
    hB := g I.hB (fun _ z => nomatch z)
    hP := f _ _ I.ndl.1 I.hP
    lets := I.lets.mono fun _ _ h => h.mono (fun _ _ e => g e (fun _ z => nomatch z)) fun _ h => h }
theorem NJ.same (I : NJ CN t c A n S H) (s : Same H H') : NJ CN t c A n S H' := I.kp (.of_same s) (I.tape.same s)
/-- other tables, other letters, all in their places -/
theorem NJ.set (I : NJ CN t c A n S H) {nx bs bf : List (Key × V)} {ps ls : List V} (f : Fo t A H H') (ft : ∀ a xs, H a = some (.lst xs) → a ≠ A.dl → a ≠ A.pO → H' a = some (.lst xs)) (net : NetAt CN H' A.h n A.dn A.db A.dl nx bf ls) (hN : H' A.dN = some (.dK nx)) (hB : H' A.dB = some (.dK bs)) (hP : H' A.pO = some (.lst ps))
    (gn : GN S.ks nx) (gb : GB S.ks bs) (kb : KB bs) (vf : VF S.ks bf bs) (lt : Alike (LetSame H' S.ks) ps ls) (lp : ps.length ≤ 60) (lb : bf.length = S.bf.length) : NJ CN t c A n { S with nx := nx, bs := bs, bf := bf, ps := ps, ls := ls } H' := by
  obtain ⟨cs, a, b, k, r, e1, e2, e3, e4⟩ := I.tape
  exact {
    tape := ⟨cs, a, b, k, r, ft _ _ e1 I.ndl.2.2.1.symm I.ndl.1.symm, ft _ _ e2 I.ndl.2.2.2.1.symm I.ndl.2.1.symm, e3, e4⟩
    net := net, hN := hN, hB := hB, hP := hP, gn := gn, nd := I.nd, rng := I.rng, n0 := I.n0, gb := gb, kb := kb, vf := vf, lets := lt, ndl := I.ndl, ndd := I.ndd, lks := I.lks, lps := lp
    lbf := by show bf.length ≤ 200; rw [lb]; exact I.lbf }
/-- a tuple stays -/
theorem NJ.tup (I : NJ CN t c A n S H) (f : Fo t A H H') {a : Addr} {xs : List V} (e : H a = some (.tup xs)) : H' a = some (.tup xs) := by
  obtain ⟨⟨xt, et⟩, _⟩ := tape_at I.tape
  exact f _ _ (ne_kind e et (fun z => nomatch z)) (ne_kind e I.net.hn (fun z => nomatch z)) (ne_kind e I.net.hb (fun z => nomatch z)) (ne_kind e I.net.hl (fun z => nomatch z)) (ne_kind e I.hN (fun z => nomatch z)) (ne_kind e I.hB (fun z => nomatch z)) (ne_kind e I.hP (fun z => nomatch z)) e
/-- two nets apart -/
def Dj (A B : Bd) : Prop := (∀ a ∈ [B.dn, B.db, B.dN, B.dB], a ≠ A.dn ∧ a ≠ A.db ∧ a ≠ A.dN ∧ a ≠ A.dB) ∧ ∀ a ∈ [B.dl, B.pO], a ≠ A.dl ∧ a ≠ A.pO
theorem NJ.other {B : Bd} {S2 : Ws} (J : NJ CN t c B n S2 H) (I : NJ CN t c A n S H) (f : Fo t A H H') (T : Tape H' t c) (d : Dj A B) : NJ CN t c B n S2 H' := by
  obtain ⟨⟨xt, et⟩, _⟩ := tape_at I.tape
  have dk : ∀ {a : Addr} {z : List (Key × V)}, a ∈ [B.dn, B.db, B.dN, B.dB] → H a = some (.dK z) → H' a = some (.dK z) := fun m e => by
    obtain ⟨n1, n2, n3, n4⟩ := d.1 _ m
    exact f _ _ (ne_kind e et (fun z => nomatch z)) n1 n2 (ne_kind e I.net.hl (fun z => nomatch z)) n3 n4 (ne_kind e I.hP (fun z => nomatch z)) e
  have dl : ∀ {a : Addr} {z : List V}, a ∈ [B.dl, B.pO] → a ≠ t → H a = some (.lst z) → H' a = some (.lst z) := fun m nt e => by
    obtain ⟨n1, n2⟩ := d.2 _ m
    exact f _ _ nt (ne_kind e I.net.hn (fun z => nomatch z)) (ne_kind e I.net.hb (fun z => nomatch z)) n1 (ne_kind e I.hN (fun z => nomatch z)) (ne_kind e I.hB (fun z => nomatch z)) n2 e
  exact { J with
    tape := T
    net := ⟨let ⟨dx, e⟩ := J.net.me; ⟨dx, f _ _ (ne_kind e et (fun z => nomatch z)) (ne_kind e I.net.hn (fun z => nomatch z)) (ne_kind e I.net.hb (fun z => nomatch z)) (ne_kind e I.net.hl (fun z => nomatch z)) (ne_kind e I.hN (fun z => nomatch z)) (ne_kind e I.hB (fun z => nomatch z)) (ne_kind e I.hP (fun z => nomatch z)) e⟩, dk (by simp) J.net.hn, dk (by simp) J.net.hb, dl (by simp) J.ndl.2.2.1 J.net.hl⟩
    hN := dk (by simp) J.hN
    hB := dk (by simp) J.hB
    hP := dl (by simp) J.ndl.1 J.hP
    lets := J.lets.mono fun _ _ h => h.mono (fun _ _ e => I.tup f e) fun _ h => h }
end
theorem insert_sorted (a : Int) : ∀ l : List Int, l.Pairwise (· ≤ ·) → ∃ l' : List Int, l'.Perm (a :: l) ∧ l'.Pairwise (· ≤ ·)
  | [], _ => ⟨[a], .refl _, List.pairwise_singleton _ _⟩
  | b :: r, h => by
    obtain ⟨h1, h2⟩ := List.pairwise_cons.mp h
    by_cases e : a ≤ b
    · refine ⟨a :: b :: r, .refl _, List.pairwise_cons.mpr ⟨fun x hx => ?_, h⟩⟩
      rcases List.mem_cons.mp hx with rfl | hx
      · exact e
      · have := h1 x hx
        omega
    · obtain ⟨l', p, s⟩ := insert_sorted a r h2
      refine ⟨b :: l', (List.Perm.cons b p).trans (List.Perm.swap a b r), List.pairwise_cons.mpr ⟨fun x hx => ?_, s⟩⟩
      rcases List.mem_cons.mp (p.mem_iff.mp hx) with rfl | hx
      · omega
      · exact h1 x hx
theorem exists_sorted : ∀ l : List Int, ∃ l' : List Int, l'.Perm l ∧ l'.Pairwise (· ≤ ·)
  | [] => ⟨[], .refl _, List.Pairwise.nil⟩
  | a :: r => by
    obtain ⟨l, p, s⟩ := exists_sorted r
    obtain ⟨l', p', s'⟩ := insert_sorted a l s
    exact ⟨l', p'.trans (List.Perm.cons a p), s'⟩
structure WK where
  ks : List Int
  (nx bs bf : List (Key × V))
  (ps ls : List V)
  Ls : List Let
structure NK (CN t c : Addr) (A : Bd) (n : Int) (m : Nat) (S : WK) (H : Hp) : Prop where
  tape : Tape H t c
  net : NetAt CN H A.h n A.dn A.db A.dl S.nx S.bf S.ls
  hN : H A.dN = some (.dK S.nx)
  hB : H A.dB = some (.dK S.bs)
  hP : H A.pO = some (.lst S.ps)
  gn : GN S.ks S.nx
  nd : S.ks.Nodup
  rng : ∀ k ∈ S.ks, 0 ≤ k ∧ k < n
  n0 : 0 < n
  n9 : n ≤ 1000000000
  gc : GC S.ks S.bs
  kb : KB S.bs
  vf : VF S.ks S.bf S.bs
  lp : Ltr S.ks H S.ps S.Ls
  ll : Ltr S.ks H S.ls S.Ls
  ndl : A.pO ≠ t ∧ A.pO ≠ c ∧ A.dl ≠ t ∧ A.dl ≠ c ∧ A.pO ≠ A.dl
  ndd : A.dn ≠ A.db ∧ A.dn ≠ A.dN ∧ A.dn ≠ A.dB ∧ A.db ≠ A.dN ∧ A.db ≠ A.dB ∧ A.dN ≠ A.dB
  lks : S.ks.length ≤ 40
  lps : S.ps.length ≤ 60 + m
  lbf : S.bf.length ≤ 100 + m
section
variable {CN t c : Addr} {A : Bd} {n : Int} {m : Nat} {S : WK} {H H' : Hp}
theorem NK.kp (I : NK CN t c A n m S H) (f : Kp t H H') (T : Tape H' t c) : NK CN t c A n m S H' := by
  obtain ⟨⟨xt, et⟩, _⟩ := tape_at I.tape
  have g : ∀ {a : Addr} {o : HO}, H a = Option.some o → (∀ xs, o ≠ .lst xs) → H' a = Option.some o := fun e no => f _ _ (fun z => by rw [z, et] at e; exact no _ (Option.some.inj e).symm) e
  exact { I with
    tape := T
    net := ⟨let ⟨d, e⟩ := I.net.me; ⟨d, g e (fun _ z => nomatch z)⟩, g I.net.hn (fun _ z => nomatch z), g I.net.hb (fun _ z => nomatch z), f _ _ I.ndl.2.2.1 I.net.hl⟩
    hN := g I.hN (fun _ z => nomatch z)
    hB := g I.hB (fun _ z => nomatch z)
    hP := f _ _ I.ndl.1 I.hP
    lp := I.lp.kp I.tape f
    ll := I.ll.kp I.tape f }
theorem NK.same (I : NK CN t c A n m S H) (s : Same H H') : NK CN t c A n m S H' := I.kp (.of_same s) (I.tape.same s)
theorem NK.more (I : NK CN t c A n m S H) {m' : Nat} (h : m ≤ m') : NK CN t c A n m' S H := { I with lps := Nat.le_trans I.lps (by omega), lbf := Nat.le_trans I.lbf (by omega) }
end
theorem sV_atom {n : Int} (q : Int × Int) : (sV n q).length ≤ 100000 ∧ ∀ y ∈ sV n q, atomV y = true := ⟨by show 3 ≤ 100000; decide, by simp [sV, atomV]⟩
def sp__law_listed (K : PySem.W.Frag) (CN : Addr) : Sp := fun vs H Q _ => ∃ (t c : Addr) (A : Bd) (n : Int) (m : Nat) (S : WK), vs = [.ref A.h, .int n, .ref A.dN, .ref A.dB, .ref A.pO] ∧ NK CN t c A n m S H ∧ m ≤ 10 ∧ ∀ H', Same H H' → Q (.bl true) H'
theorem T0.ok__law_listed (T : T0 K mg) : FnOk P w K mg base CX0 4 T.a__law_listed T.fd__law_listed ["net", "size", "nexts", "behinds", "post"] (sp__law_listed K T.C_Net) := by
  refine T.F__law_listed.ok sc__law_listed (fun vs H Q E h => ?_) (fun cdv A' outer s H vs Q E hr h => ?_)
  · obtain ⟨t, c, A, n, m, S, rfl, _⟩ := h
    rfl
  · obtain ⟨t, c, A, n, m, S, rfl, I, lm, q⟩ := h
    have l41 := I.lks
    have l60 := I.lps
    have lls : S.ls.length ≤ 1000 := by rw [I.ll.1.1, ← I.lp.1.1]; omega
    have ob : ∀ k ∈ S.ks, okB (bef S.bs k) := fun k _ => I.gc.ok k
    refine ⟨_, (pss_cons (ps_set (i := 5) sc__law_listed.nd rfl (Or.inl rfl) (pe_call T.ok__law_sayings (hr.mono (by decide)) (by rfl) T.g__law_sayings T.k__law_sayings T.b__law_sayings .nil pass0 (pa_cons (pv 1) (pa_cons (pv 2) (pa_cons (pv 3) (pa_cons (pv 4) pa_nil))))))
        (pss_cons (ps_set (i := 6) sc__law_listed.nd rfl (Or.inl rfl) (pe_call T.ok_sayings hr (by rfl) T.g_sayings T.k_sayings T.b_sayings .nil pass0 (pa_cons (pv 0) pa_nil)))
        (pss_cons (ps_if (pt_not (pt_val (pe_call (T.ok__law_same 3) (hr.mono (by decide)) (by rfl) T.g__law_same T.k__law_same T.b__law_same .nil pass0 (pa_cons (pv 6) (pa_cons (pv 5) pa_nil))))) (pss_one (ps_ret pe_bl)) pss_nil)
        (pss_cons (ps_expr (pe_bm PySem.F.plainAttrs_list PySem.F.slot_list_append PySem.F.type_list_append mt_append (pv 6) (pa_cons (pe_tup (pa_cons pe_int (pa_cons pe_int (pa_cons (pv 1) pa_nil)))) pa_nil)))
        (pss_one (ps_ret (pe_call (T.ok__law_same 3) (hr.mono (by decide)) (by rfl) T.g__law_same T.k__law_same T.b__law_same .nil pass0 (pa_cons (pe_call T.ok_sayings hr (by rfl) T.g_sayings T.k_sayings T.b_sayings .nil pass0 (pa_cons (pv 0) pa_nil)) (pa_cons (pv 5) pa_nil))))))))), ?_⟩
    refine ⟨_, rfl, _, rfl, _, rfl, _, rfl, A.dN, A.dB, A.pO, n, S.nx, S.bs, S.ps, S.ks, S.Ls, rfl, I.hN, I.hB, I.hP, I.n0, by omega, I.nd, I.gn, I.gc, I.kb, by omega, I.lp.1, fun ys p us H1 perm pw s1 np ep la lu => ?_⟩
    have I1 := I.same s1
    refine ⟨_, rfl, A.h, A.dn, A.db, A.dl, n, S.nx, S.bf, S.bs, S.ls, S.ks, S.Ls, rfl, I1.net, I.n0, by omega, I.nd, I.gn, I.vf, ob, lls, I1.ll.1, fun zs p2 us2 H2 permz pwz s2 np2 ep2 la2 lu2 => ?_⟩
    have e : zs = ys := perm_sorted_eq (permz.trans perm.symm) pwz pw
    subst e
    have ep1 := s2 _ _ ep
    have la1 := la.same s2
    refine ⟨_, rfl, _, rfl, .ref p2, .ref p, rfl, .lst (SqL.of ep2) (SqL.of ep1) (by rw [la.1, la2.1]) (by omega) (la2.sm la1 fun q _ => sV_atom q), fun H3 s3 => ⟨true, rfl, iteF ?_⟩⟩
    have s13 := Same.trans s1 (Same.trans s2 s3)
    have ep3 := s3 _ _ ep1
    have ep23 := s3 _ _ ep2
    have p2p : p2 ≠ p := fun z => by rw [z, ep] at np2; cases np2
    refine ⟨_, rfl, .inl ⟨rfl, _, SqL.of ep23⟩, _, rfl, lenL (by show 3 ≤ 100000; decide), fun p4 np4 => ?_⟩
    have s4 := same_upd (o := .tup [.int 0, .int 0, .int n]) np4
    refine ⟨p2, _, _, rfl, rfl, s4 _ _ ep23, small1000' (by omega), ?_⟩
    have np20 : H p2 = none := none_back s1 np2
    have s5 : Same H (upd (upd H3 p4 (.tup [.int 0, .int 0, .int n])) p2 (.lst (us2 ++ [.ref p4]))) := fun a o e => (upd_ne (ne_of_none e np20)).trans (s4 _ _ (s13 _ _ e))
    have ep5 := (upd_ne (o := .lst (us2 ++ [.ref p4])) p2p.symm).trans (s4 _ _ ep3)
    have la5 : LAt (sV n) (upd (upd H3 p4 (.tup [.int 0, .int 0, .int n])) p2 (.lst (us2 ++ [.ref p4]))) us (Prs S.nx S.bs zs S.Ls) := ((la1.same s3).same s4).mono fun a xs e => (upd_ne (ne_kind e (s4 _ _ ep23) (fun z => nomatch z))).trans e
    generalize upd (upd H3 p4 (.tup [.int 0, .int 0, .int n])) p2 (.lst (us2 ++ [.ref p4])) = H5 at s5 ep5 la5
    have I5 := I.same s5
    refine ⟨_, rfl, A.h, A.dn, A.db, A.dl, n, S.nx, S.bf, S.bs, S.ls, S.ks, S.Ls, rfl, I5.net, I.n0, by omega, I.nd, I.gn, I.vf, ob, lls, I5.ll.1, fun ws p6 us6 H6 permw pww s6 np6 ep6 la6 lu6 => ?_⟩
    have e : ws = zs := perm_sorted_eq (permw.trans permz.symm) pww pwz
    subst e
    refine ⟨_, rfl, .ref p6, .ref p, rfl, .lst (SqL.of ep6) (SqL.of (s6 _ _ ep5)) (by rw [la5.1, la6.1]) (by omega) (la6.sm (la5.same s6) fun q _ => sV_atom q), fun H7 s7 => ?_⟩
    exact q H7 (Same.trans s5 (Same.trans s6 s7))
--CUT
section
variable {ks : List Int} {nx bs bf : List (Key × V)} {p x n r : Int} {v : V} {L : Let}
theorem GN.put (g : GN ks nx) (hp : p ∈ ks) (hx : x ∈ ks) : GN ks (putK nx (.inl p) (.int x)) := by
  refine ⟨?_, fun k hk => ?_⟩
  · rw [keys_putK_old (by obtain ⟨y, _, e⟩ := g.2 p hp; rw [e]; rfl)]
    exact g.1
  · rw [valV_put]
    by_cases e : k = p
    · rw [e, if_pos rfl]
      exact ⟨x, hx, rfl⟩
    · rw [if_neg (fun z => e (Sum.inl.inj z))]
      exact g.2 k hk
theorem GC.put (g : GC ks bs) (hp : p ∈ ks) (hv : v = .non ∨ ∃ x ∈ ks, v = .int x) : GC ks (putK bs (.inl p) v) := fun k u e => by
  rw [valV_put] at e
  by_cases z : k = p
  · rw [if_pos (by rw [z])] at e
    cases e
    exact ⟨by rw [z]; exact hp, hv⟩
  · rw [if_neg (fun y => z (Sum.inl.inj y))] at e
    exact g k u e
theorem VF.put (h : VF ks bf bs) : VF ks (putK bf (.inl p) v) (putK bs (.inl p) v) := fun k hk => by
  unfold bef
  rw [valV_put, valV_put]
  by_cases e : k = p
  · rw [if_pos (by rw [e]), if_pos (by rw [e])]
    rfl
  · rw [if_neg (fun z => e (Sum.inl.inj z)), if_neg (fun z => e (Sum.inl.inj z))]
    exact h k hk
theorem GC.nB (g : GC ks bs) (hL : ∀ k ∈ L.ns, k ∈ ks) (hr : r ∈ ks) : GC ks (nB n r (bef bs r) L bs) := by
  unfold Z.nB
  split
  · rename_i h
    obtain ⟨u, mu, eu⟩ := (hB_mem (n := n) (r := r) (L := L) (g.ok r)).resolve_left h.2
    exact g.put hr (.inr ⟨u, hL _ mu, eu⟩)
  · exact g
theorem len_putK (h : (valV nx (.inl p)).isSome = true) : (putK nx (.inl p) v).length = nx.length := by
  have := congrArg List.length (keys_putK_old (v := v) h)
  rw [List.length_map, List.length_map] at this
  exact this
theorem GN.adm (g : GN ks nx) (hp : p ∉ ks) (hx : x ∈ ks) : GN (ks ++ [p]) (putK nx (.inl p) (.int x)) := by
  refine ⟨?_, fun k hk => ?_⟩
  · rw [putK_new _ (valV_none_keys g.1 hp), List.map_append, g.1, List.map_append]
    rfl
  · rw [valV_put]
    by_cases e : k = p
    · rw [e, if_pos rfl]
      exact ⟨x, List.mem_append_left _ hx, rfl⟩
    · rw [if_neg (fun z => e (Sum.inl.inj z))]
      obtain ⟨y, my, ey⟩ := g.2 k ((List.mem_append.mp hk).resolve_right (fun z => e (List.mem_singleton.mp z)))
      exact ⟨y, List.mem_append_left _ my, ey⟩
theorem GC.adm (g : GC ks bs) : GC (ks ++ [p]) bs := fun k u e => by
  obtain ⟨h1, h2⟩ := g k u e
  exact ⟨List.mem_append_left _ h1, h2.imp id fun ⟨x, mx, ex⟩ => ⟨x, List.mem_append_left _ mx, ex⟩⟩
theorem VF.adm (h : VF ks bf bs) (g : GC ks bs) (hp : p ∉ ks) : VF (ks ++ [p]) (putK bf (.inl p) .non) bs := fun k hk => by
  rw [valV_put]
  by_cases e : k = p
  · rw [if_pos (by rw [e]), e]
    refine congrArg some (Decidable.byContradiction fun z => hp ?_)
    exact g.mem (fun y => z y.symm)
  · rw [if_neg (fun z => e (Sum.inl.inj z))]
    exact h k ((List.mem_append.mp hk).resolve_right (fun z => e (List.mem_singleton.mp z)))
theorem len_putK_le (kvs : List (Key × V)) (k : Key) (v : V) : (putK kvs k v).length ≤ kvs.length + 1 := by
  unfold putK
  split
  · rw [List.length_map]; omega
  · rw [List.length_append]; exact Nat.le_refl _
end
theorem Ltr.mono {ks ks' : List Int} {H H' : Hp} {vs : List V} {Ls : List Let} (h : Ltr ks H vs Ls) (f : ∀ a xs, H a = some (.tup xs) → H' a = some (.tup xs)) (g : ∀ k ∈ ks, k ∈ ks') : Ltr ks' H' vs Ls := ⟨h.1.mono f, fun L hL k hk => g _ (h.2 L hL k hk)⟩
theorem LAt.erase {α : Type} {f : α → List V} {H : Hp} {vs : List V} {qs : List α} (h : LAt f H vs qs) (k : Nat) : LAt f H (vs.eraseIdx k) (qs.eraseIdx k) := by
  refine ⟨by rw [List.length_eraseIdx, List.length_eraseIdx, h.1], fun i x y e1 e2 => ?_⟩
  rw [List.getElem?_eraseIdx] at e1 e2
  split at e1
  · rename_i g
    rw [if_pos g] at e2
    exact h.2 _ _ _ e1 e2
  · rename_i g
    rw [if_neg g] at e2
    exact h.2 _ _ _ e1 e2
theorem Ltr.erase {ks : List Int} {H : Hp} {vs : List V} {Ls : List Let} (h : Ltr ks H vs Ls) (k : Nat) : Ltr ks H (vs.eraseIdx k) (Ls.eraseIdx k) := ⟨h.1.erase k, fun L hL => h.2 L (List.mem_of_mem_eraseIdx hL)⟩
section
variable {CN t c : Addr} {A : Bd} {n : Int} {m : Nat} {S S' : WK} {H H' : Hp}
theorem NK.lets (I : NK CN t c A n m S H) {k : Nat} (hk : k < S.ps.length) : ∃ (a b : Addr) (L : Let), S.ps[k]? = some (.ref a) ∧ S.ls[k]? = some (.ref b) ∧ S.Ls[k]? = some L ∧ H a = some (.tup L.vals) ∧ H b = some (.tup L.vals) ∧ ∀ j ∈ L.ns, j ∈ S.ks := by
  obtain ⟨a, L, h1, h2, h3⟩ := I.lp.1.at (List.getElem?_eq_getElem hk)
  have hk2 : k < S.ls.length := by rw [I.ll.1.1, ← I.lp.1.1]; exact hk
  obtain ⟨b, h4, h5⟩ := I.ll.1.2 k _ L (List.getElem?_eq_getElem hk2) h1
  exact ⟨a, b, L, by rw [List.getElem?_eq_getElem hk, h2], by rw [List.getElem?_eq_getElem hk2, h4], h1, h3, h5, I.lp.2 L (List.mem_of_getElem? h1)⟩
theorem NK.set (I : NK CN t c A n m S H) (ft : ∀ a xs, H a = some (.lst xs) → a ≠ A.dl → a ≠ A.pO → H' a = some (.lst xs)) (net : NetAt CN H' A.h n A.dn A.db A.dl S'.nx S'.bf S'.ls) (hN : H' A.dN = some (.dK S'.nx)) (hB : H' A.dB = some (.dK S'.bs)) (hP : H' A.pO = some (.lst S'.ps))
    (gn : GN S'.ks S'.nx) (nd : S'.ks.Nodup) (rng : ∀ k ∈ S'.ks, 0 ≤ k ∧ k < n) (gc : GC S'.ks S'.bs) (kb : KB S'.bs) (vf : VF S'.ks S'.bf S'.bs) (lp : Ltr S'.ks H' S'.ps S'.Ls) (ll : Ltr S'.ks H' S'.ls S'.Ls) (lks : S'.ks.length ≤ 40) (lps : S'.ps.length ≤ S.ps.length + 1) (lbf : S'.bf.length ≤ S.bf.length + 1) : NK CN t c A n (m + 1) S' H' := by
  obtain ⟨cs, a, b, k, r, e1, e2, e3, e4⟩ := I.tape
  exact {
    tape := ⟨cs, a, b, k, r, ft _ _ e1 I.ndl.2.2.1.symm I.ndl.1.symm, ft _ _ e2 I.ndl.2.2.2.1.symm I.ndl.2.1.symm, e3, e4⟩
    net := net, hN := hN, hB := hB, hP := hP, gn := gn, nd := nd, rng := rng, n0 := I.n0, n9 := I.n9, gc := gc, kb := kb, vf := vf, lp := lp, ll := ll, ndl := I.ndl, ndd := I.ndd, lks := lks
    lps := by have := I.lps; omega
    lbf := by have := I.lbf; omega }
end
theorem NetAt.putd {C a dn db dl d : Addr} {H : Hp} {n : Int} {nx bf z : List (Key × V)} {ls : List V} {o : HO} (N : NetAt C H a n dn db dl nx bf ls) (e : H d = some (.dK z)) (n1 : dn ≠ d) (n2 : db ≠ d) : NetAt C (upd H d o) a n dn db dl nx bf ls :=
  ⟨let ⟨x, e2⟩ := N.me; ⟨x, (upd_ne (ne_kind e2 e (fun z => nomatch z))).trans e2⟩, (upd_ne n1).trans N.hn, (upd_ne n2).trans N.hb, (upd_ne (ne_kind N.hl e (fun z => nomatch z))).trans N.hl⟩
theorem NetAt.putl {C a dn db dl d : Addr} {H : Hp} {n : Int} {nx bf : List (Key × V)} {ls zs : List V} {o : HO} (N : NetAt C H a n dn db dl nx bf ls) (e : H d = some (.lst zs)) (n1 : dl ≠ d) : NetAt C (upd H d o) a n dn db dl nx bf ls :=
  ⟨let ⟨x, e2⟩ := N.me; ⟨x, (upd_ne (ne_kind e2 e (fun z => nomatch z))).trans e2⟩, (upd_ne (ne_kind N.hn e (fun z => nomatch z))).trans N.hn, (upd_ne (ne_kind N.hb e (fun z => nomatch z))).trans N.hb, (upd_ne n1).trans N.hl⟩
def sp__law_change (K : PySem.W.Frag) (CN : Addr) : Sp := fun vs H Q _ => ∃ (t c : Addr) (A : Bd) (n : Int) (m : Nat) (S : WK), vs = [.ref t, .ref A.h, .int n, .ref A.dN, .ref A.dB, .ref A.pO] ∧ NK CN t c A n m S H ∧ m ≤ 8 ∧ 0 < S.ks.length ∧ ∀ S' H', NK CN t c A n (m + 1) S' H' → 0 < S'.ks.length → Q (.bl true) H'
theorem T0.ok__law_change (T : T0 K mg) : FnOk P w K mg base CX0 6 T.a__law_change T.fd__law_change ["tape", "net", "size", "nexts", "behinds", "post"] (sp__law_change K T.C_Net) := by
  refine T.F__law_change.ok sc__law_change (fun vs H Q E h => ?_) (fun cdv A' outer s H vs Q E hr h => ?_)
  · obtain ⟨t, c, A, n, m, S, rfl, _⟩ := h
    rfl
  · obtain ⟨t, c, A, n, m, S, rfl, I, lm, lne, q⟩ := h
    refine ⟨_, (pss_cons (ps_set (i := 6) sc__law_change.nd rfl (Or.inl rfl) (pe_callB (call_sortedDI rfl) (by rfl) T.m_sorted (by decide +kernel) (pa_cons (pv 3) pa_nil)))
        (pss_cons (ps_set (i := 7) sc__law_change.nd rfl (Or.inl rfl) (pe_ix (ix_listK (K := K)) (pv 6) (pe_call T.ok__law_pick (hr.mono (by decide)) (by rfl) T.g__law_pick T.k__law_pick T.b__law_pick .nil pass0 (pa_cons (pv 0) (pa_cons (pe_callB (call_lenK (K := K)) (by rfl) T.m_len PySem.boot_len (pa_cons (pv 6) pa_nil)) pa_nil))) (fun _ _ => rfl)))
        (pss_cons (ps_set (i := 8) sc__law_change.nd rfl (Or.inl rfl) (pe_ix (ix_listK (K := K)) (pv 6) (pe_call T.ok__law_pick (hr.mono (by decide)) (by rfl) T.g__law_pick T.k__law_pick T.b__law_pick .nil pass0 (pa_cons (pv 0) (pa_cons (pe_callB (call_lenK (K := K)) (by rfl) T.m_len PySem.boot_len (pa_cons (pv 6) pa_nil)) pa_nil))) (fun _ _ => rfl)))
        (pss_cons (ps_set (i := 9) sc__law_change.nd rfl (Or.inl rfl) (pe_call T.ok__law_pick (hr.mono (by decide)) (by rfl) T.g__law_pick T.k__law_pick T.b__law_pick .nil pass0 (pa_cons (pv 0) (pa_cons (pv 2) pa_nil))))
        (pss_cons (ps_set (i := 10) sc__law_change.nd rfl (Or.inl rfl) (pe_call T.ok__law_pick (hr.mono (by decide)) (by rfl) T.g__law_pick T.k__law_pick T.b__law_pick .nil pass0 (pa_cons (pv 0) (pa_cons pe_int pa_nil))))
        (pss_cons (ps_if (PW.pt (pw_and (pt_cmpR op_gt (pv 10) pe_int (nomark _)) (pw_and1 (pt_cmpR op_gt (pe_callB (call_lenK (K := K)) (by rfl) T.m_len PySem.boot_len (pa_cons (pv 5) pa_nil)) pe_int (nomark _))))) (pss_cons (ps_set (i := 11) sc__law_change.nd rfl (Or.inl rfl) (pe_call T.ok__law_pick (hr.mono (by decide)) (by rfl) T.g__law_pick T.k__law_pick T.b__law_pick .nil pass0 (pa_cons (pv 0) (pa_cons (pe_callB (call_lenK (K := K)) (by rfl) T.m_len PySem.boot_len (pa_cons (pv 5) pa_nil)) pa_nil))))
        (pss_one (ps_ret (pe_call (T.ok__law_same 2) (hr.mono (by decide)) (by rfl) T.g__law_same T.k__law_same T.b__law_same .nil pass0 (pa_cons (pe_meth (pv 1) T.cl_Net T.me_Net__read T.ok_Net__read hr T.b_Net__read .nil pass0 (pa_cons (pv 11) pa_nil)) (pa_cons (pe_call T.ok__law_read (hr.mono (by decide)) (by rfl) T.g__law_read T.k__law_read T.b__law_read .nil pass0 (pa_cons (pv 2) (pa_cons (pv 3) (pa_cons (pv 4) (pa_cons (pv 5) (pa_cons (pv 11) pa_nil)))))) pa_nil)))))) pss_nil)
        (pss_cons (ps_if (PW.pt (pw_and (pt_cmpR op_eq (pv 10) pe_int (nomark _)) (pw_and (pt_cmp (pc_dnotin (un1 hr) (pv 9) (pv 3))) (pw_and1 (pt_cmpR op_lt (pe_callB (call_lenK (K := K)) (by rfl) T.m_len PySem.boot_len (pa_cons (pv 6) pa_nil)) pe_int (nomark _)))))) (pss_cons (ps_expr (pe_meth (pv 1) T.cl_Net T.me_Net__admit T.ok_Net__admit (hr.mono (by decide)) T.b_Net__admit .nil pass0 (pa_cons (pv 9) (pa_cons (pv 7) pa_nil))))
        (pss_one (ps_asg (pv 7) (pg_sub (pv 3) (pv 9) (set_dict (un1 hr)))))) (pss_one (ps_if (pt_cmpR op_eq (pv 10) pe_int (nomark _)) (pss_cons (ps_expr (pe_meth (pv 1) T.cl_Net T.me_Net__hold T.ok_Net__hold (hr.mono (by decide)) T.b_Net__hold .nil pass0 (pa_cons (pv 7) (pa_cons (pv 8) pa_nil))))
        (pss_one (ps_asg (pv 8) (pg_sub (pv 3) (pv 7) (set_dict (un1 hr)))))) (pss_one (ps_if (pt_cmpR op_eq (pv 10) pe_int (nomark _)) (pss_cons (ps_expr (pe_meth (pv 1) T.cl_Net T.me_Net__set_before T.ok_Net__set_before (hr.mono (by decide)) T.b_Net__set_before .nil pass0 (pa_cons (pv 7) (pa_cons (pv 8) pa_nil))))
        (pss_one (ps_asg (pv 8) (pg_sub (pv 4) (pv 7) (set_dict (un1 hr)))))) (pss_one (ps_if (pt_cmpR op_eq (pv 10) pe_int (nomark _)) (pss_cons (ps_expr (pe_meth (pv 1) T.cl_Net T.me_Net__set_before T.ok_Net__set_before (hr.mono (by decide)) T.b_Net__set_before .nil pass0 (pa_cons (pv 7) (pa_cons pe_non pa_nil))))
        (pss_one (ps_asg pe_non (pg_sub (pv 4) (pv 7) (set_dict (un1 hr)))))) (pss_one (ps_if (pt_cmpR op_eq (pv 10) pe_int (nomark _)) (pss_cons (ps_expr (pe_meth (pv 1) T.cl_Net T.me_Net__tell T.ok_Net__tell (hr.mono (by decide)) T.b_Net__tell .nil pass0 (pa_cons (pv 7) pa_nil)))
        (pss_one (ps_expr (pe_bm PySem.F.plainAttrs_list PySem.F.slot_list_append PySem.F.type_list_append mt_append (pv 5) (pa_cons (pe_tup (pa_cons pe_str (pa_cons (pe_dget (un1 hr) (pv 3) (pv 7) (fun _ _ => rfl)) (pa_cons (pv 7) pa_nil)))) pa_nil))))) (pss_one (ps_if (PW.pt (pw_or (pt_cmpR op_eq (pv 10) pe_int (nomark _)) (pw_or1 (pt_cmpR op_eq (pe_callB (call_lenK (K := K)) (by rfl) T.m_len PySem.boot_len (pa_cons (pv 5) pa_nil)) pe_int (nomark _))))) (pss_cons (ps_expr (pe_meth (pv 1) T.cl_Net T.me_Net__ask T.ok_Net__ask (hr.mono (by decide)) T.b_Net__ask .nil pass0 (pa_cons (pv 7) pa_nil)))
        (pss_one (ps_expr (pe_bm PySem.F.plainAttrs_list PySem.F.slot_list_append PySem.F.type_list_append mt_append (pv 5) (pa_cons (pe_tup (pa_cons pe_str (pa_cons (pe_dget (un1 hr) (pv 3) (pv 7) (fun _ _ => rfl)) (pa_cons (pv 7) pa_nil)))) pa_nil))))) (pss_one (ps_if (pt_cmpR op_eq (pv 10) pe_int (nomark _)) (pss_cons (ps_set (i := 11) sc__law_change.nd rfl (Or.inl rfl) (pe_call T.ok__law_pick (hr.mono (by decide)) (by rfl) T.g__law_pick T.k__law_pick T.b__law_pick .nil pass0 (pa_cons (pv 0) (pa_cons (pe_callB (call_lenK (K := K)) (by rfl) T.m_len PySem.boot_len (pa_cons (pv 5) pa_nil)) pa_nil))))
        (pss_cons (ps_expr (pe_meth (pv 1) T.cl_Net T.me_Net__lose T.ok_Net__lose (hr.mono (by decide)) T.b_Net__lose .nil pass0 (pa_cons (pv 11) pa_nil)))
        (pss_one (ps_expr (pe_bm PySem.F.plainAttrs_list PySem.F.slot_list_pop PySem.F.type_list_pop mt_popAt (pv 5) (pa_cons (pv 11) pa_nil)))))) (pss_cons (ps_set (i := 11) sc__law_change.nd rfl (Or.inl rfl) (pe_call T.ok__law_pick (hr.mono (by decide)) (by rfl) T.g__law_pick T.k__law_pick T.b__law_pick .nil pass0 (pa_cons (pv 0) (pa_cons (pe_callB (call_lenK (K := K)) (by rfl) T.m_len PySem.boot_len (pa_cons (pv 5) pa_nil)) pa_nil))))
        (pss_cons (ps_expr (pe_meth (pv 1) T.cl_Net T.me_Net__repeat T.ok_Net__repeat (hr.mono (by decide)) T.b_Net__repeat .nil pass0 (pa_cons (pv 11) pa_nil)))
        (pss_one (ps_expr (pe_bm PySem.F.plainAttrs_list PySem.F.slot_list_append PySem.F.type_list_append mt_append (pv 5) (pa_cons (pe_ix (ix_listK (K := K)) (pv 5) (pv 11) (fun _ _ => rfl)) pa_nil)))))))))))))))))))
        (pss_one (ps_ret pe_bl))))))))), ?_⟩
    have l1 := I.lks
    have l2 : S.nx.length = S.ks.length := by have := congrArg List.length I.gn.1; rw [List.length_map, List.length_map] at this; exact this
    have l3 := I.lps
    have l4 : S.ls.length = S.ps.length := by rw [I.ll.1.1, I.lp.1.1]
    have l5 := I.lbf
    have l9 := I.n9
    have l0 := I.n0
    obtain ⟨dnb, dnN, dnB, dbN, dbB, dNB⟩ := I.ndd
    have l6 : S.bs.length ≤ S.ks.length := by
      obtain ⟨js, ejs, ndj⟩ := I.kb
      have e := congrArg List.length ejs
      rw [List.length_map, List.length_map] at e
      rw [e]
      refine nodup_sub_len ndj fun j hj => ?_
      obtain ⟨v, hv⟩ := Option.isSome_iff_exists.mp (valV_mem_keys ejs hj)
      exact (I.gc _ _ hv).1
    refine ⟨_, rfl, A.dN, S.nx, S.ks, rfl, .inl I.hN, I.gn.1, by omega, fun ys l perm pw nl => ?_⟩
    have ylen := perm.length_eq
    have hl : upd H l (.lst (ys.map V.int)) l = some (.lst (ys.map V.int)) := upd_same
    have ol := I.tape.off nl
    have I1 := I.same (same_upd (o := .lst (ys.map V.int)) nl)
    generalize upd H l (.lst (ys.map V.int)) = H1 at hl I1
    refine ⟨_, rfl, _, rfl, _, rfl, l, _, rfl, .inl (SqL.of hl), draw ol.1 hl (by omega) (by omega) I1.tape fun y H2 my k2 T2 => ?_⟩
    have I2 := I1.kp k2 T2
    have hl2 := k2 _ _ ol.1 hl
    refine ⟨_, rfl, _, rfl, _, rfl, l, _, rfl, .inl (SqL.of hl2), draw ol.1 hl2 (by omega) (by omega) T2 fun z H3 mz k3 T3 => ?_⟩
    have I3 := I2.kp k3 T3
    have hl3 := k3 _ _ ol.1 hl2
    refine ⟨_, rfl, _, rfl, t, c, n, rfl, T3, l0, by omega, fun pl H4 p0 p1 k4 T4 => ?_⟩
    have I4 := I3.kp k4 T4
    have hl4 := k4 _ _ ol.1 hl3
    refine ⟨_, rfl, t, c, 10, rfl, T4, by decide, by decide, fun kd H5 d0 d1 k5 T5 => ?_⟩
    have I5 := I4.kp k5 T5
    have hl5 := k5 _ _ ol.1 hl4
    have hy := perm.mem_iff.mp my
    have hz := perm.mem_iff.mp mz
    obtain ⟨x, mx, hx⟩ := I.gn.2 _ hy
    obtain ⟨x2, _, hx2⟩ := I.gn.2 _ hz
    clear k2 k3 k4 k5 I1 I2 I3 I4 hl hl2 hl3 hl4 T2 T3 T4
    obtain ⟨dx5, hh5⟩ := I5.net.me
    try (walk_at "nf")
    refine v_when (ans_a (fun _ q => ⟨_, rfl, _, _, rfl, rfl, _, rfl, q⟩) (fun _ => fun _ q => ⟨_, rfl, A.pO, _, rfl, .inl (SqL.of I5.hP), _, _, rfl, rfl, _, rfl, q⟩)) (fun e => ?_) (fun _ => ?_)
    · have lp : 0 < S.ps.length := by
        simp only [Bool.and_eq_true, decide_eq_true_eq] at e
        omega
      refine ⟨_, rfl, _, rfl, A.pO, _, rfl, .inl (SqL.of I5.hP), t, c, _, rfl, T5, by omega, by omega, fun z H4 z0 z1 k4 T4 => ?_⟩
      have I4 := I5.kp k4 T4
      obtain ⟨k, rfl⟩ : ∃ k : Nat, z = k := ⟨z.toNat, by omega⟩
      have hk : k < S.ps.length := by omega
      obtain ⟨p, qa, L, ha, hb, hLk, ep, eq, hL⟩ := I4.lets hk
      obtain ⟨dx4, hh4⟩ := I4.net.me
      have hr' := hL _ L.to_ns
      obtain ⟨x, mx, hx⟩ := I.gn.2 _ hr'
      have ob := I.gc.ok L.to
      refine ⟨_, rfl, A.h, dx4, _, rfl, hh4, (by unfold nf; walk_at "lk"), _, rfl, A.h, A.dn, A.db, A.dl, qa, n, x, bef S.bs L.to, k, L, S.nx, S.bf, S.ls, rfl, I4.net, hb, eq, hx, I.vf _ hr', ob, I.n0, dnb.symm, by omega, by omega, by omega, fun H5 v5 ls' a5 R => ?_⟩
      obtain ⟨w5, rfl, ew5⟩ := R.told
      have N5 := R.keep _ _ dnN.symm dbN.symm (ne_kind I4.hN I4.net.hl (fun z => nomatch z)) I4.hN
      have B5 := R.keep _ _ dnB.symm dbB.symm (ne_kind I4.hB I4.net.hl (fun z => nomatch z)) I4.hB
      have P5 := R.keep _ _ (ne_kind I4.hP I4.net.hn (fun z => nomatch z)) (ne_kind I4.hP I4.net.hb (fun z => nomatch z)) I4.ndl.2.2.2.2 I4.hP
      have kt5 : ∀ {a : Addr} {xs : List V}, H4 a = some (.tup xs) → H5 a = some (.tup xs) := fun e => R.keep _ _ (ne_kind e I4.net.hn (fun z => nomatch z)) (ne_kind e I4.net.hb (fun z => nomatch z)) (ne_kind e I4.net.hl (fun z => nomatch z)) e
      refine ⟨_, rfl, _, rfl, _, rfl, _, rfl, _, rfl, A.dN, A.dB, A.pO, p, n, x, k, L, S.nx, S.bs, S.ps, rfl, N5, B5, P5, ha, kt5 ep, hx, ob, I.n0, dNB, by omega, by omega, by omega, fun H6 v6 ps' a6 f6 eN6 eB6 eP6 ht6 => ?_⟩
      obtain ⟨w6, rfl, ew6⟩ := ht6
      have kt6 : ∀ {a : Addr} {xs : List V}, H5 a = some (.tup xs) → H6 a = some (.tup xs) := fun e => f6 _ _ (ne_kind e N5 (fun z => nomatch z)) (ne_kind e B5 (fun z => nomatch z)) (ne_kind e P5 (fun z => nomatch z)) e
      refine ⟨.ref w5, .ref w6, rfl, tup_same (kt6 ew5) ew6 (nT_atom ob).1 (nT_atom ob).2, fun H7 s7 => ?_⟩
      have N6 : NetAt T.C_Net H6 A.h n A.dn A.db A.dl (nN n L.to x (bef S.bs L.to) L S.nx) (nB n L.to (bef S.bs L.to) L S.bf) ls' := by
        have N : NetAt T.C_Net H5 A.h n A.dn A.db A.dl (nN n L.to x (bef S.bs L.to) L S.nx) (nB n L.to (bef S.bs L.to) L S.bf) ls' := R.net
        exact ⟨let ⟨d, e⟩ := N.me; ⟨d, f6 _ _ (ne_kind e N5 (fun z => nomatch z)) (ne_kind e B5 (fun z => nomatch z)) (ne_kind e P5 (fun z => nomatch z)) e⟩, f6 _ _ dnN dnB (ne_kind N.hn P5 (fun z => nomatch z)) N.hn, f6 _ _ dbN dbB (ne_kind N.hb P5 (fun z => nomatch z)) N.hb, f6 _ _ (ne_kind N.hl N5 (fun z => nomatch z)) (ne_kind N.hl B5 (fun z => nomatch z)) I4.ndl.2.2.2.2.symm N.hl⟩
      have fx : ∀ a o, a ≠ A.dN → a ≠ A.dB → a ≠ A.pO → a ≠ A.dn → a ≠ A.db → a ≠ A.dl → H4 a = some o → H7 a = some o := fun a o n1 n2 n3 n4 n5 n6 e => s7 _ _ (f6 _ _ n1 n2 n3 (R.keep _ _ n4 n5 n6 e))
      have kt7 : ∀ a xs, H4 a = some (.tup xs) → H7 a = some (.tup xs) := fun a xs e => s7 _ _ (kt6 (kt5 e))
      have fin : ∀ Ls', Ltr S.ks H7 ps' Ls' → Ltr S.ks H7 ls' Ls' → ps'.length ≤ S.ps.length + 1 → Q (.bl true) H7 := fun Ls' h1 h2 h3 =>
        q ⟨S.ks, nN n L.to x (bef S.bs L.to) L S.nx, nB n L.to (bef S.bs L.to) L S.bs, nB n L.to (bef S.bs L.to) L S.bf, ps', ls', Ls'⟩ H7
          (I4.set (fun a xs e n1 n2 => fx a _ (ne_kind e I4.hN (fun z => nomatch z)) (ne_kind e I4.hB (fun z => nomatch z)) n2 (ne_kind e I4.net.hn (fun z => nomatch z)) (ne_kind e I4.net.hb (fun z => nomatch z)) n1 e) (N6.same s7) (s7 _ _ eN6) (s7 _ _ eB6) (s7 _ _ eP6) (I.gn.nN hL hr' hx) I.nd I.rng (I.gc.nB hL hr') I.kb.nB (VF.nB I.vf hr') h1 h2 I.lks h3 (by show (nB _ _ _ _ _).length ≤ _; rw [nB_len (by rw [I.vf _ hr']; rfl)]; omega)) lne
      have e1 := (I4.lp.mono kt7 (fun _ h => h)).erase k
      have e2 := (I4.ll.mono kt7 (fun _ h => h)).erase k
      have le : (S.ps.eraseIdx k).length + 1 = S.ps.length := by rw [List.length_eraseIdx, if_pos hk]; omega
      cases eA : hA L.to (bef S.bs L.to) L with
      | none =>
        rw [eA] at a5 a6
        refine fin (S.Ls.eraseIdx k) (by rw [a6]; exact e1) (by rw [a5]; exact e2) (by rw [a6]; omega)
      | some ys =>
        rw [eA] at a5 a6
        obtain ⟨a, rfl, ea⟩ := a6
        obtain ⟨b, rfl, eb⟩ := a5
        obtain ⟨L', rfl, hL'⟩ := hA_let eA hL hr' (fun z e => by
          have g := I.gc
          unfold bef at e
          cases e0 : valV S.bs (.inl L.to) with
          | none => rw [e0] at e; exact absurd e (fun h => nomatch h)
          | some v =>
            rw [e0] at e
            have e : v = .int z := e
            subst e
            obtain ⟨_, h2⟩ := g _ _ e0
            rcases h2 with h2 | ⟨x, mx, h2⟩
            · exact absurd h2 (fun h => nomatch h)
            · rw [V.int.inj h2]
              exact mx)
        exact fin (S.Ls.eraseIdx k ++ [L']) (e1.app (s7 _ _ ea) hL') (e2.app (s7 _ _ (kt6 eb)) hL') (by rw [List.length_append]; show _ + 1 ≤ _; omega)
    · try (walk_at "nf")
      have kdic : ∀ {H' : Hp} {nx bs bf : List (Key × V)} {ks : List Int}, (∀ a o, (∀ z, o ≠ .dK z) → H5 a = some o → H' a = some o) → NetAt T.C_Net H' A.h n A.dn A.db A.dl nx bf S.ls → H' A.dN = some (.dK nx) → H' A.dB = some (.dK bs) → GN ks nx → ks.Nodup → (∀ k ∈ ks, 0 ≤ k ∧ k < n) → GC ks bs → KB bs → VF ks bf bs → (∀ k ∈ S.ks, k ∈ ks) → ks.length ≤ 40 → bf.length ≤ S.bf.length + 1 → 0 < ks.length → Q (.bl true) H' := fun {H' nx bs bf ks} kd N eN eB g1 g2 g3 g4 g5 g6 g7 g8 g9 g10 =>
        q ⟨ks, nx, bs, bf, S.ps, S.ls, S.Ls⟩ H' (I5.set (fun a xs e _ _ => kd _ _ (fun _ z => nomatch z) e) N eN eB (kd _ _ (fun _ z => nomatch z) I5.hP) g1 g2 g3 g4 g5 g6 (I5.lp.mono (fun a xs e => kd _ _ (fun _ z => nomatch z) e) g7) (I5.ll.mono (fun a xs e => kd _ _ (fun _ z => nomatch z) e) g7) g8 (Nat.le_succ _) g9) g10
      have fl : ∀ (ps ls : List V) (Ls : List Let) (H6 H' : Hp), NK T.C_Net t c A n m S H6 → (∀ a o, a ≠ A.pO → a ≠ A.dl → H6 a = some o → H' a = some o) → NetAt T.C_Net H' A.h n A.dn A.db A.dl S.nx S.bf ls → H' A.pO = some (.lst ps) → (Ltr S.ks H' S.ps S.Ls → Ltr S.ks H' ps Ls) → (Ltr S.ks H' S.ls S.Ls → Ltr S.ks H' ls Ls) → ps.length ≤ S.ps.length + 1 → Q (.bl true) H' := fun ps ls Ls H6 H' I6 f N eP g1 g2 g3 =>
        have kt : ∀ a xs, H6 a = some (.tup xs) → H' a = some (.tup xs) := fun a xs e => f _ _ (ne_kind e I6.hP (fun z => nomatch z)) (ne_kind e I6.net.hl (fun z => nomatch z)) e
        q ⟨S.ks, S.nx, S.bs, S.bf, ps, ls, Ls⟩ H' (I6.set (fun a xs e n1 n2 => f _ _ n2 n1 e) N (f _ _ (ne_kind I6.hN I6.hP (fun z => nomatch z)) (ne_kind I6.hN I6.net.hl (fun z => nomatch z)) I6.hN) (f _ _ (ne_kind I6.hB I6.hP (fun z => nomatch z)) (ne_kind I6.hB I6.net.hl (fun z => nomatch z)) I6.hB) eP I.gn I.nd I.rng I.gc I.kb I.vf (g1 (I6.lp.mono kt (fun _ h => h))) (g2 (I6.ll.mono kt (fun _ h => h))) I.lks g3 (Nat.le_succ _)) lne
      refine v_if1 (ans_a (fun _ q => ⟨_, rfl, rfl, _, rfl, q⟩) fun _ => ans_a (ans_b (fun _ q => ⟨_, rfl, _, rfl, A.dN, _, rfl, DGet.k (k := Sum.inl pl) I5.hN, q⟩)) fun _ => (fun _ q => ⟨_, rfl, l, _, rfl, .inl (SqL.of hl5), _, _, rfl, rfl, _, rfl, q⟩)) (fun e => ?_) (fun _ => ?_)
      · rw [Bool.and_eq_true, Bool.and_eq_true] at e
        have e1 := e.2.1
        have e2 := of_decide_eq_true e.2.2
        rw [List.length_map] at e2
        have hno : valV S.nx (.inl pl) = none := by
          cases h : valV S.nx (.inl pl) with
          | none => rfl
          | some v => rw [h] at e1; exact absurd e1 Bool.false_ne_true
        have npk : pl ∉ S.ks := fun h => by obtain ⟨_, _, e⟩ := I.gn.2 _ h; rw [e] at hno; cases hno
        refine ⟨_, rfl, A.h, dx5, _, rfl, hh5, (by unfold nf; walk_at "lk"), _, rfl, _, rfl, A.h, A.dn, A.db, A.dl, n, pl, y, S.nx, S.bf, S.ls, rfl, I5.net, p0, p1, hno, fun _ => by rw [hx]; rfl, dnb.symm, by omega, by omega, ?_⟩
        have N6 := (I5.net.setn (nx' := putK S.nx (.inl pl) (.int y)) dnb.symm).setb (bf' := putK S.bf (.inl pl) .non) dnb.symm
        have k6 : ∀ a o, a ≠ A.dn → a ≠ A.db → H5 a = some o → upd (upd H5 A.dn (.dK (putK S.nx (.inl pl) (.int y)))) A.db (.dK (putK S.bf (.inl pl) .non)) a = some o := fun a o n1 n2 e => (upd_ne n2).trans ((upd_ne n1).trans e)
        generalize upd (upd H5 A.dn (.dK (putK S.nx (.inl pl) (.int y)))) A.db (.dK (putK S.bf (.inl pl) .non)) = H6 at N6 k6
        have eN6 := k6 _ _ dnN.symm dbN.symm I5.hN
        have eB6 := k6 _ _ dnB.symm dbB.symm I5.hB
        refine ⟨_, rfl, _, rfl, _, rfl, A.dN, _, rfl, DPut.k (k := Sum.inl pl) eN6 (small1000' (by omega)), ?_⟩
        refine kdic (ks := S.ks ++ [pl]) (fun a o no e => (upd_ne (ne_kind e I5.hN (no _))).trans (k6 _ _ (ne_kind e I5.net.hn (no _)) (ne_kind e I5.net.hb (no _)) e)) (N6.putd eN6 dnN dbN) upd_same ((upd_ne dNB.symm).trans eB6) (I.gn.adm npk hy) ?_ (fun k hk => ?_) I.gc.adm I.kb (I.vf.adm I.gc npk) (fun k hk => List.mem_append_left _ hk) (by rw [List.length_append]; show _ + 1 ≤ 40; omega) (len_putK_le _ _ _) (by rw [List.length_append]; show 0 < _ + 1; omega)
        · refine List.nodup_append.mpr ⟨I.nd, List.nodup_cons.mpr ⟨List.not_mem_nil, List.nodup_nil⟩, fun a ha b hb z => npk ?_⟩
          rw [← List.mem_singleton.mp hb, ← z]
          exact ha
        · rcases List.mem_append.mp hk with hk | hk
          · exact I.rng k hk
          · rw [List.mem_singleton.mp hk]
            exact ⟨p0, p1⟩
      refine ⟨_, rfl, rfl, _, rfl, ite2 (fun _ => ?_) (fun _ => ?_)⟩
      · refine ⟨_, rfl, A.h, dx5, _, rfl, hh5, (by unfold nf; walk_at "lk"), _, rfl, _, rfl, A.h, A.dn, A.db, A.dl, n, y, z, .int x, S.nx, S.bf, S.ls, rfl, I5.net, hx, by rw [hx2]; rfl, by omega, ?_⟩
        have N6 := I5.net.setn (nx' := putK S.nx (.inl y) (.int z)) dnb.symm
        have k6 : ∀ a o, a ≠ A.dn → H5 a = some o → upd H5 A.dn (.dK (putK S.nx (.inl y) (.int z))) a = some o := fun a o n1 e => (upd_ne n1).trans e
        generalize upd H5 A.dn (.dK (putK S.nx (.inl y) (.int z))) = H6 at N6 k6
        have eN6 := k6 _ _ dnN.symm I5.hN
        have eB6 := k6 _ _ dnB.symm I5.hB
        refine ⟨_, rfl, _, rfl, _, rfl, A.dN, _, rfl, DPut.k (k := Sum.inl y) eN6 (small1000' (by omega)), ?_⟩
        exact kdic (ks := S.ks) (fun a o no e => (upd_ne (ne_kind e I5.hN (no _))).trans (k6 _ _ (ne_kind e I5.net.hn (no _)) e)) (N6.putd eN6 dnN dbN) upd_same ((upd_ne dNB.symm).trans eB6) (I.gn.put hy hz) I.nd I.rng I.gc I.kb I.vf (fun _ h => h) I.lks (Nat.le_succ _) lne
      refine ⟨_, rfl, rfl, _, rfl, ite2 (fun _ => ?_) (fun _ => ?_)⟩
      · refine ⟨_, rfl, A.h, dx5, _, rfl, hh5, (by unfold nf; walk_at "lk"), _, rfl, _, rfl, A.h, A.dn, A.db, A.dl, n, y, .int z, S.nx, S.bf, S.ls, rfl, I5.net, by rw [hx]; rfl, .inr ⟨z, rfl, by rw [hx2]; rfl⟩, by omega, ?_⟩
        have N6 := I5.net.setb (bf' := putK S.bf (.inl y) (.int z)) dnb.symm
        have k6 : ∀ a o, a ≠ A.db → H5 a = some o → upd H5 A.db (.dK (putK S.bf (.inl y) (.int z))) a = some o := fun a o n1 e => (upd_ne n1).trans e
        generalize upd H5 A.db (.dK (putK S.bf (.inl y) (.int z))) = H6 at N6 k6
        have eN6 := k6 _ _ dbN.symm I5.hN
        have eB6 := k6 _ _ dbB.symm I5.hB
        refine ⟨_, rfl, _, rfl, _, rfl, A.dB, _, rfl, DPut.k (k := Sum.inl y) eB6 (small1000' (by omega)), ?_⟩
        exact kdic (ks := S.ks) (fun a o no e => (upd_ne (ne_kind e I5.hB (no _))).trans (k6 _ _ (ne_kind e I5.net.hb (no _)) e)) (N6.putd eB6 dnB dbB) ((upd_ne dNB).trans eN6) upd_same I.gn I.nd I.rng (I.gc.put hy (.inr ⟨z, hz, rfl⟩)) I.kb.put I.vf.put (fun _ h => h) I.lks (len_putK_le _ _ _) lne
      refine ⟨_, rfl, rfl, _, rfl, ite2 (fun _ => ?_) (fun _ => ?_)⟩
      · refine ⟨_, rfl, A.h, dx5, _, rfl, hh5, (by unfold nf; walk_at "lk"), _, rfl, A.h, A.dn, A.db, A.dl, n, y, .non, S.nx, S.bf, S.ls, rfl, I5.net, by rw [hx]; rfl, .inl rfl, by omega, ?_⟩
        have N6 := I5.net.setb (bf' := putK S.bf (.inl y) .non) dnb.symm
        have k6 : ∀ a o, a ≠ A.db → H5 a = some o → upd H5 A.db (.dK (putK S.bf (.inl y) .non)) a = some o := fun a o n1 e => (upd_ne n1).trans e
        generalize upd H5 A.db (.dK (putK S.bf (.inl y) .non)) = H6 at N6 k6
        have eN6 := k6 _ _ dbN.symm I5.hN
        have eB6 := k6 _ _ dbB.symm I5.hB
        refine ⟨_, rfl, _, rfl, A.dB, _, rfl, DPut.k (k := Sum.inl y) eB6 (small1000' (by omega)), ?_⟩
        exact kdic (ks := S.ks) (fun a o no e => (upd_ne (ne_kind e I5.hB (no _))).trans (k6 _ _ (ne_kind e I5.net.hb (no _)) e)) (N6.putd eB6 dnB dbB) ((upd_ne dNB).trans eN6) upd_same I.gn I.nd I.rng (I.gc.put hy (.inl rfl)) I.kb.put I.vf.put (fun _ h => h) I.lks (len_putK_le _ _ _) lne
      refine ⟨_, rfl, rfl, _, rfl, ite2 (fun _ => ?_) (fun _ => ?_)⟩
      · refine ⟨_, rfl, A.h, dx5, _, rfl, hh5, (by unfold nf; walk_at "lk"), _, rfl, A.h, A.dn, A.db, A.dl, n, y, x, bef S.bs y, S.nx, S.bf, S.ls, rfl, I5.net, hx, I.vf _ hy, by omega, fun H6 l2 s6 nl6 e6 => ?_⟩
        have I6 := I5.same s6
        have f7 : ∀ a o, a ≠ A.dl → H6 a = some o → upd H6 A.dl (.lst (S.ls ++ [.ref l2])) a = some o := fun a o na e => (upd_ne na).trans e
        have N7 := I6.net.setl (ls' := S.ls ++ [.ref l2])
        generalize upd H6 A.dl (.lst (S.ls ++ [.ref l2])) = H7 at f7 N7
        have P7 := f7 _ _ I6.ndl.2.2.2.2 I6.hP
        have hN7 := f7 _ _ (ne_kind I6.hN I6.net.hl (fun z => nomatch z)) I6.hN
        have l7 := f7 _ _ (ne_kind e6 I6.net.hl (fun z => nomatch z)) e6
        refine ⟨_, rfl, .inl ⟨rfl, _, SqL.of P7⟩, _, rfl, _, rfl, A.dN, _, rfl, dget_of (k := Sum.inl y) hN7 hx, _, rfl, lenL (by show 3 ≤ 100000; decide), fun pt npt => ?_⟩
        have npt : H7 pt = none := npt
        have s8 := same_upd (o := .tup [.str "tell", .int x, .int y]) npt
        have pt8 : upd H7 pt (.tup [.str "tell", .int x, .int y]) pt = some (.tup [.str "tell", .int x, .int y]) := upd_same
        generalize upd H7 pt (.tup [.str "tell", .int x, .int y]) = H8 at s8 pt8
        have P8 := s8 _ _ P7
        refine ⟨A.pO, _, _, rfl, rfl, P8, small1000' (by omega), ?_⟩
        have f9 : ∀ a o, a ≠ A.pO → a ≠ A.dl → H6 a = some o → upd H8 A.pO (.lst (S.ps ++ [.ref pt])) a = some o := fun a o n1 n2 e => (upd_ne n1).trans (s8 _ _ (f7 _ _ n2 e))
        have hns : ∀ k ∈ (Let.tell x y).ns, k ∈ S.ks := fun k hk => by
          have hk : k ∈ [x, y] := hk
          simp only [List.mem_cons, List.not_mem_nil, or_false] at hk
          rcases hk with rfl | rfl
          · exact mx
          · exact hy
        exact fl _ _ (S.Ls ++ [.tell x y]) H6 _ I6 f9 ((N7.same s8).putl P8 I6.ndl.2.2.2.2.symm) upd_same (fun k => k.app ((upd_ne (ne_kind pt8 P8 (fun z => nomatch z))).trans pt8) hns) (fun k => k.app ((upd_ne (ne_kind (s8 _ _ l7) P8 (fun z => nomatch z))).trans (s8 _ _ l7)) hns) (by rw [List.length_append]; exact Nat.le_refl _)
      try (walk_at "nf")
      refine v_if1 (ans_o (fun _ q => ⟨_, rfl, rfl, _, rfl, q⟩) fun _ => (fun _ q => ⟨_, rfl, A.pO, _, rfl, .inl (SqL.of I5.hP), rfl, _, rfl, q⟩)) (fun _ => ?_) (fun e => ?_)
      · refine ⟨_, rfl, A.h, dx5, _, rfl, hh5, (by unfold nf; walk_at "lk"), _, rfl, A.h, A.dn, A.db, A.dl, n, y, x, bef S.bs y, S.nx, S.bf, S.ls, rfl, I5.net, hx, I.vf _ hy, by omega, fun H6 l2 s6 nl6 e6 => ?_⟩
        have I6 := I5.same s6
        have f7 : ∀ a o, a ≠ A.dl → H6 a = some o → upd H6 A.dl (.lst (S.ls ++ [.ref l2])) a = some o := fun a o na e => (upd_ne na).trans e
        have N7 := I6.net.setl (ls' := S.ls ++ [.ref l2])
        generalize upd H6 A.dl (.lst (S.ls ++ [.ref l2])) = H7 at f7 N7
        have P7 := f7 _ _ I6.ndl.2.2.2.2 I6.hP
        have hN7 := f7 _ _ (ne_kind I6.hN I6.net.hl (fun z => nomatch z)) I6.hN
        have l7 := f7 _ _ (ne_kind e6 I6.net.hl (fun z => nomatch z)) e6
        refine ⟨_, rfl, .inl ⟨rfl, _, SqL.of P7⟩, _, rfl, _, rfl, A.dN, _, rfl, dget_of (k := Sum.inl y) hN7 hx, _, rfl, lenL (by show 3 ≤ 100000; decide), fun pt npt => ?_⟩
        have npt : H7 pt = none := npt
        have s8 := same_upd (o := .tup [.str "ask", .int x, .int y]) npt
        have pt8 : upd H7 pt (.tup [.str "ask", .int x, .int y]) pt = some (.tup [.str "ask", .int x, .int y]) := upd_same
        generalize upd H7 pt (.tup [.str "ask", .int x, .int y]) = H8 at s8 pt8
        have P8 := s8 _ _ P7
        refine ⟨A.pO, _, _, rfl, rfl, P8, small1000' (by omega), ?_⟩
        have f9 : ∀ a o, a ≠ A.pO → a ≠ A.dl → H6 a = some o → upd H8 A.pO (.lst (S.ps ++ [.ref pt])) a = some o := fun a o n1 n2 e => (upd_ne n1).trans (s8 _ _ (f7 _ _ n2 e))
        have hns : ∀ k ∈ (Let.ask x y).ns, k ∈ S.ks := fun k hk => by
          have hk : k ∈ [x, y] := hk
          simp only [List.mem_cons, List.not_mem_nil, or_false] at hk
          rcases hk with rfl | rfl
          · exact mx
          · exact hy
        exact fl _ _ (S.Ls ++ [.ask x y]) H6 _ I6 f9 ((N7.same s8).putl P8 I6.ndl.2.2.2.2.symm) upd_same (fun k => k.app ((upd_ne (ne_kind pt8 P8 (fun z => nomatch z))).trans pt8) hns) (fun k => k.app ((upd_ne (ne_kind (s8 _ _ l7) P8 (fun z => nomatch z))).trans (s8 _ _ l7)) hns) (by rw [List.length_append]; exact Nat.le_refl _)
      have lp : 0 < S.ps.length := by
        rw [dec_int, dec_int] at e
        simp only [Bool.or_eq_false_iff, decide_eq_false_iff_not] at e
        omega
      refine ⟨_, rfl, rfl, _, rfl, ite2 (fun _ => ?_) (fun _ => ?_)⟩
      · refine ⟨_, rfl, _, rfl, A.pO, _, rfl, .inl (SqL.of I5.hP), t, c, _, rfl, T5, by omega, by omega, fun z H4 z0 z1 k4 T4 => ?_⟩
        have I4 := I5.kp k4 T4
        obtain ⟨k, rfl⟩ : ∃ k : Nat, z = k := ⟨z.toNat, by omega⟩
        have hk : k < S.ps.length := by omega
        obtain ⟨p, qa, L, ha, hb, hLk, ep, eq, hL⟩ := I4.lets hk
        obtain ⟨dx4, hh4⟩ := I4.net.me
        refine ⟨_, rfl, A.h, dx4, _, rfl, hh4, (by unfold nf; walk_at "lk"), _, rfl, A.h, A.dn, A.db, A.dl, n, k, .ref qa, S.nx, S.bf, S.ls, rfl, I4.net, hb, by omega, ?_⟩
        have f5 : ∀ a o, a ≠ A.dl → H4 a = some o → upd H4 A.dl (.lst (S.ls.eraseIdx k)) a = some o := fun a o na e => (upd_ne na).trans e
        have N5 := I4.net.setl (ls' := S.ls.eraseIdx k)
        generalize upd H4 A.dl (.lst (S.ls.eraseIdx k)) = H5 at f5 N5
        have P5 := f5 _ _ I4.ndl.2.2.2.2 I4.hP
        refine ⟨_, rfl, .inl ⟨rfl, _, SqL.of P5⟩, _, rfl, A.pO, S.ps, k, k, .ref p, rfl, rfl, P5, by omega, by omega, seq_nat hk, ha, ?_⟩
        exact fl (S.ps.eraseIdx k) (S.ls.eraseIdx k) (S.Ls.eraseIdx k) H4 _ I4 (fun a o n1 n2 e => (upd_ne n1).trans (f5 _ _ n2 e)) (N5.putl P5 I4.ndl.2.2.2.2.symm) upd_same (fun h => h.erase k) (fun h => h.erase k) (Nat.le_trans (List.length_eraseIdx_le _ _) (Nat.le_succ _))
      · refine ⟨_, rfl, _, rfl, A.pO, _, rfl, .inl (SqL.of I5.hP), t, c, _, rfl, T5, by omega, by omega, fun z H4 z0 z1 k4 T4 => ?_⟩
        have I4 := I5.kp k4 T4
        obtain ⟨k, rfl⟩ : ∃ k : Nat, z = k := ⟨z.toNat, by omega⟩
        have hk : k < S.ps.length := by omega
        obtain ⟨p, qa, L, ha, hb, hLk, ep, eq, hL⟩ := I4.lets hk
        obtain ⟨dx4, hh4⟩ := I4.net.me
        refine ⟨_, rfl, A.h, dx4, _, rfl, hh4, (by unfold nf; walk_at "lk"), _, rfl, A.h, A.dn, A.db, A.dl, n, k, .ref qa, S.nx, S.bf, S.ls, rfl, I4.net, hb, by omega, ?_⟩
        have f5 : ∀ a o, a ≠ A.dl → H4 a = some o → upd H4 A.dl (.lst (S.ls ++ [.ref qa])) a = some o := fun a o na e => (upd_ne na).trans e
        have N5 := I4.net.setl (ls' := S.ls ++ [.ref qa])
        generalize upd H4 A.dl (.lst (S.ls ++ [.ref qa])) = H5 at f5 N5
        have P5 := f5 _ _ I4.ndl.2.2.2.2 I4.hP
        refine ⟨_, rfl, .inl ⟨rfl, _, SqL.of P5⟩, _, rfl, _, rfl, A.pO, _, k, .ref p, rfl, rfl, SqL.of P5, atI_nat ha, A.pO, _, _, rfl, rfl, P5, small1000' (by omega), ?_⟩
        have kt : ∀ a xs, H4 a = some (.tup xs) → upd H5 A.pO (.lst (S.ps ++ [.ref p])) a = some (.tup xs) := fun a xs e => (upd_ne (ne_kind e I4.hP (fun z => nomatch z))).trans (f5 _ _ (ne_kind e I4.net.hl (fun z => nomatch z)) e)
        exact fl (S.ps ++ [.ref p]) (S.ls ++ [.ref qa]) (S.Ls ++ [L]) H4 _ I4 (fun a o n1 n2 e => (upd_ne n1).trans (f5 _ _ n2 e)) (N5.putl P5 I4.ndl.2.2.2.2.symm) upd_same (fun h => h.app (kt _ _ ep) hL) (fun h => h.app (kt _ _ eq) hL) (by rw [List.length_append]; exact Nat.le_refl _)
--CUT
theorem Shot.same {n : Int} {f g : Int → V} {ys : List Int} {H H' : Hp} {p : Addr} {ls : List V} (h : Shot n f g ys H p ls) (s : Same H H') : Shot n f g ys H' p ls := let ⟨r, l, rs, e1, e2, e3, e4⟩ := h; ⟨r, l, rs, s _ _ e1, s _ _ e2, s _ _ e3, e4.same s⟩
theorem Shot.sm {K : PySem.W.Frag} {n : Int} {f g : Int → V} {ys : List Int} {H : Hp} {p q : Addr} {ls ps : List V} {Ls : List Let} (s : Shot n f g ys H p ls) (t : Shot n f g ys H q ps) (hl : LAt Let.vals H ls Ls) (hp : LAt Let.vals H ps Ls) (ha : ∀ y ∈ ys, atomV (f y) = true ∧ atomV (g y) = true) (l1 : ls.length ≤ 100000) (l2 : ys.length ≤ 100000) : Sm K 4 H (.ref p) (.ref q) := by
  obtain ⟨r, l, rs, e1, e2, e3, e4⟩ := s
  obtain ⟨r', l', rs', d1, d2, d3, d4⟩ := t
  refine .tup (SqT.of e1) (SqT.of d1) rfl (by show 3 ≤ 100000; decide) (fun i x y hx hy => ?_)
  match i with
  | 0 => cases hx; cases hy; exact .atom rfl
  | 1 =>
    cases hx; cases hy
    refine .tup (SqT.of e3) (SqT.of d3) (by rw [e4.1, d4.1]) (by rw [d4.1]; exact l2) (e4.sm d4 fun y hy => ⟨by show 3 ≤ 100000; decide, ?_⟩)
    intro v hv
    have hv : v ∈ [V.int y, f y, g y] := hv
    simp only [List.mem_cons, List.not_mem_nil, or_false] at hv
    rcases hv with rfl | rfl | rfl
    · rfl
    · exact (ha y hy).1
    · exact (ha y hy).2
  | 2 =>
    cases hx; cases hy
    exact .tup (SqT.of e2) (SqT.of d2) (by rw [hl.1, hp.1]) (by rw [hp.1, ← hl.1]; exact l1) (hl.sm hp fun L _ => vals_atom L)
  | i + 3 => cases hx
theorem GB.gc {ks : List Int} {bs : List (Key × V)} (g : GB ks bs) : GC ks bs := fun p v e => ⟨(g p v e).1, .inr (g p v e).2⟩
def sp_law (K : PySem.W.Frag) : Sp := fun vs H Q _ => ∃ (a : Addr) (ns : List Int), vs = [.ref a] ∧ SqL K H a (ns.map V.int) ∧ ns.length ≤ 63 ∧ ∀ H', Q (.bl true) H'
theorem T0.ok_law (T : T0 K mg) : FnOk P w K mg base CX0 8 T.a_law T.fd_law ["script"] (sp_law K) := by
  refine T.F_law.ok sc_law (fun vs H Q E h => ?_) (fun cdv A' outer s H vs Q E hr h => ?_)
  · obtain ⟨a, ns, rfl, _⟩ := h
    rfl
  · obtain ⟨a, ns, rfl, hS, hlen, q⟩ := h
    refine ⟨_, (pss_cons (ps_set (i := 1) sc_law.nd rfl (Or.inl rfl) (pe_call T.ok__law_tape (hr.mono (by decide)) (by rfl) T.g__law_tape T.k__law_tape T.b__law_tape .nil pass0 (pa_cons (pv 0) pa_nil)))
        (pss_cons (ps_set (i := 2) sc_law.nd rfl (Or.inl rfl) (pe_call T.ok__law_pick (hr.mono (by decide)) (by rfl) T.g__law_pick T.k__law_pick T.b__law_pick .nil pass0 (pa_cons (pv 1) (pa_cons pe_int pa_nil))))
        (C8.pss_cut (ps_if (pt_cmpR op_eq (pe_call T.ok__law_pick (hr.mono (by decide)) (by rfl) T.g__law_pick T.k__law_pick T.b__law_pick .nil pass0 (pa_cons (pv 1) (pa_cons pe_int pa_nil))) pe_int (nomark _)) (pss_one (ps_set (i := 2) sc_law.nd rfl (Or.inl rfl) (pe_call T.ok__law_pick (hr.mono (by decide)) (by rfl) T.g__law_pick T.k__law_pick T.b__law_pick .nil pass0 (pa_cons (pv 1) (pa_cons pe_int pa_nil))))) pss_nil)
        (pss_cons (ps_set (i := 3) sc_law.nd rfl (Or.inl rfl) (pe_call T.ok__law_size (hr.mono (by decide)) (by rfl) T.g__law_size T.k__law_size T.b__law_size .nil pass0 (pa_cons (pv 1) (pa_cons (pv 2) pa_nil))))
        (pss_cons (ps_set (i := 4) sc_law.nd rfl (Or.inl rfl) (pe_call T.ok__law_places (hr.mono (by decide)) (by rfl) T.g__law_places T.k__law_places T.b__law_places .nil pass0 (pa_cons (pv 1) (pa_cons (pv 3) (pa_cons (pv 2) pa_nil)))))
        (pss_cons (ps_set (i := 5) sc_law.nd rfl (Or.inl rfl) (pe_call T.ok__law_parts (hr.mono (by decide)) (by rfl) T.g__law_parts T.k__law_parts T.b__law_parts .nil pass0 (pa_cons (pv 1) (pa_cons (pv 4) pa_nil))))
        (pss_cons (ps_set (i := 6) sc_law.nd rfl (Or.inl rfl) (pe_call T.ok__law_behinds (hr.mono (by decide)) (by rfl) T.g__law_behinds T.k__law_behinds T.b__law_behinds .nil pass0 (pa_cons (pv 1) (pa_cons (pv 5) pa_nil))))
        (pss_cons (ps_set (i := 7) sc_law.nd rfl (Or.inl rfl) (pe_call T.ok__law_post (hr.mono (by decide)) (by rfl) T.g__law_post T.k__law_post T.b__law_post .nil pass0 (pa_cons (pv 1) (pa_cons (pv 5) pa_nil))))
        (pss_cons (ps_set (i := 8) sc_law.nd rfl (Or.inl rfl) (pe_makeK T.mk_Net T.ok_Net__init (hr.mono (by decide)) (by rfl) T.mc_Net T.kb_Net__init pass0 (pa_cons (pv 3) (pa_cons (pe_callTy call_dictD (by rfl) T.m_dict (by decide +kernel) (pa_cons (pv 5) pa_nil)) pa_nil)) (pk_cons (pe_callTy call_dictD (by rfl) T.m_dict (by decide +kernel) (pa_cons (pv 6) pa_nil)) (pk_cons (pe_callTy (call_list_ofK (K := K)) (by rfl) T.m_list (by decide +kernel) (pa_cons (pv 7) pa_nil)) pk_nil))))
        (pss_cons (ps_if (pt_not (pt_val (pe_call T.ok__law_listed (hr.mono (by decide)) (by rfl) T.g__law_listed T.k__law_listed T.b__law_listed .nil pass0 (pa_cons (pv 8) (pa_cons (pv 3) (pa_cons (pv 5) (pa_cons (pv 6) (pa_cons (pv 7) pa_nil)))))))) (pss_one (ps_ret pe_bl)) pss_nil)
        (pss_cons (ps_set (i := 9) sc_law.nd rfl (Or.inl rfl) pe_int)
        (C8.pss_cut (ps_if (pt_cmpR op_eq (pv 2) pe_int (nomark _)) (pss_one (ps_set (i := 9) sc_law.nd rfl (Or.inl rfl) pe_int)) (pss_one (ps_if (pt_cmpR op_gt (pv 2) pe_int (nomark _)) (pss_one (ps_set (i := 9) sc_law.nd rfl (Or.inl rfl) pe_int)) pss_nil)))
        (pss_cons (ps_for PassesOwn.never rfl (pi_range1 (by rfl) T.m_range (pa_cons (pv 9) pa_nil)) (pg_name (i := 10) sc_law.nd rfl (Or.inl rfl)) (pss_cons (ps_if (pt_not (pt_val (pe_call T.ok__law_change (hr.mono (by decide)) (by rfl) T.g__law_change T.k__law_change T.b__law_change .nil pass0 (pa_cons (pv 1) (pa_cons (pv 8) (pa_cons (pv 3) (pa_cons (pv 5) (pa_cons (pv 6) (pa_cons (pv 7) pa_nil))))))))) (pss_one (ps_ret pe_bl)) pss_nil)
        (pss_one (ps_if (pt_not (pt_val (pe_call T.ok__law_listed (hr.mono (by decide)) (by rfl) T.g__law_listed T.k__law_listed T.b__law_listed .nil pass0 (pa_cons (pv 8) (pa_cons (pv 3) (pa_cons (pv 5) (pa_cons (pv 6) (pa_cons (pv 7) pa_nil)))))))) (pss_one (ps_ret pe_bl)) pss_nil))))
        (pss_one (ps_ret (pe_call (T.ok__law_same 4) (hr.mono (by decide)) (by rfl) T.g__law_same T.k__law_same T.b__law_same .nil pass0 (pa_cons (pe_meth0 (pv 8) T.cl_Net T.me_Net__snapshot T.ok_Net__snapshot (hr.mono (by decide)) T.b_Net__snapshot .nil pass0) (pa_cons (pe_call T.ok__law_snapshot (hr.mono (by decide)) (by rfl) T.g__law_snapshot T.k__law_snapshot T.b__law_snapshot .nil pass0 (pa_cons (pv 3) (pa_cons (pv 5) (pa_cons (pv 6) (pa_cons (pv 7) pa_nil))))) pa_nil)))))))))))))))))), ?_⟩
    refine ⟨_, rfl, a, ns, rfl, hS, by omega, fun H1 t c sm nt T1 => ?_⟩
    refine ⟨_, rfl, t, c, 8, rfl, T1, by decide, by decide, fun co H2 co0 co1 k2 T2 => ?_⟩
    refine ⟨fun σ' H' => ∃ co : Int, σ' = [some (.ref a), some (.ref t), some (.int co), none, none, none, none, none, none, none, none] ∧ 0 ≤ co ∧ co ≤ 40 ∧ Tape H' t c, ?_, ?_⟩
    · refine ⟨_, rfl, t, c, 16, rfl, T2, by decide, by decide, fun x H3 x0 x1 k3 T3 => ⟨rfl, _, rfl, ite2 (fun _ => ?_) (fun _ => ?_)⟩⟩
      · exact ⟨_, rfl, t, c, 41, rfl, T3, by decide, by decide, fun co H5 c0 c1 k5 T5 => ⟨co, rfl, by omega, by omega, T5⟩⟩
      · exact ⟨co, rfl, by omega, by omega, T3⟩
    rintro _ H4 ⟨co, rfl, c0, c1, T4⟩
    refine ⟨_, rfl, _, rfl, t, c, co, rfl, T4, by omega, fun n H5 n0 n1 n2 k5 T5 => ?_⟩
    refine ⟨_, rfl, _, rfl, _, rfl, t, c, n, co, rfl, T5, by omega, by omega, by omega, n2, fun pl ms H6 npl hpl lms mnd mrg k6 T6 => ?_⟩
    have opl := T5.off npl
    refine ⟨_, rfl, _, rfl, t, c, pl, ms, rfl, T6, opl.1, hpl, mnd, by omega, fun dN nx H7 ndN hN gn k7 T7 => ?_⟩
    have odN := T6.off ndN
    refine ⟨_, rfl, _, rfl, t, c, dN, ms, nx, rfl, T7, odN.1, hN, gn, mnd, by omega, fun dB bs H8 ndB hB gb kb k8 T8 => ?_⟩
    have odB := T7.off ndB
    have hN8 := k8 _ _ odN.1 hN
    have dNB : dN ≠ dB := ne_of_none hN ndB
    refine ⟨_, rfl, _, rfl, t, c, dN, ms, nx, rfl, T8, odN.1, hN8, gn, mnd, by omega, fun pO ps Ls H12 npO hP lt lps k9 T12 => ?_⟩
    have opO := T8.off npO
    have hN12 := k9 _ _ odN.1 hN8
    have hB12 := k9 _ _ odB.1 hB
    obtain ⟨js, ejs, ndj⟩ := id kb
    have mj : ∀ j ∈ js, j ∈ ms ∧ ∃ x ∈ ms, valV bs (.inl j) = some (.int x) := fun j hj => by
      obtain ⟨v, hv⟩ := Option.isSome_iff_exists.mp (valV_mem_keys ejs hj)
      obtain ⟨h1, x, mx, rfl⟩ := gb j v hv
      exact ⟨h1, x, mx, hv⟩
    have ljs : js.length ≤ ms.length := nodup_sub_len ndj fun j hj => (mj j hj).1
    have mem_some : ∀ k ∈ ms, (valV nx (.inl k)).isSome = true := fun k hk => by obtain ⟨x, _, e⟩ := gn.2 k hk; rw [e]; rfl
    -- net
    refine ⟨_, rfl, _, rfl, dN, nx, rfl, .inl hN12, fun d1 n1' => ?_⟩
    have s13 := same_upd (o := .dK nx) n1'
    have e1 : upd H12 d1 (.dK nx) d1 = some (.dK nx) := upd_same
    generalize upd H12 d1 (.dK nx) = H13 at s13 e1
    refine ⟨_, rfl, dB, bs, rfl, .inl (s13 _ _ hB12), fun d2 n2' => ?_⟩
    have s14 := same_upd (o := .dK bs) n2'
    have e2 : upd H13 d2 (.dK bs) d2 = some (.dK bs) := upd_same
    generalize upd H13 d2 (.dK bs) = H14 at s14 e2
    have s1214 := Same.trans s13 s14
    refine ⟨_, rfl, pO, ps, rfl, .inl (SqL.of (s1214 _ _ hP)), fun d3 n3 => ?_⟩
    have s15 := same_upd (o := .lst ps) n3
    have e3 : upd H14 d3 (.lst ps) d3 = some (.lst ps) := upd_same
    generalize upd H14 d3 (.lst ps) = H15 at s15 e3
    have s1215 := Same.trans s1214 s15
    refine ⟨rfl, rfl, fun h dx nh ndx ne => ?_⟩
    have s16 : Same H15 (upd (upd H15 dx (.own h)) h (.ins T.C_Net dx [])) := fun b o e => (upd_ne (ne_of_none e nh)).trans ((upd_ne (ne_of_none e ndx)).trans e)
    have hh16 : upd (upd H15 dx (.own h)) h (.ins T.C_Net dx []) h = some (.ins T.C_Net dx []) := upd_same
    generalize upd (upd H15 dx (.own h)) h (.ins T.C_Net dx []) = H16 at s16 hh16
    have s1216 := Same.trans s1215 s16
    refine ⟨h, dx, d1, d2, d3, n, nx, bs, ps, ms, js, rfl, hh16, s16 _ _ (s15 _ _ (s14 _ _ e1)), s16 _ _ (s15 _ _ e2), s16 _ _ e3, gn.1, by omega, mnd, ejs, by omega, by omega, fun k hk => ?_, fun j hj => ?_, fun v hv => ?_, fun H17 dn db dl bf N17 f17 m1 m2 m3 ndb vF lbf => ⟨rfl, ?_⟩⟩
    · obtain ⟨x, mx, e⟩ := gn.2 k hk
      exact ⟨(mrg k hk).1, (mrg k hk).2, x, e, mem_some x mx⟩
    · obtain ⟨mj, x, mx, e⟩ := mj j hj
      exact ⟨mem_some j mj, x, e, mem_some x mx⟩
    · obtain ⟨i, hi⟩ := List.mem_iff_getElem?.mp hv
      obtain ⟨p, L, hLi, rfl, ep⟩ := lt.1.at hi
      exact ⟨p, L.wd, L.ns, rfl, by rw [← L.vals_eq]; exact s1216 _ _ ep, fun k hk => mem_some k (lt.2 L (List.mem_of_getElem? hLi) k hk)⟩
    have k1217 : ∀ {b : Addr} {o : HO}, H12 b = some o → (∀ c d f, o ≠ .ins c d f) → H17 b = some o := fun e no => f17 _ _ (ne_kind (s1216 _ _ e) hh16 (no _ _ _)) (s1216 _ _ e)
    have fresh : ∀ {b d : Addr} {o : HO}, H12 b = some o → H16 d = none → b ≠ d := fun e hd z => by rw [← z, s1216 _ _ e] at hd; cases hd
    obtain ⟨cs, ta, tb, tk, tr, et1, et2, et3, et4⟩ := T12
    have T17 : Tape H17 t c := ⟨cs, ta, tb, tk, tr, k1217 et1 (fun _ _ _ z => nomatch z), k1217 et2 (fun _ _ _ z => nomatch z), et3, et4⟩
    have lt17 : Ltr ms H17 ps Ls := lt.mono (fun b xs e => k1217 e (fun _ _ _ z => nomatch z)) (fun _ h => h)
    have I17 : NK T.C_Net t c ⟨h, dn, db, dl, dN, dB, pO⟩ n 0 ⟨ms, nx, bs, bf, ps, ps, Ls⟩ H17 := {
      tape := T17, net := N17, hN := k1217 hN12 (fun _ _ _ z => nomatch z), hB := k1217 hB12 (fun _ _ _ z => nomatch z), hP := k1217 hP (fun _ _ _ z => nomatch z), gn := gn, nd := mnd, rng := mrg, n0 := by omega, n9 := n2, gc := gb.gc, kb := kb, vf := vF, lp := lt17, ll := lt17
      ndl := ⟨opO.1, opO.2, fun z => fresh et1 m3 z.symm, fun z => fresh et2 m3 z.symm, fresh hP m3⟩
      ndd := ⟨ndb.symm, fun z => fresh hN12 m1 z.symm, fun z => fresh hB12 m1 z.symm, fun z => fresh hN12 m2 z.symm, fun z => fresh hB12 m2 z.symm, dNB⟩
      lks := by show ms.length ≤ 40; omega
      lps := by show ps.length ≤ 60 + 0; omega
      lbf := by show bf.length ≤ 100 + 0; omega }
    refine ⟨_, rfl, _, rfl, _, rfl, _, rfl, _, rfl, t, c, ⟨h, dn, db, dl, dN, dB, pO⟩, n, 0, _, rfl, I17, by omega, fun H18 s18 => ⟨true, rfl, iteF ?_⟩⟩
    have I18 := I17.same s18
    refine ⟨fun σ' H' => ∃ ch : Int, σ' = [some (.ref a), some (.ref t), some (.int co), some (.int n), some (.ref pl), some (.ref dN), some (.ref dB), some (.ref pO), some (.ref h), some (.int ch), none] ∧ 0 ≤ ch ∧ ch ≤ 6 ∧ (0 < ch → 0 < ms.length) ∧ H' = H18, ?_, ?_⟩
    · refine ⟨_, rfl, rfl, _, rfl, ite2 (fun e => ?_) (fun e => ?_)⟩
      · exact ⟨0, rfl, by omega, by omega, fun z => by omega, rfl⟩
      · have e : ¬ co = 0 := fun z => e (decide_eq_true (congrArg V.int z))
        refine ⟨_, rfl, _, _, rfl, rfl, _, rfl, ite2 (fun _ => ?_) (fun _ => ?_)⟩
        · exact ⟨2, rfl, by omega, by omega, fun z => by omega, rfl⟩
        · exact ⟨6, rfl, by omega, by omega, fun z => by omega, rfl⟩
    rintro _ H' ⟨ch, rfl, h0, h6, hp, e⟩
    subst e
    refine ⟨_, rfl, ch, rfl, by omega, by omega, ?_⟩
    refine for_range (lo := 0) (n := ch.toNat) (fun i σ' H' => ∃ (o10 : Option V) (S : WK), σ' = [some (.ref a), some (.ref t), some (.int co), some (.int n), some (.ref pl), some (.ref dN), some (.ref dB), some (.ref pO), some (.ref h), some (.int ch), o10] ∧ NK T.C_Net t c ⟨h, dn, db, dl, dN, dB, pO⟩ n i S H' ∧ (0 < ch → 0 < S.ks.length))
      ⟨none, _, rfl, I18, hp⟩ (fun i σ' H6 hi pv => ?_) (fun σ' H6 pv => ?_)
    · obtain ⟨o10, S, rfl, I6, l6⟩ := pv
      refine ⟨_, rfl, _, rfl, _, rfl, _, rfl, _, rfl, _, rfl, t, c, ⟨h, dn, db, dl, dN, dB, pO⟩, n, i, S, rfl, I6, by omega, l6 (by omega), fun S' H7 I7 l7 => ⟨true, rfl, iteF ?_⟩⟩
      refine ⟨_, rfl, _, rfl, _, rfl, _, rfl, _, rfl, t, c, ⟨h, dn, db, dl, dN, dB, pO⟩, n, i + 1, S', rfl, I7, by omega, fun H8 s8 => ⟨true, rfl, iteF ?_⟩⟩
      exact ⟨_, S', rfl, I7.same s8, fun _ => l7⟩
    · obtain ⟨o10, S, rfl, I6, l6⟩ := pv
      have l40 := I6.lks
      have l60 := I6.lps
      obtain ⟨dx6, hh6⟩ := I6.net.me
      refine ⟨_, rfl, h, dx6, _, rfl, hh6, (by unfold nf; walk_at "lk"), h, dn, db, dl, n, S.nx, S.bf, S.ls, S.ks, gV S.nx, bef S.bs, rfl, I6.net, I6.gn.1, by omega, fun k hk => ?_, fun ys p H7 perm pw s7 sh => ?_⟩
      · obtain ⟨x, _, e⟩ := I6.gn.2 k hk
        exact ⟨by rw [gV_of e, e], I6.vf k hk⟩
      have I7 := I6.same s7
      refine ⟨_, rfl, _, rfl, _, rfl, _, rfl, dN, dB, pO, n, S.nx, S.bs, S.ps, S.ks, rfl, I7.hN, I7.hB, I7.hP, by omega, I7.gn, fun zs p2 H8 permz pwz s8 sh2 => ?_⟩
      have e : zs = ys := perm_sorted_eq (permz.trans perm.symm) pwz pw
      subst e
      have I8 := I7.same s8
      have zlen := permz.length_eq
      refine ⟨.ref p, .ref p2, rfl, (sh.same s8).sm sh2 I8.ll.1 I8.lp.1 (fun y hy => ?_) (by rw [I8.ll.1.1, ← I8.lp.1.1]; omega) (by omega), fun H9 s9 => q H9⟩
      obtain ⟨x, _, e⟩ := I6.gn.2 y (permz.mem_iff.mp hy)
      refine ⟨by rw [gV_of e]; rfl, okB.atom (I6.gc.ok y)⟩
end
theorem all_mk {l : PySem.W.OpenLaw} {w : World} {K : PySem.W.Frag} {h : Heap} {mg : Str → Option Value} {fa : Addr} (X : K.In h) (G : h.Ns mainGlobals mg) (hfa : mg "law" = some (.ref fa))
    {f0 : Addr} {od0 an0 : Option Addr} {sl0 : Array (Option Value)} {oc0 kV0 dc0 pm0 cd0 ct0 : Value}
    {f1 : Addr} {od1 an1 : Option Addr} {sl1 : Array (Option Value)} {oc1 kV1 dc1 pm1 cd1 ct1 : Value}
    {f2 : Addr} {od2 an2 : Option Addr} {sl2 : Array (Option Value)} {oc2 kV2 dc2 pm2 cd2 ct2 : Value}
    {f3 : Addr} {od3 an3 : Option Addr} {sl3 : Array (Option Value)} {oc3 kV3 dc3 pm3 cd3 ct3 : Value}
    {f4 : Addr} {od4 an4 : Option Addr} {sl4 : Array (Option Value)} {oc4 kV4 dc4 pm4 cd4 ct4 : Value}
    {f5 : Addr} {od5 an5 : Option Addr} {sl5 : Array (Option Value)} {oc5 kV5 dc5 pm5 cd5 ct5 : Value}
    {f6 : Addr} {od6 an6 : Option Addr} {sl6 : Array (Option Value)} {oc6 kV6 dc6 pm6 cd6 ct6 : Value}
    {f7 : Addr} {od7 an7 : Option Addr} {sl7 : Array (Option Value)} {oc7 kV7 dc7 pm7 cd7 ct7 : Value}
    {f8 : Addr} {od8 an8 : Option Addr} {sl8 : Array (Option Value)} {oc8 kV8 dc8 pm8 cd8 ct8 : Value}
    {f9 : Addr} {od9 an9 : Option Addr} {sl9 : Array (Option Value)} {oc9 kV9 dc9 pm9 cd9 ct9 : Value}
    {f10 : Addr} {od10 an10 : Option Addr} {sl10 : Array (Option Value)} {oc10 kV10 dc10 pm10 cd10 ct10 : Value}
    {f11 : Addr} {od11 an11 : Option Addr} {sl11 : Array (Option Value)} {oc11 kV11 dc11 pm11 cd11 ct11 : Value}
    {f12 : Addr} {od12 an12 : Option Addr} {sl12 : Array (Option Value)} {oc12 kV12 dc12 pm12 cd12 ct12 : Value}
    {f13 : Addr} {od13 an13 : Option Addr} {sl13 : Array (Option Value)} {oc13 kV13 dc13 pm13 cd13 ct13 : Value}
    {f14 : Addr} {od14 an14 : Option Addr} {sl14 : Array (Option Value)} {oc14 kV14 dc14 pm14 cd14 ct14 : Value}
    {f15 : Addr} {od15 an15 : Option Addr} {sl15 : Array (Option Value)} {oc15 kV15 dc15 pm15 cd15 ct15 : Value}
    {f16 : Addr} {od16 an16 : Option Addr} {sl16 : Array (Option Value)} {oc16 kV16 dc16 pm16 cd16 ct16 : Value}
    {f17 : Addr} {od17 an17 : Option Addr} {sl17 : Array (Option Value)} {oc17 kV17 dc17 pm17 cd17 ct17 : Value}
    {f18 : Addr} {od18 an18 : Option Addr} {sl18 : Array (Option Value)} {oc18 kV18 dc18 pm18 cd18 ct18 : Value}
    {f19 : Addr} {od19 an19 : Option Addr} {sl19 : Array (Option Value)} {oc19 kV19 dc19 pm19 cd19 ct19 : Value}
    {f20 : Addr} {od20 an20 : Option Addr} {sl20 : Array (Option Value)} {oc20 kV20 dc20 pm20 cd20 ct20 : Value}
    {f21 : Addr} {od21 an21 : Option Addr} {sl21 : Array (Option Value)} {oc21 kV21 dc21 pm21 cd21 ct21 : Value}
    {f22 : Addr} {od22 an22 : Option Addr} {sl22 : Array (Option Value)} {oc22 kV22 dc22 pm22 cd22 ct22 : Value}
    {f23 : Addr} {od23 an23 : Option Addr} {sl23 : Array (Option Value)} {oc23 kV23 dc23 pm23 cd23 ct23 : Value}
    {f24 : Addr} {od24 an24 : Option Addr} {sl24 : Array (Option Value)} {oc24 kV24 dc24 pm24 cd24 ct24 : Value}
    {f25 : Addr} {od25 an25 : Option Addr} {sl25 : Array (Option Value)} {oc25 kV25 dc25 pm25 cd25 ct25 : Value}
    {f26 : Addr} {od26 an26 : Option Addr} {sl26 : Array (Option Value)} {oc26 kV26 dc26 pm26 cd26 ct26 : Value}
    {f27 : Addr} {od27 an27 : Option Addr} {sl27 : Array (Option Value)} {oc27 kV27 dc27 pm27 cd27 ct27 : Value}
    {f28 : Addr} {od28 an28 : Option Addr} {sl28 : Array (Option Value)} {oc28 kV28 dc28 pm28 cd28 ct28 : Value}
    {f29 : Addr} {od29 an29 : Option Addr} {sl29 : Array (Option Value)} {oc29 kV29 dc29 pm29 cd29 ct29 : Value}
    {f30 : Addr} {od30 an30 : Option Addr} {sl30 : Array (Option Value)} {oc30 dc30 pm30 cd30 ct30 : Value}
    {f31 : Addr} {od31 an31 : Option Addr} {sl31 : Array (Option Value)} {oc31 kV31 dc31 pm31 cd31 ct31 : Value}
    {f32 : Addr} {od32 an32 : Option Addr} {sl32 : Array (Option Value)} {oc32 kV32 dc32 pm32 cd32 ct32 : Value}
    {f33 : Addr} {od33 an33 : Option Addr} {sl33 : Array (Option Value)} {oc33 kV33 dc33 pm33 cd33 ct33 : Value}
    {f34 : Addr} {od34 an34 : Option Addr} {sl34 : Array (Option Value)} {oc34 kV34 dc34 pm34 cd34 ct34 : Value}
    {f35 : Addr} {od35 an35 : Option Addr} {sl35 : Array (Option Value)} {oc35 kV35 dc35 pm35 cd35 ct35 : Value}
    {f36 : Addr} {od36 an36 : Option Addr} {sl36 : Array (Option Value)} {oc36 kV36 dc36 pm36 cd36 ct36 : Value}
    {f37 : Addr} {od37 an37 : Option Addr} {sl37 : Array (Option Value)} {oc37 kV37 dc37 pm37 cd37 ct37 : Value}
    {f38 : Addr} {od38 an38 : Option Addr} {sl38 : Array (Option Value)} {oc38 kV38 dc38 pm38 cd38 ct38 : Value}
    {f39 : Addr} {od39 an39 : Option Addr} {sl39 : Array (Option Value)} {oc39 kV39 dc39 pm39 cd39 ct39 : Value}
    {f40 : Addr} {od40 an40 : Option Addr} {sl40 : Array (Option Value)} {oc40 kV40 dc40 pm40 cd40 ct40 : Value}
    {f41 : Addr} {od41 an41 : Option Addr} {sl41 : Array (Option Value)} {oc41 kV41 dc41 pm41 cd41 ct41 : Value}
    {f42 : Addr} {od42 an42 : Option Addr} {sl42 : Array (Option Value)} {oc42 kV42 dc42 pm42 cd42 ct42 : Value}
    {f43 : Addr} {od43 an43 : Option Addr} {sl43 : Array (Option Value)} {oc43 kV43 dc43 pm43 cd43 ct43 : Value}
    {f44 : Addr} {od44 an44 : Option Addr} {sl44 : Array (Option Value)} {oc44 kV44 dc44 pm44 cd44 ct44 : Value}
    {f45 : Addr} {od45 an45 : Option Addr} {sl45 : Array (Option Value)} {oc45 kV45 dc45 pm45 cd45 ct45 : Value}
    {f46 : Addr} {od46 an46 : Option Addr} {sl46 : Array (Option Value)} {oc46 kV46 dc46 pm46 cd46 ct46 : Value}
    {f47 : Addr} {od47 an47 : Option Addr} {sl47 : Array (Option Value)} {oc47 kV47 dc47 pm47 cd47 ct47 : Value}
    {f48 : Addr} {od48 an48 : Option Addr} {sl48 : Array (Option Value)} {oc48 kV48 dc48 pm48 cd48 ct48 : Value}
    {f49 : Addr} {od49 an49 : Option Addr} {sl49 : Array (Option Value)} {oc49 kV49 dc49 pm49 cd49 ct49 : Value}
    {f50 : Addr} {od50 an50 : Option Addr} {sl50 : Array (Option Value)} {oc50 kV50 dc50 pm50 cd50 ct50 : Value}
    (a0 : PySem.W.nsIn K mainGlobals "_law_tape" = some (some (.ref f0)))
    (l0 : K.lookup f0 = some ⟨oc0, od0, .func (PySem.W.fnOf "_law_tape" "_law_tape" (defArgs s__law_tape) (defBody s__law_tape) (defScope s__law_tape) .none kV0 dc0 pm0 an0 cd0 ct0), sl0⟩) (c0 : PySem.W.codeIn K cd0 "_law_tape" = true) (k0 : PySem.W.keepIn K (.ref f0) = true)
    (a1 : PySem.W.nsIn K mainGlobals "_law_pick" = some (some (.ref f1)))
    (l1 : K.lookup f1 = some ⟨oc1, od1, .func (PySem.W.fnOf "_law_pick" "_law_pick" (defArgs s__law_pick) (defBody s__law_pick) (defScope s__law_pick) .none kV1 dc1 pm1 an1 cd1 ct1), sl1⟩) (c1 : PySem.W.codeIn K cd1 "_law_pick" = true) (k1 : PySem.W.keepIn K (.ref f1) = true)
    (a2 : PySem.W.nsIn K mainGlobals "_law_size" = some (some (.ref f2)))
    (l2 : K.lookup f2 = some ⟨oc2, od2, .func (PySem.W.fnOf "_law_size" "_law_size" (defArgs s__law_size) (defBody s__law_size) (defScope s__law_size) .none kV2 dc2 pm2 an2 cd2 ct2), sl2⟩) (c2 : PySem.W.codeIn K cd2 "_law_size" = true) (k2 : PySem.W.keepIn K (.ref f2) = true)
    (a3 : PySem.W.nsIn K mainGlobals "_law_same" = some (some (.ref f3)))
    (l3 : K.lookup f3 = some ⟨oc3, od3, .func (PySem.W.fnOf "_law_same" "_law_same" (defArgs s__law_same) (defBody s__law_same) (defScope s__law_same) .none kV3 dc3 pm3 an3 cd3 ct3), sl3⟩) (c3 : PySem.W.codeIn K cd3 "_law_same" = true) (k3 : PySem.W.keepIn K (.ref f3) = true)
    (a4 : PySem.W.nsIn K mainGlobals "far" = some (some (.ref f4)))
    (l4 : K.lookup f4 = some ⟨oc4, od4, .func (PySem.W.fnOf "far" "far" (defArgs s_far) (defBody s_far) (defScope s_far) .none kV4 dc4 pm4 an4 cd4 ct4), sl4⟩) (c4 : PySem.W.codeIn K cd4 "far" = true) (k4 : PySem.W.keepIn K (.ref f4) = true)
    (a5 : PySem.W.nsIn K mainGlobals "between" = some (some (.ref f5)))
    (l5 : K.lookup f5 = some ⟨oc5, od5, .func (PySem.W.fnOf "between" "between" (defArgs s_between) (defBody s_between) (defScope s_between) .none kV5 dc5 pm5 an5 cd5 ct5), sl5⟩) (c5 : PySem.W.codeIn K cd5 "between" = true) (k5 : PySem.W.keepIn K (.ref f5) = true)
    {TT6 : Addr} {tc6 : Value} {td6 : Option Addr} {tn6 : Nat} {ts6 : Array (Option Value)} (lt6 : K.lookup TT6 = some ⟨tc6, td6, .seq [.none].toArray tn6, ts6⟩)
    (l6 : K.lookup f6 = some ⟨oc6, od6, .func (PySem.W.fnOf "__init__" "House.__init__" (defArgs s_House__init) (defBody s_House__init) (defScope s_House__init) (.ref TT6) kV6 dc6 pm6 an6 cd6 ct6), sl6⟩) (c6 : PySem.W.codeIn K cd6 "House.__init__" = true) (k6 : PySem.W.keepIn K (.ref f6) = true)
    (l7 : K.lookup f7 = some ⟨oc7, od7, .func (PySem.W.fnOf "tell_letter" "House.tell_letter" (defArgs s_House__tell_letter) (defBody s_House__tell_letter) (defScope s_House__tell_letter) .none kV7 dc7 pm7 an7 cd7 ct7), sl7⟩) (c7 : PySem.W.codeIn K cd7 "House.tell_letter" = true) (k7 : PySem.W.keepIn K (.ref f7) = true)
    (l8 : K.lookup f8 = some ⟨oc8, od8, .func (PySem.W.fnOf "ask_letter" "House.ask_letter" (defArgs s_House__ask_letter) (defBody s_House__ask_letter) (defScope s_House__ask_letter) .none kV8 dc8 pm8 an8 cd8 ct8), sl8⟩) (c8 : PySem.W.codeIn K cd8 "House.ask_letter" = true) (k8 : PySem.W.keepIn K (.ref f8) = true)
    (l9 : K.lookup f9 = some ⟨oc9, od9, .func (PySem.W.fnOf "_answer_to" "House._answer_to" (defArgs s_House__answer_to) (defBody s_House__answer_to) (defScope s_House__answer_to) .none kV9 dc9 pm9 an9 cd9 ct9), sl9⟩) (c9 : PySem.W.codeIn K cd9 "House._answer_to" = true) (k9 : PySem.W.keepIn K (.ref f9) = true)
    (l10 : K.lookup f10 = some ⟨oc10, od10, .func (PySem.W.fnOf "_hear_tell" "House._hear_tell" (defArgs s_House__hear_tell) (defBody s_House__hear_tell) (defScope s_House__hear_tell) .none kV10 dc10 pm10 an10 cd10 ct10), sl10⟩) (c10 : PySem.W.codeIn K cd10 "House._hear_tell" = true) (k10 : PySem.W.keepIn K (.ref f10) = true)
    (l11 : K.lookup f11 = some ⟨oc11, od11, .func (PySem.W.fnOf "_hear_answer" "House._hear_answer" (defArgs s_House__hear_answer) (defBody s_House__hear_answer) (defScope s_House__hear_answer) .none kV11 dc11 pm11 an11 cd11 ct11), sl11⟩) (c11 : PySem.W.codeIn K cd11 "House._hear_answer" = true) (k11 : PySem.W.keepIn K (.ref f11) = true)
    (l12 : K.lookup f12 = some ⟨oc12, od12, .func (PySem.W.fnOf "hear" "House.hear" (defArgs s_House__hear) (defBody s_House__hear) (defScope s_House__hear) .none kV12 dc12 pm12 an12 cd12 ct12), sl12⟩) (c12 : PySem.W.codeIn K cd12 "House.hear" = true) (k12 : PySem.W.keepIn K (.ref f12) = true)
    (l13 : K.lookup f13 = some ⟨oc13, od13, .func (PySem.W.fnOf "houses" "Net.houses" (defArgs s_Net__houses) (defBody s_Net__houses) (defScope s_Net__houses) .none kV13 dc13 pm13 an13 cd13 ct13), sl13⟩) (c13 : PySem.W.codeIn K cd13 "Net.houses" = true) (k13 : PySem.W.keepIn K (.ref f13) = true)
    (l14 : K.lookup f14 = some ⟨oc14, od14, .func (PySem.W.fnOf "check_house" "Net.check_house" (defArgs s_Net__check_house) (defBody s_Net__check_house) (defScope s_Net__check_house) .none kV14 dc14 pm14 an14 cd14 ct14), sl14⟩) (c14 : PySem.W.codeIn K cd14 "Net.check_house" = true) (k14 : PySem.W.keepIn K (.ref f14) = true)
    (a15 : PySem.W.nsIn K mainGlobals "check_on_circle" = some (some (.ref f15)))
    (l15 : K.lookup f15 = some ⟨oc15, od15, .func (PySem.W.fnOf "check_on_circle" "check_on_circle" (defArgs s_check_on_circle) (defBody s_check_on_circle) (defScope s_check_on_circle) .none kV15 dc15 pm15 an15 cd15 ct15), sl15⟩) (c15 : PySem.W.codeIn K cd15 "check_on_circle" = true) (k15 : PySem.W.keepIn K (.ref f15) = true)
    (l16 : K.lookup f16 = some ⟨oc16, od16, .func (PySem.W.fnOf "_check_letter" "Net._check_letter" (defArgs s_Net__check_letter) (defBody s_Net__check_letter) (defScope s_Net__check_letter) .none kV16 dc16 pm16 an16 cd16 ct16), sl16⟩) (c16 : PySem.W.codeIn K cd16 "Net._check_letter" = true) (k16 : PySem.W.keepIn K (.ref f16) = true)
    (l17 : K.lookup f17 = some ⟨oc17, od17, .func (PySem.W.fnOf "_house_at" "Net._house_at" (defArgs s_Net__house_at) (defBody s_Net__house_at) (defScope s_Net__house_at) .none kV17 dc17 pm17 an17 cd17 ct17), sl17⟩) (c17 : PySem.W.codeIn K cd17 "Net._house_at" = true) (k17 : PySem.W.keepIn K (.ref f17) = true)
    (l18 : K.lookup f18 = some ⟨oc18, od18, .func (PySem.W.fnOf "_send" "Net._send" (defArgs s_Net__send) (defBody s_Net__send) (defScope s_Net__send) .none kV18 dc18 pm18 an18 cd18 ct18), sl18⟩) (c18 : PySem.W.codeIn K cd18 "Net._send" = true) (k18 : PySem.W.keepIn K (.ref f18) = true)
    (l19 : K.lookup f19 = some ⟨oc19, od19, .func (PySem.W.fnOf "letters" "Net.letters" (defArgs s_Net__letters) (defBody s_Net__letters) (defScope s_Net__letters) .none kV19 dc19 pm19 an19 cd19 ct19), sl19⟩) (c19 : PySem.W.codeIn K cd19 "Net.letters" = true) (k19 : PySem.W.keepIn K (.ref f19) = true)
    (l20 : K.lookup f20 = some ⟨oc20, od20, .func (PySem.W.fnOf "tell" "Net.tell" (defArgs s_Net__tell) (defBody s_Net__tell) (defScope s_Net__tell) .none kV20 dc20 pm20 an20 cd20 ct20), sl20⟩) (c20 : PySem.W.codeIn K cd20 "Net.tell" = true) (k20 : PySem.W.keepIn K (.ref f20) = true)
    (l21 : K.lookup f21 = some ⟨oc21, od21, .func (PySem.W.fnOf "ask" "Net.ask" (defArgs s_Net__ask) (defBody s_Net__ask) (defScope s_Net__ask) .none kV21 dc21 pm21 an21 cd21 ct21), sl21⟩) (c21 : PySem.W.codeIn K cd21 "Net.ask" = true) (k21 : PySem.W.keepIn K (.ref f21) = true)
    (l22 : K.lookup f22 = some ⟨oc22, od22, .func (PySem.W.fnOf "lose" "Net.lose" (defArgs s_Net__lose) (defBody s_Net__lose) (defScope s_Net__lose) .none kV22 dc22 pm22 an22 cd22 ct22), sl22⟩) (c22 : PySem.W.codeIn K cd22 "Net.lose" = true) (k22 : PySem.W.keepIn K (.ref f22) = true)
    (l23 : K.lookup f23 = some ⟨oc23, od23, .func (PySem.W.fnOf "repeat" "Net.repeat" (defArgs s_Net__repeat) (defBody s_Net__repeat) (defScope s_Net__repeat) .none kV23 dc23 pm23 an23 cd23 ct23), sl23⟩) (c23 : PySem.W.codeIn K cd23 "Net.repeat" = true) (k23 : PySem.W.keepIn K (.ref f23) = true)
    (l24 : K.lookup f24 = some ⟨oc24, od24, .func (PySem.W.fnOf "nexts" "Net.nexts" (defArgs s_Net__nexts) (defBody s_Net__nexts) (defScope s_Net__nexts) .none kV24 dc24 pm24 an24 cd24 ct24), sl24⟩) (c24 : PySem.W.codeIn K cd24 "Net.nexts" = true) (k24 : PySem.W.keepIn K (.ref f24) = true)
    (l25 : K.lookup f25 = some ⟨oc25, od25, .func (PySem.W.fnOf "befores" "Net.befores" (defArgs s_Net__befores) (defBody s_Net__befores) (defScope s_Net__befores) .none kV25 dc25 pm25 an25 cd25 ct25), sl25⟩) (c25 : PySem.W.codeIn K cd25 "Net.befores" = true) (k25 : PySem.W.keepIn K (.ref f25) = true)
    (l26 : K.lookup f26 = some ⟨oc26, od26, .func (PySem.W.fnOf "read" "Net.read" (defArgs s_Net__read) (defBody s_Net__read) (defScope s_Net__read) .none kV26 dc26 pm26 an26 cd26 ct26), sl26⟩) (c26 : PySem.W.codeIn K cd26 "Net.read" = true) (k26 : PySem.W.keepIn K (.ref f26) = true)
    (l27 : K.lookup f27 = some ⟨oc27, od27, .func (PySem.W.fnOf "_check_letters" "Net._check_letters" (defArgs s_Net__check_letters) (defBody s_Net__check_letters) (defScope s_Net__check_letters) .none kV27 dc27 pm27 an27 cd27 ct27), sl27⟩) (c27 : PySem.W.codeIn K cd27 "Net._check_letters" = true) (k27 : PySem.W.keepIn K (.ref f27) = true)
    (l28 : K.lookup f28 = some ⟨oc28, od28, .func (PySem.W.fnOf "_check_places" "Net._check_places" (defArgs s_Net__check_places) (defBody s_Net__check_places) (defScope s_Net__check_places) .none kV28 dc28 pm28 an28 cd28 ct28), sl28⟩) (c28 : PySem.W.codeIn K cd28 "Net._check_places" = true) (k28 : PySem.W.keepIn K (.ref f28) = true)
    (l29 : K.lookup f29 = some ⟨oc29, od29, .func (PySem.W.fnOf "_take_befores" "Net._take_befores" (defArgs s_Net__take_befores) (defBody s_Net__take_befores) (defScope s_Net__take_befores) .none kV29 dc29 pm29 an29 cd29 ct29), sl29⟩) (c29 : PySem.W.codeIn K cd29 "Net._take_befores" = true) (k29 : PySem.W.keepIn K (.ref f29) = true)
    {KD30 : Addr} (kw30_0 : PySem.W.nsIn K KD30 "befores" = some (some .none)) (kw30_1 : PySem.W.nsIn K KD30 "letters" = some (some .none))
    (l30 : K.lookup f30 = some ⟨oc30, od30, .func (PySem.W.fnOf "__init__" "Net.__init__" (defArgs s_Net__init) (defBody s_Net__init) (defScope s_Net__init) .none (.ref KD30) dc30 pm30 an30 cd30 ct30), sl30⟩) (c30 : PySem.W.codeIn K cd30 "Net.__init__" = true) (k30 : PySem.W.keepIn K (.ref f30) = true)
    (l31 : K.lookup f31 = some ⟨oc31, od31, .func (PySem.W.fnOf "check_free" "Net.check_free" (defArgs s_Net__check_free) (defBody s_Net__check_free) (defScope s_Net__check_free) .none kV31 dc31 pm31 an31 cd31 ct31), sl31⟩) (c31 : PySem.W.codeIn K cd31 "Net.check_free" = true) (k31 : PySem.W.keepIn K (.ref f31) = true)
    (l32 : K.lookup f32 = some ⟨oc32, od32, .func (PySem.W.fnOf "admit" "Net.admit" (defArgs s_Net__admit) (defBody s_Net__admit) (defScope s_Net__admit) .none kV32 dc32 pm32 an32 cd32 ct32), sl32⟩) (c32 : PySem.W.codeIn K cd32 "Net.admit" = true) (k32 : PySem.W.keepIn K (.ref f32) = true)
    (a33 : PySem.W.nsIn K mainGlobals "_law_far" = some (some (.ref f33)))
    (l33 : K.lookup f33 = some ⟨oc33, od33, .func (PySem.W.fnOf "_law_far" "_law_far" (defArgs s__law_far) (defBody s__law_far) (defScope s__law_far) .none kV33 dc33 pm33 an33 cd33 ct33), sl33⟩) (c33 : PySem.W.codeIn K cd33 "_law_far" = true) (k33 : PySem.W.keepIn K (.ref f33) = true)
    (a34 : PySem.W.nsIn K mainGlobals "_law_between" = some (some (.ref f34)))
    (l34 : K.lookup f34 = some ⟨oc34, od34, .func (PySem.W.fnOf "_law_between" "_law_between" (defArgs s__law_between) (defBody s__law_between) (defScope s__law_between) .none kV34 dc34 pm34 an34 cd34 ct34), sl34⟩) (c34 : PySem.W.codeIn K cd34 "_law_between" = true) (k34 : PySem.W.keepIn K (.ref f34) = true)
    (a35 : PySem.W.nsIn K mainGlobals "_law_read" = some (some (.ref f35)))
    (l35 : K.lookup f35 = some ⟨oc35, od35, .func (PySem.W.fnOf "_law_read" "_law_read" (defArgs s__law_read) (defBody s__law_read) (defScope s__law_read) .none kV35 dc35 pm35 an35 cd35 ct35), sl35⟩) (c35 : PySem.W.codeIn K cd35 "_law_read" = true) (k35 : PySem.W.keepIn K (.ref f35) = true)
    (l36 : K.lookup f36 = some ⟨oc36, od36, .func (PySem.W.fnOf "hold" "Net.hold" (defArgs s_Net__hold) (defBody s_Net__hold) (defScope s_Net__hold) .none kV36 dc36 pm36 an36 cd36 ct36), sl36⟩) (c36 : PySem.W.codeIn K cd36 "Net.hold" = true) (k36 : PySem.W.keepIn K (.ref f36) = true)
    (l37 : K.lookup f37 = some ⟨oc37, od37, .func (PySem.W.fnOf "set_before" "Net.set_before" (defArgs s_Net__set_before) (defBody s_Net__set_before) (defScope s_Net__set_before) .none kV37 dc37 pm37 an37 cd37 ct37), sl37⟩) (c37 : PySem.W.codeIn K cd37 "Net.set_before" = true) (k37 : PySem.W.keepIn K (.ref f37) = true)
    (l38 : K.lookup f38 = some ⟨oc38, od38, .func (PySem.W.fnOf "snapshot" "Net.snapshot" (defArgs s_Net__snapshot) (defBody s_Net__snapshot) (defScope s_Net__snapshot) .none kV38 dc38 pm38 an38 cd38 ct38), sl38⟩) (c38 : PySem.W.codeIn K cd38 "Net.snapshot" = true) (k38 : PySem.W.keepIn K (.ref f38) = true)
    (a39 : PySem.W.nsIn K mainGlobals "_pairs_said_by" = some (some (.ref f39)))
    (l39 : K.lookup f39 = some ⟨oc39, od39, .func (PySem.W.fnOf "_pairs_said_by" "_pairs_said_by" (defArgs s__pairs_said_by) (defBody s__pairs_said_by) (defScope s__pairs_said_by) .none kV39 dc39 pm39 an39 cd39 ct39), sl39⟩) (c39 : PySem.W.codeIn K cd39 "_pairs_said_by" = true) (k39 : PySem.W.keepIn K (.ref f39) = true)
    (a40 : PySem.W.nsIn K mainGlobals "sayings" = some (some (.ref f40)))
    (l40 : K.lookup f40 = some ⟨oc40, od40, .func (PySem.W.fnOf "sayings" "sayings" (defArgs s_sayings) (defBody s_sayings) (defScope s_sayings) .none kV40 dc40 pm40 an40 cd40 ct40), sl40⟩) (c40 : PySem.W.codeIn K cd40 "sayings" = true) (k40 : PySem.W.keepIn K (.ref f40) = true)
    (a41 : PySem.W.nsIn K mainGlobals "_law_sayings" = some (some (.ref f41)))
    (l41 : K.lookup f41 = some ⟨oc41, od41, .func (PySem.W.fnOf "_law_sayings" "_law_sayings" (defArgs s__law_sayings) (defBody s__law_sayings) (defScope s__law_sayings) .none kV41 dc41 pm41 an41 cd41 ct41), sl41⟩) (c41 : PySem.W.codeIn K cd41 "_law_sayings" = true) (k41 : PySem.W.keepIn K (.ref f41) = true)
    (a42 : PySem.W.nsIn K mainGlobals "_law_snapshot" = some (some (.ref f42)))
    (l42 : K.lookup f42 = some ⟨oc42, od42, .func (PySem.W.fnOf "_law_snapshot" "_law_snapshot" (defArgs s__law_snapshot) (defBody s__law_snapshot) (defScope s__law_snapshot) .none kV42 dc42 pm42 an42 cd42 ct42), sl42⟩) (c42 : PySem.W.codeIn K cd42 "_law_snapshot" = true) (k42 : PySem.W.keepIn K (.ref f42) = true)
    (a43 : PySem.W.nsIn K mainGlobals "_law_places" = some (some (.ref f43)))
    (l43 : K.lookup f43 = some ⟨oc43, od43, .func (PySem.W.fnOf "_law_places" "_law_places" (defArgs s__law_places) (defBody s__law_places) (defScope s__law_places) .none kV43 dc43 pm43 an43 cd43 ct43), sl43⟩) (c43 : PySem.W.codeIn K cd43 "_law_places" = true) (k43 : PySem.W.keepIn K (.ref f43) = true)
    (a44 : PySem.W.nsIn K mainGlobals "_law_nexts" = some (some (.ref f44)))
    (l44 : K.lookup f44 = some ⟨oc44, od44, .func (PySem.W.fnOf "_law_nexts" "_law_nexts" (defArgs s__law_nexts) (defBody s__law_nexts) (defScope s__law_nexts) .none kV44 dc44 pm44 an44 cd44 ct44), sl44⟩) (c44 : PySem.W.codeIn K cd44 "_law_nexts" = true) (k44 : PySem.W.keepIn K (.ref f44) = true)
    (a45 : PySem.W.nsIn K mainGlobals "_law_parts" = some (some (.ref f45)))
    (l45 : K.lookup f45 = some ⟨oc45, od45, .func (PySem.W.fnOf "_law_parts" "_law_parts" (defArgs s__law_parts) (defBody s__law_parts) (defScope s__law_parts) .none kV45 dc45 pm45 an45 cd45 ct45), sl45⟩) (c45 : PySem.W.codeIn K cd45 "_law_parts" = true) (k45 : PySem.W.keepIn K (.ref f45) = true)
    (a46 : PySem.W.nsIn K mainGlobals "_law_behinds" = some (some (.ref f46)))
    (l46 : K.lookup f46 = some ⟨oc46, od46, .func (PySem.W.fnOf "_law_behinds" "_law_behinds" (defArgs s__law_behinds) (defBody s__law_behinds) (defScope s__law_behinds) .none kV46 dc46 pm46 an46 cd46 ct46), sl46⟩) (c46 : PySem.W.codeIn K cd46 "_law_behinds" = true) (k46 : PySem.W.keepIn K (.ref f46) = true)
    (a47 : PySem.W.nsIn K mainGlobals "_law_post" = some (some (.ref f47)))
    (l47 : K.lookup f47 = some ⟨oc47, od47, .func (PySem.W.fnOf "_law_post" "_law_post" (defArgs s__law_post) (defBody s__law_post) (defScope s__law_post) .none kV47 dc47 pm47 an47 cd47 ct47), sl47⟩) (c47 : PySem.W.codeIn K cd47 "_law_post" = true) (k47 : PySem.W.keepIn K (.ref f47) = true)
    (a48 : PySem.W.nsIn K mainGlobals "_law_listed" = some (some (.ref f48)))
    (l48 : K.lookup f48 = some ⟨oc48, od48, .func (PySem.W.fnOf "_law_listed" "_law_listed" (defArgs s__law_listed) (defBody s__law_listed) (defScope s__law_listed) .none kV48 dc48 pm48 an48 cd48 ct48), sl48⟩) (c48 : PySem.W.codeIn K cd48 "_law_listed" = true) (k48 : PySem.W.keepIn K (.ref f48) = true)
    (a49 : PySem.W.nsIn K mainGlobals "_law_change" = some (some (.ref f49)))
    (l49 : K.lookup f49 = some ⟨oc49, od49, .func (PySem.W.fnOf "_law_change" "_law_change" (defArgs s__law_change) (defBody s__law_change) (defScope s__law_change) .none kV49 dc49 pm49 an49 cd49 ct49), sl49⟩) (c49 : PySem.W.codeIn K cd49 "_law_change" = true) (k49 : PySem.W.keepIn K (.ref f49) = true)
    (a50 : PySem.W.nsIn K mainGlobals "law" = some (some (.ref f50)))
    (l50 : K.lookup f50 = some ⟨oc50, od50, .func (PySem.W.fnOf "law" "law" (defArgs s_law) (defBody s_law) (defScope s_law) .none kV50 dc50 pm50 an50 cd50 ct50), sl50⟩) (c50 : PySem.W.codeIn K cd50 "law" = true) (k50 : PySem.W.keepIn K (.ref f50) = true)
    {C0 : Addr} (aC0 : PySem.W.nsIn K mainGlobals "House" = some (some (.ref C0))) (pg0 : PySem.W.plainGet K C0 Str.empty = true) (hd0 : PySem.W.hasDictIn K C0 = true) (po0 : PySem.W.plainOver K C0 = true) (sa0 : PySem.W.findIn K (.ref C0) "__setattr__" = some (some (.builtin "object.__setattr__"))) (mk0 : PySem.W.makesIn K C0 = true) (kc0 : PySem.W.keepIn K (.ref C0) = true)
    (na0_0 : PySem.W.findIn K (.ref C0) "size" = some none)
    (na0_1 : PySem.W.findIn K (.ref C0) "place" = some none)
    (na0_2 : PySem.W.findIn K (.ref C0) "next_house" = some none)
    (na0_3 : PySem.W.findIn K (.ref C0) "before" = some none)
    (am6 : PySem.W.findIn K (.ref C0) "__init__" = some (some (.ref f6))) (ai6 : PySem.W.isFn K (.ref f6) = true)
    (am7 : PySem.W.findIn K (.ref C0) "tell_letter" = some (some (.ref f7))) (ai7 : PySem.W.isFn K (.ref f7) = true)
    (am8 : PySem.W.findIn K (.ref C0) "ask_letter" = some (some (.ref f8))) (ai8 : PySem.W.isFn K (.ref f8) = true)
    (am9 : PySem.W.findIn K (.ref C0) "_answer_to" = some (some (.ref f9))) (ai9 : PySem.W.isFn K (.ref f9) = true)
    (am10 : PySem.W.findIn K (.ref C0) "_hear_tell" = some (some (.ref f10))) (ai10 : PySem.W.isFn K (.ref f10) = true)
    (am11 : PySem.W.findIn K (.ref C0) "_hear_answer" = some (some (.ref f11))) (ai11 : PySem.W.isFn K (.ref f11) = true)
    (am12 : PySem.W.findIn K (.ref C0) "hear" = some (some (.ref f12))) (ai12 : PySem.W.isFn K (.ref f12) = true)
    {C1 : Addr} (aC1 : PySem.W.nsIn K mainGlobals "Net" = some (some (.ref C1))) (pg1 : PySem.W.plainGet K C1 Str.empty = true) (hd1 : PySem.W.hasDictIn K C1 = true) (po1 : PySem.W.plainOver K C1 = true) (sa1 : PySem.W.findIn K (.ref C1) "__setattr__" = some (some (.builtin "object.__setattr__"))) (mk1 : PySem.W.makesIn K C1 = true) (kc1 : PySem.W.keepIn K (.ref C1) = true)
    (na1_0 : PySem.W.findIn K (.ref C1) "size" = some none)
    (na1_1 : PySem.W.findIn K (.ref C1) "_nexts" = some none)
    (na1_2 : PySem.W.findIn K (.ref C1) "_befores" = some none)
    (na1_3 : PySem.W.findIn K (.ref C1) "_letters" = some none)
    (am13 : PySem.W.findIn K (.ref C1) "houses" = some (some (.ref f13))) (ai13 : PySem.W.isFn K (.ref f13) = true)
    (am14 : PySem.W.findIn K (.ref C1) "check_house" = some (some (.ref f14))) (ai14 : PySem.W.isFn K (.ref f14) = true)
    (am16 : PySem.W.findIn K (.ref C1) "_check_letter" = some (some (.ref f16))) (ai16 : PySem.W.isFn K (.ref f16) = true)
    (am17 : PySem.W.findIn K (.ref C1) "_house_at" = some (some (.ref f17))) (ai17 : PySem.W.isFn K (.ref f17) = true)
    (am18 : PySem.W.findIn K (.ref C1) "_send" = some (some (.ref f18))) (ai18 : PySem.W.isFn K (.ref f18) = true)
    (am19 : PySem.W.findIn K (.ref C1) "letters" = some (some (.ref f19))) (ai19 : PySem.W.isFn K (.ref f19) = true)
    (am20 : PySem.W.findIn K (.ref C1) "tell" = some (some (.ref f20))) (ai20 : PySem.W.isFn K (.ref f20) = true)
    (am21 : PySem.W.findIn K (.ref C1) "ask" = some (some (.ref f21))) (ai21 : PySem.W.isFn K (.ref f21) = true)
    (am22 : PySem.W.findIn K (.ref C1) "lose" = some (some (.ref f22))) (ai22 : PySem.W.isFn K (.ref f22) = true)
    (am23 : PySem.W.findIn K (.ref C1) "repeat" = some (some (.ref f23))) (ai23 : PySem.W.isFn K (.ref f23) = true)
    (am24 : PySem.W.findIn K (.ref C1) "nexts" = some (some (.ref f24))) (ai24 : PySem.W.isFn K (.ref f24) = true)
    (am25 : PySem.W.findIn K (.ref C1) "befores" = some (some (.ref f25))) (ai25 : PySem.W.isFn K (.ref f25) = true)
    (am26 : PySem.W.findIn K (.ref C1) "read" = some (some (.ref f26))) (ai26 : PySem.W.isFn K (.ref f26) = true)
    (am27 : PySem.W.findIn K (.ref C1) "_check_letters" = some (some (.ref f27))) (ai27 : PySem.W.isFn K (.ref f27) = true)
    (am28 : PySem.W.findIn K (.ref C1) "_check_places" = some (some (.ref f28))) (ai28 : PySem.W.isFn K (.ref f28) = true)
    (am29 : PySem.W.findIn K (.ref C1) "_take_befores" = some (some (.ref f29))) (ai29 : PySem.W.isFn K (.ref f29) = true)
    (am30 : PySem.W.findIn K (.ref C1) "__init__" = some (some (.ref f30))) (ai30 : PySem.W.isFn K (.ref f30) = true)
    (am31 : PySem.W.findIn K (.ref C1) "check_free" = some (some (.ref f31))) (ai31 : PySem.W.isFn K (.ref f31) = true)
    (am32 : PySem.W.findIn K (.ref C1) "admit" = some (some (.ref f32))) (ai32 : PySem.W.isFn K (.ref f32) = true)
    (am36 : PySem.W.findIn K (.ref C1) "hold" = some (some (.ref f36))) (ai36 : PySem.W.isFn K (.ref f36) = true)
    (am37 : PySem.W.findIn K (.ref C1) "set_before" = some (some (.ref f37))) (ai37 : PySem.W.isFn K (.ref f37) = true)
    (am38 : PySem.W.findIn K (.ref C1) "snapshot" = some (some (.ref f38))) (ai38 : PySem.W.isFn K (.ref f38) = true)
    {E0 : Addr} (aE0 : PySem.W.nsIn K mainGlobals "NoHouse" = some (some (.ref E0))) (eb0 : PySem.W.subIn K (.ref E0) (.type "BaseException") = some true) (ec0 : PySem.W.isClsIn K E0 = true) (et0 : PySem.W.typeIn K (.ref E0) = some (.type "type"))
    {E1 : Addr} (aE1 : PySem.W.nsIn K mainGlobals "OffCircle" = some (some (.ref E1))) (eb1 : PySem.W.subIn K (.ref E1) (.type "BaseException") = some true) (ec1 : PySem.W.isClsIn K E1 = true) (et1 : PySem.W.typeIn K (.ref E1) = some (.type "type"))
    {E2 : Addr} (aE2 : PySem.W.nsIn K mainGlobals "NoLetter" = some (some (.ref E2))) (eb2 : PySem.W.subIn K (.ref E2) (.type "BaseException") = some true) (ec2 : PySem.W.isClsIn K E2 = true) (et2 : PySem.W.typeIn K (.ref E2) = some (.type "type"))
    {E3 : Addr} (aE3 : PySem.W.nsIn K mainGlobals "TakenPlace" = some (some (.ref E3))) (eb3 : PySem.W.subIn K (.ref E3) (.type "BaseException") = some true) (ec3 : PySem.W.isClsIn K E3 = true) (et3 : PySem.W.typeIn K (.ref E3) = some (.type "type"))
    (z0 : PySem.W.nsIn K mainGlobals "abs" = some none)
    (z1 : PySem.W.nsIn K mainGlobals "bool" = some none)
    (z2 : PySem.W.nsIn K mainGlobals "dict" = some none)
    (z3 : PySem.W.nsIn K mainGlobals "int" = some none)
    (z4 : PySem.W.nsIn K mainGlobals "isinstance" = some none)
    (z5 : PySem.W.nsIn K mainGlobals "len" = some none)
    (z6 : PySem.W.nsIn K mainGlobals "list" = some none)
    (z7 : PySem.W.nsIn K mainGlobals "max" = some none)
    (z8 : PySem.W.nsIn K mainGlobals "range" = some none)
    (z9 : PySem.W.nsIn K mainGlobals "sorted" = some none)
    (z10 : PySem.W.nsIn K mainGlobals "str" = some none)
    (z11 : PySem.W.nsIn K mainGlobals "tuple" = some none)
    : ∃ fd : FuncData, (∀ (s : Shared) (v : Value), BindsTo s fd ⟨[v], []⟩ [("script", v)]) ∧ ∀ base : Heap, K.In base → base.Ns mainGlobals mg → FnOk l.prog w K mg base CX0 8 fa fd ["script"] (sp_law K) := by
  have e := hfa.symm.trans (PySem.W.mg_of X G a50)
  cases e
  have FD6 : FunD K "__init__" "House.__init__" (defArgs s_House__init) (defBody s_House__init) (defScope s_House__init) [.non] [] f6 _ := ⟨⟨_, _, _, _, _, _, _, _, _, _, rfl, l6, c6, .inr ⟨by decide, _, _, _, _, rfl, lt6, rfl, .cons rfl (.nil)⟩, .inl rfl⟩, k6⟩
  obtain ⟨da6, dva6, db6⟩ := FD6.binds1 (ps := ["self", "size", "place", "next_house", "before"]) 5 1 (by decide) rfl (fun _ _ _ _ _ _ _ us its l1 l2 => match us, its, l1, l2 with | [_, _, _, _, _], [_], _, _ => ⟨_, rfl, rfl⟩)
  cases dva6
  obtain ⟨de6, dve6, dbe6⟩ := FD6.binds1 (ps := ["self", "size", "place", "next_house", "before"]) 4 0 (by decide) rfl (fun _ _ _ _ _ _ _ us its l1 l2 => match us, its, l1, l2 with | [_, _, _, _], [_], _, _ => ⟨_, rfl, rfl⟩)
  obtain ⟨dk6, dbk6⟩ := FD6.kbindsD (ps := ["self", "size", "place", "next_house", "before"]) 4 ["before"] (fun us _ ws => us ++ ws) (by decide) (fun r1 _ r3 => r1.append r3) (fun _ _ _ _ _ _ _ us its ws l1 l2 l3 => match us, its, ws, l1, l2, l3 with | [_, _, _, _], [_], [_], _, _, _ => ⟨_, rfl, rfl⟩)
  have FD30 : FunD K "__init__" "Net.__init__" (defArgs s_Net__init) (defBody s_Net__init) (defScope s_Net__init) [] [("befores", .non), ("letters", .non)] f30 _ := ⟨⟨_, _, _, _, _, _, _, _, _, _, rfl, l30, c30, .inl ⟨rfl, rfl⟩, .inr ⟨_, rfl, fun x hx => by simp only [List.mem_cons, List.not_mem_nil, or_false] at hx; rcases hx with rfl | rfl <;> first | exact ⟨_, kw30_0, rfl⟩ | exact ⟨_, kw30_1, rfl⟩⟩⟩, k30⟩
  obtain ⟨dk30, dbk30⟩ := FD30.kbinds0 (ps := ["self", "size", "nexts", "befores", "letters"]) 3 ["befores", "letters"] [] (fun us _ ws => us ++ ws) (by decide) (fun _ h => nomatch h) (fun r1 _ r3 => r1.append r3) (fun _ _ _ _ _ _ us mv ws l1 l2 l3 => match us, mv, ws, l1, l2, l3 with | [_, _, _], [], [_, _], _, _, _ => rfl)
  obtain ⟨de30, dve30, dbe30⟩ := FD30.binds0 (ps := ["self", "size", "nexts", "befores", "letters"]) 3 (by decide) rfl (fun _ _ _ _ _ _ us its l1 l2 => match us, its, l1, l2 with | [_, _, _], [_, _], _, _ => ⟨_, _, _, _, _, _, rfl, rfl, _, _, _, _, _, _, rfl, rfl, rfl⟩)
  let T : T0 K mg := {
    m_abs := PySem.W.mg_none_of X G z0,
    m_bool := PySem.W.mg_none_of X G z1,
    m_dict := PySem.W.mg_none_of X G z2,
    m_int := PySem.W.mg_none_of X G z3,
    m_isinstance := PySem.W.mg_none_of X G z4,
    m_len := PySem.W.mg_none_of X G z5,
    m_list := PySem.W.mg_none_of X G z6,
    m_max := PySem.W.mg_none_of X G z7,
    m_range := PySem.W.mg_none_of X G z8,
    m_sorted := PySem.W.mg_none_of X G z9,
    m_str := PySem.W.mg_none_of X G z10,
    m_tuple := PySem.W.mg_none_of X G z11,
    a__law_tape := f0,
    fd__law_tape := _,
    F__law_tape := fun_mk (st := s__law_tape) l0 c0 k0,
    b__law_tape := (fun_mk (st := s__law_tape) l0 c0 k0).binds (ps := ["script"]) fun _ _ _ _ _ _ us hl => match us, hl with | [_], _ => rfl,
    g__law_tape := PySem.W.mg_of X G a0,
    a__law_pick := f1,
    fd__law_pick := _,
    F__law_pick := fun_mk (st := s__law_pick) l1 c1 k1,
    b__law_pick := (fun_mk (st := s__law_pick) l1 c1 k1).binds (ps := ["tape", "size"]) fun _ _ _ _ _ _ us hl => match us, hl with | [_, _], _ => rfl,
    g__law_pick := PySem.W.mg_of X G a1,
    a__law_size := f2,
    fd__law_size := _,
    F__law_size := fun_mk (st := s__law_size) l2 c2 k2,
    b__law_size := (fun_mk (st := s__law_size) l2 c2 k2).binds (ps := ["tape", "count"]) fun _ _ _ _ _ _ us hl => match us, hl with | [_, _], _ => rfl,
    g__law_size := PySem.W.mg_of X G a2,
    a__law_same := f3,
    fd__law_same := _,
    F__law_same := fun_mk (st := s__law_same) l3 c3 k3,
    b__law_same := (fun_mk (st := s__law_same) l3 c3 k3).binds (ps := ["actual", "due"]) fun _ _ _ _ _ _ us hl => match us, hl with | [_, _], _ => rfl,
    g__law_same := PySem.W.mg_of X G a3,
    a_far := f4,
    fd_far := _,
    F_far := fun_mk (st := s_far) l4 c4 k4,
    b_far := (fun_mk (st := s_far) l4 c4 k4).binds (ps := ["size", "start", "end"]) fun _ _ _ _ _ _ us hl => match us, hl with | [_, _, _], _ => rfl,
    g_far := PySem.W.mg_of X G a4,
    a_between := f5,
    fd_between := _,
    F_between := fun_mk (st := s_between) l5 c5 k5,
    b_between := (fun_mk (st := s_between) l5 c5 k5).binds (ps := ["size", "start", "place", "end"]) fun _ _ _ _ _ _ us hl => match us, hl with | [_, _, _, _], _ => rfl,
    g_between := PySem.W.mg_of X G a5,
    a_House__init := f6,
    fd_House__init := _,
    F_House__init := FD6,
    b_House__init := db6,
    bd_House__init := de6,
    bv_House__init := dve6,
    b1_House__init := dbe6,
    kg_House__init := _,
    kb_House__init := dbk6,
    a_House__tell_letter := f7,
    fd_House__tell_letter := _,
    F_House__tell_letter := fun_mk (st := s_House__tell_letter) l7 c7 k7,
    b_House__tell_letter := (fun_mk (st := s_House__tell_letter) l7 c7 k7).binds (ps := ["self"]) fun _ _ _ _ _ _ us hl => match us, hl with | [_], _ => rfl,
    a_House__ask_letter := f8,
    fd_House__ask_letter := _,
    F_House__ask_letter := fun_mk (st := s_House__ask_letter) l8 c8 k8,
    b_House__ask_letter := (fun_mk (st := s_House__ask_letter) l8 c8 k8).binds (ps := ["self"]) fun _ _ _ _ _ _ us hl => match us, hl with | [_], _ => rfl,
    a_House__answer_to := f9,
    fd_House__answer_to := _,
    F_House__answer_to := fun_mk (st := s_House__answer_to) l9 c9 k9,
    b_House__answer_to := (fun_mk (st := s_House__answer_to) l9 c9 k9).binds (ps := ["self", "sender"]) fun _ _ _ _ _ _ us hl => match us, hl with | [_, _], _ => rfl,
    a_House__hear_tell := f10,
    fd_House__hear_tell := _,
    F_House__hear_tell := fun_mk (st := s_House__hear_tell) l10 c10 k10,
    b_House__hear_tell := (fun_mk (st := s_House__hear_tell) l10 c10 k10).binds (ps := ["self", "sender"]) fun _ _ _ _ _ _ us hl => match us, hl with | [_, _], _ => rfl,
    a_House__hear_answer := f11,
    fd_House__hear_answer := _,
    F_House__hear_answer := fun_mk (st := s_House__hear_answer) l11 c11 k11,
    b_House__hear_answer := (fun_mk (st := s_House__hear_answer) l11 c11 k11).binds (ps := ["self", "sender", "named"]) fun _ _ _ _ _ _ us hl => match us, hl with | [_, _, _], _ => rfl,
    a_House__hear := f12,
    fd_House__hear := _,
    F_House__hear := fun_mk (st := s_House__hear) l12 c12 k12,
    b_House__hear := (fun_mk (st := s_House__hear) l12 c12 k12).binds (ps := ["self", "letter"]) fun _ _ _ _ _ _ us hl => match us, hl with | [_, _], _ => rfl,
    a_Net__houses := f13,
    fd_Net__houses := _,
    F_Net__houses := fun_mk (st := s_Net__houses) l13 c13 k13,
    b_Net__houses := (fun_mk (st := s_Net__houses) l13 c13 k13).binds (ps := ["self"]) fun _ _ _ _ _ _ us hl => match us, hl with | [_], _ => rfl,
    a_Net__check_house := f14,
    fd_Net__check_house := _,
    F_Net__check_house := fun_mk (st := s_Net__check_house) l14 c14 k14,
    b_Net__check_house := (fun_mk (st := s_Net__check_house) l14 c14 k14).binds (ps := ["self", "place"]) fun _ _ _ _ _ _ us hl => match us, hl with | [_, _], _ => rfl,
    a_check_on_circle := f15,
    fd_check_on_circle := _,
    F_check_on_circle := fun_mk (st := s_check_on_circle) l15 c15 k15,
    b_check_on_circle := (fun_mk (st := s_check_on_circle) l15 c15 k15).binds (ps := ["size", "place"]) fun _ _ _ _ _ _ us hl => match us, hl with | [_, _], _ => rfl,
    g_check_on_circle := PySem.W.mg_of X G a15,
    a_Net__check_letter := f16,
    fd_Net__check_letter := _,
    F_Net__check_letter := fun_mk (st := s_Net__check_letter) l16 c16 k16,
    b_Net__check_letter := (fun_mk (st := s_Net__check_letter) l16 c16 k16).binds (ps := ["self", "at"]) fun _ _ _ _ _ _ us hl => match us, hl with | [_, _], _ => rfl,
    a_Net__house_at := f17,
    fd_Net__house_at := _,
    F_Net__house_at := fun_mk (st := s_Net__house_at) l17 c17 k17,
    b_Net__house_at := (fun_mk (st := s_Net__house_at) l17 c17 k17).binds (ps := ["self", "place"]) fun _ _ _ _ _ _ us hl => match us, hl with | [_, _], _ => rfl,
    a_Net__send := f18,
    fd_Net__send := _,
    F_Net__send := fun_mk (st := s_Net__send) l18 c18 k18,
    b_Net__send := (fun_mk (st := s_Net__send) l18 c18 k18).binds (ps := ["self", "letter"]) fun _ _ _ _ _ _ us hl => match us, hl with | [_, _], _ => rfl,
    a_Net__letters := f19,
    fd_Net__letters := _,
    F_Net__letters := fun_mk (st := s_Net__letters) l19 c19 k19,
    b_Net__letters := (fun_mk (st := s_Net__letters) l19 c19 k19).binds (ps := ["self"]) fun _ _ _ _ _ _ us hl => match us, hl with | [_], _ => rfl,
    a_Net__tell := f20,
    fd_Net__tell := _,
    F_Net__tell := fun_mk (st := s_Net__tell) l20 c20 k20,
    b_Net__tell := (fun_mk (st := s_Net__tell) l20 c20 k20).binds (ps := ["self", "house"]) fun _ _ _ _ _ _ us hl => match us, hl with | [_, _], _ => rfl,
    a_Net__ask := f21,
    fd_Net__ask := _,
    F_Net__ask := fun_mk (st := s_Net__ask) l21 c21 k21,
    b_Net__ask := (fun_mk (st := s_Net__ask) l21 c21 k21).binds (ps := ["self", "house"]) fun _ _ _ _ _ _ us hl => match us, hl with | [_, _], _ => rfl,
    a_Net__lose := f22,
    fd_Net__lose := _,
    F_Net__lose := fun_mk (st := s_Net__lose) l22 c22 k22,
    b_Net__lose := (fun_mk (st := s_Net__lose) l22 c22 k22).binds (ps := ["self", "at"]) fun _ _ _ _ _ _ us hl => match us, hl with | [_, _], _ => rfl,
    a_Net__repeat := f23,
    fd_Net__repeat := _,
    F_Net__repeat := fun_mk (st := s_Net__repeat) l23 c23 k23,
    b_Net__repeat := (fun_mk (st := s_Net__repeat) l23 c23 k23).binds (ps := ["self", "at"]) fun _ _ _ _ _ _ us hl => match us, hl with | [_, _], _ => rfl,
    a_Net__nexts := f24,
    fd_Net__nexts := _,
    F_Net__nexts := fun_mk (st := s_Net__nexts) l24 c24 k24,
    b_Net__nexts := (fun_mk (st := s_Net__nexts) l24 c24 k24).binds (ps := ["self"]) fun _ _ _ _ _ _ us hl => match us, hl with | [_], _ => rfl,
    a_Net__befores := f25,
    fd_Net__befores := _,
    F_Net__befores := fun_mk (st := s_Net__befores) l25 c25 k25,
    b_Net__befores := (fun_mk (st := s_Net__befores) l25 c25 k25).binds (ps := ["self"]) fun _ _ _ _ _ _ us hl => match us, hl with | [_], _ => rfl,
    a_Net__read := f26,
    fd_Net__read := _,
    F_Net__read := fun_mk (st := s_Net__read) l26 c26 k26,
    b_Net__read := (fun_mk (st := s_Net__read) l26 c26 k26).binds (ps := ["self", "at"]) fun _ _ _ _ _ _ us hl => match us, hl with | [_, _], _ => rfl,
    a_Net__check_letters := f27,
    fd_Net__check_letters := _,
    F_Net__check_letters := fun_mk (st := s_Net__check_letters) l27 c27 k27,
    b_Net__check_letters := (fun_mk (st := s_Net__check_letters) l27 c27 k27).binds (ps := ["self"]) fun _ _ _ _ _ _ us hl => match us, hl with | [_], _ => rfl,
    a_Net__check_places := f28,
    fd_Net__check_places := _,
    F_Net__check_places := fun_mk (st := s_Net__check_places) l28 c28 k28,
    b_Net__check_places := (fun_mk (st := s_Net__check_places) l28 c28 k28).binds (ps := ["self"]) fun _ _ _ _ _ _ us hl => match us, hl with | [_], _ => rfl,
    a_Net__take_befores := f29,
    fd_Net__take_befores := _,
    F_Net__take_befores := fun_mk (st := s_Net__take_befores) l29 c29 k29,
    b_Net__take_befores := (fun_mk (st := s_Net__take_befores) l29 c29 k29).binds (ps := ["self", "befores"]) fun _ _ _ _ _ _ us hl => match us, hl with | [_, _], _ => rfl,
    a_Net__init := f30,
    fd_Net__init := _,
    F_Net__init := FD30,
    kg_Net__init := _,
    kb_Net__init := dbk30,
    bd_Net__init := de30,
    bv_Net__init := dve30,
    b1_Net__init := dbe30,
    a_Net__check_free := f31,
    fd_Net__check_free := _,
    F_Net__check_free := fun_mk (st := s_Net__check_free) l31 c31 k31,
    b_Net__check_free := (fun_mk (st := s_Net__check_free) l31 c31 k31).binds (ps := ["self", "place"]) fun _ _ _ _ _ _ us hl => match us, hl with | [_, _], _ => rfl,
    a_Net__admit := f32,
    fd_Net__admit := _,
    F_Net__admit := fun_mk (st := s_Net__admit) l32 c32 k32,
    b_Net__admit := (fun_mk (st := s_Net__admit) l32 c32 k32).binds (ps := ["self", "place", "host"]) fun _ _ _ _ _ _ us hl => match us, hl with | [_, _, _], _ => rfl,
    a__law_far := f33,
    fd__law_far := _,
    F__law_far := fun_mk (st := s__law_far) l33 c33 k33,
    b__law_far := (fun_mk (st := s__law_far) l33 c33 k33).binds (ps := ["size", "start", "end"]) fun _ _ _ _ _ _ us hl => match us, hl with | [_, _, _], _ => rfl,
    g__law_far := PySem.W.mg_of X G a33,
    a__law_between := f34,
    fd__law_between := _,
    F__law_between := fun_mk (st := s__law_between) l34 c34 k34,
    b__law_between := (fun_mk (st := s__law_between) l34 c34 k34).binds (ps := ["size", "start", "place", "end"]) fun _ _ _ _ _ _ us hl => match us, hl with | [_, _, _, _], _ => rfl,
    g__law_between := PySem.W.mg_of X G a34,
    a__law_read := f35,
    fd__law_read := _,
    F__law_read := fun_mk (st := s__law_read) l35 c35 k35,
    b__law_read := (fun_mk (st := s__law_read) l35 c35 k35).binds (ps := ["size", "nexts", "behinds", "post", "at"]) fun _ _ _ _ _ _ us hl => match us, hl with | [_, _, _, _, _], _ => rfl,
    g__law_read := PySem.W.mg_of X G a35,
    a_Net__hold := f36,
    fd_Net__hold := _,
    F_Net__hold := fun_mk (st := s_Net__hold) l36 c36 k36,
    b_Net__hold := (fun_mk (st := s_Net__hold) l36 c36 k36).binds (ps := ["self", "house", "target"]) fun _ _ _ _ _ _ us hl => match us, hl with | [_, _, _], _ => rfl,
    a_Net__set_before := f37,
    fd_Net__set_before := _,
    F_Net__set_before := fun_mk (st := s_Net__set_before) l37 c37 k37,
    b_Net__set_before := (fun_mk (st := s_Net__set_before) l37 c37 k37).binds (ps := ["self", "house", "before"]) fun _ _ _ _ _ _ us hl => match us, hl with | [_, _, _], _ => rfl,
    a_Net__snapshot := f38,
    fd_Net__snapshot := _,
    F_Net__snapshot := fun_mk (st := s_Net__snapshot) l38 c38 k38,
    b_Net__snapshot := (fun_mk (st := s_Net__snapshot) l38 c38 k38).binds (ps := ["self"]) fun _ _ _ _ _ _ us hl => match us, hl with | [_], _ => rfl,
    a__pairs_said_by := f39,
    fd__pairs_said_by := _,
    F__pairs_said_by := fun_mk (st := s__pairs_said_by) l39 c39 k39,
    b__pairs_said_by := (fun_mk (st := s__pairs_said_by) l39 c39 k39).binds (ps := ["letter"]) fun _ _ _ _ _ _ us hl => match us, hl with | [_], _ => rfl,
    g__pairs_said_by := PySem.W.mg_of X G a39,
    a_sayings := f40,
    fd_sayings := _,
    F_sayings := fun_mk (st := s_sayings) l40 c40 k40,
    b_sayings := (fun_mk (st := s_sayings) l40 c40 k40).binds (ps := ["net"]) fun _ _ _ _ _ _ us hl => match us, hl with | [_], _ => rfl,
    g_sayings := PySem.W.mg_of X G a40,
    a__law_sayings := f41,
    fd__law_sayings := _,
    F__law_sayings := fun_mk (st := s__law_sayings) l41 c41 k41,
    b__law_sayings := (fun_mk (st := s__law_sayings) l41 c41 k41).binds (ps := ["size", "nexts", "behinds", "post"]) fun _ _ _ _ _ _ us hl => match us, hl with | [_, _, _, _], _ => rfl,
    g__law_sayings := PySem.W.mg_of X G a41,
    a__law_snapshot := f42,
    fd__law_snapshot := _,
    F__law_snapshot := fun_mk (st := s__law_snapshot) l42 c42 k42,
    b__law_snapshot := (fun_mk (st := s__law_snapshot) l42 c42 k42).binds (ps := ["size", "nexts", "behinds", "post"]) fun _ _ _ _ _ _ us hl => match us, hl with | [_, _, _, _], _ => rfl,
    g__law_snapshot := PySem.W.mg_of X G a42,
    a__law_places := f43,
    fd__law_places := _,
    F__law_places := fun_mk (st := s__law_places) l43 c43 k43,
    b__law_places := (fun_mk (st := s__law_places) l43 c43 k43).binds (ps := ["tape", "size", "count"]) fun _ _ _ _ _ _ us hl => match us, hl with | [_, _, _], _ => rfl,
    g__law_places := PySem.W.mg_of X G a43,
    a__law_nexts := f44,
    fd__law_nexts := _,
    F__law_nexts := fun_mk (st := s__law_nexts) l44 c44 k44,
    b__law_nexts := (fun_mk (st := s__law_nexts) l44 c44 k44).binds (ps := ["tape", "places"]) fun _ _ _ _ _ _ us hl => match us, hl with | [_, _], _ => rfl,
    g__law_nexts := PySem.W.mg_of X G a44,
    a__law_parts := f45,
    fd__law_parts := _,
    F__law_parts := fun_mk (st := s__law_parts) l45 c45 k45,
    b__law_parts := (fun_mk (st := s__law_parts) l45 c45 k45).binds (ps := ["tape", "places"]) fun _ _ _ _ _ _ us hl => match us, hl with | [_, _], _ => rfl,
    g__law_parts := PySem.W.mg_of X G a45,
    a__law_behinds := f46,
    fd__law_behinds := _,
    F__law_behinds := fun_mk (st := s__law_behinds) l46 c46 k46,
    b__law_behinds := (fun_mk (st := s__law_behinds) l46 c46 k46).binds (ps := ["tape", "nexts"]) fun _ _ _ _ _ _ us hl => match us, hl with | [_, _], _ => rfl,
    g__law_behinds := PySem.W.mg_of X G a46,
    a__law_post := f47,
    fd__law_post := _,
    F__law_post := fun_mk (st := s__law_post) l47 c47 k47,
    b__law_post := (fun_mk (st := s__law_post) l47 c47 k47).binds (ps := ["tape", "nexts"]) fun _ _ _ _ _ _ us hl => match us, hl with | [_, _], _ => rfl,
    g__law_post := PySem.W.mg_of X G a47,
    a__law_listed := f48,
    fd__law_listed := _,
    F__law_listed := fun_mk (st := s__law_listed) l48 c48 k48,
    b__law_listed := (fun_mk (st := s__law_listed) l48 c48 k48).binds (ps := ["net", "size", "nexts", "behinds", "post"]) fun _ _ _ _ _ _ us hl => match us, hl with | [_, _, _, _, _], _ => rfl,
    g__law_listed := PySem.W.mg_of X G a48,
    a__law_change := f49,
    fd__law_change := _,
    F__law_change := fun_mk (st := s__law_change) l49 c49 k49,
    b__law_change := (fun_mk (st := s__law_change) l49 c49 k49).binds (ps := ["tape", "net", "size", "nexts", "behinds", "post"]) fun _ _ _ _ _ _ us hl => match us, hl with | [_, _, _, _, _, _], _ => rfl,
    g__law_change := PySem.W.mg_of X G a49,
    a_law := fa,
    fd_law := _,
    F_law := fun_mk (st := s_law) l50 c50 k50,
    b_law := (fun_mk (st := s_law) l50 c50 k50).binds (ps := ["script"]) fun _ _ _ _ _ _ us hl => match us, hl with | [_], _ => rfl,
    g_law := PySem.W.mg_of X G a50,
    C_House := C0,
    mc_House := PySem.W.mg_of X G aC0,
    cl_House := ⟨pg0, hd0, po0, sa0⟩,
    na_House_size := na0_0,
    na_House_place := na0_1,
    na_House_next_house := na0_2,
    na_House_before := na0_3,
    mk_House := ⟨mk0, am6, ai6, kc0⟩,
    me_House__tell_letter := ⟨am7, ai7, k7⟩,
    me_House__ask_letter := ⟨am8, ai8, k8⟩,
    me_House__answer_to := ⟨am9, ai9, k9⟩,
    me_House__hear_tell := ⟨am10, ai10, k10⟩,
    me_House__hear_answer := ⟨am11, ai11, k11⟩,
    me_House__hear := ⟨am12, ai12, k12⟩,
    C_Net := C1,
    mc_Net := PySem.W.mg_of X G aC1,
    cl_Net := ⟨pg1, hd1, po1, sa1⟩,
    na_Net_size := na1_0,
    na_Net__nexts := na1_1,
    na_Net__befores := na1_2,
    na_Net__letters := na1_3,
    me_Net__houses := ⟨am13, ai13, k13⟩,
    me_Net__check_house := ⟨am14, ai14, k14⟩,
    me_Net__check_letter := ⟨am16, ai16, k16⟩,
    me_Net__house_at := ⟨am17, ai17, k17⟩,
    me_Net__send := ⟨am18, ai18, k18⟩,
    me_Net__letters := ⟨am19, ai19, k19⟩,
    me_Net__tell := ⟨am20, ai20, k20⟩,
    me_Net__ask := ⟨am21, ai21, k21⟩,
    me_Net__lose := ⟨am22, ai22, k22⟩,
    me_Net__repeat := ⟨am23, ai23, k23⟩,
    me_Net__nexts := ⟨am24, ai24, k24⟩,
    me_Net__befores := ⟨am25, ai25, k25⟩,
    me_Net__read := ⟨am26, ai26, k26⟩,
    me_Net__check_letters := ⟨am27, ai27, k27⟩,
    me_Net__check_places := ⟨am28, ai28, k28⟩,
    me_Net__take_befores := ⟨am29, ai29, k29⟩,
    mk_Net := ⟨mk1, am30, ai30, kc1⟩,
    me_Net__check_free := ⟨am31, ai31, k31⟩,
    me_Net__admit := ⟨am32, ai32, k32⟩,
    me_Net__hold := ⟨am36, ai36, k36⟩,
    me_Net__set_before := ⟨am37, ai37, k37⟩,
    me_Net__snapshot := ⟨am38, ai38, k38⟩,
    C_NoHouse := E0,
    mc_NoHouse := PySem.W.mg_of X G aE0,
    C_OffCircle := E1,
    mc_OffCircle := PySem.W.mg_of X G aE1,
    C_NoLetter := E2,
    mc_NoLetter := PySem.W.mg_of X G aE2,
    C_TakenPlace := E3,
    mc_TakenPlace := PySem.W.mg_of X G aE3 }
  exact ⟨T.fd_law, fun s v => .of_eq rfl, fun base _ _ => T.ok_law⟩
end Z
open PySem PySem.W PyProof.Rows
set_option maxHeartbeats 0 in
theorem PySem.Challenge.cw_ringlaps_k15_sayings_listed_holds : PySem.Challenge.rw_ringlaps_k15_sayings_listed.Holds := by
  w_on; o_law; k_head; (case hw => w_witness2)
  k_fill
  refine L2.walk_of (l := PySem.Challenge.rw_ringlaps_k15_sayings_listed) (n := 63) (k := 8) (x := "script") (CX := fun _ => L2.CX0) (sp := fun w => Z.sp_law _) rfl (by decide) rfl ⟨rfl, by decide, by decide⟩ (fun w h Y => PySem.W.kIn_of Y) ?F (fun _ _ a ns hl _ hS => ⟨a, ns, rfl, hS, hl, fun _ => rfl⟩) (fun _ _ _ _ _ h => h)
  case F =>
    intro w mg fa h KX G hmg
    refine' Z.all_mk (l := PySem.Challenge.rw_ringlaps_k15_sayings_listed) KX G hmg ?a0 ?l0 ?c0 ?k0 ?a1 ?l1 ?c1 ?k1 ?a2 ?l2 ?c2 ?k2 ?a3 ?l3 ?c3 ?k3 ?a4 ?l4 ?c4 ?k4 ?a5 ?l5 ?c5 ?k5 ?lt6 ?l6 ?c6 ?k6 ?l7 ?c7 ?k7 ?l8 ?c8 ?k8 ?l9 ?c9 ?k9 ?l10 ?c10 ?k10 ?l11 ?c11 ?k11 ?l12 ?c12 ?k12 ?l13 ?c13 ?k13 ?l14 ?c14 ?k14 ?a15 ?l15 ?c15 ?k15 ?l16 ?c16 ?k16 ?l17 ?c17 ?k17 ?l18 ?c18 ?k18 ?l19 ?c19 ?k19 ?l20 ?c20 ?k20 ?l21 ?c21 ?k21 ?l22 ?c22 ?k22 ?l23 ?c23 ?k23 ?l24 ?c24 ?k24 ?l25 ?c25 ?k25 ?l26 ?c26 ?k26 ?l27 ?c27 ?k27 ?l28 ?c28 ?k28 ?l29 ?c29 ?k29 ?kw30_0 ?kw30_1 ?l30 ?c30 ?k30 ?l31 ?c31 ?k31 ?l32 ?c32 ?k32 ?a33 ?l33 ?c33 ?k33 ?a34 ?l34 ?c34 ?k34 ?a35 ?l35 ?c35 ?k35 ?l36 ?c36 ?k36 ?l37 ?c37 ?k37 ?l38 ?c38 ?k38 ?a39 ?l39 ?c39 ?k39 ?a40 ?l40 ?c40 ?k40 ?a41 ?l41 ?c41 ?k41 ?a42 ?l42 ?c42 ?k42 ?a43 ?l43 ?c43 ?k43 ?a44 ?l44 ?c44 ?k44 ?a45 ?l45 ?c45 ?k45 ?a46 ?l46 ?c46 ?k46 ?a47 ?l47 ?c47 ?k47 ?a48 ?l48 ?c48 ?k48 ?a49 ?l49 ?c49 ?k49 ?a50 ?l50 ?c50 ?k50 ?aC0 ?pg0 ?hd0 ?po0 ?sa0 ?mk0 ?kc0 ?na0_0 ?na0_1 ?na0_2 ?na0_3 ?am6 ?ai6 ?am7 ?ai7 ?am8 ?ai8 ?am9 ?ai9 ?am10 ?ai10 ?am11 ?ai11 ?am12 ?ai12 ?aC1 ?pg1 ?hd1 ?po1 ?sa1 ?mk1 ?kc1 ?na1_0 ?na1_1 ?na1_2 ?na1_3 ?am13 ?ai13 ?am14 ?ai14 ?am16 ?ai16 ?am17 ?ai17 ?am18 ?ai18 ?am19 ?ai19 ?am20 ?ai20 ?am21 ?ai21 ?am22 ?ai22 ?am23 ?ai23 ?am24 ?ai24 ?am25 ?ai25 ?am26 ?ai26 ?am27 ?ai27 ?am28 ?ai28 ?am29 ?ai29 ?am30 ?ai30 ?am31 ?ai31 ?am32 ?ai32 ?am36 ?ai36 ?am37 ?ai37 ?am38 ?ai38 ?aE0 ?eb0 ?ec0 ?et0 ?aE1 ?eb1 ?ec1 ?et1 ?aE2 ?eb2 ?ec2 ?et2 ?aE3 ?eb3 ?ec3 ?et3 ?z0 ?z1 ?z2 ?z3 ?z4 ?z5 ?z6 ?z7 ?z8 ?z9 ?z10 ?z11
    (case a0 => k_is); (case a1 => k_is); (case a2 => k_is); (case a3 => k_is); (case a4 => k_is); (case a5 => k_is); (case a15 => k_is); (case a33 => k_is); (case a34 => k_is); (case a35 => k_is); (case a39 => k_is); (case a40 => k_is); (case a41 => k_is); (case a42 => k_is); (case a43 => k_is); (case a44 => k_is); (case a45 => k_is); (case a46 => k_is); (case a47 => k_is); (case a48 => k_is); (case a49 => k_is); (case a50 => k_is); (case aC0 => k_is); (case aC1 => k_is); (case aE0 => k_is); (case aE1 => k_is); (case aE2 => k_is); (case aE3 => k_is); (case am6 => k_is); (case am7 => k_is); (case am8 => k_is); (case am9 => k_is); (case am10 => k_is); (case am11 => k_is); (case am12 => k_is); (case am13 => k_is); (case am14 => k_is); (case am16 => k_is); (case am17 => k_is); (case am18 => k_is); (case am19 => k_is); (case am20 => k_is); (case am21 => k_is); (case am22 => k_is); (case am23 => k_is); (case am24 => k_is); (case am25 => k_is); (case am26 => k_is); (case am27 => k_is); (case am28 => k_is); (case am29 => k_is); (case am30 => k_is); (case am31 => k_is); (case am32 => k_is); (case am36 => k_is); (case am37 => k_is); (case am38 => k_is); (case l0 => k_is); (case l1 => k_is); (case l2 => k_is); (case l3 => k_is); (case l4 => k_is); (case l5 => k_is); (case l6 => k_is); (case l7 => k_is); (case l8 => k_is); (case l9 => k_is); (case l10 => k_is); (case l11 => k_is); (case l12 => k_is); (case l13 => k_is); (case l14 => k_is); (case l15 => k_is); (case l16 => k_is); (case l17 => k_is); (case l18 => k_is); (case l19 => k_is); (case l20 => k_is); (case l21 => k_is); (case l22 => k_is); (case l23 => k_is); (case l24 => k_is); (case l25 => k_is); (case l26 => k_is); (case l27 => k_is); (case l28 => k_is); (case l29 => k_is); (case l30 => k_is); (case l31 => k_is); (case l32 => k_is); (case l33 => k_is); (case l34 => k_is); (case l35 => k_is); (case l36 => k_is); (case l37 => k_is); (case l38 => k_is); (case l39 => k_is); (case l40 => k_is); (case l41 => k_is); (case l42 => k_is); (case l43 => k_is); (case l44 => k_is); (case l45 => k_is); (case l46 => k_is); (case l47 => k_is); (case l48 => k_is); (case l49 => k_is); (case l50 => k_is); (case c0 => k_is); (case k0 => k_is); (case c1 => k_is); (case k1 => k_is); (case c2 => k_is); (case k2 => k_is); (case c3 => k_is); (case k3 => k_is); (case c4 => k_is); (case k4 => k_is); (case c5 => k_is); (case k5 => k_is); (case lt6 => k_is); (case c6 => k_is); (case k6 => k_is); (case c7 => k_is); (case k7 => k_is); (case c8 => k_is); (case k8 => k_is); (case c9 => k_is); (case k9 => k_is); (case c10 => k_is); (case k10 => k_is); (case c11 => k_is); (case k11 => k_is); (case c12 => k_is); (case k12 => k_is); (case c13 => k_is); (case k13 => k_is); (case c14 => k_is); (case k14 => k_is); (case c15 => k_is); (case k15 => k_is); (case c16 => k_is); (case k16 => k_is); (case c17 => k_is); (case k17 => k_is); (case c18 => k_is); (case k18 => k_is); (case c19 => k_is); (case k19 => k_is); (case c20 => k_is); (case k20 => k_is); (case c21 => k_is); (case k21 => k_is); (case c22 => k_is); (case k22 => k_is); (case c23 => k_is); (case k23 => k_is); (case c24 => k_is); (case k24 => k_is); (case c25 => k_is); (case k25 => k_is); (case c26 => k_is); (case k26 => k_is); (case c27 => k_is); (case k27 => k_is); (case c28 => k_is); (case k28 => k_is); (case c29 => k_is); (case k29 => k_is); (case kw30_0 => k_is); (case kw30_1 => k_is); (case c30 => k_is); (case k30 => k_is); (case c31 => k_is); (case k31 => k_is); (case c32 => k_is); (case k32 => k_is); (case c33 => k_is); (case k33 => k_is); (case c34 => k_is); (case k34 => k_is); (case c35 => k_is); (case k35 => k_is); (case c36 => k_is); (case k36 => k_is); (case c37 => k_is); (case k37 => k_is); (case c38 => k_is); (case k38 => k_is); (case c39 => k_is); (case k39 => k_is); (case c40 => k_is); (case k40 => k_is); (case c41 => k_is); (case k41 => k_is); (case c42 => k_is); (case k42 => k_is); (case c43 => k_is); (case k43 => k_is); (case c44 => k_is); (case k44 => k_is); (case c45 => k_is); (case k45 => k_is); (case c46 => k_is); (case k46 => k_is); (case c47 => k_is); (case k47 => k_is); (case c48 => k_is); (case k48 => k_is); (case c49 => k_is); (case k49 => k_is); (case c50 => k_is); (case k50 => k_is); (case pg0 => k_is); (case hd0 => k_is); (case po0 => k_is); (case sa0 => k_is); (case mk0 => k_is); (case kc0 => k_is); (case na0_0 => k_is); (case na0_1 => k_is); (case na0_2 => k_is); (case na0_3 => k_is); (case ai6 => k_is); (case ai7 => k_is); (case ai8 => k_is); (case ai9 => k_is); (case ai10 => k_is); (case ai11 => k_is); (case ai12 => k_is); (case pg1 => k_is); (case hd1 => k_is); (case po1 => k_is); (case sa1 => k_is); (case mk1 => k_is); (case kc1 => k_is); (case na1_0 => k_is); (case na1_1 => k_is); (case na1_2 => k_is); (case na1_3 => k_is); (case ai13 => k_is); (case ai14 => k_is); (case ai16 => k_is); (case ai17 => k_is); (case ai18 => k_is); (case ai19 => k_is); (case ai20 => k_is); (case ai21 => k_is); (case ai22 => k_is); (case ai23 => k_is); (case ai24 => k_is); (case ai25 => k_is); (case ai26 => k_is); (case ai27 => k_is); (case ai28 => k_is); (case ai29 => k_is); (case ai30 => k_is); (case ai31 => k_is); (case ai32 => k_is); (case ai36 => k_is); (case ai37 => k_is); (case ai38 => k_is); (case eb0 => k_is); (case ec0 => k_is); (case et0 => k_is); (case eb1 => k_is); (case ec1 => k_is); (case et1 => k_is); (case eb2 => k_is); (case ec2 => k_is); (case et2 => k_is); (case eb3 => k_is); (case ec3 => k_is); (case et3 => k_is); (case z0 => k_is); (case z1 => k_is); (case z2 => k_is); (case z3 => k_is); (case z4 => k_is); (case z5 => k_is); (case z6 => k_is); (case z7 => k_is); (case z8 => k_is); (case z9 => k_is); (case z10 => k_is); (case z11 => k_is)
#print axioms PySem.Challenge.cw_ringlaps_k15_sayings_listed_holds
