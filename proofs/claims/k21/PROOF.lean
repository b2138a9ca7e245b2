import PyProof.Rows.All
import Wide.All
import OpenK.AllK
import Wide.FinOn
import PySem.Challenge.RW_ringlaps_k21_plain_exactly
import HandS.ForMost
import HandS.Star
import HandS.Defaults
import HandS.MakeKw
import HandS.Style
import HandS.Zip0
import HandS.Zip
import KE.KDictZip
import HandS.Steps
import HandS.ListItems
import HandS.Codes
import HandS.Conv
import HandS.Dict
import HandS.DictComp
import HandS.More
import HandS.Small
import HandS.MakeKwOnly
import HandS.ForDict
import HandS.Walk
import HandS.Wide
import HandS.Flow
import HandS.IsInst
import HandS.Sort
import HandS.SortKw
import HandS.Iter
import KE.KEqSeq
import KE.KUnpackStar
import KE.KDictSum
import HandS.ExcInit
import HandS.ExcInitHot
import HandS.ExcCtx
import HandS.HotCalls
import HandS.ExcOwn
import HandS.SetFor
import KE.KSortTupAny
import HandS.SetBool
import HandS.Strs
import HandS.SortOrd
import HandS.ExcValue
import KE.KExcIs
import HandS.SetKeys
import HandS.Head0
import HandS.Head1
import HandS.Head2
import HandS.HeadEnd
import HandS.HeadHook1
import HandS.HeadHook2
import HandS.HeadHook4
import KE.SortKeyHeap
import KE.DataMinKey
import HandS.NestedK
import HandS.FltList
import HandS.EndTab
import HandS.HeadWalk
import HandS.TupSets
set_option Elab.async false
set_option linter.all false
set_option maxRecDepth 100000
set_option maxHeartbeats 4000000
namespace Z
open PySem PySem.Spec PyProof.Rows L2
def lamTf : List He.Defn := [("nearest_ahead", none), ("mark_row", none)]
def LT (K : PySem.W.Frag) : List (Addr × Str) := [((He.cT K ("nearest_ahead", none)).2, (("nearest_ahead" : Str) ++ ".<locals>." ++ "<lambda>")), ((He.cT K ("mark_row", none)).2, (("mark_row" : Str) ++ ".<locals>." ++ "<lambda>"))]
def topS (i : Nat) : Stmt := PySem.Challenge.pw_ringlaps_k21_plain_exactly.main.body.getD i (.Pass ⟨0, 0, 0, 0⟩)
abbrev s__law_nexts : Stmt := topS 54
theorem sc__law_nexts : FnScope ["tape", "places", "nexts", "count", "first", "last", "ring", "at"] ["tape", "places"] (defScope s__law_nexts) := ⟨rfl, rfl, rfl, by decide +kernel, rfl, by decide +kernel, by decide +kernel⟩
abbrev s_far : Stmt := topS 10
theorem sc_far : FnScope ["size", "start", "end"] ["size", "start", "end"] (defScope s_far) := ⟨rfl, rfl, rfl, by decide +kernel, rfl, by decide +kernel, by decide +kernel⟩
abbrev s_between : Stmt := topS 11
theorem sc_between : FnScope ["size", "start", "place", "end"] ["size", "start", "place", "end"] (defScope s_between) := ⟨rfl, rfl, rfl, by decide +kernel, rfl, by decide +kernel, by decide +kernel⟩
abbrev s_check_on_circle : Stmt := topS 13
theorem sc_check_on_circle : FnScope ["size", "place"] ["size", "place"] (defScope s_check_on_circle) := ⟨rfl, rfl, rfl, by decide +kernel, rfl, by decide +kernel, by decide +kernel⟩
abbrev s_nearest_ahead : Stmt := topS 12
theorem sc_nearest_ahead : FnScope ["size", "start", "places"] ["size", "start", "places"] (defScope s_nearest_ahead) := ⟨rfl, rfl, rfl, by decide +kernel, rfl, by decide +kernel, by decide +kernel⟩
abbrev s_Walk__init : Stmt := inClass (topS 15) 0
theorem sc_Walk__init : FnScope ["self", "size", "places"] ["self", "size", "places"] (defScope s_Walk__init) := ⟨rfl, rfl, rfl, by decide +kernel, rfl, by decide +kernel, by decide +kernel⟩
abbrev s_Walk__steps : Stmt := inClass (topS 15) 9
theorem sc_Walk__steps : FnScope ["self"] ["self"] (defScope s_Walk__steps) := ⟨rfl, rfl, rfl, by decide +kernel, rfl, by decide +kernel, by decide +kernel⟩
abbrev s_Walk__is_closed : Stmt := inClass (topS 15) 6
theorem sc_Walk__is_closed : FnScope ["self"] ["self"] (defScope s_Walk__is_closed) := ⟨rfl, rfl, rfl, by decide +kernel, rfl, by decide +kernel, by decide +kernel⟩
abbrev s_Walk__total : Stmt := inClass (topS 15) 4
theorem sc_Walk__total : FnScope ["self", "start", "end"] ["self"] (defScope s_Walk__total) := ⟨rfl, rfl, rfl, by decide +kernel, rfl, by decide +kernel, by decide +kernel⟩
abbrev s_Walk__turns : Stmt := inClass (topS 15) 7
theorem sc_Walk__turns : FnScope ["self"] ["self"] (defScope s_Walk__turns) := ⟨rfl, rfl, rfl, by decide +kernel, rfl, by decide +kernel, by decide +kernel⟩
abbrev s_Net__next_of : Stmt := inClass (topS 48) 5
theorem sc_Net__next_of : FnScope ["self", "house"] ["self", "house"] (defScope s_Net__next_of) := ⟨rfl, rfl, rfl, by decide +kernel, rfl, by decide +kernel, by decide +kernel⟩
abbrev s_Net__hold : Stmt := inClass (topS 48) 15
theorem sc_Net__hold : FnScope ["self", "house", "target", "old"] ["self", "house", "target"] (defScope s_Net__hold) := ⟨rfl, rfl, rfl, by decide +kernel, rfl, by decide +kernel, by decide +kernel⟩
abbrev s_Net__set_before : Stmt := inClass (topS 48) 16
theorem sc_Net__set_before : FnScope ["self", "house", "before"] ["self", "house", "before"] (defScope s_Net__set_before) := ⟨rfl, rfl, rfl, by decide +kernel, rfl, by decide +kernel, by decide +kernel⟩
abbrev s_Net__tell : Stmt := inClass (topS 48) 9
theorem sc_Net__tell : FnScope ["self", "house"] ["self", "house"] (defScope s_Net__tell) := ⟨rfl, rfl, rfl, by decide +kernel, rfl, by decide +kernel, by decide +kernel⟩
abbrev s_Net__ask : Stmt := inClass (topS 48) 10
theorem sc_Net__ask : FnScope ["self", "house"] ["self", "house"] (defScope s_Net__ask) := ⟨rfl, rfl, rfl, by decide +kernel, rfl, by decide +kernel, by decide +kernel⟩
abbrev s_Net__repeat : Stmt := inClass (topS 48) 13
theorem sc_Net__repeat : FnScope ["self", "at"] ["self", "at"] (defScope s_Net__repeat) := ⟨rfl, rfl, rfl, by decide +kernel, rfl, by decide +kernel, by decide +kernel⟩
abbrev s_Net__lose : Stmt := inClass (topS 48) 12
theorem sc_Net__lose : FnScope ["self", "at"] ["self", "at"] (defScope s_Net__lose) := ⟨rfl, rfl, rfl, by decide +kernel, rfl, by decide +kernel, by decide +kernel⟩
abbrev s_Net__read : Stmt := inClass (topS 48) 11
theorem sc_Net__read : FnScope ["self", "at", "letter", "reader", "house", "answer"] ["self", "at"] (defScope s_Net__read) := ⟨rfl, rfl, rfl, by decide +kernel, rfl, by decide +kernel, by decide +kernel⟩
abbrev s__lengths_from : Stmt := topS 27
theorem sc__lengths_from : FnScope ["net", "start", "lengths", "house", "length", "following"] ["net", "start"] (defScope s__lengths_from) := ⟨rfl, rfl, rfl, by decide +kernel, rfl, by decide +kernel, by decide +kernel⟩
abbrev s_from_least : Stmt := topS 17
theorem sc_from_least : FnScope ["order", "at"] ["order"] (defScope s_from_least) := ⟨rfl, rfl, rfl, by decide +kernel, rfl, by decide +kernel, by decide +kernel⟩
abbrev s__gate_after : Stmt := topS 28
theorem sc__gate_after : FnScope ["net", "met"] ["net", "met"] (defScope s__gate_after) := ⟨rfl, rfl, rfl, by decide +kernel, rfl, by decide +kernel, by decide +kernel⟩
abbrev s_ring_of : Stmt := topS 23
theorem sc_ring_of : FnScope ["net", "house", "met"] ["net", "house"] (defScope s_ring_of) := ⟨rfl, rfl, rfl, by decide +kernel, rfl, by decide +kernel, by decide +kernel⟩
abbrev s_piece_of : Stmt := topS 24
theorem sc_piece_of : FnScope ["net", "house", "ring", "other"] ["net", "house"] (defScope s_piece_of) := ⟨rfl, rfl, rfl, by decide +kernel, rfl, by decide +kernel, by decide +kernel⟩
abbrev s_pieces : Stmt := topS 25
theorem sc_pieces : FnScope ["net", "found", "house"] ["net"] (defScope s_pieces) := ⟨rfl, rfl, rfl, by decide +kernel, rfl, by decide +kernel, by decide +kernel⟩
abbrev s_order_turns : Stmt := topS 19
theorem sc_order_turns : FnScope ["size", "order"] ["size", "order"] (defScope s_order_turns) := ⟨rfl, rfl, rfl, by decide +kernel, rfl, by decide +kernel, by decide +kernel⟩
abbrev s_turns_of : Stmt := topS 26
theorem sc_turns_of : FnScope ["net", "house"] ["net", "house"] (defScope s_turns_of) := ⟨rfl, rfl, rfl, by decide +kernel, rfl, by decide +kernel, by decide +kernel⟩
abbrev s_order_nexts : Stmt := topS 18
theorem sc_order_nexts : FnScope ["order", "followers", "place"] ["order"] (defScope s_order_nexts) := ⟨rfl, rfl, rfl, by decide +kernel, rfl, by decide +kernel, by decide +kernel⟩
abbrev s_way_length : Stmt := topS 21
theorem sc_way_length : FnScope ["net", "start", "end", "lengths"] ["net", "start", "end"] (defScope s_way_length) := ⟨rfl, rfl, rfl, by decide +kernel, rfl, by decide +kernel, by decide +kernel⟩
abbrev s_house_at : Stmt := topS 22
theorem sc_house_at : FnScope ["net", "start", "distance", "lengths", "last", "gate", "lap", "skipped", "house", "length"] ["net", "start", "distance"] (defScope s_house_at) := ⟨rfl, rfl, rfl, by decide +kernel, rfl, by decide +kernel, by decide +kernel⟩
abbrev s_sayings : Stmt := topS 34
theorem sc_sayings : FnScope ["net", "pairs", "letter", "start", "end", "house", "before"] ["net"] (defScope s_sayings) := ⟨rfl, rfl, rfl, by decide +kernel, rfl, by decide +kernel, by decide +kernel⟩
abbrev s__pairs_said_by : Stmt := topS 37
theorem sc__pairs_said_by : FnScope ["letter", "word", "reader", "sender", "named"] ["letter"] (defScope s__pairs_said_by) := ⟨rfl, rfl, rfl, by decide +kernel, rfl, by decide +kernel, by decide +kernel⟩
abbrev s_holds_true : Stmt := topS 35
theorem sc_holds_true : FnScope ["net", "saying", "start", "end", "length"] ["net", "saying"] (defScope s_holds_true) := ⟨rfl, rfl, rfl, by decide +kernel, rfl, by decide +kernel, by decide +kernel⟩
abbrev s_first_untrue : Stmt := topS 36
theorem sc_first_untrue : FnScope ["net", "saying"] ["net"] (defScope s_first_untrue) := ⟨rfl, rfl, rfl, by decide +kernel, rfl, by decide +kernel, by decide +kernel⟩
abbrev s_marks_of : Stmt := topS 30
theorem sc_marks_of : FnScope ["net", "house", "piece", "goal", "least", "goal_mark", "lap", "other"] ["net", "house"] (defScope s_marks_of) := ⟨rfl, rfl, rfl, by decide +kernel, rfl, by decide +kernel, by decide +kernel⟩
abbrev s_mark_row : Stmt := topS 31
theorem sc_mark_row : FnScope ["net", "house", "lap", "least", "marks"] ["net", "house"] (defScope s_mark_row) := ⟨rfl, rfl, rfl, by decide +kernel, rfl, by decide +kernel, by decide +kernel⟩
abbrev s__lap_of : Stmt := topS 32
theorem sc__lap_of : FnScope ["net", "house"] ["net", "house"] (defScope s__lap_of) := ⟨rfl, rfl, rfl, by decide +kernel, rfl, by decide +kernel, by decide +kernel⟩
abbrev s_told_end : Stmt := topS 39
theorem sc_told_end : FnScope ["net", "ends", "piece"] ["net"] (defScope s_told_end) := ⟨rfl, rfl, rfl, by decide +kernel, rfl, by decide +kernel, by decide +kernel⟩
abbrev s_is_plain : Stmt := topS 40
theorem sc_is_plain : FnScope ["net"] ["net"] (defScope s_is_plain) := ⟨rfl, rfl, rfl, by decide +kernel, rfl, by decide +kernel, by decide +kernel⟩
abbrev s_ends_plain : Stmt := topS 41
theorem sc_ends_plain : FnScope ["net"] ["net"] (defScope s_ends_plain) := ⟨rfl, rfl, rfl, by decide +kernel, rfl, by decide +kernel, by decide +kernel⟩
abbrev s__check_true : Stmt := topS 42
theorem sc__check_true : FnScope ["net", "saying"] ["net"] (defScope s__check_true) := ⟨rfl, rfl, rfl, by decide +kernel, rfl, by decide +kernel, by decide +kernel⟩
abbrev s__plain_nexts : Stmt := topS 43
theorem sc__plain_nexts : FnScope ["net", "houses", "house"] ["net"] (defScope s__plain_nexts) := ⟨rfl, rfl, rfl, by decide +kernel, rfl, by decide +kernel, by decide +kernel⟩
abbrev s__ascending : Stmt := topS 44
theorem sc__ascending : FnScope ["table", "house"] ["table"] (defScope s__ascending) := ⟨rfl, rfl, rfl, by decide +kernel, rfl, by decide +kernel, by decide +kernel⟩
abbrev s__law_far : Stmt := topS 55
theorem sc__law_far : FnScope ["size", "start", "end", "steps"] ["size", "start", "end"] (defScope s__law_far) := ⟨rfl, rfl, rfl, by decide +kernel, rfl, by decide +kernel, by decide +kernel⟩
abbrev s__law_between : Stmt := topS 56
theorem sc__law_between : FnScope ["size", "start", "place", "end"] ["size", "start", "place", "end"] (defScope s__law_between) := ⟨rfl, rfl, rfl, by decide +kernel, rfl, by decide +kernel, by decide +kernel⟩
abbrev s__law_read : Stmt := topS 63
theorem sc__law_read : FnScope ["size", "nexts", "behinds", "post", "at", "letter", "reader", "sender", "before"] ["size", "nexts", "behinds", "post", "at"] (defScope s__law_read) := ⟨rfl, rfl, rfl, by decide +kernel, rfl, by decide +kernel, by decide +kernel⟩
abbrev s__law_sayings : Stmt := topS 62
theorem sc__law_sayings : FnScope ["size", "nexts", "behinds", "post", "one", "said", "letter"] ["size", "nexts", "behinds", "post"] (defScope s__law_sayings) := ⟨rfl, rfl, rfl, by decide +kernel, rfl, by decide +kernel, by decide +kernel⟩
abbrev s__law_holds : Stmt := topS 61
theorem sc__law_holds : FnScope ["size", "nexts", "saying", "at", "length", "k"] ["size", "nexts", "saying"] (defScope s__law_holds) := ⟨rfl, rfl, rfl, by decide +kernel, rfl, by decide +kernel, by decide +kernel⟩
abbrev s__law_turns : Stmt := topS 60
theorem sc__law_turns : FnScope ["size", "nexts", "house", "total", "one"] ["size", "nexts", "house"] (defScope s__law_turns) := ⟨rfl, rfl, rfl, by decide +kernel, rfl, by decide +kernel, by decide +kernel⟩
abbrev s__law_ring : Stmt := topS 57
theorem sc__law_ring : FnScope ["nexts", "house", "k", "ring", "at"] ["nexts", "house"] (defScope s__law_ring) := ⟨rfl, rfl, rfl, by decide +kernel, rfl, by decide +kernel, by decide +kernel⟩
abbrev s__law_root : Stmt := topS 58
theorem sc__law_root : FnScope ["nexts", "house"] ["nexts", "house"] (defScope s__law_root) := ⟨rfl, rfl, rfl, by decide +kernel, rfl, by decide +kernel, by decide +kernel⟩
abbrev s__law_piece : Stmt := topS 59
theorem sc__law_piece : FnScope ["nexts", "house", "root", "other"] ["nexts", "house"] (defScope s__law_piece) := ⟨rfl, rfl, rfl, by decide +kernel, rfl, by decide +kernel, by decide +kernel⟩
abbrev s__law_untrue : Stmt := topS 69
theorem sc__law_untrue : FnScope ["size", "nexts", "behinds", "post", "saying"] ["size", "nexts", "behinds", "post"] (defScope s__law_untrue) := ⟨rfl, rfl, rfl, by decide +kernel, rfl, by decide +kernel, by decide +kernel⟩
abbrev s__law_plain : Stmt := topS 70
theorem sc__law_plain : FnScope ["places", "houses", "nexts", "k"] ["places"] (defScope s__law_plain) := ⟨rfl, rfl, rfl, by decide +kernel, rfl, by decide +kernel, by decide +kernel⟩
abbrev s__law_beginning : Stmt := topS 71
theorem sc__law_beginning : FnScope ["tape", "places", "kind", "nexts", "house", "at", "others", "k"] ["tape", "places"] (defScope s__law_beginning) := ⟨rfl, rfl, rfl, by decide +kernel, rfl, by decide +kernel, by decide +kernel⟩
abbrev s__law_ending : Stmt := topS 72
theorem sc__law_ending : FnScope ["size", "nexts", "behinds", "post", "houses"] ["size", "nexts", "behinds", "post"] (defScope s__law_ending) := ⟨rfl, rfl, rfl, by decide +kernel, rfl, by decide +kernel, by decide +kernel⟩
abbrev s__law_asked : Stmt := topS 73
theorem sc__law_asked : FnScope ["net", "size", "nexts", "behinds", "post"] ["net", "size", "nexts", "behinds", "post"] (defScope s__law_asked) := ⟨rfl, rfl, rfl, by decide +kernel, rfl, by decide +kernel, by decide +kernel⟩
abbrev s__law_deed : Stmt := topS 65
theorem sc__law_deed : FnScope ["tape", "net", "size", "nexts", "behinds", "post", "houses", "house", "kind", "at"] ["tape", "net", "size", "nexts", "behinds", "post"] (defScope s__law_deed) := ⟨rfl, rfl, rfl, by decide +kernel, rfl, by decide +kernel, by decide +kernel⟩
abbrev s__law_stands : Stmt := topS 67
theorem sc__law_stands : FnScope ["net", "nexts", "behinds", "post"] ["net", "nexts", "behinds", "post"] (defScope s__law_stands) := ⟨rfl, rfl, rfl, by decide +kernel, rfl, by decide +kernel, by decide +kernel⟩
abbrev s__law_ordered : Stmt := topS 66
theorem sc__law_ordered : FnScope ["table", "due", "key"] ["table"] (defScope s__law_ordered) := ⟨rfl, rfl, rfl, by decide +kernel, rfl, by decide +kernel, by decide +kernel⟩
abbrev s__law_letter : Stmt := topS 68
theorem sc__law_letter : FnScope ["tape", "places", "reader", "sender", "named", "kind"] ["tape", "places"] (defScope s__law_letter) := ⟨rfl, rfl, rfl, by decide +kernel, rfl, by decide +kernel, by decide +kernel⟩
abbrev s_law : Stmt := topS 74
theorem sc_law : FnScope ["script", "tape", "count", "size", "places", "nexts", "behinds", "post", "net", "k", "spoil", "house", "plain"] ["script"] (defScope s_law) := ⟨rfl, rfl, rfl, by decide +kernel, rfl, by decide +kernel, by decide +kernel⟩
abbrev s__law_tape : Stmt := topS 50
theorem sc__law_tape : FnScope ["script", "cells", "cell"] ["script"] (defScope s__law_tape) := ⟨rfl, rfl, rfl, by decide +kernel, rfl, by decide +kernel, by decide +kernel⟩
abbrev s__law_pick : Stmt := topS 51
theorem sc__law_pick : FnScope ["tape", "size", "cells", "cell", "k", "number", "used", "mixed"] ["tape", "size"] (defScope s__law_pick) := ⟨rfl, rfl, rfl, by decide +kernel, rfl, by decide +kernel, by decide +kernel⟩
abbrev s__law_size : Stmt := topS 52
theorem sc__law_size : FnScope ["tape", "count", "kind", "least"] ["tape", "count"] (defScope s__law_size) := ⟨rfl, rfl, rfl, by decide +kernel, rfl, by decide +kernel, by decide +kernel⟩
abbrev s__law_same : Stmt := topS 64
theorem sc__law_same : FnScope ["actual", "due", "k"] ["actual", "due"] (defScope s__law_same) := ⟨rfl, rfl, rfl, by decide +kernel, rfl, by decide +kernel, by decide +kernel⟩
abbrev s_House__init : Stmt := inClass (topS 46) 0
theorem sc_House__init : FnScope ["self", "size", "place", "next_house", "before"] ["self", "size", "place", "next_house", "before"] (defScope s_House__init) := ⟨rfl, rfl, rfl, by decide +kernel, rfl, by decide +kernel, by decide +kernel⟩
abbrev s_House__tell_letter : Stmt := inClass (topS 46) 1
theorem sc_House__tell_letter : FnScope ["self"] ["self"] (defScope s_House__tell_letter) := ⟨rfl, rfl, rfl, by decide +kernel, rfl, by decide +kernel, by decide +kernel⟩
abbrev s_House__ask_letter : Stmt := inClass (topS 46) 2
theorem sc_House__ask_letter : FnScope ["self"] ["self"] (defScope s_House__ask_letter) := ⟨rfl, rfl, rfl, by decide +kernel, rfl, by decide +kernel, by decide +kernel⟩
abbrev s_House__answer_to : Stmt := inClass (topS 46) 4
theorem sc_House__answer_to : FnScope ["self", "sender"] ["self", "sender"] (defScope s_House__answer_to) := ⟨rfl, rfl, rfl, by decide +kernel, rfl, by decide +kernel, by decide +kernel⟩
abbrev s_House__hear_tell : Stmt := inClass (topS 46) 5
theorem sc_House__hear_tell : FnScope ["self", "sender"] ["self", "sender"] (defScope s_House__hear_tell) := ⟨rfl, rfl, rfl, by decide +kernel, rfl, by decide +kernel, by decide +kernel⟩
abbrev s_House__hear_answer : Stmt := inClass (topS 46) 6
theorem sc_House__hear_answer : FnScope ["self", "sender", "named"] ["self", "sender", "named"] (defScope s_House__hear_answer) := ⟨rfl, rfl, rfl, by decide +kernel, rfl, by decide +kernel, by decide +kernel⟩
abbrev s_House__hear : Stmt := inClass (topS 46) 3
theorem sc_House__hear : FnScope ["self", "letter", "word", "sender"] ["self", "letter"] (defScope s_House__hear) := ⟨rfl, rfl, rfl, by decide +kernel, rfl, by decide +kernel, by decide +kernel⟩
abbrev s_Net__houses : Stmt := inClass (topS 48) 1
theorem sc_Net__houses : FnScope ["self"] ["self"] (defScope s_Net__houses) := ⟨rfl, rfl, rfl, by decide +kernel, rfl, by decide +kernel, by decide +kernel⟩
abbrev s_Net__check_house : Stmt := inClass (topS 48) 18
theorem sc_Net__check_house : FnScope ["self", "place"] ["self", "place"] (defScope s_Net__check_house) := ⟨rfl, rfl, rfl, by decide +kernel, rfl, by decide +kernel, by decide +kernel⟩
abbrev s_Net__check_letter : Stmt := inClass (topS 48) 23
theorem sc_Net__check_letter : FnScope ["self", "at"] ["self", "at"] (defScope s_Net__check_letter) := ⟨rfl, rfl, rfl, by decide +kernel, rfl, by decide +kernel, by decide +kernel⟩
abbrev s_Net__house_at : Stmt := inClass (topS 48) 21
theorem sc_Net__house_at : FnScope ["self", "place"] ["self", "place"] (defScope s_Net__house_at) := ⟨rfl, rfl, rfl, by decide +kernel, rfl, by decide +kernel, by decide +kernel⟩
abbrev s_Net__send : Stmt := inClass (topS 48) 22
theorem sc_Net__send : FnScope ["self", "letter"] ["self", "letter"] (defScope s_Net__send) := ⟨rfl, rfl, rfl, by decide +kernel, rfl, by decide +kernel, by decide +kernel⟩
abbrev s_Net__letters : Stmt := inClass (topS 48) 4
theorem sc_Net__letters : FnScope ["self"] ["self"] (defScope s_Net__letters) := ⟨rfl, rfl, rfl, by decide +kernel, rfl, by decide +kernel, by decide +kernel⟩
abbrev s_Net__nexts : Stmt := inClass (topS 48) 2
theorem sc_Net__nexts : FnScope ["self", "house"] ["self"] (defScope s_Net__nexts) := ⟨rfl, rfl, rfl, by decide +kernel, rfl, by decide +kernel, by decide +kernel⟩
abbrev s_Net__befores : Stmt := inClass (topS 48) 3
theorem sc_Net__befores : FnScope ["self", "befores", "house"] ["self"] (defScope s_Net__befores) := ⟨rfl, rfl, rfl, by decide +kernel, rfl, by decide +kernel, by decide +kernel⟩
abbrev s_Net__check_letters : Stmt := inClass (topS 48) 26
theorem sc_Net__check_letters : FnScope ["self", "letter", "place"] ["self"] (defScope s_Net__check_letters) := ⟨rfl, rfl, rfl, by decide +kernel, rfl, by decide +kernel, by decide +kernel⟩
abbrev s_Net__check_places : Stmt := inClass (topS 48) 24
theorem sc_Net__check_places : FnScope ["self", "house"] ["self"] (defScope s_Net__check_places) := ⟨rfl, rfl, rfl, by decide +kernel, rfl, by decide +kernel, by decide +kernel⟩
abbrev s_Net__take_befores : Stmt := inClass (topS 48) 25
theorem sc_Net__take_befores : FnScope ["self", "befores", "house"] ["self", "befores"] (defScope s_Net__take_befores) := ⟨rfl, rfl, rfl, by decide +kernel, rfl, by decide +kernel, by decide +kernel⟩
abbrev s_Net__init : Stmt := inClass (topS 48) 0
theorem sc_Net__init : FnScope ["self", "size", "nexts", "befores", "letters", "house"] ["self", "size", "nexts", "befores", "letters"] (defScope s_Net__init) := ⟨rfl, rfl, rfl, by decide +kernel, rfl, by decide +kernel, by decide +kernel⟩
abbrev s__law_places : Stmt := topS 53
theorem sc__law_places : FnScope ["tape", "size", "count", "places", "k", "place", "other"] ["tape", "size", "count"] (defScope s__law_places) := ⟨rfl, rfl, rfl, by decide +kernel, rfl, by decide +kernel, by decide +kernel⟩
/-! ### what the top has left, read off by names -/
theorem fun_of {K : PySem.W.Frag} {x qual : Str} {st : Stmt} {f : Addr} {fd : FuncData} (F : FunD K x qual (defArgs st) (defBody st) (defScope st) [] [] f fd) : Fun K x qual st f fd := by
  obtain ⟨oc, od, dV, kV, doc, pm, an, cdv, ct, osl, e, lk, hc, hd, _⟩ := F.ex
  have e2 : dV = .none := by
    rcases hd with ⟨_, h⟩ | ⟨h, _⟩
    · exact h
    · exact absurd rfl h
  subst e2
  exact ⟨⟨oc, od, kV, doc, pm, an, cdv, ct, osl, e, lk, hc⟩, F.kp⟩
def oexB (K : PySem.W.Frag) (C : Addr) : Bool := match K.lookup C with
  | some ⟨.type T, _, .cls cd, sl⟩ => (match cd.mro, sl.toList with
    | .ref C' :: bm, [_, _, _, _, some (.builtin n), _] => decide (T = "type") && (decide (C' = C) && (decide (n = "ValueError.__new__") && (!cd.hasDel && (cd.hasDict && PySem.HandSPX.refsVE bm))))
    | _, _ => false)
  | _ => false
theorem oexB_ok {K : PySem.W.Frag} {C : Addr} (h : oexB K C = true) : ∃ nm q N bs bm sn sub ab col dd k0 k1 k2 k3 k5, K.lookup C = some (excClassObj nm q C N bs bm true sn sub ab col dd k0 k1 k2 k3 k5 "ValueError.__new__") ∧ PySem.HandSPX.refsVE bm = true := by
  unfold oexB at h
  split at h
  · rename_i T dd cd sl ho
    split at h
    · rename_i C' bm k0 k1 k2 k3 n k5 hm hs
      obtain ⟨h0, h⟩ := He.ba h
      obtain ⟨h1, h⟩ := He.ba h
      obtain ⟨h2, h⟩ := He.ba h
      obtain ⟨h3, h⟩ := He.ba h
      obtain ⟨h4, h5⟩ := He.ba h
      obtain rfl := of_decide_eq_true h0
      obtain rfl := of_decide_eq_true h1
      obtain rfl := of_decide_eq_true h2
      obtain ⟨c1, c2, c3, c4, c5, c6, c7, c8, c9, c10, c11⟩ := cd
      simp only at hm h3 h4
      subst hm
      have h3' : c11 = false := by simpa using h3
      subst h3' h4
      have es : sl = #[k0, k1, k2, k3, some (.builtin "ValueError.__new__"), k5] := by
        apply Array.toList_inj.mp
        rw [hs]
      subst es
      exact ⟨c1, c5, c4, c2, bm, c7, c8, c9, c10, dd, k0, k1, k2, k3, k5, ho, h5⟩
    · cases h
  · cases h
/-! ### what the names reach, each address once: a mask of bits -/
def bitQ (m a : Nat) : Bool := Nat.beq (Nat.land (Nat.shiftRight m a) 1) 1
def seeQ : List Addr → Nat → List Addr → (Nat → List Addr → List Addr) → List Addr
  | [], m, l, k => k m l
  | a :: r, m, l, k => HandSHeadRun.frNat a fun a => match bitQ m a with
    | true => seeQ r m l k
    | false => HandSHeadRun.frNat (Nat.lor m (Nat.shiftLeft 1 a)) fun m => seeQ r m (a :: l) k
def goQ (g : Addr → Option Obj) : List Addr → Nat → List Addr → (Nat → List Addr → List Addr) → List Addr
  | [], m, l, k => k m l
  | a :: r, m, l, k => match g a with
    | some o => seeQ (He.refsD o) m l fun m l => goQ g r m l k
    | none => goQ g r m l k
def asQ (g : Addr → Option Obj) : Nat → Nat → List Addr → List Addr
  | 0, _, f => f
  | n + 1, m, f => f ++ goQ g f m [] fun m l => asQ g n m l
abbrev heAl : Type := Bool × List He.FnW
def heObs (fa : List He.Fa) (fn : List He.DefD) (ex : PySem.W.Frag → List Bool) (K : PySem.W.Frag) : heAl := (((fa.all fun f => f.ok K) && fn.all fun d => d.ok K) && (ex K).all id, fn.map fun d => He.fnW K d.at_)
def heVal (fn : List He.DefD) : heAl := (true, fn.map He.DefD.val)
def HeSays (fa : List He.Fa) (fn : List He.DefD) (ex : PySem.W.Frag → List Bool) (K : PySem.W.Frag) : Prop := heObs fa fn ex K = heVal fn
def heObsG (n : Nat) (fa : List He.Fa) (fn : List He.DefD) (ex : PySem.W.Frag → List Bool) (g : Addr → Option Obj) : heAl := heObs fa fn ex (He.frG g (asQ g n (Nat.shiftLeft 1 mainGlobals) [mainGlobals]))
def heHook (n : Nat) (fa : List He.Fa) (fn : List He.DefD) (ex : PySem.W.Frag → List Bool) : PySem.W.Hook where
  α := heAl
  obs := fun s => heObsG n fa fn ex s.heap.get?
  val := fun _ => heVal fn
  says := fun _ h => ∃ K : PySem.W.Frag, K.In h ∧ HeSays fa fn ex K
  of := fun _ _ e => ⟨_, He.frG_in, e⟩
  keeps := fun _ _ _ ⟨K, hK, c⟩ k => ⟨K, PySem.W.Frag.In.keeps hK k, c⟩
theorem heObsG_eq {n : Nat} {fa : List He.Fa} {fn : List He.DefD} {ex : PySem.W.Frag → List Bool} {g : Addr → Option Obj} {s : Shared} (h : ∀ a, g a = s.heap.get? a) : heObsG n fa fn ex g = (heHook n fa fn ex).obs s := by
  have e : g = s.heap.get? := funext h
  rw [e] <;> rfl
section
variable {fa : List He.Fa} {fn : List He.DefD} {ex : PySem.W.Frag → List Bool} {K : PySem.W.Frag}
theorem HeSays.d (c : HeSays fa fn ex K) : He.SaysD fa fn K := by
  have c1 := (He.ba (show (((fa.all fun f => f.ok K) && fn.all fun d => d.ok K) && (ex K).all id) = true from congrArg (fun z : heAl => z.1) c)).1
  have c2 : fn.map (fun d => He.fnW K d.at_) = fn.map He.DefD.val := congrArg (fun z : heAl => z.2) c
  exact Prod.ext c1 c2
theorem HeSays.exf (c : HeSays fa fn ex K) (i : Nat) {b : Bool} (h : (ex K)[i]? = some b := by rfl) : b = true := by
  have c1 := (He.ba (show (((fa.all fun f => f.ok K) && fn.all fun d => d.ok K) && (ex K).all id) = true from congrArg (fun z : heAl => z.1) c)).2
  exact List.all_eq_true.mp c1 b (List.mem_of_getElem? h)
end
/-! ### .. and the tables of code objects of the defs that make lambdas: empty, not in K -/
abbrev heAlL : Type := heAl × Bool
def heObsL (n : Nat) (fa : List He.Fa) (fn : List He.DefD) (ex : PySem.W.Frag → List Bool) (tf : List He.Defn) (g : Addr → Option Obj) : heAlL := (heObs fa fn ex (He.frT g (asQ g n (Nat.shiftLeft 1 mainGlobals) [mainGlobals])), He.tabsB g tf (He.frT g (asQ g n (Nat.shiftLeft 1 mainGlobals) [mainGlobals])))
def heValL (fn : List He.DefD) : heAlL := (heVal fn, true)
structure HeSaysL (fa : List He.Fa) (fn : List He.DefD) (ex : PySem.W.Frag → List Bool) (tf : List He.Defn) (h : Heap) (K : PySem.W.Frag) : Prop where
  s : HeSays fa fn ex K
  hd : ∀ p ∈ tf, PySem.W.codeHdIn K (He.cT K p).1 (He.cT K p).2 = true
  out : ∀ p ∈ tf, K.lookup (He.cT K p).2 = none
  empty : ∀ p ∈ tf, h.get? (He.cT K p).2 = some { cls := .none, data := .fields #[] }
theorem heSaysL_of {n : Nat} {fa : List He.Fa} {fn : List He.DefD} {ex : PySem.W.Frag → List Bool} {tf : List He.Defn} {h : Heap} (e : heObsL n fa fn ex tf h.get? = heValL fn) : HeSaysL fa fn ex tf h (He.frT h.get? (asQ h.get? n (Nat.shiftLeft 1 mainGlobals) [mainGlobals])) := by
  have e1 : heObs fa fn ex (He.frT h.get? (asQ h.get? n (Nat.shiftLeft 1 mainGlobals) [mainGlobals])) = heVal fn := congrArg (fun z : heAlL => z.1) e
  have e2 : He.tabsB h.get? tf (He.frT h.get? (asQ h.get? n (Nat.shiftLeft 1 mainGlobals) [mainGlobals])) = true := congrArg (fun z : heAlL => z.2) e
  generalize asQ h.get? n (Nat.shiftLeft 1 mainGlobals) [mainGlobals] = as at e1 e2 ⊢
  have key : ∀ p ∈ tf, PySem.W.codeHdIn (He.frT h.get? as) (He.cT (He.frT h.get? as) p).1 (He.cT (He.frT h.get? as) p).2 = true ∧ ∃ o, h.get? (He.cT (He.frT h.get? as) p).2 = some o ∧ He.emptyTab o = true := fun p hp => by
    obtain ⟨h3, h4⟩ := He.ba (List.all_eq_true.mp e2 p hp)
    refine ⟨h3, ?_⟩
    cases q : h.get? (He.cT (He.frT h.get? as) p).2 with
    | none =>
      rw [q] at h4
      cases h4
    | some o =>
      rw [q] at h4
      exact ⟨o, rfl, h4⟩
  exact ⟨e1, fun p hp => (key p hp).1, fun p hp => by
    obtain ⟨_, o, q, z⟩ := key p hp
    exact He.frT_none q z, fun p hp => by
    obtain ⟨_, o, q, z⟩ := key p hp
    rw [q, He.emptyTab_eq z]⟩
def heHookL (n : Nat) (fa : List He.Fa) (fn : List He.DefD) (ex : PySem.W.Frag → List Bool) (tf : List He.Defn) : PySem.W.Hook where
  α := heAlL
  obs := fun s => heObsL n fa fn ex tf s.heap.get?
  val := fun _ => heValL fn
  says := fun _ h => ∃ K : PySem.W.Frag, K.In h ∧ HeSaysL fa fn ex tf h K
  of := fun _ _ e => ⟨_, He.frT_in, heSaysL_of e⟩
  keeps := fun _ _ _ ⟨K, hK, c⟩ k => ⟨K, PySem.W.Frag.In.keeps hK k, ⟨c.s, c.hd, c.out, fun p hp => k _ _ (c.empty p hp)⟩⟩
theorem heObsL_eq {n : Nat} {fa : List He.Fa} {fn : List He.DefD} {ex : PySem.W.Frag → List Bool} {tf : List He.Defn} {g : Addr → Option Obj} {s : Shared} (h : ∀ a, g a = s.heap.get? a) : heObsL n fa fn ex tf g = (heHookL n fa fn ex tf).obs s := by
  have e : g = s.heap.get? := funext h
  rw [e] <;> rfl
theorem code_of {K : PySem.W.Frag} {p : He.Defn} {x qual : Str} {st : Stmt} {fd : FuncData} (F : Fun K x qual st (He.fAd K p) fd) : fd.code = .ref (He.cT K p).1 := by
  obtain ⟨oc, od, kV, doc, pm, an, cdv, ct, osl, rfl, lk, hcd⟩ := F.ex
  obtain ⟨c, rfl⟩ := He.codeIn_ref hcd
  show Value.ref c = .ref (He.codeOf K p)
  rw [He.codeOf_eq lk rfl]
theorem lt_of {l : List (Addr × Str)} {P : Addr} {nm : Str} (h : (l.all fun p => !decide (p.1 = P) || decide (p.2 = nm)) = true) : ∀ p ∈ l, p.1 = P → p.2 = nm := fun p hp e => by
  have z := List.all_eq_true.mp h p hp
  rw [decide_eq_true e] at z
  exact of_decide_eq_true (by simpa using z)
def hd__law_nexts : He.DefD := ⟨("_law_nexts", none), "_law_nexts", "_law_nexts", defArgs s__law_nexts, defBody s__law_nexts, defScope s__law_nexts, [], []⟩
def hd_far : He.DefD := ⟨("far", none), "far", "far", defArgs s_far, defBody s_far, defScope s_far, [], []⟩
def hd_between : He.DefD := ⟨("between", none), "between", "between", defArgs s_between, defBody s_between, defScope s_between, [], []⟩
def hd_check_on_circle : He.DefD := ⟨("check_on_circle", none), "check_on_circle", "check_on_circle", defArgs s_check_on_circle, defBody s_check_on_circle, defScope s_check_on_circle, [], []⟩
def hd_nearest_ahead : He.DefD := ⟨("nearest_ahead", none), "nearest_ahead", "nearest_ahead", defArgs s_nearest_ahead, defBody s_nearest_ahead, defScope s_nearest_ahead, [], []⟩
def hd_Walk__init : He.DefD := ⟨("Walk", some "__init__"), "__init__", "Walk.__init__", defArgs s_Walk__init, defBody s_Walk__init, defScope s_Walk__init, [], []⟩
def hd_Walk__steps : He.DefD := ⟨("Walk", some "_steps"), "_steps", "Walk._steps", defArgs s_Walk__steps, defBody s_Walk__steps, defScope s_Walk__steps, [], []⟩
def hd_Walk__is_closed : He.DefD := ⟨("Walk", some "is_closed"), "is_closed", "Walk.is_closed", defArgs s_Walk__is_closed, defBody s_Walk__is_closed, defScope s_Walk__is_closed, [], []⟩
def hd_Walk__total : He.DefD := ⟨("Walk", some "total"), "total", "Walk.total", defArgs s_Walk__total, defBody s_Walk__total, defScope s_Walk__total, [], []⟩
def hd_Walk__turns : He.DefD := ⟨("Walk", some "turns"), "turns", "Walk.turns", defArgs s_Walk__turns, defBody s_Walk__turns, defScope s_Walk__turns, [], []⟩
def hd_Net__next_of : He.DefD := ⟨("Net", some "next_of"), "next_of", "Net.next_of", defArgs s_Net__next_of, defBody s_Net__next_of, defScope s_Net__next_of, [], []⟩
def hd_Net__hold : He.DefD := ⟨("Net", some "hold"), "hold", "Net.hold", defArgs s_Net__hold, defBody s_Net__hold, defScope s_Net__hold, [], []⟩
def hd_Net__set_before : He.DefD := ⟨("Net", some "set_before"), "set_before", "Net.set_before", defArgs s_Net__set_before, defBody s_Net__set_before, defScope s_Net__set_before, [], []⟩
def hd_Net__tell : He.DefD := ⟨("Net", some "tell"), "tell", "Net.tell", defArgs s_Net__tell, defBody s_Net__tell, defScope s_Net__tell, [], []⟩
def hd_Net__ask : He.DefD := ⟨("Net", some "ask"), "ask", "Net.ask", defArgs s_Net__ask, defBody s_Net__ask, defScope s_Net__ask, [], []⟩
def hd_Net__repeat : He.DefD := ⟨("Net", some "repeat"), "repeat", "Net.repeat", defArgs s_Net__repeat, defBody s_Net__repeat, defScope s_Net__repeat, [], []⟩
def hd_Net__lose : He.DefD := ⟨("Net", some "lose"), "lose", "Net.lose", defArgs s_Net__lose, defBody s_Net__lose, defScope s_Net__lose, [], []⟩
def hd_Net__read : He.DefD := ⟨("Net", some "read"), "read", "Net.read", defArgs s_Net__read, defBody s_Net__read, defScope s_Net__read, [], []⟩
def hd__lengths_from : He.DefD := ⟨("_lengths_from", none), "_lengths_from", "_lengths_from", defArgs s__lengths_from, defBody s__lengths_from, defScope s__lengths_from, [], []⟩
def hd_from_least : He.DefD := ⟨("from_least", none), "from_least", "from_least", defArgs s_from_least, defBody s_from_least, defScope s_from_least, [], []⟩
def hd__gate_after : He.DefD := ⟨("_gate_after", none), "_gate_after", "_gate_after", defArgs s__gate_after, defBody s__gate_after, defScope s__gate_after, [], []⟩
def hd_ring_of : He.DefD := ⟨("ring_of", none), "ring_of", "ring_of", defArgs s_ring_of, defBody s_ring_of, defScope s_ring_of, [], []⟩
def hd_piece_of : He.DefD := ⟨("piece_of", none), "piece_of", "piece_of", defArgs s_piece_of, defBody s_piece_of, defScope s_piece_of, [], []⟩
def hd_pieces : He.DefD := ⟨("pieces", none), "pieces", "pieces", defArgs s_pieces, defBody s_pieces, defScope s_pieces, [], []⟩
def hd_order_turns : He.DefD := ⟨("order_turns", none), "order_turns", "order_turns", defArgs s_order_turns, defBody s_order_turns, defScope s_order_turns, [], []⟩
def hd_turns_of : He.DefD := ⟨("turns_of", none), "turns_of", "turns_of", defArgs s_turns_of, defBody s_turns_of, defScope s_turns_of, [], []⟩
def hd_order_nexts : He.DefD := ⟨("order_nexts", none), "order_nexts", "order_nexts", defArgs s_order_nexts, defBody s_order_nexts, defScope s_order_nexts, [], []⟩
def hd_way_length : He.DefD := ⟨("way_length", none), "way_length", "way_length", defArgs s_way_length, defBody s_way_length, defScope s_way_length, [], []⟩
def hd_house_at : He.DefD := ⟨("house_at", none), "house_at", "house_at", defArgs s_house_at, defBody s_house_at, defScope s_house_at, [], []⟩
def hd_sayings : He.DefD := ⟨("sayings", none), "sayings", "sayings", defArgs s_sayings, defBody s_sayings, defScope s_sayings, [], []⟩
def hd__pairs_said_by : He.DefD := ⟨("_pairs_said_by", none), "_pairs_said_by", "_pairs_said_by", defArgs s__pairs_said_by, defBody s__pairs_said_by, defScope s__pairs_said_by, [], []⟩
def hd_holds_true : He.DefD := ⟨("holds_true", none), "holds_true", "holds_true", defArgs s_holds_true, defBody s_holds_true, defScope s_holds_true, [], []⟩
def hd_first_untrue : He.DefD := ⟨("first_untrue", none), "first_untrue", "first_untrue", defArgs s_first_untrue, defBody s_first_untrue, defScope s_first_untrue, [], []⟩
def hd_marks_of : He.DefD := ⟨("marks_of", none), "marks_of", "marks_of", defArgs s_marks_of, defBody s_marks_of, defScope s_marks_of, [], []⟩
def hd_mark_row : He.DefD := ⟨("mark_row", none), "mark_row", "mark_row", defArgs s_mark_row, defBody s_mark_row, defScope s_mark_row, [], []⟩
def hd__lap_of : He.DefD := ⟨("_lap_of", none), "_lap_of", "_lap_of", defArgs s__lap_of, defBody s__lap_of, defScope s__lap_of, [], []⟩
def hd_told_end : He.DefD := ⟨("told_end", none), "told_end", "told_end", defArgs s_told_end, defBody s_told_end, defScope s_told_end, [], []⟩
def hd_is_plain : He.DefD := ⟨("is_plain", none), "is_plain", "is_plain", defArgs s_is_plain, defBody s_is_plain, defScope s_is_plain, [], []⟩
def hd_ends_plain : He.DefD := ⟨("ends_plain", none), "ends_plain", "ends_plain", defArgs s_ends_plain, defBody s_ends_plain, defScope s_ends_plain, [], []⟩
def hd__check_true : He.DefD := ⟨("_check_true", none), "_check_true", "_check_true", defArgs s__check_true, defBody s__check_true, defScope s__check_true, [], []⟩
def hd__plain_nexts : He.DefD := ⟨("_plain_nexts", none), "_plain_nexts", "_plain_nexts", defArgs s__plain_nexts, defBody s__plain_nexts, defScope s__plain_nexts, [], []⟩
def hd__ascending : He.DefD := ⟨("_ascending", none), "_ascending", "_ascending", defArgs s__ascending, defBody s__ascending, defScope s__ascending, [], []⟩
def hd__law_far : He.DefD := ⟨("_law_far", none), "_law_far", "_law_far", defArgs s__law_far, defBody s__law_far, defScope s__law_far, [], []⟩
def hd__law_between : He.DefD := ⟨("_law_between", none), "_law_between", "_law_between", defArgs s__law_between, defBody s__law_between, defScope s__law_between, [], []⟩
def hd__law_read : He.DefD := ⟨("_law_read", none), "_law_read", "_law_read", defArgs s__law_read, defBody s__law_read, defScope s__law_read, [], []⟩
def hd__law_sayings : He.DefD := ⟨("_law_sayings", none), "_law_sayings", "_law_sayings", defArgs s__law_sayings, defBody s__law_sayings, defScope s__law_sayings, [], []⟩
def hd__law_holds : He.DefD := ⟨("_law_holds", none), "_law_holds", "_law_holds", defArgs s__law_holds, defBody s__law_holds, defScope s__law_holds, [], []⟩
def hd__law_turns : He.DefD := ⟨("_law_turns", none), "_law_turns", "_law_turns", defArgs s__law_turns, defBody s__law_turns, defScope s__law_turns, [], []⟩
def hd__law_ring : He.DefD := ⟨("_law_ring", none), "_law_ring", "_law_ring", defArgs s__law_ring, defBody s__law_ring, defScope s__law_ring, [], []⟩
def hd__law_root : He.DefD := ⟨("_law_root", none), "_law_root", "_law_root", defArgs s__law_root, defBody s__law_root, defScope s__law_root, [], []⟩
def hd__law_piece : He.DefD := ⟨("_law_piece", none), "_law_piece", "_law_piece", defArgs s__law_piece, defBody s__law_piece, defScope s__law_piece, [], []⟩
def hd__law_untrue : He.DefD := ⟨("_law_untrue", none), "_law_untrue", "_law_untrue", defArgs s__law_untrue, defBody s__law_untrue, defScope s__law_untrue, [], []⟩
def hd__law_plain : He.DefD := ⟨("_law_plain", none), "_law_plain", "_law_plain", defArgs s__law_plain, defBody s__law_plain, defScope s__law_plain, [], []⟩
def hd__law_beginning : He.DefD := ⟨("_law_beginning", none), "_law_beginning", "_law_beginning", defArgs s__law_beginning, defBody s__law_beginning, defScope s__law_beginning, [], []⟩
def hd__law_ending : He.DefD := ⟨("_law_ending", none), "_law_ending", "_law_ending", defArgs s__law_ending, defBody s__law_ending, defScope s__law_ending, [], []⟩
def hd__law_asked : He.DefD := ⟨("_law_asked", none), "_law_asked", "_law_asked", defArgs s__law_asked, defBody s__law_asked, defScope s__law_asked, [], []⟩
def hd__law_deed : He.DefD := ⟨("_law_deed", none), "_law_deed", "_law_deed", defArgs s__law_deed, defBody s__law_deed, defScope s__law_deed, [], []⟩
def hd__law_stands : He.DefD := ⟨("_law_stands", none), "_law_stands", "_law_stands", defArgs s__law_stands, defBody s__law_stands, defScope s__law_stands, [], []⟩
def hd__law_ordered : He.DefD := ⟨("_law_ordered", none), "_law_ordered", "_law_ordered", defArgs s__law_ordered, defBody s__law_ordered, defScope s__law_ordered, [], []⟩
def hd__law_letter : He.DefD := ⟨("_law_letter", none), "_law_letter", "_law_letter", defArgs s__law_letter, defBody s__law_letter, defScope s__law_letter, [], []⟩
def hd_law : He.DefD := ⟨("law", none), "law", "law", defArgs s_law, defBody s_law, defScope s_law, [], []⟩
def hd__law_tape : He.DefD := ⟨("_law_tape", none), "_law_tape", "_law_tape", defArgs s__law_tape, defBody s__law_tape, defScope s__law_tape, [], []⟩
def hd__law_pick : He.DefD := ⟨("_law_pick", none), "_law_pick", "_law_pick", defArgs s__law_pick, defBody s__law_pick, defScope s__law_pick, [], []⟩
def hd__law_size : He.DefD := ⟨("_law_size", none), "_law_size", "_law_size", defArgs s__law_size, defBody s__law_size, defScope s__law_size, [], []⟩
def hd__law_same : He.DefD := ⟨("_law_same", none), "_law_same", "_law_same", defArgs s__law_same, defBody s__law_same, defScope s__law_same, [], []⟩
def hd_House__init : He.DefD := ⟨("House", some "__init__"), "__init__", "House.__init__", defArgs s_House__init, defBody s_House__init, defScope s_House__init, [.non], []⟩
def hd_House__tell_letter : He.DefD := ⟨("House", some "tell_letter"), "tell_letter", "House.tell_letter", defArgs s_House__tell_letter, defBody s_House__tell_letter, defScope s_House__tell_letter, [], []⟩
def hd_House__ask_letter : He.DefD := ⟨("House", some "ask_letter"), "ask_letter", "House.ask_letter", defArgs s_House__ask_letter, defBody s_House__ask_letter, defScope s_House__ask_letter, [], []⟩
def hd_House__answer_to : He.DefD := ⟨("House", some "_answer_to"), "_answer_to", "House._answer_to", defArgs s_House__answer_to, defBody s_House__answer_to, defScope s_House__answer_to, [], []⟩
def hd_House__hear_tell : He.DefD := ⟨("House", some "_hear_tell"), "_hear_tell", "House._hear_tell", defArgs s_House__hear_tell, defBody s_House__hear_tell, defScope s_House__hear_tell, [], []⟩
def hd_House__hear_answer : He.DefD := ⟨("House", some "_hear_answer"), "_hear_answer", "House._hear_answer", defArgs s_House__hear_answer, defBody s_House__hear_answer, defScope s_House__hear_answer, [], []⟩
def hd_House__hear : He.DefD := ⟨("House", some "hear"), "hear", "House.hear", defArgs s_House__hear, defBody s_House__hear, defScope s_House__hear, [], []⟩
def hd_Net__houses : He.DefD := ⟨("Net", some "houses"), "houses", "Net.houses", defArgs s_Net__houses, defBody s_Net__houses, defScope s_Net__houses, [], []⟩
def hd_Net__check_house : He.DefD := ⟨("Net", some "check_house"), "check_house", "Net.check_house", defArgs s_Net__check_house, defBody s_Net__check_house, defScope s_Net__check_house, [], []⟩
def hd_Net__check_letter : He.DefD := ⟨("Net", some "_check_letter"), "_check_letter", "Net._check_letter", defArgs s_Net__check_letter, defBody s_Net__check_letter, defScope s_Net__check_letter, [], []⟩
def hd_Net__house_at : He.DefD := ⟨("Net", some "_house_at"), "_house_at", "Net._house_at", defArgs s_Net__house_at, defBody s_Net__house_at, defScope s_Net__house_at, [], []⟩
def hd_Net__send : He.DefD := ⟨("Net", some "_send"), "_send", "Net._send", defArgs s_Net__send, defBody s_Net__send, defScope s_Net__send, [], []⟩
def hd_Net__letters : He.DefD := ⟨("Net", some "letters"), "letters", "Net.letters", defArgs s_Net__letters, defBody s_Net__letters, defScope s_Net__letters, [], []⟩
def hd_Net__nexts : He.DefD := ⟨("Net", some "nexts"), "nexts", "Net.nexts", defArgs s_Net__nexts, defBody s_Net__nexts, defScope s_Net__nexts, [], []⟩
def hd_Net__befores : He.DefD := ⟨("Net", some "befores"), "befores", "Net.befores", defArgs s_Net__befores, defBody s_Net__befores, defScope s_Net__befores, [], []⟩
def hd_Net__check_letters : He.DefD := ⟨("Net", some "_check_letters"), "_check_letters", "Net._check_letters", defArgs s_Net__check_letters, defBody s_Net__check_letters, defScope s_Net__check_letters, [], []⟩
def hd_Net__check_places : He.DefD := ⟨("Net", some "_check_places"), "_check_places", "Net._check_places", defArgs s_Net__check_places, defBody s_Net__check_places, defScope s_Net__check_places, [], []⟩
def hd_Net__take_befores : He.DefD := ⟨("Net", some "_take_befores"), "_take_befores", "Net._take_befores", defArgs s_Net__take_befores, defBody s_Net__take_befores, defScope s_Net__take_befores, [], []⟩
def hd_Net__init : He.DefD := ⟨("Net", some "__init__"), "__init__", "Net.__init__", defArgs s_Net__init, defBody s_Net__init, defScope s_Net__init, [], [("befores", .non), ("letters", .non)]⟩
def hd__law_places : He.DefD := ⟨("_law_places", none), "_law_places", "_law_places", defArgs s__law_places, defBody s__law_places, defScope s__law_places, [], []⟩
def heFn : List He.DefD := [hd__law_nexts, hd_far, hd_between, hd_check_on_circle, hd_nearest_ahead, hd_Walk__init, hd_Walk__steps, hd_Walk__is_closed, hd_Walk__total, hd_Walk__turns, hd_Net__next_of, hd_Net__hold, hd_Net__set_before, hd_Net__tell, hd_Net__ask, hd_Net__repeat, hd_Net__lose, hd_Net__read, hd__lengths_from, hd_from_least, hd__gate_after, hd_ring_of, hd_piece_of, hd_pieces, hd_order_turns, hd_turns_of, hd_order_nexts, hd_way_length, hd_house_at, hd_sayings, hd__pairs_said_by, hd_holds_true, hd_first_untrue, hd_marks_of, hd_mark_row, hd__lap_of, hd_told_end, hd_is_plain, hd_ends_plain, hd__check_true, hd__plain_nexts, hd__ascending, hd__law_far, hd__law_between, hd__law_read, hd__law_sayings, hd__law_holds, hd__law_turns, hd__law_ring, hd__law_root, hd__law_piece, hd__law_untrue, hd__law_plain, hd__law_beginning, hd__law_ending, hd__law_asked, hd__law_deed, hd__law_stands, hd__law_ordered, hd__law_letter, hd_law, hd__law_tape, hd__law_pick, hd__law_size, hd__law_same, hd_House__init, hd_House__tell_letter, hd_House__ask_letter, hd_House__answer_to, hd_House__hear_tell, hd_House__hear_answer, hd_House__hear, hd_Net__houses, hd_Net__check_house, hd_Net__check_letter, hd_Net__house_at, hd_Net__send, hd_Net__letters, hd_Net__nexts, hd_Net__befores, hd_Net__check_letters, hd_Net__check_places, hd_Net__take_befores, hd_Net__init, hd__law_places]
def heFa : List He.Fa := [.free "abs", .free "bool", .free "dict", .free "int", .free "isinstance", .free "len", .free "list", .free "max", .free "min", .free "range", .free "sorted", .free "str", .free "sum", .free "tuple", .free "zip", .glo "_law_nexts", .glo "far", .glo "between", .glo "check_on_circle", .glo "nearest_ahead", .glo "_lengths_from", .glo "from_least", .glo "_gate_after", .glo "ring_of", .glo "piece_of", .glo "pieces", .glo "order_turns", .glo "turns_of", .glo "order_nexts", .glo "way_length", .glo "house_at", .glo "sayings", .glo "_pairs_said_by", .glo "holds_true", .glo "first_untrue", .glo "marks_of", .glo "mark_row", .glo "_lap_of", .glo "told_end", .glo "is_plain", .glo "ends_plain", .glo "_check_true", .glo "_plain_nexts", .glo "_ascending", .glo "_law_far", .glo "_law_between", .glo "_law_read", .glo "_law_sayings", .glo "_law_holds", .glo "_law_turns", .glo "_law_ring", .glo "_law_root", .glo "_law_piece", .glo "_law_untrue", .glo "_law_plain", .glo "_law_beginning", .glo "_law_ending", .glo "_law_asked", .glo "_law_deed", .glo "_law_stands", .glo "_law_ordered", .glo "_law_letter", .glo "law", .glo "_law_tape", .glo "_law_pick", .glo "_law_size", .glo "_law_same", .glo "_law_places", .glo "Walk", .cls "Walk", .noat "Walk" "size", .noat "Walk" "places", .mkr "Walk", .meth "Walk" "_steps", .meth "Walk" "is_closed", .meth "Walk" "total", .meth "Walk" "turns", .glo "House", .cls "House", .noat "House" "size", .noat "House" "place", .noat "House" "next_house", .noat "House" "before", .mkr "House", .meth "House" "tell_letter", .meth "House" "ask_letter", .meth "House" "_answer_to", .meth "House" "_hear_tell", .meth "House" "_hear_answer", .meth "House" "hear", .glo "Net", .cls "Net", .noat "Net" "size", .noat "Net" "_nexts", .noat "Net" "_befores", .noat "Net" "_letters", .meth "Net" "next_of", .meth "Net" "hold", .meth "Net" "set_before", .meth "Net" "tell", .meth "Net" "ask", .meth "Net" "repeat", .meth "Net" "lose", .meth "Net" "read", .meth "Net" "houses", .meth "Net" "check_house", .meth "Net" "_check_letter", .meth "Net" "_house_at", .meth "Net" "_send", .meth "Net" "letters", .meth "Net" "nexts", .meth "Net" "befores", .meth "Net" "_check_letters", .meth "Net" "_check_places", .meth "Net" "_take_befores", .mkr "Net", .glo "OffCircle", .glo "OpenWalk", .glo "UntrueNet", .glo "NoHouse", .glo "NoLetter"]
def heEx (K : PySem.W.Frag) : List Bool := [(LT K).all fun p => !decide (p.1 = (He.cT K ("nearest_ahead", none)).2) || decide (p.2 = (("nearest_ahead" : Str) ++ ".<locals>." ++ "<lambda>")),
  (LT K).all fun p => !decide (p.1 = (He.cT K ("mark_row", none)).2) || decide (p.2 = (("mark_row" : Str) ++ ".<locals>." ++ "<lambda>"))]
def heLoose0 : List Str := ["_wall", "RingError", "OffCircle", "NoHouse", "NoLetter", "UntrueNet", "OpenWalk", "WalksApart", "far", "between", "nearest_ahead", "check_on_circle", "Walk", "from_least", "order_nexts", "order_turns", "way_length", "house_at", "ring_of", "piece_of"]
def heLoose1 : List Str := ["pieces", "turns_of", "_lengths_from", "_gate_after", "marks_of", "mark_row", "_lap_of", "sayings", "holds_true", "first_untrue", "_pairs_said_by", "told_end", "is_plain", "ends_plain", "_check_true", "_plain_nexts", "_ascending", "House", "Net", "_law_tape"]
def heLoose2 : List Str := ["_law_pick", "_law_size", "_law_places", "_law_nexts", "_law_far", "_law_between", "_law_ring", "_law_root", "_law_piece", "_law_turns", "_law_holds", "_law_sayings", "_law_read", "_law_same", "_law_deed", "_law_ordered", "_law_stands", "_law_letter", "_law_untrue", "_law_plain"]
def heLoose3 : List Str := ["_law_beginning", "_law_ending", "_law_asked"]
abbrev heLoose : List Str := heLoose0 ++ heLoose1 ++ heLoose2 ++ heLoose3
abbrev heR : PySem.W.OpenRow := PySem.W.OpenLaw.row PySem.Challenge.rw_ringlaps_k21_plain_exactly
abbrev heK : PySem.W.Hook := heHookL 5 heFa heFn heEx lamTf
def heOb (s : PySem.W.SharedT) : heAlL := heObsL 5 heFa heFn heEx lamTf (HandSHeadRun.getT s)
theorem heOb_eq (s : PySem.W.SharedT) : heOb s = heK.obs s.abs := heObsL_eq (HandSHeadRun.getT_eq s)
set_option maxHeartbeats 0 in
theorem heRun (w : World) : HandSHeadRun.RunEq heR (PySem.W.view heR.prog [74]) heK heOb 30000 heLoose w := by
  intro os
  kernel_rfl
/-! what is asked of the error in hand: (a, oe) is pinned, its dict at d -/
structure ErrC (K : PySem.W.Frag) (D : Addr) : Prop where
  cl : (PySem.W.clsIn K D).isSome = true
  ga : PySem.W.findIn K (.ref D) "__getattribute__" = some (some (.builtin "BaseException.__getattribute__"))
  gg : PySem.W.findIn K (.ref D) "__getattr__" = some none
  ex : PySem.W.subIn K (.ref D) (.type "BaseException") = some true
  hd : PySem.W.hasDictIn K D = true
  ca : PySem.W.findIn K (.ref D) "__class__" = some (some (.builtin "object.__class__"))
  cn : PySem.W.specialIn K (.builtin "object.__class__") "__get__" = some (some (.builtin "getset_descriptor.__get__"))
  ct : PySem.W.takesIn K (.builtin "object.__class__") = some true
  mo : PySem.W.mroIn K D (.type "object") = some true
class LamT (K : PySem.W.Frag) (mg : Str → Option Value) (base : outParam Heap) : Prop where
  tb_nearest_ahead : LamX.TabB base mg (He.cT K ("nearest_ahead", none)).1 (He.cT K ("nearest_ahead", none)).2
  tb_mark_row : LamX.TabB base mg (He.cT K ("mark_row", none)).1 (He.cT K ("mark_row", none)).2
structure T0 (K : PySem.W.Frag) (mg : Str → Option Value) where
  fd_nearest_ahead : FuncData
  cd_nearest_ahead : fd_nearest_ahead.code = .ref (He.cT K ("nearest_ahead", none)).1
  lt_nearest_ahead : ∀ p ∈ LT K, p.1 = (He.cT K ("nearest_ahead", none)).2 → p.2 = (("nearest_ahead" : Str) ++ ".<locals>." ++ "<lambda>")
  fd_mark_row : FuncData
  cd_mark_row : fd_mark_row.code = .ref (He.cT K ("mark_row", none)).1
  lt_mark_row : ∀ p ∈ LT K, p.1 = (He.cT K ("mark_row", none)).2 → p.2 = (("mark_row" : Str) ++ ".<locals>." ++ "<lambda>")
  m_abs : mg "abs" = none
  m_bool : mg "bool" = none
  m_dict : mg "dict" = none
  m_int : mg "int" = none
  m_isinstance : mg "isinstance" = none
  m_len : mg "len" = none
  m_list : mg "list" = none
  m_max : mg "max" = none
  m_min : mg "min" = none
  m_range : mg "range" = none
  m_sorted : mg "sorted" = none
  m_str : mg "str" = none
  m_sum : mg "sum" = none
  m_tuple : mg "tuple" = none
  m_zip : mg "zip" = none
  a__law_nexts : Addr
  fd__law_nexts : FuncData
  F__law_nexts : Fun K "_law_nexts" "_law_nexts" s__law_nexts a__law_nexts fd__law_nexts
  b__law_nexts : Binds K fd__law_nexts ["tape", "places"] []
  g__law_nexts : mg "_law_nexts" = some (.ref a__law_nexts)
  a_far : Addr
  fd_far : FuncData
  F_far : Fun K "far" "far" s_far a_far fd_far
  b_far : Binds K fd_far ["size", "start", "end"] []
  g_far : mg "far" = some (.ref a_far)
  a_between : Addr
  fd_between : FuncData
  F_between : Fun K "between" "between" s_between a_between fd_between
  b_between : Binds K fd_between ["size", "start", "place", "end"] []
  g_between : mg "between" = some (.ref a_between)
  a_check_on_circle : Addr
  fd_check_on_circle : FuncData
  F_check_on_circle : Fun K "check_on_circle" "check_on_circle" s_check_on_circle a_check_on_circle fd_check_on_circle
  b_check_on_circle : Binds K fd_check_on_circle ["size", "place"] []
  g_check_on_circle : mg "check_on_circle" = some (.ref a_check_on_circle)
  a_nearest_ahead : Addr
  F_nearest_ahead : Fun K "nearest_ahead" "nearest_ahead" s_nearest_ahead a_nearest_ahead fd_nearest_ahead
  b_nearest_ahead : Binds K fd_nearest_ahead ["size", "start", "places"] []
  g_nearest_ahead : mg "nearest_ahead" = some (.ref a_nearest_ahead)
  a_Walk__init : Addr
  fd_Walk__init : FuncData
  F_Walk__init : Fun K "__init__" "Walk.__init__" s_Walk__init a_Walk__init fd_Walk__init
  b_Walk__init : Binds K fd_Walk__init ["self", "size", "places"] []
  a_Walk__steps : Addr
  fd_Walk__steps : FuncData
  F_Walk__steps : Fun K "_steps" "Walk._steps" s_Walk__steps a_Walk__steps fd_Walk__steps
  b_Walk__steps : Binds K fd_Walk__steps ["self"] []
  a_Walk__is_closed : Addr
  fd_Walk__is_closed : FuncData
  F_Walk__is_closed : Fun K "is_closed" "Walk.is_closed" s_Walk__is_closed a_Walk__is_closed fd_Walk__is_closed
  b_Walk__is_closed : Binds K fd_Walk__is_closed ["self"] []
  a_Walk__total : Addr
  fd_Walk__total : FuncData
  F_Walk__total : Fun K "total" "Walk.total" s_Walk__total a_Walk__total fd_Walk__total
  b_Walk__total : Binds K fd_Walk__total ["self"] []
  a_Walk__turns : Addr
  fd_Walk__turns : FuncData
  F_Walk__turns : Fun K "turns" "Walk.turns" s_Walk__turns a_Walk__turns fd_Walk__turns
  b_Walk__turns : Binds K fd_Walk__turns ["self"] []
  a_Net__next_of : Addr
  fd_Net__next_of : FuncData
  F_Net__next_of : Fun K "next_of" "Net.next_of" s_Net__next_of a_Net__next_of fd_Net__next_of
  b_Net__next_of : Binds K fd_Net__next_of ["self", "house"] []
  a_Net__hold : Addr
  fd_Net__hold : FuncData
  F_Net__hold : Fun K "hold" "Net.hold" s_Net__hold a_Net__hold fd_Net__hold
  b_Net__hold : Binds K fd_Net__hold ["self", "house", "target"] []
  a_Net__set_before : Addr
  fd_Net__set_before : FuncData
  F_Net__set_before : Fun K "set_before" "Net.set_before" s_Net__set_before a_Net__set_before fd_Net__set_before
  b_Net__set_before : Binds K fd_Net__set_before ["self", "house", "before"] []
  a_Net__tell : Addr
  fd_Net__tell : FuncData
  F_Net__tell : Fun K "tell" "Net.tell" s_Net__tell a_Net__tell fd_Net__tell
  b_Net__tell : Binds K fd_Net__tell ["self", "house"] []
  a_Net__ask : Addr
  fd_Net__ask : FuncData
  F_Net__ask : Fun K "ask" "Net.ask" s_Net__ask a_Net__ask fd_Net__ask
  b_Net__ask : Binds K fd_Net__ask ["self", "house"] []
  a_Net__repeat : Addr
  fd_Net__repeat : FuncData
  F_Net__repeat : Fun K "repeat" "Net.repeat" s_Net__repeat a_Net__repeat fd_Net__repeat
  b_Net__repeat : Binds K fd_Net__repeat ["self", "at"] []
  a_Net__lose : Addr
  fd_Net__lose : FuncData
  F_Net__lose : Fun K "lose" "Net.lose" s_Net__lose a_Net__lose fd_Net__lose
  b_Net__lose : Binds K fd_Net__lose ["self", "at"] []
  a_Net__read : Addr
  fd_Net__read : FuncData
  F_Net__read : Fun K "read" "Net.read" s_Net__read a_Net__read fd_Net__read
  b_Net__read : Binds K fd_Net__read ["self", "at"] []
  a__lengths_from : Addr
  fd__lengths_from : FuncData
  F__lengths_from : Fun K "_lengths_from" "_lengths_from" s__lengths_from a__lengths_from fd__lengths_from
  b__lengths_from : Binds K fd__lengths_from ["net", "start"] []
  g__lengths_from : mg "_lengths_from" = some (.ref a__lengths_from)
  a_from_least : Addr
  fd_from_least : FuncData
  F_from_least : Fun K "from_least" "from_least" s_from_least a_from_least fd_from_least
  b_from_least : Binds K fd_from_least ["order"] []
  g_from_least : mg "from_least" = some (.ref a_from_least)
  a__gate_after : Addr
  fd__gate_after : FuncData
  F__gate_after : Fun K "_gate_after" "_gate_after" s__gate_after a__gate_after fd__gate_after
  b__gate_after : Binds K fd__gate_after ["net", "met"] []
  g__gate_after : mg "_gate_after" = some (.ref a__gate_after)
  a_ring_of : Addr
  fd_ring_of : FuncData
  F_ring_of : Fun K "ring_of" "ring_of" s_ring_of a_ring_of fd_ring_of
  b_ring_of : Binds K fd_ring_of ["net", "house"] []
  g_ring_of : mg "ring_of" = some (.ref a_ring_of)
  a_piece_of : Addr
  fd_piece_of : FuncData
  F_piece_of : Fun K "piece_of" "piece_of" s_piece_of a_piece_of fd_piece_of
  b_piece_of : Binds K fd_piece_of ["net", "house"] []
  g_piece_of : mg "piece_of" = some (.ref a_piece_of)
  a_pieces : Addr
  fd_pieces : FuncData
  F_pieces : Fun K "pieces" "pieces" s_pieces a_pieces fd_pieces
  b_pieces : Binds K fd_pieces ["net"] []
  g_pieces : mg "pieces" = some (.ref a_pieces)
  a_order_turns : Addr
  fd_order_turns : FuncData
  F_order_turns : Fun K "order_turns" "order_turns" s_order_turns a_order_turns fd_order_turns
  b_order_turns : Binds K fd_order_turns ["size", "order"] []
  g_order_turns : mg "order_turns" = some (.ref a_order_turns)
  a_turns_of : Addr
  fd_turns_of : FuncData
  F_turns_of : Fun K "turns_of" "turns_of" s_turns_of a_turns_of fd_turns_of
  b_turns_of : Binds K fd_turns_of ["net", "house"] []
  g_turns_of : mg "turns_of" = some (.ref a_turns_of)
  a_order_nexts : Addr
  fd_order_nexts : FuncData
  F_order_nexts : Fun K "order_nexts" "order_nexts" s_order_nexts a_order_nexts fd_order_nexts
  b_order_nexts : Binds K fd_order_nexts ["order"] []
  g_order_nexts : mg "order_nexts" = some (.ref a_order_nexts)
  a_way_length : Addr
  fd_way_length : FuncData
  F_way_length : Fun K "way_length" "way_length" s_way_length a_way_length fd_way_length
  b_way_length : Binds K fd_way_length ["net", "start", "end"] []
  g_way_length : mg "way_length" = some (.ref a_way_length)
  a_house_at : Addr
  fd_house_at : FuncData
  F_house_at : Fun K "house_at" "house_at" s_house_at a_house_at fd_house_at
  b_house_at : Binds K fd_house_at ["net", "start", "distance"] []
  g_house_at : mg "house_at" = some (.ref a_house_at)
  a_sayings : Addr
  fd_sayings : FuncData
  F_sayings : Fun K "sayings" "sayings" s_sayings a_sayings fd_sayings
  b_sayings : Binds K fd_sayings ["net"] []
  g_sayings : mg "sayings" = some (.ref a_sayings)
  a__pairs_said_by : Addr
  fd__pairs_said_by : FuncData
  F__pairs_said_by : Fun K "_pairs_said_by" "_pairs_said_by" s__pairs_said_by a__pairs_said_by fd__pairs_said_by
  b__pairs_said_by : Binds K fd__pairs_said_by ["letter"] []
  g__pairs_said_by : mg "_pairs_said_by" = some (.ref a__pairs_said_by)
  a_holds_true : Addr
  fd_holds_true : FuncData
  F_holds_true : Fun K "holds_true" "holds_true" s_holds_true a_holds_true fd_holds_true
  b_holds_true : Binds K fd_holds_true ["net", "saying"] []
  g_holds_true : mg "holds_true" = some (.ref a_holds_true)
  a_first_untrue : Addr
  fd_first_untrue : FuncData
  F_first_untrue : Fun K "first_untrue" "first_untrue" s_first_untrue a_first_untrue fd_first_untrue
  b_first_untrue : Binds K fd_first_untrue ["net"] []
  g_first_untrue : mg "first_untrue" = some (.ref a_first_untrue)
  a_marks_of : Addr
  fd_marks_of : FuncData
  F_marks_of : Fun K "marks_of" "marks_of" s_marks_of a_marks_of fd_marks_of
  b_marks_of : Binds K fd_marks_of ["net", "house"] []
  g_marks_of : mg "marks_of" = some (.ref a_marks_of)
  a_mark_row : Addr
  F_mark_row : Fun K "mark_row" "mark_row" s_mark_row a_mark_row fd_mark_row
  b_mark_row : Binds K fd_mark_row ["net", "house"] []
  g_mark_row : mg "mark_row" = some (.ref a_mark_row)
  a__lap_of : Addr
  fd__lap_of : FuncData
  F__lap_of : Fun K "_lap_of" "_lap_of" s__lap_of a__lap_of fd__lap_of
  b__lap_of : Binds K fd__lap_of ["net", "house"] []
  g__lap_of : mg "_lap_of" = some (.ref a__lap_of)
  a_told_end : Addr
  fd_told_end : FuncData
  F_told_end : Fun K "told_end" "told_end" s_told_end a_told_end fd_told_end
  b_told_end : Binds K fd_told_end ["net"] []
  g_told_end : mg "told_end" = some (.ref a_told_end)
  a_is_plain : Addr
  fd_is_plain : FuncData
  F_is_plain : Fun K "is_plain" "is_plain" s_is_plain a_is_plain fd_is_plain
  b_is_plain : Binds K fd_is_plain ["net"] []
  g_is_plain : mg "is_plain" = some (.ref a_is_plain)
  a_ends_plain : Addr
  fd_ends_plain : FuncData
  F_ends_plain : Fun K "ends_plain" "ends_plain" s_ends_plain a_ends_plain fd_ends_plain
  b_ends_plain : Binds K fd_ends_plain ["net"] []
  g_ends_plain : mg "ends_plain" = some (.ref a_ends_plain)
  a__check_true : Addr
  fd__check_true : FuncData
  F__check_true : Fun K "_check_true" "_check_true" s__check_true a__check_true fd__check_true
  b__check_true : Binds K fd__check_true ["net"] []
  g__check_true : mg "_check_true" = some (.ref a__check_true)
  a__plain_nexts : Addr
  fd__plain_nexts : FuncData
  F__plain_nexts : Fun K "_plain_nexts" "_plain_nexts" s__plain_nexts a__plain_nexts fd__plain_nexts
  b__plain_nexts : Binds K fd__plain_nexts ["net"] []
  g__plain_nexts : mg "_plain_nexts" = some (.ref a__plain_nexts)
  a__ascending : Addr
  fd__ascending : FuncData
  F__ascending : Fun K "_ascending" "_ascending" s__ascending a__ascending fd__ascending
  b__ascending : Binds K fd__ascending ["table"] []
  g__ascending : mg "_ascending" = some (.ref a__ascending)
  a__law_far : Addr
  fd__law_far : FuncData
  F__law_far : Fun K "_law_far" "_law_far" s__law_far a__law_far fd__law_far
  b__law_far : Binds K fd__law_far ["size", "start", "end"] []
  g__law_far : mg "_law_far" = some (.ref a__law_far)
  a__law_between : Addr
  fd__law_between : FuncData
  F__law_between : Fun K "_law_between" "_law_between" s__law_between a__law_between fd__law_between
  b__law_between : Binds K fd__law_between ["size", "start", "place", "end"] []
  g__law_between : mg "_law_between" = some (.ref a__law_between)
  a__law_read : Addr
  fd__law_read : FuncData
  F__law_read : Fun K "_law_read" "_law_read" s__law_read a__law_read fd__law_read
  b__law_read : Binds K fd__law_read ["size", "nexts", "behinds", "post", "at"] []
  g__law_read : mg "_law_read" = some (.ref a__law_read)
  a__law_sayings : Addr
  fd__law_sayings : FuncData
  F__law_sayings : Fun K "_law_sayings" "_law_sayings" s__law_sayings a__law_sayings fd__law_sayings
  b__law_sayings : Binds K fd__law_sayings ["size", "nexts", "behinds", "post"] []
  g__law_sayings : mg "_law_sayings" = some (.ref a__law_sayings)
  a__law_holds : Addr
  fd__law_holds : FuncData
  F__law_holds : Fun K "_law_holds" "_law_holds" s__law_holds a__law_holds fd__law_holds
  b__law_holds : Binds K fd__law_holds ["size", "nexts", "saying"] []
  g__law_holds : mg "_law_holds" = some (.ref a__law_holds)
  a__law_turns : Addr
  fd__law_turns : FuncData
  F__law_turns : Fun K "_law_turns" "_law_turns" s__law_turns a__law_turns fd__law_turns
  b__law_turns : Binds K fd__law_turns ["size", "nexts", "house"] []
  g__law_turns : mg "_law_turns" = some (.ref a__law_turns)
  a__law_ring : Addr
  fd__law_ring : FuncData
  F__law_ring : Fun K "_law_ring" "_law_ring" s__law_ring a__law_ring fd__law_ring
  b__law_ring : Binds K fd__law_ring ["nexts", "house"] []
  g__law_ring : mg "_law_ring" = some (.ref a__law_ring)
  a__law_root : Addr
  fd__law_root : FuncData
  F__law_root : Fun K "_law_root" "_law_root" s__law_root a__law_root fd__law_root
  b__law_root : Binds K fd__law_root ["nexts", "house"] []
  g__law_root : mg "_law_root" = some (.ref a__law_root)
  a__law_piece : Addr
  fd__law_piece : FuncData
  F__law_piece : Fun K "_law_piece" "_law_piece" s__law_piece a__law_piece fd__law_piece
  b__law_piece : Binds K fd__law_piece ["nexts", "house"] []
  g__law_piece : mg "_law_piece" = some (.ref a__law_piece)
  a__law_untrue : Addr
  fd__law_untrue : FuncData
  F__law_untrue : Fun K "_law_untrue" "_law_untrue" s__law_untrue a__law_untrue fd__law_untrue
  b__law_untrue : Binds K fd__law_untrue ["size", "nexts", "behinds", "post"] []
  g__law_untrue : mg "_law_untrue" = some (.ref a__law_untrue)
  a__law_plain : Addr
  fd__law_plain : FuncData
  F__law_plain : Fun K "_law_plain" "_law_plain" s__law_plain a__law_plain fd__law_plain
  b__law_plain : Binds K fd__law_plain ["places"] []
  g__law_plain : mg "_law_plain" = some (.ref a__law_plain)
  a__law_beginning : Addr
  fd__law_beginning : FuncData
  F__law_beginning : Fun K "_law_beginning" "_law_beginning" s__law_beginning a__law_beginning fd__law_beginning
  b__law_beginning : Binds K fd__law_beginning ["tape", "places"] []
  g__law_beginning : mg "_law_beginning" = some (.ref a__law_beginning)
  a__law_ending : Addr
  fd__law_ending : FuncData
  F__law_ending : Fun K "_law_ending" "_law_ending" s__law_ending a__law_ending fd__law_ending
  b__law_ending : Binds K fd__law_ending ["size", "nexts", "behinds", "post"] []
  g__law_ending : mg "_law_ending" = some (.ref a__law_ending)
  a__law_asked : Addr
  fd__law_asked : FuncData
  F__law_asked : Fun K "_law_asked" "_law_asked" s__law_asked a__law_asked fd__law_asked
  b__law_asked : Binds K fd__law_asked ["net", "size", "nexts", "behinds", "post"] []
  g__law_asked : mg "_law_asked" = some (.ref a__law_asked)
  a__law_deed : Addr
  fd__law_deed : FuncData
  F__law_deed : Fun K "_law_deed" "_law_deed" s__law_deed a__law_deed fd__law_deed
  b__law_deed : Binds K fd__law_deed ["tape", "net", "size", "nexts", "behinds", "post"] []
  g__law_deed : mg "_law_deed" = some (.ref a__law_deed)
  a__law_stands : Addr
  fd__law_stands : FuncData
  F__law_stands : Fun K "_law_stands" "_law_stands" s__law_stands a__law_stands fd__law_stands
  b__law_stands : Binds K fd__law_stands ["net", "nexts", "behinds", "post"] []
  g__law_stands : mg "_law_stands" = some (.ref a__law_stands)
  a__law_ordered : Addr
  fd__law_ordered : FuncData
  F__law_ordered : Fun K "_law_ordered" "_law_ordered" s__law_ordered a__law_ordered fd__law_ordered
  b__law_ordered : Binds K fd__law_ordered ["table"] []
  g__law_ordered : mg "_law_ordered" = some (.ref a__law_ordered)
  a__law_letter : Addr
  fd__law_letter : FuncData
  F__law_letter : Fun K "_law_letter" "_law_letter" s__law_letter a__law_letter fd__law_letter
  b__law_letter : Binds K fd__law_letter ["tape", "places"] []
  g__law_letter : mg "_law_letter" = some (.ref a__law_letter)
  a_law : Addr
  fd_law : FuncData
  F_law : Fun K "law" "law" s_law a_law fd_law
  b_law : Binds K fd_law ["script"] []
  g_law : mg "law" = some (.ref a_law)
  a__law_tape : Addr
  fd__law_tape : FuncData
  F__law_tape : Fun K "_law_tape" "_law_tape" s__law_tape a__law_tape fd__law_tape
  b__law_tape : Binds K fd__law_tape ["script"] []
  g__law_tape : mg "_law_tape" = some (.ref a__law_tape)
  a__law_pick : Addr
  fd__law_pick : FuncData
  F__law_pick : Fun K "_law_pick" "_law_pick" s__law_pick a__law_pick fd__law_pick
  b__law_pick : Binds K fd__law_pick ["tape", "size"] []
  g__law_pick : mg "_law_pick" = some (.ref a__law_pick)
  a__law_size : Addr
  fd__law_size : FuncData
  F__law_size : Fun K "_law_size" "_law_size" s__law_size a__law_size fd__law_size
  b__law_size : Binds K fd__law_size ["tape", "count"] []
  g__law_size : mg "_law_size" = some (.ref a__law_size)
  a__law_same : Addr
  fd__law_same : FuncData
  F__law_same : Fun K "_law_same" "_law_same" s__law_same a__law_same fd__law_same
  b__law_same : Binds K fd__law_same ["actual", "due"] []
  g__law_same : mg "_law_same" = some (.ref a__law_same)
  a_House__init : Addr
  fd_House__init : FuncData
  F_House__init : FunD K "__init__" "House.__init__" (defArgs s_House__init) (defBody s_House__init) (defScope s_House__init) [.non] [] a_House__init fd_House__init
  b_House__init : Binds K fd_House__init ["self", "size", "place", "next_house", "before"] []
  bd_House__init : List Value
  bv_House__init : Vals [.non] bd_House__init
  b1_House__init : Binds K fd_House__init ["self", "size", "place", "next_house", "before"] bd_House__init
  kg_House__init : List Value → List Value → List Value
  kb_House__init : KBn K fd_House__init ["self", "size", "place", "next_house", "before"] 4 ["before"] kg_House__init (fun vs zs => vs ++ zs)
  a_House__tell_letter : Addr
  fd_House__tell_letter : FuncData
  F_House__tell_letter : Fun K "tell_letter" "House.tell_letter" s_House__tell_letter a_House__tell_letter fd_House__tell_letter
  b_House__tell_letter : Binds K fd_House__tell_letter ["self"] []
  a_House__ask_letter : Addr
  fd_House__ask_letter : FuncData
  F_House__ask_letter : Fun K "ask_letter" "House.ask_letter" s_House__ask_letter a_House__ask_letter fd_House__ask_letter
  b_House__ask_letter : Binds K fd_House__ask_letter ["self"] []
  a_House__answer_to : Addr
  fd_House__answer_to : FuncData
  F_House__answer_to : Fun K "_answer_to" "House._answer_to" s_House__answer_to a_House__answer_to fd_House__answer_to
  b_House__answer_to : Binds K fd_House__answer_to ["self", "sender"] []
  a_House__hear_tell : Addr
  fd_House__hear_tell : FuncData
  F_House__hear_tell : Fun K "_hear_tell" "House._hear_tell" s_House__hear_tell a_House__hear_tell fd_House__hear_tell
  b_House__hear_tell : Binds K fd_House__hear_tell ["self", "sender"] []
  a_House__hear_answer : Addr
  fd_House__hear_answer : FuncData
  F_House__hear_answer : Fun K "_hear_answer" "House._hear_answer" s_House__hear_answer a_House__hear_answer fd_House__hear_answer
  b_House__hear_answer : Binds K fd_House__hear_answer ["self", "sender", "named"] []
  a_House__hear : Addr
  fd_House__hear : FuncData
  F_House__hear : Fun K "hear" "House.hear" s_House__hear a_House__hear fd_House__hear
  b_House__hear : Binds K fd_House__hear ["self", "letter"] []
  a_Net__houses : Addr
  fd_Net__houses : FuncData
  F_Net__houses : Fun K "houses" "Net.houses" s_Net__houses a_Net__houses fd_Net__houses
  b_Net__houses : Binds K fd_Net__houses ["self"] []
  a_Net__check_house : Addr
  fd_Net__check_house : FuncData
  F_Net__check_house : Fun K "check_house" "Net.check_house" s_Net__check_house a_Net__check_house fd_Net__check_house
  b_Net__check_house : Binds K fd_Net__check_house ["self", "place"] []
  a_Net__check_letter : Addr
  fd_Net__check_letter : FuncData
  F_Net__check_letter : Fun K "_check_letter" "Net._check_letter" s_Net__check_letter a_Net__check_letter fd_Net__check_letter
  b_Net__check_letter : Binds K fd_Net__check_letter ["self", "at"] []
  a_Net__house_at : Addr
  fd_Net__house_at : FuncData
  F_Net__house_at : Fun K "_house_at" "Net._house_at" s_Net__house_at a_Net__house_at fd_Net__house_at
  b_Net__house_at : Binds K fd_Net__house_at ["self", "place"] []
  a_Net__send : Addr
  fd_Net__send : FuncData
  F_Net__send : Fun K "_send" "Net._send" s_Net__send a_Net__send fd_Net__send
  b_Net__send : Binds K fd_Net__send ["self", "letter"] []
  a_Net__letters : Addr
  fd_Net__letters : FuncData
  F_Net__letters : Fun K "letters" "Net.letters" s_Net__letters a_Net__letters fd_Net__letters
  b_Net__letters : Binds K fd_Net__letters ["self"] []
  a_Net__nexts : Addr
  fd_Net__nexts : FuncData
  F_Net__nexts : Fun K "nexts" "Net.nexts" s_Net__nexts a_Net__nexts fd_Net__nexts
  b_Net__nexts : Binds K fd_Net__nexts ["self"] []
  a_Net__befores : Addr
  fd_Net__befores : FuncData
  F_Net__befores : Fun K "befores" "Net.befores" s_Net__befores a_Net__befores fd_Net__befores
  b_Net__befores : Binds K fd_Net__befores ["self"] []
  a_Net__check_letters : Addr
  fd_Net__check_letters : FuncData
  F_Net__check_letters : Fun K "_check_letters" "Net._check_letters" s_Net__check_letters a_Net__check_letters fd_Net__check_letters
  b_Net__check_letters : Binds K fd_Net__check_letters ["self"] []
  a_Net__check_places : Addr
  fd_Net__check_places : FuncData
  F_Net__check_places : Fun K "_check_places" "Net._check_places" s_Net__check_places a_Net__check_places fd_Net__check_places
  b_Net__check_places : Binds K fd_Net__check_places ["self"] []
  a_Net__take_befores : Addr
  fd_Net__take_befores : FuncData
  F_Net__take_befores : Fun K "_take_befores" "Net._take_befores" s_Net__take_befores a_Net__take_befores fd_Net__take_befores
  b_Net__take_befores : Binds K fd_Net__take_befores ["self", "befores"] []
  a_Net__init : Addr
  fd_Net__init : FuncData
  F_Net__init : FunD K "__init__" "Net.__init__" (defArgs s_Net__init) (defBody s_Net__init) (defScope s_Net__init) [] [("befores", .non), ("letters", .non)] a_Net__init fd_Net__init
  kg_Net__init : List Value → List Value → List Value
  kb_Net__init : KBn K fd_Net__init ["self", "size", "nexts", "befores", "letters"] 3 ["befores", "letters"] kg_Net__init (fun vs zs => vs ++ zs)
  bd_Net__init : List Value
  bv_Net__init : Vals [.non, .non] bd_Net__init
  b1_Net__init : Binds K fd_Net__init ["self", "size", "nexts", "befores", "letters"] bd_Net__init
  a__law_places : Addr
  fd__law_places : FuncData
  F__law_places : Fun K "_law_places" "_law_places" s__law_places a__law_places fd__law_places
  b__law_places : Binds K fd__law_places ["tape", "size", "count"] []
  g__law_places : mg "_law_places" = some (.ref a__law_places)
  C_Walk : Addr
  mc_Walk : mg "Walk" = some (.ref C_Walk)
  cl_Walk : Cls K C_Walk
  na_Walk_size : NoAttr K C_Walk "size"
  na_Walk_places : NoAttr K C_Walk "places"
  mk_Walk : Mk K C_Walk a_Walk__init
  me_Walk__steps : Meth K C_Walk "_steps" a_Walk__steps
  me_Walk__is_closed : Meth K C_Walk "is_closed" a_Walk__is_closed
  me_Walk__total : Meth K C_Walk "total" a_Walk__total
  me_Walk__turns : Meth K C_Walk "turns" a_Walk__turns
  C_House : Addr
  mc_House : mg "House" = some (.ref C_House)
  cl_House : Cls K C_House
  na_House_size : NoAttr K C_House "size"
  na_House_place : NoAttr K C_House "place"
  na_House_next_house : NoAttr K C_House "next_house"
  na_House_before : NoAttr K C_House "before"
  mk_House : Mk K C_House a_House__init
  me_House__tell_letter : Meth K C_House "tell_letter" a_House__tell_letter
  me_House__ask_letter : Meth K C_House "ask_letter" a_House__ask_letter
  me_House__answer_to : Meth K C_House "_answer_to" a_House__answer_to
  me_House__hear_tell : Meth K C_House "_hear_tell" a_House__hear_tell
  me_House__hear_answer : Meth K C_House "_hear_answer" a_House__hear_answer
  me_House__hear : Meth K C_House "hear" a_House__hear
  C_Net : Addr
  mc_Net : mg "Net" = some (.ref C_Net)
  cl_Net : Cls K C_Net
  na_Net_size : NoAttr K C_Net "size"
  na_Net__nexts : NoAttr K C_Net "_nexts"
  na_Net__befores : NoAttr K C_Net "_befores"
  na_Net__letters : NoAttr K C_Net "_letters"
  me_Net__next_of : Meth K C_Net "next_of" a_Net__next_of
  me_Net__hold : Meth K C_Net "hold" a_Net__hold
  me_Net__set_before : Meth K C_Net "set_before" a_Net__set_before
  me_Net__tell : Meth K C_Net "tell" a_Net__tell
  me_Net__ask : Meth K C_Net "ask" a_Net__ask
  me_Net__repeat : Meth K C_Net "repeat" a_Net__repeat
  me_Net__lose : Meth K C_Net "lose" a_Net__lose
  me_Net__read : Meth K C_Net "read" a_Net__read
  me_Net__houses : Meth K C_Net "houses" a_Net__houses
  me_Net__check_house : Meth K C_Net "check_house" a_Net__check_house
  me_Net__check_letter : Meth K C_Net "_check_letter" a_Net__check_letter
  me_Net__house_at : Meth K C_Net "_house_at" a_Net__house_at
  me_Net__send : Meth K C_Net "_send" a_Net__send
  me_Net__letters : Meth K C_Net "letters" a_Net__letters
  me_Net__nexts : Meth K C_Net "nexts" a_Net__nexts
  me_Net__befores : Meth K C_Net "befores" a_Net__befores
  me_Net__check_letters : Meth K C_Net "_check_letters" a_Net__check_letters
  me_Net__check_places : Meth K C_Net "_check_places" a_Net__check_places
  me_Net__take_befores : Meth K C_Net "_take_befores" a_Net__take_befores
  mk_Net : Mk K C_Net a_Net__init
  C_OffCircle : Addr
  mc_OffCircle : mg "OffCircle" = some (.ref C_OffCircle)
  C_OpenWalk : Addr
  mc_OpenWalk : mg "OpenWalk" = some (.ref C_OpenWalk)
  C_UntrueNet : Addr
  mc_UntrueNet : mg "UntrueNet" = some (.ref C_UntrueNet)
  C_NoHouse : Addr
  mc_NoHouse : mg "NoHouse" = some (.ref C_NoHouse)
  C_NoLetter : Addr
  mc_NoLetter : mg "NoLetter" = some (.ref C_NoLetter)
namespace T0
variable {K : PySem.W.Frag} {mg : Str → Option Value} (T : T0 K mg)
theorem k__law_nexts : PySem.W.keepIn K (.ref T.a__law_nexts) = true := T.F__law_nexts.kp
theorem k_far : PySem.W.keepIn K (.ref T.a_far) = true := T.F_far.kp
theorem k_between : PySem.W.keepIn K (.ref T.a_between) = true := T.F_between.kp
theorem k_check_on_circle : PySem.W.keepIn K (.ref T.a_check_on_circle) = true := T.F_check_on_circle.kp
theorem k_nearest_ahead : PySem.W.keepIn K (.ref T.a_nearest_ahead) = true := T.F_nearest_ahead.kp
theorem k_Walk__init : PySem.W.keepIn K (.ref T.a_Walk__init) = true := T.F_Walk__init.kp
theorem k_Walk__steps : PySem.W.keepIn K (.ref T.a_Walk__steps) = true := T.F_Walk__steps.kp
theorem k_Walk__is_closed : PySem.W.keepIn K (.ref T.a_Walk__is_closed) = true := T.F_Walk__is_closed.kp
theorem k_Walk__total : PySem.W.keepIn K (.ref T.a_Walk__total) = true := T.F_Walk__total.kp
theorem k_Walk__turns : PySem.W.keepIn K (.ref T.a_Walk__turns) = true := T.F_Walk__turns.kp
theorem k_Net__next_of : PySem.W.keepIn K (.ref T.a_Net__next_of) = true := T.F_Net__next_of.kp
theorem k_Net__hold : PySem.W.keepIn K (.ref T.a_Net__hold) = true := T.F_Net__hold.kp
theorem k_Net__set_before : PySem.W.keepIn K (.ref T.a_Net__set_before) = true := T.F_Net__set_before.kp
theorem k_Net__tell : PySem.W.keepIn K (.ref T.a_Net__tell) = true := T.F_Net__tell.kp
theorem k_Net__ask : PySem.W.keepIn K (.ref T.a_Net__ask) = true := T.F_Net__ask.kp
theorem k_Net__repeat : PySem.W.keepIn K (.ref T.a_Net__repeat) = true := T.F_Net__repeat.kp
theorem k_Net__lose : PySem.W.keepIn K (.ref T.a_Net__lose) = true := T.F_Net__lose.kp
theorem k_Net__read : PySem.W.keepIn K (.ref T.a_Net__read) = true := T.F_Net__read.kp
theorem k__lengths_from : PySem.W.keepIn K (.ref T.a__lengths_from) = true := T.F__lengths_from.kp
theorem k_from_least : PySem.W.keepIn K (.ref T.a_from_least) = true := T.F_from_least.kp
theorem k__gate_after : PySem.W.keepIn K (.ref T.a__gate_after) = true := T.F__gate_after.kp
theorem k_ring_of : PySem.W.keepIn K (.ref T.a_ring_of) = true := T.F_ring_of.kp
theorem k_piece_of : PySem.W.keepIn K (.ref T.a_piece_of) = true := T.F_piece_of.kp
theorem k_pieces : PySem.W.keepIn K (.ref T.a_pieces) = true := T.F_pieces.kp
theorem k_order_turns : PySem.W.keepIn K (.ref T.a_order_turns) = true := T.F_order_turns.kp
theorem k_turns_of : PySem.W.keepIn K (.ref T.a_turns_of) = true := T.F_turns_of.kp
theorem k_order_nexts : PySem.W.keepIn K (.ref T.a_order_nexts) = true := T.F_order_nexts.kp
theorem k_way_length : PySem.W.keepIn K (.ref T.a_way_length) = true := T.F_way_length.kp
theorem k_house_at : PySem.W.keepIn K (.ref T.a_house_at) = true := T.F_house_at.kp
theorem k_sayings : PySem.W.keepIn K (.ref T.a_sayings) = true := T.F_sayings.kp
theorem k__pairs_said_by : PySem.W.keepIn K (.ref T.a__pairs_said_by) = true := T.F__pairs_said_by.kp
theorem k_holds_true : PySem.W.keepIn K (.ref T.a_holds_true) = true := T.F_holds_true.kp
theorem k_first_untrue : PySem.W.keepIn K (.ref T.a_first_untrue) = true := T.F_first_untrue.kp
theorem k_marks_of : PySem.W.keepIn K (.ref T.a_marks_of) = true := T.F_marks_of.kp
theorem k_mark_row : PySem.W.keepIn K (.ref T.a_mark_row) = true := T.F_mark_row.kp
theorem k__lap_of : PySem.W.keepIn K (.ref T.a__lap_of) = true := T.F__lap_of.kp
theorem k_told_end : PySem.W.keepIn K (.ref T.a_told_end) = true := T.F_told_end.kp
theorem k_is_plain : PySem.W.keepIn K (.ref T.a_is_plain) = true := T.F_is_plain.kp
theorem k_ends_plain : PySem.W.keepIn K (.ref T.a_ends_plain) = true := T.F_ends_plain.kp
theorem k__check_true : PySem.W.keepIn K (.ref T.a__check_true) = true := T.F__check_true.kp
theorem k__plain_nexts : PySem.W.keepIn K (.ref T.a__plain_nexts) = true := T.F__plain_nexts.kp
theorem k__ascending : PySem.W.keepIn K (.ref T.a__ascending) = true := T.F__ascending.kp
theorem k__law_far : PySem.W.keepIn K (.ref T.a__law_far) = true := T.F__law_far.kp
theorem k__law_between : PySem.W.keepIn K (.ref T.a__law_between) = true := T.F__law_between.kp
theorem k__law_read : PySem.W.keepIn K (.ref T.a__law_read) = true := T.F__law_read.kp
theorem k__law_sayings : PySem.W.keepIn K (.ref T.a__law_sayings) = true := T.F__law_sayings.kp
theorem k__law_holds : PySem.W.keepIn K (.ref T.a__law_holds) = true := T.F__law_holds.kp
theorem k__law_turns : PySem.W.keepIn K (.ref T.a__law_turns) = true := T.F__law_turns.kp
theorem k__law_ring : PySem.W.keepIn K (.ref T.a__law_ring) = true := T.F__law_ring.kp
theorem k__law_root : PySem.W.keepIn K (.ref T.a__law_root) = true := T.F__law_root.kp
theorem k__law_piece : PySem.W.keepIn K (.ref T.a__law_piece) = true := T.F__law_piece.kp
theorem k__law_untrue : PySem.W.keepIn K (.ref T.a__law_untrue) = true := T.F__law_untrue.kp
theorem k__law_plain : PySem.W.keepIn K (.ref T.a__law_plain) = true := T.F__law_plain.kp
theorem k__law_beginning : PySem.W.keepIn K (.ref T.a__law_beginning) = true := T.F__law_beginning.kp
theorem k__law_ending : PySem.W.keepIn K (.ref T.a__law_ending) = true := T.F__law_ending.kp
theorem k__law_asked : PySem.W.keepIn K (.ref T.a__law_asked) = true := T.F__law_asked.kp
theorem k__law_deed : PySem.W.keepIn K (.ref T.a__law_deed) = true := T.F__law_deed.kp
theorem k__law_stands : PySem.W.keepIn K (.ref T.a__law_stands) = true := T.F__law_stands.kp
theorem k__law_ordered : PySem.W.keepIn K (.ref T.a__law_ordered) = true := T.F__law_ordered.kp
theorem k__law_letter : PySem.W.keepIn K (.ref T.a__law_letter) = true := T.F__law_letter.kp
theorem k_law : PySem.W.keepIn K (.ref T.a_law) = true := T.F_law.kp
theorem k__law_tape : PySem.W.keepIn K (.ref T.a__law_tape) = true := T.F__law_tape.kp
theorem k__law_pick : PySem.W.keepIn K (.ref T.a__law_pick) = true := T.F__law_pick.kp
theorem k__law_size : PySem.W.keepIn K (.ref T.a__law_size) = true := T.F__law_size.kp
theorem k__law_same : PySem.W.keepIn K (.ref T.a__law_same) = true := T.F__law_same.kp
theorem k_House__init : PySem.W.keepIn K (.ref T.a_House__init) = true := T.F_House__init.kp
theorem k_House__tell_letter : PySem.W.keepIn K (.ref T.a_House__tell_letter) = true := T.F_House__tell_letter.kp
theorem k_House__ask_letter : PySem.W.keepIn K (.ref T.a_House__ask_letter) = true := T.F_House__ask_letter.kp
theorem k_House__answer_to : PySem.W.keepIn K (.ref T.a_House__answer_to) = true := T.F_House__answer_to.kp
theorem k_House__hear_tell : PySem.W.keepIn K (.ref T.a_House__hear_tell) = true := T.F_House__hear_tell.kp
theorem k_House__hear_answer : PySem.W.keepIn K (.ref T.a_House__hear_answer) = true := T.F_House__hear_answer.kp
theorem k_House__hear : PySem.W.keepIn K (.ref T.a_House__hear) = true := T.F_House__hear.kp
theorem k_Net__houses : PySem.W.keepIn K (.ref T.a_Net__houses) = true := T.F_Net__houses.kp
theorem k_Net__check_house : PySem.W.keepIn K (.ref T.a_Net__check_house) = true := T.F_Net__check_house.kp
theorem k_Net__check_letter : PySem.W.keepIn K (.ref T.a_Net__check_letter) = true := T.F_Net__check_letter.kp
theorem k_Net__house_at : PySem.W.keepIn K (.ref T.a_Net__house_at) = true := T.F_Net__house_at.kp
theorem k_Net__send : PySem.W.keepIn K (.ref T.a_Net__send) = true := T.F_Net__send.kp
theorem k_Net__letters : PySem.W.keepIn K (.ref T.a_Net__letters) = true := T.F_Net__letters.kp
theorem k_Net__nexts : PySem.W.keepIn K (.ref T.a_Net__nexts) = true := T.F_Net__nexts.kp
theorem k_Net__befores : PySem.W.keepIn K (.ref T.a_Net__befores) = true := T.F_Net__befores.kp
theorem k_Net__check_letters : PySem.W.keepIn K (.ref T.a_Net__check_letters) = true := T.F_Net__check_letters.kp
theorem k_Net__check_places : PySem.W.keepIn K (.ref T.a_Net__check_places) = true := T.F_Net__check_places.kp
theorem k_Net__take_befores : PySem.W.keepIn K (.ref T.a_Net__take_befores) = true := T.F_Net__take_befores.kp
theorem k_Net__init : PySem.W.keepIn K (.ref T.a_Net__init) = true := T.F_Net__init.kp
theorem k__law_places : PySem.W.keepIn K (.ref T.a__law_places) = true := T.F__law_places.kp
end T0
theorem un1 {k : Nat} {A : Around} (r : Room k A) : A.units + 1 < cLine := by have := r.un; omega
theorem iteT' {b : Bool} {A B : Prop} (h : b = true) (a : A) : if b = true then A else B := by rw [if_pos h]; exact a
theorem iteF' {b : Bool} {A B : Prop} (h : b = false) (a : B) : if b = true then A else B := by rw [if_neg (by rw [h]; exact Bool.false_ne_true)]; exact a
theorem small1000' {n : Nat} (h : n ≤ 100000) : n < sizeLine := Nat.lt_of_le_of_lt h (by decide)
theorem upd_self {H : Hp} {t : Addr} {o : HO} (h : H t = Option.some o) : H = upd H t o := by
  funext b
  unfold upd
  split
  · rename_i e
    rw [e, h]
  · rfl
theorem at_ints {cs : List Int} {a : Nat} (h : a < cs.length) : atI (cs.map V.int) (a : Int) = Option.some (.int (cs[a])) := by
  refine atI_nat ?_
  rw [List.getElem?_map, List.getElem?_eq_getElem h]
  rfl
theorem at_getD {cs : List Int} {a : Nat} (h : a < cs.length) : atI (cs.map V.int) (a : Int) = Option.some (.int (cs.getD a 0)) := by
  refine atI_nat ?_
  rw [List.getElem?_map, List.getElem?_eq_getElem h, List.getD_eq_getElem?_getD, List.getElem?_eq_getElem h]
  rfl
theorem fmod_range (x : Int) {n : Int} (h : 0 < n) : 0 ≤ x.fmod n ∧ x.fmod n < n := ⟨Int.fmod_nonneg_of_pos x h, Int.fmod_lt_of_pos x h⟩
theorem mod_small (x : Int) {m : Int} (h : 0 < m) (h2 : m ≤ 9223372036854775808) : -(2 ^ 64) < x.fmod m ∧ x.fmod m < 2 ^ 64 := by
  have h3 := Int.fmod_nonneg_of_pos x h
  have h4 := Int.fmod_lt_of_pos x h
  constructor <;> omega
theorem cdivn (x : Int) {n : Int} (h : 0 < n) (h2 : n ≤ 1000000001) : CDivN x n := ⟨by omega, by omega⟩
theorem cdivw (x : Int) {n : Int} (h : 0 < n) (h2 : n ≤ 4000000000) : CDivW x n := wide_div (b := 63) h (by omega) (by decide) (by decide)
local macro_rules | `(tactic| walk_at "side") => `(tactic| first
  | with_reducible assumption
  | decide
  | ((with_reducible apply mod_small) <;> decide)
  | exact Or.inl ⟨by decide, by decide⟩
  | (apply Or.inl; (with_reducible apply mod_small) <;> decide)
  | exact Or.inr ⟨by decide, by decide⟩
  | ((with_reducible apply cdivn) <;> first | decide | omega)
  | ((with_reducible apply cdivw) <;> first | decide | omega)
  | (dsimp only; first | decide | omega)
  | exact ⟨by dsimp only; first | decide | omega, by dsimp only; first | decide | omega⟩)
local macro_rules | `(tactic| walk_at "go1") => `(tactic| first
  | refine ⟨_, rfl, ?_⟩
  | refine ⟨_, _, rfl, rfl, ?_⟩
  | refine Or.inl ⟨_, rfl, ?_⟩
  | refine ⟨_, _, _, _, rfl, rfl, (by first | assumption | exact SqL.of (by assumption) | exact upd_same | exact SqL.of upd_same), (by rfl), ?_⟩
  | refine ⟨rfl, ?_⟩
  | refine ⟨(show (_ : Prop) from by walk_at "side"), ?_⟩)
local macro_rules | `(tactic| walk_at "go") => `(tactic| repeat (walk_at "go1"))
section
variable {X : Cx} {K : PySem.W.Frag}
theorem ix_listK (h : X.K = K := by rfl) : IxR X (rIxL K) := by subst h; exact ix_list
theorem ix_tupK (h : X.K = K := by rfl) : IxR X (rIxT K) := by subst h; exact ix_tup
theorem ix_seqK (h : X.K = K := by rfl) : IxR X (rIx K) := by subst h; exact ix_seq
theorem sl_listK (h : X.K = K := by rfl) : SlR X (rSlL K) := by subst h; exact sl_list
theorem sl_tupK (h : X.K = K := by rfl) : SlR X (rSlT K) := by subst h; exact sl_tup
theorem op_in_seqK (h : X.K = K := by rfl) : OpR X (compareOp .In) (rIn K false) := by subst h; exact op_in_seq
theorem op_notIn_seqK (h : X.K = K := by rfl) : OpR X (compareOp .NotIn) (rIn K true) := by subst h; exact op_notIn_seq
def rLen (K : PySem.W.Frag) : List V → Hp → VK → Prop := fun xs H Q => ∃ p ys, xs = [.ref p] ∧ (SqL K H p ys ∨ SqT K H p ys) ∧ Q (.int ys.length) H
theorem call_lenK (h : X.K = K := by rfl) : CallR X (.builtin "len") (rLen K) := by subst h; exact call_len_seq
def rListOf (K : PySem.W.Frag) : List V → Hp → VK → Prop := fun xs H Q => ∃ p ys, xs = [.ref p] ∧ (SqL K H p ys ∨ SqT K H p ys) ∧ ∀ l, H l = none → Q (.ref l) (upd H l (.lst ys))
theorem call_list_ofK (h : X.K = K := by rfl) : CallR X (.type "list") (rListOf K) := by subst h; exact call_list_of
def rTupleOf (K : PySem.W.Frag) : List V → Hp → VK → Prop := fun xs H Q => ∃ p ys, xs = [.ref p] ∧ ((SqL K H p ys ∧ ∀ l, H l = none → Q (.ref l) (upd H l (.tup ys))) ∨ (SqT K H p ys ∧ Q (.ref p) H))
theorem call_tuple_ofK (h : X.K = K := by rfl) : CallR X (.type "tuple") (rTupleOf K) := by subst h; exact call_tuple_of
theorem call_isinstK (h : X.K = K := by rfl) : CallR X (.builtin "isinstance") (rIsi K) := by subst h; exact call_isi
theorem cr_sortedK (h : X.K = K := by rfl) : CallR X (.builtin "sorted") (rSorted K) := by subst h; exact cr_sorted
theorem call_sumK (hc : X.calm = true := by rfl) (h : X.K = K := by rfl) : CallR X (.builtin "sum") (rSum K) := by subst h; exact cr_sum hc
end
section
variable {σ : L2.St} {H : Hp} {ta tb tc : TE} {x y z : V}
theorem val_I0 {g : Int → Int → V} {i j : Int} (ha : Val ta σ H (.int i)) (hb : Val tb σ H (.int j)) : Val (tOp (rI0 g) ta tb) σ H (g i j) := fun _ q => ha _ (hb _ ⟨i, j, rfl, rfl, q⟩)
theorem val_I {C : Int → Int → Prop} {g : Int → Int → V} {i j : Int} (ha : Val ta σ H (.int i)) (hb : Val tb σ H (.int j)) (hc : C i j) : Val (tOp (rI C g) ta tb) σ H (g i j) := fun _ q => ha _ (hb _ ⟨i, j, rfl, rfl, hc, q⟩)
theorem val_eq (ha : Val ta σ H x) (hb : Val tb σ H y) (hs : scal x y = true) : Val (tOp rEq ta tb) σ H (.bl (decide (x = y))) := fun _ q => ha _ (hb _ ⟨hs, q⟩)
theorem val_ne (ha : Val ta σ H x) (hb : Val tb σ H y) (hs : scal x y = true) : Val (tOp rNe ta tb) σ H (.bl (!decide (x = y))) := fun _ q => ha _ (hb _ ⟨hs, q⟩)
theorem val_chain {g : Int → Int → Bool} {g' : Int → Int → Bool} {i j k : Int} (ha : Val ta σ H (.int i)) (hb : Val tb σ H (.int j)) (hc : Val tc σ H (.int k)) :
    Val (tChain (rI0 fun i j => .bl (g i j)) (rI0 fun i j => .bl (g' i j)) ta tb tc) σ H (.bl (g i j && g' j k)) := fun Q q => ha _ (hb _ ⟨i, j, rfl, rfl, _, rfl, by
  cases e : g i j with
  | true =>
    refine iteT (hc _ ⟨j, k, rfl, rfl, ?_⟩)
    rw [e] at q
    exact q
  | false =>
    rw [e] at q
    exact iteF q⟩)
theorem val_ixL {K : PySem.W.Frag} {p : Addr} {xs : List V} {i : Int} (ha : Val ta σ H (.ref p)) (hb : Val tb σ H (.int i)) (h : SqL K H p xs) (h2 : atI xs i = Option.some x) : Val (tOp (rIxL K) ta tb) σ H x := fun _ q => ha _ (hb _ ⟨p, xs, i, x, rfl, rfl, h, h2, q⟩)
theorem val_ixT {K : PySem.W.Frag} {p : Addr} {xs : List V} {i : Int} (ha : Val ta σ H (.ref p)) (hb : Val tb σ H (.int i)) (h : SqT K H p xs) (h2 : atI xs i = Option.some x) : Val (tOp (rIxT K) ta tb) σ H x := fun _ q => ha _ (hb _ ⟨p, xs, i, x, rfl, rfl, h, h2, q⟩)
theorem val_andV {a b : Bool} (ha : Val ta σ H (.bl a)) (hb : a = true → Val tb σ H (.bl b)) : Val (tAndV ta tb) σ H (.bl (a && b)) := fun Q q => ha _ ⟨a, rfl, by
  cases a with
  | true => exact iteT (hb rfl _ q)
  | false => exact iteF q⟩
theorem val_orV {a b : Bool} (ha : Val ta σ H (.bl a)) (hb : a = false → Val tb σ H (.bl b)) : Val (tOrV ta tb) σ H (.bl (a || b)) := fun Q q => ha _ ⟨a, rfl, by
  cases a with
  | true => exact iteT q
  | false => exact iteF (hb rfl _ q)⟩
theorem val_notV {a : Bool} (ha : Val ta σ H (.bl a)) : Val (tNotV ta) σ H (.bl (!a)) := fun _ q => ha _ ⟨a, rfl, q⟩
def ValA (ta : TA) (σ : L2.St) (H : Hp) (vs : List V) : Prop := ∀ Q : List V → Hp → Prop, Q vs H → ta σ H Q
theorem valA_nil : ValA tNil σ H [] := fun _ q => q
theorem valA_cons {tr : TA} {vs : List V} (h : Val ta σ H x) (hr : ValA tr σ H vs) : ValA (tCons ta tr) σ H (x :: vs) := fun _ q => h _ (hr _ q)
theorem go_lst {tr : TA} {vs : List V} {Q : VK} (h : ValA tr σ H vs) (hz : vs.length ≤ 100000) (q : ∀ p, H p = none → Q (.ref p) (upd H p (.lst vs))) : tLst tr σ H Q := h _ ⟨Nat.le_trans hz (by decide), q⟩
theorem go_tup {tr : TA} {vs : List V} {Q : VK} (h : ValA tr σ H vs) (hz : vs.length ≤ 100000) (q : ∀ p, H p = none → Q (.ref p) (upd H p (.tup vs))) : tTup tr σ H Q := h _ ⟨Nat.le_trans hz (by decide), q⟩
theorem val_call {tr : TA} {vs : List V} {sp : Sp} {dvs : List V} {E : XK} (h : ValA tr σ H vs) (hs : ∀ Q : VK, Q x H → sp (vs ++ dvs) H Q E) : Val (tCall sp dvs E tr) σ H x := fun _ q => h _ (hs _ q)
theorem val_cb {tr : TA} {vs : List V} {r : List V → Hp → VK → Prop} (h : ValA tr σ H vs) (hs : ∀ Q : VK, Q x H → r vs H Q) : Val (tCB r tr) σ H x := fun _ q => h _ (hs _ q)
variable {D : Ends} {tz tu tw : TS} {i : Nat} {tt tv : TT}
theorem o_asg (h : ta σ H fun v H' => tz D (σ.set i (some v)) H') : tSeq (tAsg ta (gName i)) tz D σ H := h
theorem o_ret (h : ta σ H D.rt) : tRet ta D σ H := h
theorem o_drop (h : ta σ H fun _ H' => tz D σ H') : tSeq (tDrop ta) tz D σ H := h
theorem v_asg (h : Val ta σ H x) (k : tz D (σ.set i (some x)) H) : tSeq (tAsg ta (gName i)) tz D σ H := h _ k
theorem v_asg1 (h : Val ta σ H x) (k : D.nx (σ.set i (some x)) H) : tAsg ta (gName i) D σ H := h _ k
theorem lc_yes {A B : Hp → Prop} (h : A H) : tYes σ H (fun b H3 => if b = true then A H3 else B H3) := by show (if true = true then A H else B H); exact iteT h
theorem g_name {v : V} {Q : L2.St → Hp → Prop} (h : Q (σ.set i (some v)) H) : gName i v σ H Q := h
theorem v_ret (h : Val ta σ H x) (k : D.rt x H) : tRet ta D σ H := h _ k
theorem v_if {b : Bool} (h : Ans tt σ H b) (h1 : b = true → tu { D with nx := tz D } σ H) (h2 : b = false → tw { D with nx := tz D } σ H) : tSeq (tIfS tt tu tw) tz D σ H := h _ (by
  cases b with
  | true => exact iteT (h1 rfl)
  | false => exact iteF (h2 rfl))
theorem v_if1 {b : Bool} (h : Ans tt σ H b) (h1 : b = true → tu D σ H) (h2 : b = false → tw D σ H) : tIfS tt tu tw D σ H := h _ (by
  cases b with
  | true => exact iteT (h1 rfl)
  | false => exact iteF (h2 rfl))
/-- an if without else: the rest once more where the test says no -/
theorem v_when {b : Bool} (h : Ans tt σ H b) (h1 : b = true → tu { D with nx := tz D } σ H) (h2 : b = false → tz D σ H) : tSeq (tIfS tt tu tNext) tz D σ H := v_if h h1 h2
theorem ans_t {b : Bool} (h : Val ta σ H (.bl b)) : Ans (tTest ta) σ H b := fun _ q => h _ ⟨b, rfl, q⟩
theorem ans_b {b : Bool} (h : Val ta σ H (.bl b)) : Ans (tB ta) σ H b := fun _ q => h _ ⟨b, rfl, q⟩
theorem ans_a {a b : Bool} (h : Ans tt σ H a) (h2 : a = true → Ans tv σ H b) : Ans (tAnd tt tv) σ H (a && b) := fun _ q => h _ (by
  cases a with
  | true => exact iteT (h2 rfl _ q)
  | false => exact iteF q)
theorem ans_o {a b : Bool} (h : Ans tt σ H a) (h2 : a = false → Ans tv σ H b) : Ans (tOr tt tv) σ H (a || b) := fun _ q => h _ (by
  cases a with
  | true => exact iteT q
  | false => exact iteF (h2 rfl _ q))
theorem ans_n {a : Bool} (h : Ans tt σ H a) : Ans (tNot tt) σ H (!a) := fun _ q => h _ q
theorem Val.to (h : Val ta σ H x) (e : x = y) : Val ta σ H y := e ▸ h
theorem Val.go {Q : VK} (h : Val ta σ H x) (q : Q x H) : ta σ H Q := h Q q
end
local macro_rules | `(tactic| walk_at "sql") => `(tactic| first
  | with_reducible assumption
  | exact SqL.of (by assumption)
  | exact SqL.of upd_same)
local macro_rules | `(tactic| walk_at "sqt") => `(tactic| first
  | with_reducible assumption
  | exact SqT.of (by assumption)
  | exact SqT.of upd_same)
local macro_rules | `(tactic| walk_at "at") => `(tactic| first
  | with_reducible assumption
  | exact at_getD (by omega)
  | exact at_ints (by assumption)
  | rfl)
local macro_rules | `(tactic| walk_at "val") => `(tactic| first
  | with_reducible assumption
  | with_reducible exact val_c
  | ((with_reducible apply val_var); rfl)
  | ((with_reducible apply val_I0); (· walk_at "val"); (· walk_at "val"))
  | ((with_reducible apply val_I); (· walk_at "val"); (· walk_at "val"); (· walk_at "side"))
  | ((with_reducible apply val_eq); (· walk_at "val"); (· walk_at "val"); (· rfl))
  | ((with_reducible apply val_ne); (· walk_at "val"); (· walk_at "val"); (· rfl))
  | ((with_reducible apply val_chain); (· walk_at "val"); (· walk_at "val"); (· walk_at "val"))
  | ((with_reducible apply val_andV); (· walk_at "val"); (· intro _; walk_at "val"))
  | ((with_reducible apply val_orV); (· walk_at "val"); (· intro _; walk_at "val"))
  | ((with_reducible apply val_notV); (· walk_at "val"))
  | ((with_reducible apply val_ixL); (· walk_at "val"); (· walk_at "val"); (· walk_at "sql"); (· walk_at "at"))
  | ((with_reducible apply val_ixT); (· walk_at "val"); (· walk_at "val"); (· walk_at "sqt"); (· walk_at "at"))
  | with_reducible exact valA_nil
  | ((with_reducible apply valA_cons); (· walk_at "val"); (· walk_at "val"))
  | ((with_reducible apply val_cb); (· walk_at "val"); (· intro _ q; exact Or.inl ⟨_, rfl, q⟩))
  | ((with_reducible apply val_call); (· walk_at "val"); (· intro _ q; walk_at "sp")))
local macro_rules | `(tactic| walk_at "ans") => `(tactic| first
  | ((with_reducible apply ans_t); (· walk_at "val"))
  | ((with_reducible apply ans_b); (· walk_at "val"))
  | ((with_reducible apply ans_a); (· walk_at "ans"); (· intro _; walk_at "ans"))
  | ((with_reducible apply ans_o); (· walk_at "ans"); (· intro _; walk_at "ans"))
  | ((with_reducible apply ans_n); (· walk_at "ans")))
local macro_rules | `(tactic| walk_at "len") => `(tactic| first
  | (simp only [List.length_cons, List.length_nil, List.length_map, List.length_append]; omega)
  | assumption)
theorem Same.fresh {H H' : Hp} {p : Addr} {o : HO} (e : Same H H') (h : H p = Option.none) : Same H (upd H' p o) := fun a u ha => by
  rw [upd_ne (ne_of_none ha h)]
  exact e a u ha
theorem take_map_succ {xs : List Int} {j : Nat} {x : Int} (h : xs[j]? = Option.some x) : ((xs.take j).map V.int) ++ [.int x] = (xs.take (j + 1)).map V.int := by
  rw [List.take_add_one, h, List.map_append]
  rfl
theorem lenL {n : Nat} (h : n ≤ 100000) : n ≤ sizeLine := Nat.le_trans h (by decide)
theorem dec_int (i j : Int) : decide (V.int i = V.int j) = decide (i = j) := decide_eq_decide.mpr ⟨V.int.inj, congrArg V.int⟩
local macro_rules | `(tactic| walk_at "nf") => `(tactic| ((try refine g_name ?_); dsimp only [List.set_cons_zero, List.set_cons_succ]))
theorem lk0 {a : Str} {v : V} {r : List (Str × V)} : ((a, v) :: r).lookup a = Option.some v := by rw [List.lookup_cons_self]
theorem lk1 {a b : Str} {v : V} {r : List (Str × V)} (h : (a == b) = false) : ((b, v) :: r).lookup a = r.lookup a := by rw [List.lookup_cons, h]
theorem pf0 {a : Str} {v u : V} {r : List (Str × V)} : putF a v ((a, u) :: r) = (a, v) :: r := by
  unfold putF
  rw [if_pos rfl]
theorem pf1 {a b : Str} {v u : V} {r : List (Str × V)} (h : ¬ b = a) : putF a v ((b, u) :: r) = (b, u) :: putF a v r := by
  rw [putF, if_neg h]
theorem pfN {a : Str} {v : V} : putF a v [] = [(a, v)] := rfl
local macro_rules | `(tactic| walk_at "lk") => `(tactic| (repeat (rw [lk1 (by decide +kernel)])); first | exact lk0 | rfl)
local macro_rules | `(tactic| walk_at "pf") => `(tactic| repeat (first | rw [pfN] | rw [pf0] | rw [pf1 (by decide +kernel)]))
/-! ### sorted(xs, key=f), min(xs, key=f, default=None), f a lambda of the def: rules (see NOTES) -/
namespace KJ
open PySem PySem.W PySem.Calls PyProof.Rows
/-- two objects may have changed, all else stands -/
def KeepsTwo (a k : Addr) (h h' : Heap) : Prop := ∀ b o, b ≠ a → b ≠ k → h.get? b = some o → h'.get? b = some o
theorem ints_reads {h : Heap} : ∀ {vs : List Value} {ks : List Int}, IntsAre vs ks → EachIs (fun v d => ∃ as, Reads h v d as) vs (ks.map PyData.int)
  | _, _, .nil => .nil
  | _, _, .cons n t r => .cons ⟨[], .int n t⟩ (ints_reads r)
theorem ints_alike (ks : List Int) : AllAlike (ks.map PyData.int) := AllAlike.of fun _ _ => by simp [alike]
theorem ints_sortable (ks : List Int) : Sortable (ks.map PyData.int) := Sortable.others fun _ => ⟨by simp, by simp⟩
theorem ints_take {vs : List Value} {ks : List Int} (h : IntsAre vs ks) : vs.length = ks.length := by
  induction h with
  | nil => rfl
  | cons n t r ih => simp [ih]
section
variable {prog : Program} {w : World} {A : Around} {E : Value → Shared → Prop} {s : Shared} {a kS : Addr} {b : Bool} {vs : List Value} {e1 : Nat} {P : PySem.Fin → Shared → Prop} {kz : List Int} {J : Shared → Prop} {f : Value}
theorem keyJ_rest (hJ : J s) (nk : s.heap.get? kS = some (seqObj "list" #[] 0)) (na : s.heap.get? a = some (seqObj "list" #[] e1)) (hka : kS ≠ a)
    (hlen : kz.length = vs.length) (hZ : vs.length ≤ sizeLine) (hu : A.units < cLine)
    (mt : ∀ s' h' tk, J s' → KeepsTwo a kS s'.heap h' → J { s' with heap := h', toks := tk })
    (turn : ∀ (i : Nat) (v : Value) (k : Int), vs[i]? = some v → kz[i]? = some k → ∀ (s' : Shared) (kA : Array Value) (e : Nat), J s' → s'.heap.get? kS = some (seqObj "list" kA e) → s'.heap.get? a = some (seqObj "list" #[] e1) →
      wpAny (model prog w) A (call f [v]) (fun u s'' => (∃ t, u = .int k t) ∧ J s'' ∧ s''.heap.get? kS = some (seqObj "list" kA e) ∧ s''.heap.get? a = some (seqObj "list" #[] e1)) (fun _ _ => False) s')
    (h : ∀ s' out c, J s' → s'.heap.get? a = some (seqObj "list" (List.toArray out) c) → KeyedOut b (kz.map PyData.int) vs out → P (.done (.ret .none)) s') :
    wpAny (model prog w) A (ksk_rest a f b vs.toArray e1 (.ref kS)) P E s := by
  unfold ksk_rest
  refine wpAny_bind (wpAny_rule ?_)
  first
    | rw [List.forIn_toArray]
    | (rw [← Array.forIn_toList]; simp only [List.toList_toArray])
    | rw [← Array.forIn_toList]
  refine wpAny_bind (ksk_fold (fun i s' => ∃ kA e, J s' ∧ s'.heap.get? kS = some (seqObj "list" kA e) ∧ s'.heap.get? a = some (seqObj "list" #[] e1) ∧ IntsAre kA.toList (kz.take i)) vs 0 s
    ⟨#[], 0, hJ, nk, na, by rw [List.take_zero]; exact .nil⟩ ?step ?done)
  case step =>
    rintro j x s' hx ⟨kA, e, J', nk', na', hk⟩
    simp only [Nat.zero_add] at hk ⊢
    have hj : j < vs.length := (List.getElem?_eq_some_iff.mp hx).1
    obtain ⟨k, hkj⟩ : ∃ k, kz[j]? = some k := ⟨_, List.getElem?_eq_getElem (by omega)⟩
    have hz : kA.size ≤ vs.length := by
      have h1 := ints_take hk
      rw [Array.length_toList, List.length_take] at h1
      omega
    refine wpAny_bind (wpAny_attempt (wpAny_mono (turn j x k hx hkj s' kA e J' nk' na') (fun v s'' he => ?_) fun _ _ hF => hF.elim))
    obtain ⟨⟨t, rfl⟩, J2, nk2, na2⟩ := he
    try dsimp only
    have s1 := Heap.SameBut.update s''.heap kS (Obj.mapSeq (·.push (Value.int k t)))
    obtain ⟨c2, hc2⟩ : ∃ c2, (s''.heap.update kS (Obj.mapSeq (·.push (Value.int k t)))).get? kS = some (seqObj "list" (kA.push (Value.int k t)) c2) := ⟨_, get?_update_seq nk2 (·.push (Value.int k t))⟩
    have ek : kz.take (j + 1) = kz.take j ++ [k] := by rw [List.take_add_one, hkj]; simp
    have ea : (kA.push (Value.int k t)).toList = kA.toList ++ [Value.int k t] := by simp
    refine wpAny_bind (listUpdate_at nk2 rfl ?_ (Nat.le_trans hz hZ) (Nat.le_trans (Nat.le_of_eq (Array.size_push ..)) (Nat.succ_le_succ (Nat.le_trans hz hZ))))
    refine wpAny_pure ⟨rfl, kA.push (Value.int k t), c2, mt s'' _ _ J2 (fun b o _ hb q => (s1.2 b hb).trans q), hc2, (s1.2 a hka.symm).trans na2, ?_⟩
    rw [ea, ek]
    exact ksk_snoc hk
  case done =>
    rintro s' ⟨kA, e, J', nk', na', hk⟩
    have hk' : IntsAre kA.toList kz := by
      have e3 : kz.take (0 + vs.length) = kz := List.take_of_length_le (by omega)
      rw [e3] at hk
      exact hk
    have hsz : kA.size = vs.length := by
      have h1 := ints_take hk'
      rw [Array.length_toList] at h1
      omega
    have hr : EachIs (fun v k => ∃ as, Reads s'.heap v k as) kA.toList (kz.map PyData.int) := ints_reads hk'
    try dsimp only
    refine wpAny_bind (listItems_at nk' rfl ?_)
    have kp : KeepsBut a (s'.heap.hide kS) s'.heap := fun b o _ q => Heap.of_hide q
    refine keyH_end (κ := dataKind s'.heap (kz.map PyData.int)) (h₁ := s'.heap.hide kS) kp (Heap.hide_self _ _) nk' na' hka (SortsAt.data (s := s') hr (ints_alike _) (ints_sortable _) fun d hd => ?_) hsz hZ fun h3 tk3 c k3 n3 => ?_
    · obtain ⟨k, _, rfl⟩ := List.mem_map.mp hd
      exact hu
    · refine h _ _ c (mt s' h3 tk3 J' fun b o h1 h2 q => k3 b o h1 ?_) n3 ⟨s'.heap, kA.toList, ints_alike _, rfl, hr⟩
      rw [Heap.hide_ne _ h2]
      exact q
/-- xs.sort(key=f) on the list at a: kS and the tuple that holds the items are new -/
theorem keyJ_tree {n : Nat} (ho : s.heap.get? a = some (seqObj "list" vs.toArray n)) (hlen : kz.length = vs.length) (hZ : vs.length ≤ sizeLine) (hu : A.units < cLine)
    (hJ : ∀ h' tk, (∀ b o, b ≠ a → s.heap.get? b = some o → h'.get? b = some o) → J { s with heap := h', toks := tk })
    (mt : ∀ s' h' tk, J s' → KeepsTwo a (s.heap.objs.size + 1) s'.heap h' → J { s' with heap := h', toks := tk })
    (turn : ∀ (i : Nat) (v : Value) (k : Int), vs[i]? = some v → kz[i]? = some k → ∀ (s' : Shared) (kA : Array Value) (e e1 : Nat), J s' → s'.heap.get? (s.heap.objs.size + 1) = some (seqObj "list" kA e) → s'.heap.get? a = some (seqObj "list" #[] e1) →
      wpAny (model prog w) A (call f [v]) (fun u s'' => (∃ t, u = .int k t) ∧ J s'' ∧ s''.heap.get? (s.heap.objs.size + 1) = some (seqObj "list" kA e) ∧ s''.heap.get? a = some (seqObj "list" #[] e1)) (fun _ _ => False) s')
    (h : ∀ s' out c, J s' → s'.heap.get? a = some (seqObj "list" (List.toArray out) c) → KeyedOut b (kz.map PyData.int) vs out → P (.done (.ret .none)) s') :
    wpAny (model prog w) A (ksk_tree a f b) P E s := by
  have ha : a < s.heap.objs.size := Heap.lt_size ho
  obtain ⟨e1, ho1⟩ : ∃ e1, (s.heap.update a (Obj.mapSeq fun _ => (#[] : Array Value))).get? a = some (seqObj "list" #[] e1) := ⟨_, get?_update_seq ho fun _ => #[]⟩
  have hkS : ((s.heap.update a (Obj.mapSeq fun _ => (#[] : Array Value))).push (seqObj "tuple" vs.toArray 0)).objs.size = s.heap.objs.size + 1 := by rw [size_push', Heap.size_update]
  unfold ksk_tree
  refine wpAny_bind (listItems_at ho rfl ?_)
  refine wpAny_bind (listUpdate_at ho rfl ?_ (by rw [List.size_toArray]; exact hZ) (Nat.zero_le _))
  refine wpAny_bind (seqEpoch_at ho1 rfl ?_)
  refine wpAny_bind (wpAny_newTuple ?_ (by show vs.length ≤ _; exact hZ))
  refine wpAny_bind (wpAny_newList ?_ (Nat.zero_le _))
  refine wpAny_holding ?_
  have kp : KeepsBut a s.heap (sortingHeap s.heap a vs) := fun b o hb q => sortingHeap_old hb q
  rw [hkS]
  refine keyJ_rest (J := J) (s := { s with heap := ((s.heap.update a (Obj.mapSeq fun _ => (#[] : Array Value))).push (seqObj "tuple" vs.toArray 0)).push (seqObj "list" #[] 0) }) (kS := s.heap.objs.size + 1)
    (hJ _ s.toks kp) (by rw [← hkS]; exact Heap.get?_push_size _ rfl) (Heap.get?_push_of_some _ (Heap.get?_push_of_some _ ho1)) (Nat.ne_of_gt (Nat.lt_succ_of_lt ha)) hlen hZ hu mt (fun i v k h1 h2 s' kA e j1 j2 j3 => turn i v k h1 h2 s' kA e e1 j1 j2 j3) h
end
section
variable {prog : Program} {w : World} {A : Around} {E : Value → Shared → Prop} {s : Shared} {vs : List Value} {kz : List Int} {J : Shared → Prop}
/-- sorted(xs, key=f), keys whole numbers: J is what the key's calls keep, whatever stands at the two new lists -/
theorem sortedJ {l f : Addr} {Q : Value → Shared → Prop} (hl : s.heap.IsList l vs.toArray) (hlen : kz.length = vs.length) (hZ : vs.length ≤ sizeLine) (hu : A.units + 2 < cLine)
    (hJ : ∀ h' tk, (∀ b o, s.heap.get? b = some o → h'.get? b = some o) → J { s with heap := h', toks := tk })
    (mt : ∀ s' h' tk, J s' → KeepsTwo (s.heap.objs.size + 1) (s.heap.objs.size + 3) s'.heap h' → J { s' with heap := h', toks := tk })
    (turn : ∀ (i : Nat) (v : Value) (k : Int), vs[i]? = some v → kz[i]? = some k → ∀ (s' : Shared) (kA : Array Value) (e e1 : Nat), J s' → s'.heap.get? (s.heap.objs.size + 3) = some (seqObj "list" kA e) → s'.heap.get? (s.heap.objs.size + 1) = some (seqObj "list" #[] e1) →
      wpAny (model prog w) A.in1.in1 (call (.ref f) [v]) (fun u s'' => (∃ t, u = .int k t) ∧ J s'' ∧ s''.heap.get? (s.heap.objs.size + 3) = some (seqObj "list" kA e) ∧ s''.heap.get? (s.heap.objs.size + 1) = some (seqObj "list" #[] e1)) (fun _ _ => False) s')
    (h : ∀ s' out c, J s' → s'.heap.get? (s.heap.objs.size + 1) = some (seqObj "list" (List.toArray out) c) → KeyedOut false (kz.map PyData.int) vs out → Q (.ref (s.heap.objs.size + 1)) s') :
    wpAny (model prog w) A (call (.builtin "sorted") [.ref l] [(Str.ofString "key", .ref f)]) Q E s := by
  have hs2 : (copyHeap s.heap vs).objs.size = s.heap.objs.size + 2 := by
    unfold copyHeap
    rw [size_push', Heap.size_update, size_push']
  refine sorted_of_sort hl hZ (ksk_s1 _ _) (fun _ => ksk_l1 _ _) fun E' => ?_
  rw [ksk_t1]
  refine keyJ_tree (J := J) (s := { s with heap := copyHeap s.heap vs }) (copyHeap_at s.heap vs) hlen hZ hu (fun h' tk kp => ?_) (fun s' h' tk j kp => ?_) (fun i v k h1 h2 s' kA e e1 j1 j2 j3 => ?_) fun s' out c j1 j2 j3 => ⟨rfl, h s' out c j1 j2 j3⟩
  · exact hJ h' tk fun b o q => kp b o (Nat.ne_of_lt (Nat.lt_succ_of_lt (Heap.lt_size q))) (copyHeap_old q)
  · refine mt s' h' tk j ?_
    have kp : KeepsTwo (s.heap.objs.size + 1) ((copyHeap s.heap vs).objs.size + 1) s'.heap h' := kp
    rw [hs2] at kp
    exact kp
  · have j2 : s'.heap.get? ((copyHeap s.heap vs).objs.size + 1) = some (seqObj "list" kA e) := j2
    rw [hs2] at j2
    show wpAny (model prog w) A.in1.in1 (call (.ref f) [v]) (fun u s'' => (∃ t, u = .int k t) ∧ J s'' ∧ s''.heap.get? ((copyHeap s.heap vs).objs.size + 1) = some (seqObj "list" kA e) ∧ s''.heap.get? (s.heap.objs.size + 1) = some (seqObj "list" #[] e1)) (fun _ _ => False) s'
    rw [hs2]
    exact turn i v k h1 h2 s' kA e e1 j1 j2 j3
end
end KJ
section
open NdefX LamX
variable {X : Cx} {pins : List (Addr × Obj)} {σ : L2.St} {H : Hp} {s : Shared}
/-- an untracked object of ours: what is asked of one that may be written or tracked later -/
structure Own (X : Cx) (pins : List (Addr × Obj)) (H : Hp) (a : Addr) : Prop where
  no : H a = Option.none
  s0 : X.s_0.heap.objs.size ≤ a
  ne : a ≠ X.env.locals
  fs : a ∉ X.fs
  cell : ∀ x c, X.env.cells.lookup x = some c → c ≠ a
  pin : ∀ p ∈ X.pn ++ pins, p.1 ≠ a
theorem own_fresh {a : Addr} (I : Inv X pins σ H s) (h : s.heap.objs.size ≤ a) : Own X pins H a :=
  ⟨I.hok.fresh h, Nat.le_trans I.sz h, fun e => Nat.lt_irrefl _ (Nat.lt_of_lt_of_le (e ▸ I.lt) h), I.nofs h, fun x c e z => by
    obtain ⟨v, o, ho, _⟩ := I.cell x c e
    exact Nat.lt_irrefl _ (Nat.lt_of_lt_of_le (z ▸ Heap.lt_size ho) h), fun p hp z => Nat.lt_irrefl _ (Nat.lt_of_lt_of_le (z ▸ Heap.lt_size (I.pin p hp).1) h)⟩
/-- two objects of ours have changed -/
theorem inv_two {a c : Addr} {h' : Heap} {t' : Nat} (I : Inv X pins σ H s) (oa : Own X pins H a) (oc : Own X pins H c) (k : KJ.KeepsTwo a c s.heap h') : Inv X pins σ H { s with heap := h', toks := t' } := by
  have nH : ∀ {b}, Own X pins H b → ∀ d u, H d = some u → d ≠ b := fun ob d u e z => by rw [z, ob.no] at e; cases e
  have nc : ∀ b, b ∉ [a, c] → b ≠ a ∧ b ≠ c := fun b hb => ⟨fun z => hb (by simp [z]), fun z => hb (by simp [z])⟩
  refine I.step (g' := s.gens) (d' := s.drawn) (ch := [a, c]) (fun b hb => ?_) (fun b o _ _ hc e _ => k b o (nc b hc).1 (nc b hc).2 e) (fun b o _ _ hc e _ => ⟨o.slots, k b o (nc b hc).1 (nc b hc).2 e⟩) (fun _ _ _ _ n => n)
    (fun b o hc e => ⟨o, k b o (nc b hc).1 (nc b hc).2 e⟩) (fun _ _ e => e) (fun _ _ _ e => e) (fun b ps e => ⟨#[], by rw [e]; simp⟩) (fun m hm => ?_) (fun b u e => ?_) I.bare
  · rcases List.mem_cons.mp hb with e | e
    · subst e
      exact ⟨.inr oa.s0, oa.ne, oa.cell, oa.pin⟩
    · have e : b = c := by simpa using e
      subst e
      exact ⟨.inr oc.s0, oc.ne, oc.cell, oc.pin⟩
  · obtain ⟨o, es, ep, ho, r⟩ := hm
    exact ⟨o, es, ep, k _ o (Ne.symm oa.ne) (Ne.symm oc.ne) ho, r⟩
  · refine (I.hok b u e).stay (fun d v hd q => k d v ?_ ?_ q) (fun _ q => q) fun _ _ q => q
    · rcases hd with z | z
      · rw [z]; exact nH oa b u e
      · exact nH oa d _ z
    · rcases hd with z | z
      · rw [z]; exact nH oc b u e
      · exact nH oc d _ z
/-- an object of ours is tracked from now on -/
theorem inv_adopt {a : Addr} {o : HO} (I : Inv X pins σ H s) (oa : Own X pins H a) (new : ObjOk X.prog X.w (upd H a o) s.heap a o) : Inv X pins σ (upd H a o) s := by
  have nH : ∀ d u, H d = some u → d ≠ a := fun d u e z => by rw [z, oa.no] at e; cases e
  have up : ∀ d u, H d = some u → upd H a o d = some u := fun d u e => (upd_ne (nH d u e)).trans e
  have I2 := I.step (h' := s.heap) (H' := upd H a o) (g' := s.gens) (t' := s.toks) (d' := s.drawn) (ch := [a]) (fun b hb => by
      have e : b = a := by simpa using hb
      subst e
      exact ⟨.inr oa.s0, oa.ne, oa.cell, oa.pin⟩) (fun b o _ _ hc e _ => e) (fun b o _ _ hc e _ => ⟨o.slots, e⟩) (fun b _ hc _ n => (upd_ne (fun z => hc (by simp [z]))).trans n)
    (fun b o hc e => ⟨o, e⟩) (fun b xs e => up b _ e) (fun b o xs e => up b _ e) (fun b ps e => ⟨#[], by rw [up b _ e]; simp⟩) (fun m hm => hm) (fun b u e => ?_) I.bare
  · exact I2
  · by_cases hb : b = a
    · subst hb
      rw [upd_same] at e
      cases e
      exact new
    · rw [upd_ne hb] at e
      exact (I.hok b u e).stay (fun d v hd q => q) (fun d q => up d _ q) fun d xs q => up d _ q
/-- a pin more -/
theorem inv_pin {b : Addr} {o : Obj} (I : Inv X pins σ H s) (e : s.heap.get? b = some o) (n : H b = Option.none) (hl : b ≠ X.env.locals) (hf : b ∉ X.fs) (hc : ∀ v, o.data ≠ .cell v) : Inv X (pins ++ [(b, o)]) σ H s :=
  I.pins_of fun p hp => by
    rcases List.mem_append.mp hp with z | z
    · exact I.pin p (List.mem_append_right _ z)
    · have e2 : p = (b, o) := by simpa using z
      subst e2
      exact ⟨e, n, hl, hf, hc⟩
/-- a lambda's call -/
theorem lam_run {P : Program} {w : World} {K : PySem.W.Frag} {mg : Str → Option Value} {base : Heap} {k : Nat} {N ps fr : List Str} {F : NF} {f : Addr} {bd : Expr} {A : Around} {outer : List Env} {H : Hp} {us : List Value} {vs : List V} {ws : List (Option V)} {Q : VK} {E : XK} {pm ctv : Value} {t : TE}
    (S : NScope N ps fr F.scope) (ho : s.heap.get? f = some (PySem.W.kla_obj "<lambda>" F.qual F.params bd F.scope F.cl pm F.c ctv)) (hc : H F.c = some (CodeO F.c F.qual))
    (hb : bindArgs (PySem.W.kla_fn "<lambda>" F.qual F.params bd F.scope F.cl pm (.ref F.c) ctv) ⟨us, []⟩ = pure (ps.zip us))
    (hr : Room (k + 1) A) (e0 : Env0 P w K mg base A outer s H) (C : CellsAt F.cl fr ws s.heap H) (r : Vals vs us) (hl : vs.length = ps.length)
    (hbody : Room k (A.deeper (envF F f s.heap.objs.size)) → PE (ncx CX0 P w K mg base N F f A outer s H E) bd t) (h : t (startF N vs ws) H Q) :
    codeAny (model P w) A (.call (.ref f) ⟨us, []⟩) (CR CX0 outer P w H s Q E) s := by
  have lim : s.heap.NoLimit := e0.mod.nolimit.keeps fun b o e => (e0.bs b o e).1
  refine PySem.W.kla_callFunE hr.depth ho rfl S.co S.gen rfl (codeO_at e0.hok hc) ?_
  rw [hb]
  refine wpAny_pure (wpAny_newFunctionEnv S.nocell (fun ⟨n, _⟩ hy => S.par n (List.of_mem_zip hy).1) (fun h₁ hns hsb => ⟨lim.fresh _ hsb, ?_⟩) S.kind)
  show codeAny _ _ (.expr bd (envF F f s.heap.objs.size)) _ _
  have kp : ∀ b o, s.heap.get? b = some o → h₁.get? b = some o := fun b o e => hsb.extBut b o (Nat.ne_of_lt (Heap.lt_size e)) (Heap.get?_push_of_some _ e)
  have I : Inv (ncx CX0 P w K mg base N F f A outer s H E) [] (startF N vs ws) H { s with heap := h₁, toks := s.toks + (ps.zip us).length } := inv_startN S hr.hd e0 hl r C hns kp
  refine PySem.W.kla_codeExpr (wpAny_mono ((hbody (hr.deeper _)).run [] _ _ H Q I h) (fun v s' hq => ?_) fun e s' hq => hq)
  obtain ⟨w', H', J', rv, q⟩ := hq
  exact ⟨w', H', J'.os, J'.bare, J'.base, J'.hok, rv, q⟩
/-- the object at f is the lambda F with the body bd, known from now on -/
def LamO (f : Addr) (F : NF) (bd : Expr) : HO := .ext fun h => ∃ (pm ctv : Value), h.get? f = some (PySem.W.kla_obj "<lambda>" F.qual F.params bd F.scope F.cl pm F.c ctv)
theorem lamO_at {P : Program} {w : World} {H : Hp} {h : Heap} {f : Addr} {F : NF} {bd : Expr} (hok : HOk P w H h) (e : H f = some (LamO f F bd)) : ∃ (pm ctv : Value), h.get? f = some (PySem.W.kla_obj "<lambda>" F.qual F.params bd F.scope F.cl pm F.c ctv) := by
  obtain ⟨z, _, _⟩ := hok f _ e
  exact z
theorem lamO_ne {f : Addr} {F : NF} {bd : Expr} (ps : Array Value) : LamO f F bd ≠ .tbl ps := fun z => by
  unfold LamO at z
  cases z
/-- the words of a lambda in the def of X, its code object at c -/
abbrev lamF (X : Cx) (params : Arguments) (scope : Scope) (c : Addr) : NF := ⟨"<lambda>", X.env.qual ++ "<lambda>", params, [], scope, cloFrom X.env.cells scope.names [], c⟩
theorem lam_known {F : NF} {bd : Expr} {o : Obj} {t' : Nat} {pm ctv : Value} (I : Inv X pins σ H s) (ho : o = PySem.W.kla_obj "<lambda>" F.qual F.params bd F.scope F.cl pm F.c ctv) :
    Inv X pins σ (upd H s.heap.objs.size (LamO s.heap.objs.size F bd)) { s with heap := s.heap.push o, toks := t' } := by
  subst ho
  refine I.laid (a := s.heap.objs.size) (fun b u e => Heap.get?_push_of_some _ e) (Nat.le_refl _) ?_
  have e : (s.heap.push (PySem.W.kla_obj "<lambda>" F.qual F.params bd F.scope F.cl pm F.c ctv)).get? s.heap.objs.size = some (PySem.W.kla_obj "<lambda>" F.qual F.params bd F.scope F.cl pm F.c ctv) := Heap.get?_push_size _ rfl
  exact ⟨⟨pm, ctv, e⟩, ⟨_, e⟩, fun h1 h2 ⟨p, t, z⟩ st => ⟨p, t, st _ z⟩⟩
/-- a lambda is made: its code object is new, or found in the table -/
theorem lam_makeO {T : List (Addr × Str)} {c P : Addr} {params : Arguments} {bd : Expr} {scope : Scope} {pos : Pos} {E : Value → Shared → Prop} {Q : Value → Shared → Prop} (I : Inv X pins σ H s) (TB : TabB X.base X.mg c P) (hcode : X.env.code = .ref c)
    (hm : (P, X.env.qual ++ "<lambda>") ∈ T) (hu : ∀ p ∈ T, p.1 = P → p.2 = X.env.qual ++ "<lambda>") (hT : Tabs T H) (hdef : defaultsOf params X.env = ([], [])) (hfree : ∀ y ∈ scope.names, y.2 = .free → ∃ c, X.env.cells.lookup y.1 = some c)
    (h : ∀ (f c' : Addr) (H1 : Hp) (s' : Shared), Inv X pins σ H1 s' → ExtN H H1 → Tabs T H1 → H1 f = some (LamO f (lamF X params scope c') bd) → H1 c' = some (CodeO c' (X.env.qual ++ "<lambda>")) → Q (.ref f) s') :
    wpAny (model X.prog X.w) X.A (eval (.Lambda params bd scope pos) X.env) Q E s := by
  obtain ⟨ps, hP, ht, ha⟩ := hT _ hm
  refine PySem.W.kla_eval hdef ?_
  have bP : s.heap.BuiltinsAt X.mg P := TB.bm.keeps I.bk
  have hP' : s.heap.get? P = some { cls := .none, data := .fields ps } := I.hok P _ hP
  -- behind the code object: the function's own object
  have fin : ∀ {h' : Heap} {tk tk2 : Nat} {c' : Addr} {ctv : Value} {H1 : Hp}, Inv X pins σ H1 { s with heap := h', toks := tk } → ExtN H H1 → Tabs T H1 → H1 c' = some (CodeO c' (X.env.qual ++ "<lambda>")) →
      Q (.ref h'.objs.size) { s with heap := h'.push (PySem.W.kla_obj "<lambda>" (X.env.qual ++ "<lambda>") params bd scope (cloFrom X.env.cells scope.names []) ((X.mg "__name__").getD .none) c' ctv), toks := tk2 } := by
    intro h' tk tk2 c' ctv H1 I1 eN T1 hco
    have nF : H1 h'.objs.size = none := I1.hok.fresh (Nat.le_refl _)
    refine h h'.objs.size c' _ _ (lam_known (F := lamF X params scope c') (bd := bd) (t' := tk2) I1 rfl) (fun b o e n => ?_) (Tabs.ext T1 fun b o e => ?_) upd_same ?_
    · exact (upd_ne (ne_of_none (eN b o e n) nF)).trans (eN b o e n)
    · exact (upd_ne (ne_of_none e nF)).trans e
    · exact (upd_ne (ne_of_none hco nF)).trans hco
  cases hc : codeAmong pos ps.toList with
  | none =>
    refine PySem.W.kla_makeFunction (mg := X.mg) (c := c) (P := P) (ps := ps) (closure_ok hfree) I.ok.glob (I.mod.glob.keeps I.bk) hcode (TB.code.keeps I.bk) hP' ht hc TB.gP bP fun c' ctv h' tk hx hge hlt hrec htb => ?_
    obtain ⟨c2, oc, vs, t, e2, hoc, hd, hv⟩ := hrec
    cases e2
    have nC : H c' = none := I.hok.fresh hge
    have I1 := inv_table (t' := tk) (more := #[rawInt pos.line, rawInt pos.col, .ref c']) (h' := h') I hP (fun b o hb e => hx b o hb e) htb hge ⟨oc, vs, t, hoc, hd, hv⟩
    have hE : ExtN H (upd (upd H P (.tbl (ps ++ #[rawInt pos.line, rawInt pos.col, .ref c']))) c' (CodeO c' (X.env.qual ++ "<lambda>"))) := fun b o e n => by
      rw [upd_ne (ne_of_none e nC), upd_ne (fun z => n ps (Option.some.inj (e.symm.trans (by rw [z]; exact hP))))]
      exact e
    have eL : (ps ++ #[rawInt pos.line, rawInt pos.col, .ref c']).toList = ps.toList ++ [rawInt pos.line, rawInt pos.col, .ref c'] := by simp
    refine fin I1 hE (fun p hp => ?_) upd_same
    by_cases hb : p.1 = P
    · rw [hu p hp hb, hb]
      refine ⟨_, by rw [upd_ne (ne_of_none hP nC), upd_same], by rw [eL]; exact PySem.TriplesOk_snoc _ _ _ _ ht, fun p' cv hcv => ?_⟩
      rw [eL] at hcv
      rcases among_app _ ht hcv with z | z
      · obtain ⟨c0, e1, e2⟩ := ha p' cv z
        exact ⟨c0, e1, hE _ _ e2 codeO_ne⟩
      · exact ⟨c', z, upd_same⟩
    · obtain ⟨ps', a1, a2, a3⟩ := hT p hp
      refine ⟨ps', by rw [upd_ne (ne_of_none a1 nC), upd_ne hb]; exact a1, a2, fun p' cv hcv => ?_⟩
      obtain ⟨c0, e1, e2⟩ := a3 p' cv hcv
      exact ⟨c0, e1, hE _ _ e2 codeO_ne⟩
  | some cv =>
    obtain ⟨c', e, hco⟩ := ha pos cv hc
    subst e
    refine PySem.W.kla_makeFunctionHit (mg := X.mg) (c := c) (P := P) (ps := ps) (closure_ok hfree) I.ok.glob (I.mod.glob.keeps I.bk) hcode (TB.code.keeps I.bk) hP' ht hc bP fun ctv h' tk hx hsz => ?_
    exact fin (tk := tk) (I.kept hx) (ExtN.refl H) hT hco
/-- the reading of a lambda: a new function object, known; tables may have grown -/
def tLamO (X : Cx) (T : List (Addr × Str)) (params : Arguments) (bd : Expr) (scope : Scope) : TE := fun _ H Q => Tabs T H ∧ ∀ (f c' : Addr) (H1 : Hp), ExtN H H1 → Tabs T H1 → H1 f = some (LamO f (lamF X params scope c') bd) → H1 c' = some (CodeO c' (X.env.qual ++ "<lambda>")) → Q (.ref f) H1
theorem pe_lamO {T : List (Addr × Str)} {c P : Addr} {params : Arguments} {bd : Expr} {scope : Scope} {pos : Pos} (TB : TabB X.base X.mg c P) (hcode : X.env.code = .ref c)
    (hm : (P, X.env.qual ++ "<lambda>") ∈ T) (hu : ∀ p ∈ T, p.1 = P → p.2 = X.env.qual ++ "<lambda>") (hdef : defaultsOf params X.env = ([], []))
    (hfree : ∀ y ∈ scope.names, y.2 = .free → X.env.scope.names.lookup y.1 = some .cell ∨ X.env.scope.names.lookup y.1 = some .free) : PE X (.Lambda params bd scope pos) (tLamO X T params bd scope) := by
  refine ⟨fun pins s σ H Q I h => ?_⟩
  obtain ⟨hT, h⟩ := h
  refine lam_makeO I TB hcode hm hu hT hdef (fun y hy e => (hfree y hy e).elim (fun z => I.ok.has _ (.inl z)) fun z => I.ok.has _ (.inr z)) fun f c' H1 s' I1 eN T1 f1 c1 => ?_
  exact ⟨.ref f, H1, I1, rfl, h f c' H1 eN T1 f1 c1⟩
/-- the promise of a lambda made by X's def: its key for what it is given -/
structure LamOk (X : Cx) (k : Nat) (N ps fr : List Str) (F : NF) (bd : Expr) (t : TE) : Prop where
  sc : NScope N ps fr F.scope
  bind : ∀ (pm ctv : Value) (us : List Value), us.length = ps.length → bindArgs (PySem.W.kla_fn "<lambda>" F.qual F.params bd F.scope F.cl pm (.ref F.c) ctv) ⟨us, []⟩ = pure (ps.zip us)
  body : ∀ (f : Addr) (A : Around) (outer : List Env) (s : Shared) (H : Hp) (E : XK), Room k (A.deeper (envF F f s.heap.objs.size)) → PE (ncx CX0 X.prog X.w X.K X.mg X.base N F f A outer s H E) bd t
/-- f(x) inside built-ins: whatever the pins are, they stay -/
theorem lam_call {k : Nat} {N ps fr : List Str} {F : NF} {bd : Expr} {t : TE} {f : Addr} {us : List Value} {vs : List V} {js : List Nat} {Q : VK} {A : Around} (O : LamOk X k N ps fr F bd t) (hr : Room (k + 1) A) (ha : Env0 X.prog X.w X.K X.mg X.base A X.stack s H)
    (I : Inv X pins σ H s) (L : H f = some (LamO f F bd)) (hc : H F.c = some (CodeO F.c F.qual)) (cp : Caps X F.cl fr js) (r : Vals vs us) (hl : vs.length = ps.length) (h : t (startF N vs (js.map (slotAt σ))) H Q) :
    wpAny (model X.prog X.w) A (call (.ref f) us) (fun u s' => EP X pins σ Q u s' ∧ ∀ b o, s.heap.get? b = some o → H b = Option.none → b ≠ X.env.locals → b ∉ X.fs → s'.heap.get? b = some o) (fun _ _ => False) s := by
  obtain ⟨pm, ctv, ho⟩ := lamO_at I.hok L
  refine wpAny_call (codeAny_mono (lam_run (E := fun _ _ _ => False) O.sc ho hc (O.bind _ _ us (by rw [← r.length]; exact hl)) hr ha (cells_of I cp) r hl (fun hr' => O.body f A X.stack s H _ hr') h) fun r s' hq => ?_)
  cases r with
  | error e => exact (show False from hq)
  | ok fl =>
    cases fl with
    | ret u => exact ⟨I.after hq, fun b o e n h1 h2 => by
        obtain ⟨v, H', _, _, un, _⟩ := hq
        exact un.keep b o e n (fun z => (List.mem_cons.mp (I.stkSub b z)).elim h1 h2) (by simp)⟩
    | next => exact False.elim hq
    | brk => exact False.elim hq
    | cont => exact False.elim hq
/-! ### a built-in function called with keywords; what it does may look at the names -/
def CallRS (X : Cx) (f : Value) (ks : List Str) (r : L2.St → List V → List V → Hp → VK → Prop) : Prop :=
  ∀ (pins : List (Addr × Obj)) (s : Shared) (σ : L2.St) (H : Hp) (xs zs : List V) (us ws : List Value) (Q : VK), Inv X pins σ H s → Vals xs us → Vals zs ws → r σ xs zs H Q → wpAny (model X.prog X.w) X.A (call f us (ks.zip ws)) (EP X pins σ Q) X.xe s
def tCKs (r : L2.St → List V → List V → Hp → VK → Prop) (t tk : TA) : TE := fun σ H Q => t σ H fun vs H1 => tk σ H1 fun zs H2 => r σ vs zs H2 Q
theorem pe_callBKS {x : Str} {p pos : Pos} {e : Expr} {es : List Expr} {kws : List Keyword} {t tk : TA} {id : String} {ks : List Str} {r : L2.St → List V → List V → Hp → VK → Prop} (hc : CallRS X (.builtin id) ks r) (hg : Gl X x) (hm : X.mg x = none) (hv : bootBuiltins x = some (.builtin id)) (ha : PA X (e :: es) t) (hk : PK X kws tk) (hn : x ≠ "__name__" := by decide) (hdb : (x == ("__debug__" : Str)) = false := by decide)
    (he : backTo pos (starEach (e :: es) X.env) = (false, eval e X.env) :: backTo pos (starEach es X.env) := by rfl) (hpl : (backTo pos (starEach (e :: es) X.env)).any (·.1) = false := by rfl)
    (hall : (backToKw pos (keywordEach kws X.env)).all (·.1.isSome) = true := by rfl) (hnone : (backToKw pos (keywordEach kws X.env)).any (·.1.isNone) = false := by rfl) (hks : (backToKw pos (keywordEach kws X.env)).filterMap (·.1) = ks := by rfl) :
    PE X (.Call (.Name x p) (e :: es) kws pos) (tCKs r t tk) := by
  refine ⟨fun pins s σ H Q I h => ?_⟩
  refine wpAny_Call_Name_kw (ld_blt I hg hm hv ?_ hn hdb)
  refine PyProof.Rows.callWith_kw (thn (ha.run pos pins s σ H _ I h) fun us s1 ⟨vs, H1, I1, r1, q1⟩ => thn (hk.run pos pins s1 σ H1 _ I1 q1) fun ws s2 ⟨zs, H2, I2, r2, q2⟩ => ?_) he hpl hall hnone
  rw [hks]
  exact hc pins s2 σ H2 vs zs us ws Q I2 r1 r2 q2
end
section
open NdefX LamX
variable {X : Cx}
theorem vals_get {xs : List V} {vs : List Value} (r : Vals xs vs) {i : Nat} {v : Value} (h : vs[i]? = some v) : ∃ x, xs[i]? = some x ∧ L2.RelV x v := by
  induction r generalizing i with
  | nil => simp at h
  | cons r1 _ ih =>
    cases i with
    | zero => simp at h; subst h; exact ⟨_, rfl, r1⟩
    | succ i => exact ih (by simpa using h)
theorem vals_each {xs : List V} {vs : List Value} {ks : List Int} (r : Vals xs vs) (hl : ks.length = xs.length) : PySem.W.EachIs (fun v (b : V × Int) => L2.RelV b.1 v) vs (xs.zip ks) := by
  induction r generalizing ks with
  | nil => exact .nil
  | cons r1 _ ih =>
    cases ks with
    | nil => simp at hl
    | cons k ks => exact .cons r1 (ih (by simpa using hl))
theorem each_vals {bs : List (V × Int)} {vs : List Value} (r : PySem.W.EachIs (fun v (b : V × Int) => L2.RelV b.1 v) vs bs) : Vals (bs.map (·.1)) vs := by
  induction r with
  | nil => exact .nil
  | cons r1 _ ih => exact .cons r1 ih
theorem zip_snd {xs : List V} {ks : List Int} (hl : ks.length = xs.length) : (xs.zip ks).map (fun b => PyData.int b.2) = ks.map PyData.int := by
  have e : (xs.zip ks).map (fun b => PyData.int b.2) = ((xs.zip ks).map Prod.snd).map PyData.int := by rw [List.map_map]; rfl
  rw [e, List.map_snd_zip (by omega)]
/-- the items by their keys, upwards -/
def byKey (xs : List V) (ks : List Int) : List V := ((xs.zip ks).mergeSort fun a b => decide (a.2 ≤ b.2)).map (·.1)
theorem byKey_len {xs : List V} {ks : List Int} (hl : ks.length = xs.length) : (byKey xs ks).length = xs.length := by
  unfold byKey
  rw [List.length_map, List.length_mergeSort, List.length_zip, hl, Nat.min_self]
def rSortL (K : PySem.W.Frag) (mk : Addr → NF) (bd : Expr) (N : List Str) (js : List Nat) (tb : TE) : L2.St → List V → List V → Hp → VK → Prop := fun σ vs zs H Q => ∃ (a f c' : Addr) (xs : List V) (ks : List Int), vs = [V.ref a] ∧ zs = [V.ref f] ∧ H f = some (LamO f (mk c') bd) ∧ H (mk c').c = some (CodeO (mk c').c (mk c').qual) ∧
  SqL K H a xs ∧ ks.length = xs.length ∧ (∀ (i : Nat) x k, xs[i]? = some x → ks[i]? = some k → tb (startF N [x] (js.map (slotAt σ))) H (fun v H' => v = .int k ∧ H' = H)) ∧ ∀ p : Addr, H p = Option.none → Q (.ref p) (upd H p (.lst (byKey xs ks)))
theorem cr_sortL {mk : Addr → NF} {bd : Expr} {N ps fr : List Str} {js : List Nat} {tb : TE} {k : Nat} (hp : ps.length = 1) (O : ∀ c', LamOk X k N ps fr (mk c') bd tb) (cp : ∀ c', X.Ok → Caps X (mk c').cl fr js) (hr : Room (k + 3) X.A) :
    CallRS X (.builtin "sorted") [Str.ofString "key"] (rSortL X.K mk bd N js tb) := by
  intro pins s σ H vs0 zs us ws Q I r rz h
  obtain ⟨a, f, c', xs, ks, rfl, rfl, hf, hc, ha, hl, hk, q⟩ := h
  obtain rfl := Vals.ref1 r
  obtain rfl := Vals.ref1 rz
  obtain ⟨its, rv, hL, hz⟩ := I.list ha
  have oa : Own X pins H (s.heap.objs.size + 1) := own_fresh I (Nat.le_succ _)
  have oc : Own X pins H (s.heap.objs.size + 3) := own_fresh I (by omega)
  have hu : X.A.units + 2 < cLine := by have := hr.units; omega
  refine KJ.sortedJ (J := fun s' => Inv X pins σ H s') (kz := ks) hL.isList (by rw [hl]; exact rv.length) (by rw [← rv.length]; exact hz) hu (fun h' tk kp => I.kept kp) (fun s' h' tk j kp => inv_two j oa oc kp) (fun i v n hv hki s' kA e e1 j j2 j3 => ?_) fun s' out c j e ko => ?_
  · obtain ⟨x, hx, rx⟩ := vals_get rv hv
    refine wpAny_mono (lam_call (O c') (Room.in1 (Room.in1 hr)) (Env0.in1 (Env0.in1 j.env0)) j hf hc (cp c' I.ok) (.cons rx .nil) (by rw [hp]; rfl) (hk i x n hx hki)) (fun u s'' he => ?_) (fun _ _ z => z)
    obtain ⟨⟨v', H', J', rv', e1', e2'⟩, kp⟩ := he
    subst e1' e2'
    obtain ⟨t, rfl⟩ : ∃ t, u = Value.int n t := rv'
    exact ⟨⟨t, rfl⟩, J', kp _ _ j2 oc.no oc.ne oc.fs, kp _ _ j3 oa.no oa.ne oa.fs⟩
  · rw [← zip_snd hl] at ko
    have eo := PySem.W.keyedOut_each (β := V × Int) (fun b => PyData.int b.2) ko (vals_each rv hl)
    rw [PySem.W.dataLe_int] at eo
    have ev : Vals (byKey xs ks) out := each_vals eo
    exact ⟨.ref (s.heap.objs.size + 1), _, inv_adopt j oa (o := .lst (byKey xs ks)) ⟨by rw [byKey_len hl]; exact hz, out, c, ev, e⟩, rfl, q _ oa.no⟩
/-! ### min(xs, key=f, default=None) -/
/-- the place of the first of the least keys -/
def argMin (ks : List Int) : Nat := argBest (fun i j => decide (ks.getD i 0 < ks.getD j 0)) (ks.length - 1)
def rMinL (K : PySem.W.Frag) (mk : Addr → NF) (bd : Expr) (N : List Str) (js : List Nat) (tb : TE) : L2.St → List V → List V → Hp → VK → Prop := fun σ vs zs H Q => ∃ (a f c' : Addr) (xs : List V) (ks : List Int), vs = [V.ref a] ∧ zs = [V.ref f, V.non] ∧ H f = some (LamO f (mk c') bd) ∧ H (mk c').c = some (CodeO (mk c').c (mk c').qual) ∧
  SqL K H a xs ∧ ks.length = xs.length ∧ (∀ (i : Nat) x k, xs[i]? = some x → ks[i]? = some k → tb (startF N [x] (js.map (slotAt σ))) H (fun v H' => v = .int k ∧ H' = H)) ∧ (xs = [] → Q .non H) ∧ ∀ x, xs[argMin ks]? = some x → Q x H
/-- a list walked: its items as the abstract heap tells them, whatever their own objects -/
theorem walkV {prog : Program} {w : World} {A : Around} {it l : Addr} {xs : List V} (hh : A.handled = Option.none) (hne : l ≠ it) :
    WalksS prog w A it [it, l] [it] (fun a b => b = a) xs.length (fun i v => ∃ x, xs[i]? = some x ∧ L2.RelV x v) (fun i s => ∃ its : Array Value, Vals xs its.toList ∧ (s.heap.IsListIter it l i ∧ s.heap.IsList l its)) where
  sub := fun b hb => by simp at hb; simp [hb]
  grefl := fun _ => rfl
  gtrans := fun _ _ _ h1 h2 => h2.trans h1
  frame := fun i s h' _ st _ hk => by
    obtain ⟨its, rv, st⟩ := st
    exact ⟨its, rv, (Walks.list (prog := prog) (w := w) hh it l hne its).frame i s.heap h' st hk⟩
  item := fun i s Q E hi st hQ => by
    obtain ⟨its, rv, st⟩ := st
    have hl : xs.length = its.size := by rw [rv.length, Array.length_toList]
    refine (Walks.list (prog := prog) (w := w) hh it l hne its).toS.item i s Q E (by omega) st fun v s' hP st' m => ?_
    have hP : its[i]? = some v := hP
    exact hQ v s' (vals_get rv (by rw [Array.getElem?_toList]; exact hP)) ⟨its, rv, st'⟩ m
  done := fun s Q E st hQ => by
    obtain ⟨its, rv, st⟩ := st
    have hl : xs.length = its.size := by rw [rv.length, Array.length_toList]
    rw [hl] at st
    exact (Walks.list (prog := prog) (w := w) hh it l hne its).toS.done s Q E st hQ
  self := fun i s Q E st hQ => by
    obtain ⟨its, rv, st⟩ := st
    exact (Walks.list (prog := prog) (w := w) hh it l hne its).toS.self i s Q E st hQ
theorem cr_minL {mk : Addr → NF} {bd : Expr} {N ps fr : List Str} {js : List Nat} {tb : TE} {k : Nat} (hcalm : X.calm = true) (hp : ps.length = 1) (O : ∀ c', LamOk X k N ps fr (mk c') bd tb) (cp : ∀ c', X.Ok → Caps X (mk c').cl fr js) (hr : Room (k + 3) X.A) :
    CallRS X (.builtin "min") [Str.ofString "key", Str.ofString "default"] (rMinL X.K mk bd N js tb) := by
  intro pins s σ H vs0 zs us ws Q I r rz h
  obtain ⟨a, f, c', xs, ks, rfl, rfl, hf, hc, ha, hl, hk, q0, q1⟩ := h
  obtain rfl := Vals.ref1 r
  obtain ⟨w1, w2, rfl, e1, e2⟩ := vals2 rz
  obtain rfl : w1 = Value.ref f := e1
  obtain rfl : w2 = Value.none := e2
  obtain ⟨its, rv, hL, hz⟩ := I.list ha
  have oI : Own X pins H s.heap.objs.size := own_fresh I (Nat.le_refl _)
  have oS : Own X pins H (s.heap.objs.size + 1) := own_fresh I (Nat.le_succ _)
  show wpAny _ _ (call (.builtin "min") [.ref a] [(Str.ofString "key", .ref f), (Str.ofString "default", .none)]) _ _ _
  refine call_min_walkKD (iter_anyList hL.isList fun s2 e st hfp hlI => ?_)
  have hh : X.A.in1.handled = Option.none := hr.hd
  have hsz : s2.heap.objs.size = s.heap.objs.size + 1 := by rw [e]; exact size_push' _ _
  have J2 : Inv X pins σ H s2 := by rw [e]; exact I.kept (t' := s.toks) fun b u q => Heap.get?_push_of_some _ q
  refine ⟨s.heap.objs.size, [s.heap.objs.size, a], [s.heap.objs.size], _, xs.length, _, _, fun s' => Inv X pins σ H s', fun i u _ => ∃ t, u = Value.int (ks.getD i 0) t, fun i j => decide (ks.getD i 0 < ks.getD j 0), rfl, walkV hh hlI, ⟨its.toArray, rv, st⟩, hfp,
    ⟨fun s1 s1' j m => ?_, fun _ _ _ _ h _ => h, fun i v s1 o Q1 E1 hi hP j hst hS hQ => ?_, fun i j ki kj s1 Q1 E1 _ hi hj hq => ?_⟩, J2, fun h0 s' j => ?_, fun h0 v s' hP j => ?_⟩
  · rw [hsz] at m
    obtain ⟨hh1, g1, d1, t1, o1⟩ := s1'
    obtain ⟨m1, m2, m3, m4, _⟩ := m
    obtain rfl : g1 = s1.gens := m2
    obtain rfl : d1 = s1.drawn := m3
    obtain rfl : o1 = s1.os := m4
    exact inv_two j oS oI fun b o h1 h2 q => m1 b o (by simp; exact ⟨h1, h2⟩) q
  · rw [hsz] at hS hQ
    obtain ⟨x, hx, rx⟩ := hP
    obtain ⟨n, hn⟩ : ∃ n, ks[i]? = some n := ⟨_, List.getElem?_eq_getElem (by omega)⟩
    obtain ⟨its1, rv1, hit, hli⟩ := hst
    obtain ⟨oi, h1, h2, h3⟩ := hit
    refine wpAny_mono (lam_call (O c') (Room.in1 (hr.mono (by omega))) (Env0.in1 j.env0) j hf hc (cp c' I.ok) (.cons rx .nil) (by rw [hp]; rfl) (hk i x n hx hn)) (fun u s'' he => ?_) (fun _ _ z => z.elim)
    obtain ⟨⟨v', H', J', rv', e1', e2'⟩, kp⟩ := he
    subst e1' e2'
    obtain ⟨t, rfl⟩ : ∃ t, u = Value.int n t := rv'
    obtain ⟨its2, rv2, hL2, _⟩ := J'.list ha
    exact hQ _ s'' J' ⟨its2.toArray, rv2, ⟨oi, kp _ _ h1 oI.no oI.ne oI.fs, h2, h3⟩, hL2.isList⟩ (kp _ _ hS oS.no oS.ne oS.fs) ⟨t, by rw [List.getD_eq_getElem?_getD, hn]; rfl⟩ fun _ _ z => z
  · obtain ⟨t, rfl⟩ := hi
    obtain ⟨t', rfl⟩ := hj
    exact (show wpAny _ _ (compareOp .Lt (.int (ks.getD i 0) t) (.int (ks.getD j 0) t')) Q1 E1 s1 from wpAny_lt_int hq)
  · have hx : xs = [] := List.length_eq_zero_iff.mp h0
    exact ⟨.non, H, j, rfl, q0 hx⟩
  · obtain ⟨x, hx, rx⟩ := hP
    have e0 : xs.length = ks.length := hl.symm
    rw [e0] at hx
    exact ⟨x, H, j, rx, q1 x hx⟩
end
section
open NdefX LamX
variable {X : Cx} {T : List (Addr × Str)} {c P : Addr} {params : Arguments} {bd : Expr} {y : Str} {yp : Pos} {scope : Scope} {lpos kpos dpos dkpos p pos : Pos} {N ps fr : List Str} {js : List Nat} {t1 tb : TE} {k j : Nat}
/-- the def's names, the lambda's names -/
theorem lam_caps {fr : List Str} {js : List Nat} (hb : ndefB X.env.scope scope fr = true) (hjs : js.map (fun j => X.N[j]?) = fr.map some) (c : Addr) (ok : X.Ok) : Caps X (lamF X params scope c).cl fr js :=
  Caps.made ok (ndef_free hb) (ndef_fr hb) hjs
theorem pe_sortLam (hb : ndefB X.env.scope scope fr = true) (hjs : js.map (fun j => X.N[j]?) = fr.map some) (hp : ps.length = 1) (hr : Room (k + 3) X.A) (hg : Gl X "sorted") (hm : X.mg "sorted" = Option.none) (he : PE X (.Name y yp) t1)
    (TB : TabB X.base X.mg c P) (hcode : X.env.code = .ref c) (hmT : (P, X.env.qual ++ "<lambda>") ∈ T) (hu : ∀ p ∈ T, p.1 = P → p.2 = X.env.qual ++ "<lambda>") (hdef : defaultsOf params X.env = ([], [])) (hns : nscB N ps fr scope = true) (hbind : ∀ (c : Addr) (pm ctv : Value) (us : List Value), us.length = ps.length → bindArgs (PySem.W.kla_fn "<lambda>" (X.env.qual ++ "<lambda>") params bd scope (cloFrom X.env.cells scope.names []) pm (.ref c) ctv) ⟨us, []⟩ = pure (ps.zip us))
    (hbody : ∀ (c f : Addr) (A : Around) (outer : List Env) (s : Shared) (H : Hp) (E : XK), Room k (A.deeper (envF (lamF X params scope c) f s.heap.objs.size)) → PE (ncx CX0 X.prog X.w X.K X.mg X.base N (lamF X params scope c) f A outer s H E) bd tb) :
    PE X (.Call (.Name "sorted" p) [.Name y yp] [⟨some "key", .Lambda params bd scope lpos, kpos⟩] pos) (tCKs (rSortL X.K (lamF X params scope) bd N js tb) (tCons t1 tNil) (tCons (tLamO X T params bd scope) tNil)) :=
  pe_callBKS (cr_sortL hp (fun c => ⟨nscope_by hns, hbind c, hbody c⟩) (lam_caps hb hjs) hr) hg hm (by decide +kernel) (pa_cons he pa_nil) (pk_cons (pe_lamO TB hcode hmT hu hdef (ndef_free hb)) pk_nil)
theorem pe_minLam (hcalm : X.calm = true) (hb : ndefB X.env.scope scope fr = true) (hjs : js.map (fun j => X.N[j]?) = fr.map some) (hp : ps.length = 1) (hr : Room (k + 3) X.A) (hg : Gl X "min") (hm : X.mg "min" = Option.none) (he : PE X (.Name y yp) t1)
    (TB : TabB X.base X.mg c P) (hcode : X.env.code = .ref c) (hmT : (P, X.env.qual ++ "<lambda>") ∈ T) (hu : ∀ p ∈ T, p.1 = P → p.2 = X.env.qual ++ "<lambda>") (hdef : defaultsOf params X.env = ([], [])) (hns : nscB N ps fr scope = true) (hbind : ∀ (c : Addr) (pm ctv : Value) (us : List Value), us.length = ps.length → bindArgs (PySem.W.kla_fn "<lambda>" (X.env.qual ++ "<lambda>") params bd scope (cloFrom X.env.cells scope.names []) pm (.ref c) ctv) ⟨us, []⟩ = pure (ps.zip us))
    (hbody : ∀ (c f : Addr) (A : Around) (outer : List Env) (s : Shared) (H : Hp) (E : XK), Room k (A.deeper (envF (lamF X params scope c) f s.heap.objs.size)) → PE (ncx CX0 X.prog X.w X.K X.mg X.base N (lamF X params scope c) f A outer s H E) bd tb) :
    PE X (.Call (.Name "min" p) [.Name y yp] [⟨some "key", .Lambda params bd scope lpos, kpos⟩, ⟨some "default", .Constant .none j dpos, dkpos⟩] pos) (tCKs (rMinL X.K (lamF X params scope) bd N js tb) (tCons t1 tNil) (tCons (tLamO X T params bd scope) (tCons (tC .non) tNil))) :=
  pe_callBKS (cr_minL hcalm hp (fun c => ⟨nscope_by hns, hbind c, hbody c⟩) (lam_caps hb hjs) hr) hg hm (by decide +kernel) (pa_cons he pa_nil) (pk_cons (pe_lamO TB hcode hmT hu hdef (ndef_free hb)) (pk_cons pe_non pk_nil))
end
/-- a def by its body, where its code object is asked for -/
theorem fun_okC {P : Program} {w : World} {K : PySem.W.Frag} {mg : Str → Option Value} {base : Heap} {x qual : Str} {st : Stmt} {f : Addr} {fd : FuncData} {N ps : List Str} {k : Nat} {sp : Sp} (F : Fun K x qual st f fd) (S : FnScope N ps (defScope st)) (len : ∀ vs H Q E, sp vs H Q E → vs.length = ps.length)
    (hbody : ∀ (cdv : Value) (A : Around) (outer : List Env) (s : Shared) (H : Hp) (vs : List V) (Q : VK) (E : XK), cdv = fd.code → Room k (A.deeper (envOfC qual (defScope st) s.heap.objs.size f cdv)) → sp vs H Q E →
      ∃ t, PSs (cxOf CX0 P w K mg base N qual (defScope st) f cdv A outer s H E).nox (defBody st) t ∧ t { nx := fun _ H' => Q .non H', rt := Q } (L2.start N vs) H) : FnOk P w K mg base CX0 (k + 1) f fd ps sp := by
  obtain ⟨oc, od, kV, doc, pm, an, cdv, ct, osl, rfl, lk, hcd⟩ := F.ex
  refine fn_of lk hcd S len fun A outer s H vs Q E hr hsp => ?_
  obtain ⟨t, h, q⟩ := hbody cdv A outer s H vs Q E rfl hr hsp
  exact ⟨t, h.nox, q⟩
section
open NdefX LamX
variable {X : Cx}
/-- sorted(d, key=f) of a dict whose keys are whole numbers -/
def rSortLD (mk : Addr → NF) (bd : Expr) (N : List Str) (js : List Nat) (tb : TE) : L2.St → List V → List V → Hp → VK → Prop := fun σ vs zs H Q => ∃ (a f c' : Addr) (kvs : List (Key × V)) (is ks : List Int), vs = [V.ref a] ∧ zs = [V.ref f] ∧ H f = some (LamO f (mk c') bd) ∧ H (mk c').c = some (CodeO (mk c').c (mk c').qual) ∧
  H a = some (.dK kvs) ∧ kvs.map (·.1) = is.map Sum.inl ∧ is.length < 64 ∧ ks.length = is.length ∧ (∀ (i : Nat) x k, is[i]? = some x → ks[i]? = some k → tb (startF N [.int x] (js.map (slotAt σ))) H (fun v H' => v = .int k ∧ H' = H)) ∧ ∀ p : Addr, H p = Option.none → Q (.ref p) (upd H p (.lst (byKey (is.map V.int) ks)))
theorem ints_vals {vs : List Value} {ns : List Int} (h : IntsAre vs ns) : Vals (ns.map V.int) vs := vals_of_ints h
theorem cr_sortLD {mk : Addr → NF} {bd : Expr} {N ps fr : List Str} {js : List Nat} {tb : TE} {k : Nat} (hcalm : X.calm = true) (hp : ps.length = 1) (O : ∀ c', LamOk X k N ps fr (mk c') bd tb) (cp : ∀ c', X.Ok → Caps X (mk c').cl fr js) (hr : Room (k + 3) X.A) :
    CallRS X (.builtin "sorted") [Str.ofString "key"] (rSortLD mk bd N js tb) := by
  intro pins s σ H vs0 zs us ws Q I r rz h
  obtain ⟨a, f, c', kvs, is, ks, rfl, rfl, hf, hc, ha, hks, h64, hl, hk, q⟩ := h
  obtain rfl := Vals.ref1 r
  obtain rfl := Vals.ref1 rz
  obtain ⟨z, lo, vs, rel, dd⟩ := dk_rd I.hok (.inl ha)
  obtain ⟨ep, hat⟩ := dd.dictAt
  have hkeys : vs.map (·.1) = is.map Sum.inl := rel.keys.symm.trans hks
  have hvl : vs.length = is.length := by
    have e := congrArg List.length hkeys
    rw [List.length_map, List.length_map] at e
    exact e
  have h16 : vs.length ≤ sizeLine := by rw [hvl, sizeLine_eq]; omega
  show wpAny _ _ (call (.builtin "sorted") [.ref a] [(Str.ofString "key", .ref f)]) _ _ _
  refine PyProof.Rows.call_function_entry_kw PyProof.Rows.kind_sorted PyProof.Rows.plain_sorted PyProof.Rows.entry_sorted (PyProof.Rows.ksk_s1 _ _) ?_
  unfold Builtin.«sorted»
  refine wpAny_bind (m := checkCount "sorted" 1 1 _) (wpAny_pure ?_)
  refine wpAny_bind (PySem.W.kdu_collect (A := X.A.in1) (PySem.W.kdl_dict (knd := mixKind X.prog X.w) (kvs := vs) (ep := ep) lo) (I.ok.hd hcalm) hat h16 fun h' tk acc hk2 hacc => ?_)
  have hal : acc.toList.length = is.length := by rw [Array.length_toList, hacc.1, hvl]
  have hS : IntsAre acc.toList is := ints_each hal fun j v e => by
    obtain ⟨k, x, e1, e2⟩ := hacc.2 j v (by rw [← Array.getElem?_toList]; exact e)
    have e3 : (vs.map (·.1))[j]? = some k := by rw [List.getElem?_map, e1]; rfl
    rw [hkeys, List.getElem?_map] at e3
    cases e4 : is[j]? with
    | none => rw [e4] at e3; cases e3
    | some y =>
      rw [e4] at e3
      have e5 : Sum.inl y = k := Option.some.inj e3
      subst e5
      rcases keyIs_shape (show keyIs (Sum.inl y) v = true from e2) with ⟨i, t, ek, ev⟩ | ⟨z, t, ek, ev⟩
      · cases ek
        exact ⟨y, t, rfl, ev⟩
      · cases ek
  have I1 : Inv X pins σ H { s with heap := h', toks := tk } := I.kept hk2
  have rv : Vals (is.map V.int) acc.toList := vals_of_ints hS
  have hsz : acc.toList.length ≤ sizeLine := by rw [hal, sizeLine_eq]; omega
  refine wpAny_bind (wpAny_newList ?_ hsz)
  have hoL : (h'.push (PyProof.Rows.seqObj "list" acc.toList.toArray 0)).get? h'.objs.size = some (PyProof.Rows.seqObj "list" acc.toList.toArray 0) := Heap.get?_push_size _ rfl
  show wpAny _ _ _ _ _ { s with heap := h'.push (PyProof.Rows.seqObj "list" acc.toList.toArray 0), toks := tk }
  refine wpAny_bind (wpAny_holding (wpAny_call_entry_kw PyProof.Rows.slot_list_sort ⟨_, hoL, rfl⟩ PyProof.Rows.entry_list_sort ?_ (PyProof.Rows.ksk_l1 _ _)))
  rw [PyProof.Rows.ksk_t1]
  have hps : (h'.push (PyProof.Rows.seqObj "list" acc.toList.toArray 0)).objs.size = h'.objs.size + 1 := size_push' _ _
  have oa : Own X pins H h'.objs.size := own_fresh I1 (Nat.le_refl _)
  have oc : Own X pins H (h'.objs.size + 2) := own_fresh I1 (by show h'.objs.size ≤ h'.objs.size + 2; omega)
  have hu : X.A.units + 2 < cLine := by have := hr.units; omega
  show wpAny (model X.prog X.w) X.A.in1.in1 (PyProof.Rows.ksk_tree h'.objs.size (.ref f) false) _ _ _
  refine KJ.keyJ_tree (J := fun s' => Inv X pins σ H s') (kz := ks) (s := { s with heap := h'.push (PyProof.Rows.seqObj "list" acc.toList.toArray 0), toks := tk }) hoL (by rw [hl, hal]) hsz hu (fun h2 tk2 kp => ?_) (fun s' h2 tk2 j kp => ?_) (fun i v n hv hki s' kA e e1 j j2 j3 => ?_) fun s' out c j e ko => ?_
  · exact I1.kept fun b u e => kp b u (Nat.ne_of_lt (Heap.lt_size e)) (Heap.get?_push_of_some _ e)
  · have kp : KJ.KeepsTwo h'.objs.size ((h'.push (PyProof.Rows.seqObj "list" acc.toList.toArray 0)).objs.size + 1) s'.heap h2 := kp
    rw [hps] at kp
    exact inv_two j oa oc kp
  · have j2 : s'.heap.get? ((h'.push (PyProof.Rows.seqObj "list" acc.toList.toArray 0)).objs.size + 1) = some (PyProof.Rows.seqObj "list" kA e) := j2
    rw [hps] at j2
    obtain ⟨x, hx, rx⟩ := vals_get rv hv
    rw [List.getElem?_map] at hx
    obtain ⟨y, hy, rfl⟩ := Option.map_eq_some_iff.mp hx
    refine wpAny_mono (lam_call (O c') (Room.in1 (Room.in1 hr)) (Env0.in1 (Env0.in1 j.env0)) j hf hc (cp c' I.ok) (.cons rx .nil) (by rw [hp]; rfl) (hk i y n hy hki)) (fun u s'' he => ?_) (fun _ _ z => z)
    obtain ⟨⟨v', H', J', rv', e1', e2'⟩, kp⟩ := he
    subst e1' e2'
    obtain ⟨t, rfl⟩ : ∃ t, u = Value.int n t := rv'
    refine ⟨⟨t, rfl⟩, J', ?_, kp _ _ j3 oa.no oa.ne oa.fs⟩
    show s''.heap.get? ((h'.push (PyProof.Rows.seqObj "list" acc.toList.toArray 0)).objs.size + 1) = some (PyProof.Rows.seqObj "list" kA e)
    rw [hps]
    exact kp _ _ j2 oc.no oc.ne oc.fs
  · have hl2 : ks.length = (is.map V.int).length := by rw [List.length_map]; exact hl
    rw [← zip_snd hl2] at ko
    have eo := PySem.W.keyedOut_each (β := V × Int) (fun b => PyData.int b.2) ko (vals_each rv hl2)
    rw [PySem.W.dataLe_int] at eo
    have ev : Vals (byKey (is.map V.int) ks) out := each_vals eo
    have lo2 : (byKey (is.map V.int) ks).length ≤ sizeLine := by rw [byKey_len hl2, List.length_map, sizeLine_eq]; omega
    exact ⟨_, rfl, wpAny_pure ⟨_, rfl, .ref h'.objs.size, _, inv_adopt j oa (o := .lst (byKey (is.map V.int) ks)) ⟨lo2, out, c, ev, e⟩, rfl, q _ oa.no⟩⟩
theorem pe_sortLamD {T : List (Addr × Str)} {c P : Addr} {params : Arguments} {bd : Expr} {y : Str} {yp : Pos} {scope : Scope} {lpos kpos p pos : Pos} {N ps fr : List Str} {js : List Nat} {t1 tb : TE} {k : Nat} (hcalm : X.calm = true) (hb : ndefB X.env.scope scope fr = true) (hjs : js.map (fun j => X.N[j]?) = fr.map some) (hp : ps.length = 1) (hr : Room (k + 3) X.A) (hg : Gl X "sorted") (hm : X.mg "sorted" = Option.none) (he : PE X (.Name y yp) t1)
    (TB : TabB X.base X.mg c P) (hcode : X.env.code = .ref c) (hmT : (P, X.env.qual ++ "<lambda>") ∈ T) (hu : ∀ p ∈ T, p.1 = P → p.2 = X.env.qual ++ "<lambda>") (hdef : defaultsOf params X.env = ([], []))
    (hns : nscB N ps fr scope = true) (hbind : ∀ (c : Addr) (pm ctv : Value) (us : List Value), us.length = ps.length → bindArgs (PySem.W.kla_fn "<lambda>" (X.env.qual ++ "<lambda>") params bd scope (cloFrom X.env.cells scope.names []) pm (.ref c) ctv) ⟨us, []⟩ = pure (ps.zip us))
    (hbody : ∀ (c f : Addr) (A : Around) (outer : List Env) (s : Shared) (H : Hp) (E : XK), Room k (A.deeper (envF (lamF X params scope c) f s.heap.objs.size)) → PE (ncx CX0 X.prog X.w X.K X.mg X.base N (lamF X params scope c) f A outer s H E) bd tb) :
    PE X (.Call (.Name "sorted" p) [.Name y yp] [⟨some "key", .Lambda params bd scope lpos, kpos⟩] pos) (tCKs (rSortLD (lamF X params scope) bd N js tb) (tCons t1 tNil) (tCons (tLamO X T params bd scope) tNil)) :=
  pe_callBKS (cr_sortLD hcalm hp (fun c => ⟨nscope_by hns, hbind c, hbody c⟩) (lam_caps hb hjs) hr) hg hm (by decide +kernel) (pa_cons he pa_nil) (pk_cons (pe_lamO TB hcode hmT hu hdef (ndef_free hb)) pk_nil)
end
/-! ### list(zip(t, u)) of two tuples: each pair is held by the list, so each one is new -/
section
open Sem (wp)
variable {prog : Program} {wd : World} {AA : Around} {EE : Value → Shared → Prop} {sh : Shared}
/-- the zip at z stands ahead of its i-th pair; L: the list that holds the pairs -/
structure ZSt (h : Heap) (L z TI TO i1 i2 l1 l2 : Addr) (xs ys : Array Value) (i : Nat) : Prop where
  pr : IsPair h TI (.ref i1) (.ref i2)
  ia : h.IsTupleIter i1 l1 i
  ib : h.IsTupleIter i2 l2 i
  ta : h.IsTuple l1 xs
  tb : h.IsTuple l2 ys
  out : (IsZip h z TI TO .none ∧ IsPair h TO .none .none) ∨ ∃ (U : Addr) (f : Bool) (oU : Obj), IsZipHeld h z TI TO U f ∧ h.get? U = some oU ∧ U ≠ L ∧ U ≠ z ∧ U ≠ i1 ∧ U ≠ i2
/-- the next pair while the last one is held -/
theorem zheld_item {z TI TO U i1 i2 l1 l2 : Addr} {f : Bool} {oU : Obj} {k : Nat} {xs ys : Array Value} {x y : Value} {W : Value → Shared → Prop} (D : ZipApart z TI TO i1 i2 l1 l2) (gz : IsZipHeld sh.heap z TI TO U f)
    (gU : sh.heap.get? U = some oU) (gp : IsPair sh.heap TI (.ref i1) (.ref i2)) (ga : sh.heap.IsTupleIter i1 l1 k) (gb : sh.heap.IsTupleIter i2 l2 k) (gx : sh.heap.IsTuple l1 xs) (gy : sh.heap.IsTuple l2 ys)
    (ex : xs[k]? = some x) (ey : ys[k]? = some y)
    (fin : ∀ g, IsZipHeld g z TI TO U true → g.IsTupleIter i1 l1 (k + 1) → g.IsTupleIter i2 l2 (k + 1) → IsPair g sh.heap.objs.size x y → g.objs.size = sh.heap.objs.size + 1 →
      (∀ q o, q ≠ z → q ≠ i1 → q ≠ i2 → sh.heap.get? q = some o → g.get? q = some o) → W (.ref sh.heap.objs.size) { sh with heap := g }) :
    wpAny (model prog wd) AA (Builtin.«zip.__next__» ⟨[.ref z], []⟩) (fun r s' => ∃ v, r = .done (.ret v) ∧ W v s') EE sh := by
  show wpAny _ _ (field (.ref z) 2 >>= _) _ EE sh
  refine wpAny_bind (wpAny_field gz rfl (x := .bool false) rfl ?_)
  show wpAny _ _ (field (.ref z) 3 >>= _) _ EE sh
  refine wpAny_bind (wpAny_field gz rfl (x := .ref TI) rfl (wpAny_bind (wpAny_seqItems gp rfl ?_)))
  show wpAny _ _ (Builtin.SmallTypes.ownedTupleIsFree (.ref z) >>= _) _ EE sh
  refine wpAny_bind (wpAny_tupleHeld_zip gz gU fun g1 z1 d1 => ?_)
  simp only [Bool.false_eq_true, if_false]; refine wpAny_bind ?_
  rw [← Array.forIn_toList]; simp only [List.forIn_cons, List.forIn_nil]; refine wpAny_bind (wpAny_bind (wpAny_holding ?_))
  show wpAny _ _ (Builtin.SmallTypes.nextOf (.ref i1) >>= _) _ EE _
  refine wpAny_bind (RZ.nextOf_tuple_item (s := { sh with heap := g1 }) (ga.extBut d1.extBut D.i1z) (gx.extBut d1.extBut D.l1z) ex fun g2 a2 d2 => wpAny_pure (wpAny_pure ?_))
  refine wpAny_bind (wpAny_bind (wpAny_holding ?_)); show wpAny _ _ (Builtin.SmallTypes.nextOf (.ref i2) >>= _) _ EE _
  refine wpAny_bind (RZ.nextOf_tuple_item (s := { sh with heap := g2 }) ((gb.extBut d1.extBut D.i2z).extBut d2.extBut D.i12.symm) ((gy.extBut d1.extBut D.l2z).extBut d2.extBut D.l2i1) ey fun g3 b3 d3 => wpAny_pure (wpAny_pure (wpAny_pure ?_)))
  show wpAny _ _ (newTuple [x, y] >>= _) _ EE _
  refine wpAny_bind (wpAny_newTuple (wpAny_pure ⟨_, rfl, ?_⟩))
  have size3 : g3.objs.size = sh.heap.objs.size := by rw [d3.1, d2.1, d1.1]
  have z3 : IsZipHeld g3 z TI TO U true := d3.extBut _ _ D.i2z.symm (d2.extBut _ _ D.i1z.symm z1)
  have stay : ∀ q o, q ≠ z → q ≠ i1 → q ≠ i2 → sh.heap.get? q = some o → g3.get? q = some o := fun q o q1 q2 q3 e => d3.extBut _ _ q3 (d2.extBut _ _ q2 (d1.extBut _ _ q1 e))
  have a3 : g3.IsTupleIter i1 l1 (k + 1) := a2.extBut d3.extBut D.i12
  have pn : IsPair (g3.push { cls := .type "tuple", data := .seq #[x, y] }) g3.objs.size x y := Heap.get?_push_size _ rfl
  have pz : (g3.push { cls := .type "tuple", data := .seq #[x, y] }).objs.size = g3.objs.size + 1 := Heap.size_push ..
  show W (.ref g3.objs.size) _
  rw [size3] at pn pz ⊢
  exact fin _ (Heap.get?_push_of_some _ z3) (a3.at fun o e => Heap.get?_push_of_some _ e) (b3.at fun o e => Heap.get?_push_of_some _ e) pn pz fun q o q1 q2 q3 e => Heap.get?_push_of_some _ (stay q o q1 q2 q3 e)
/-- no pair is left, the last one is held -/
theorem zheld_end {z TI TO U i1 i2 l1 l2 : Addr} {f : Bool} {oU : Obj} {k : Nat} {xs ys : Array Value} {W : Fin → Shared → Prop} (hh : AA.handled = none) (D : ZipApart z TI TO i1 i2 l1 l2) (gz : IsZipHeld sh.heap z TI TO U f)
    (gU : sh.heap.get? U = some oU) (gp : IsPair sh.heap TI (.ref i1) (.ref i2)) (ga : sh.heap.IsTupleIter i1 l1 k) (gb : sh.heap.IsTupleIter i2 l2 k) (gx : sh.heap.IsTuple l1 xs) (gy : sh.heap.IsTuple l2 ys)
    (ends : xs[k]? = none ∨ ys[k]? = none)
    (fin : ∀ g e, (∀ q o, q ≠ z → q ≠ i1 → q ≠ i2 → sh.heap.get? q = some o → g.get? q = some o) → (∃ o, g.get? e = some o ∧ o.cls = .type "StopIteration") → EE (.ref e) { sh with heap := g }) :
    wpAny (model prog wd) AA (Builtin.«zip.__next__» ⟨[.ref z], []⟩) W EE sh := by
  show wpAny _ _ (field (.ref z) 2 >>= _) W EE sh
  refine wpAny_bind (wpAny_field gz rfl (x := .bool false) rfl ?_)
  show wpAny _ _ (field (.ref z) 3 >>= _) W EE sh
  refine wpAny_bind (wpAny_field gz rfl (x := .ref TI) rfl (wpAny_bind (wpAny_seqItems gp rfl ?_)))
  show wpAny _ _ (Builtin.SmallTypes.ownedTupleIsFree (.ref z) >>= _) W EE sh
  refine wpAny_bind (wpAny_tupleHeld_zip gz gU fun g1 z1 d1 => ?_)
  simp only [Bool.false_eq_true, if_false]; refine wpAny_bind ?_
  rw [← Array.forIn_toList]; simp only [List.forIn_cons, List.forIn_nil]; refine wpAny_bind (wpAny_bind (wpAny_holding ?_))
  show wpAny _ _ (Builtin.SmallTypes.nextOf (.ref i1) >>= _) _ EE _
  cases ex : xs[k]? with
  | none =>
    refine wpAny_bind (RZ.nextOf_tuple_end (s := { sh with heap := g1 }) hh (ga.extBut d1.extBut D.i1z) (gx.extBut d1.extBut D.l1z) ex fun g2 e d2 he => ?_)
    exact fin g2 e (fun q o q1 q2 _ u => d2 _ _ q2 (d1.extBut _ _ q1 u)) he
  | some x =>
    have ey : ys[k]? = none := ends.resolve_left (by rw [ex]; exact fun u => nomatch u)
    refine wpAny_bind (RZ.nextOf_tuple_item (s := { sh with heap := g1 }) (ga.extBut d1.extBut D.i1z) (gx.extBut d1.extBut D.l1z) ex fun g2 a2 d2 => wpAny_pure (wpAny_pure ?_))
    refine wpAny_bind (wpAny_bind (wpAny_holding ?_)); show wpAny _ _ (Builtin.SmallTypes.nextOf (.ref i2) >>= _) _ EE _
    refine wpAny_bind (RZ.nextOf_tuple_end (s := { sh with heap := g2 }) hh ((gb.extBut d1.extBut D.i2z).extBut d2.extBut D.i12.symm) ((gy.extBut d1.extBut D.l2z).extBut d2.extBut D.l2i1) ey fun g3 e d3 he => ?_)
    exact fin g3 e (fun q o q1 q2 q3 u => d3 _ _ q3 (d2.extBut _ _ q2 (d1.extBut _ _ q1 u))) he
/-- one turn of the zip, held or not -/
theorem zst_item {L z TI TO i1 i2 l1 l2 : Addr} {k : Nat} {xs ys : Array Value} {x y : Value} {W : Option Value → Shared → Prop} (D : ZipApart z TI TO i1 i2 l1 l2) (Z : ZSt sh.heap L z TI TO i1 i2 l1 l2 xs ys k) (hL : L < sh.heap.objs.size)
    (ex : xs[k]? = some x) (ey : ys[k]? = some y)
    (fin : ∀ g, ZSt g L z TI TO i1 i2 l1 l2 xs ys (k + 1) → IsPair g sh.heap.objs.size x y → g.objs.size = sh.heap.objs.size + 1 → (∀ q o, q ≠ z → q ≠ TO → q ≠ i1 → q ≠ i2 → sh.heap.get? q = some o → g.get? q = some o) →
      W (some (.ref sh.heap.objs.size)) { sh with heap := g }) : wpAny (model prog wd) AA (pyNext (.ref z)) W EE sh := by
  have lt : ∀ {q : Addr} {o : Obj}, sh.heap.get? q = some o → sh.heap.objs.size ≠ q := fun e => Nat.ne_of_gt (Heap.lt_size e)
  have ni : ∀ {q l : Addr} {j : Nat}, sh.heap.IsTupleIter q l j → sh.heap.objs.size ≠ q := fun ⟨_, e, _⟩ => lt e
  rcases Z.out with ⟨gz, gt⟩ | ⟨U, f, oU, gz, gU, u0, u1, u2, u3⟩
  · refine RZ.pyNext_zipT_item D gz Z.pr gt Z.ia Z.ib Z.ta Z.tb ex ey fun g c1 c2 c3 c4 c5 c6 c7 => ?_
    refine fin g ⟨c7 _ _ D.TIz D.TITO D.TIi1 D.TIi2 Z.pr, c3, c4, ?_, ?_, .inr ⟨sh.heap.objs.size, false, _, c1, c5, Nat.ne_of_gt hL, lt gz, ni Z.ia, ni Z.ib⟩⟩ c5 c6 c7
    · obtain ⟨o, e, r⟩ := Z.ta; exact ⟨o, c7 _ _ D.l1z D.l1TO D.l1i1 D.l1i2 e, r⟩
    · obtain ⟨o, e, r⟩ := Z.tb; exact ⟨o, c7 _ _ D.l2z D.l2TO D.l2i1 D.l2i2 e, r⟩
  · have ty : sh.TypeIs (.ref z) "zip" := ⟨_, gz, rfl⟩
    unfold pyNext
    refine wpAny_bind (wpAny_attempt (wpAny_callSpecial?_slot (name := Str.ofString "__next__") ty F.slot_zip_next (wpAny_call_entry F.slot_zip_next ty F.entry_zip_next
      (zheld_item D gz gU Z.pr Z.ia Z.ib Z.ta Z.tb ex ey fun g c1 c3 c4 c5 c6 c7 => wpAny_pure ?_) (F.args_zip_next_1 _))))
    refine fin g ⟨c7 _ _ D.TIz D.TIi1 D.TIi2 Z.pr, c3, c4, ?_, ?_, .inr ⟨U, true, oU, c1, c7 _ _ u1 u2 u3 gU, u0, u1, u2, u3⟩⟩ c5 c6 fun q o q1 _ q2 q3 e => c7 q o q1 q2 q3 e
    · obtain ⟨o, e, r⟩ := Z.ta; exact ⟨o, c7 _ _ D.l1z D.l1i1 D.l1i2 e, r⟩
    · obtain ⟨o, e, r⟩ := Z.tb; exact ⟨o, c7 _ _ D.l2z D.l2i1 D.l2i2 e, r⟩
theorem zst_end {L z TI TO i1 i2 l1 l2 : Addr} {k : Nat} {xs ys : Array Value} {W : Option Value → Shared → Prop} (hh : AA.handled = none) (D : ZipApart z TI TO i1 i2 l1 l2) (Z : ZSt sh.heap L z TI TO i1 i2 l1 l2 xs ys k)
    (ends : xs[k]? = none ∨ ys[k]? = none) (fin : ∀ g, (∀ q o, q ≠ z → q ≠ TO → q ≠ i1 → q ≠ i2 → sh.heap.get? q = some o → g.get? q = some o) → W none { sh with heap := g }) : wpAny (model prog wd) AA (pyNext (.ref z)) W EE sh := by
  rcases Z.out with ⟨gz, gt⟩ | ⟨U, f, oU, gz, gU, u0, u1, u2, u3⟩
  · exact RZ.pyNext_zipT_end hh D gz Z.pr gt Z.ia Z.ib Z.ta Z.tb ends fin
  · have ty : sh.TypeIs (.ref z) "zip" := ⟨_, gz, rfl⟩
    unfold pyNext
    refine wpAny_bind (wpAny_attempt (wpAny_callSpecial?_slot (name := Str.ofString "__next__") ty F.slot_zip_next (wpAny_call_entry F.slot_zip_next ty F.entry_zip_next
      (zheld_end hh D gz gU Z.pr Z.ia Z.ib Z.ta Z.tb ends fun g e c he => ?_) (F.args_zip_next_1 _))))
    refine wpAny_bind (wpAny_isInstance (T := "StopIteration") (b := true) (let ⟨o, h1, h2⟩ := he; ⟨o, h1, h2⟩) isSubtype_stop (wpAny_pure (fin _ fun q o q1 _ q2 q3 u => c q o q1 q2 q3 u)))
/-- the list lies apart from the zip's own objects -/
structure LOff (L z TI TO i1 i2 l1 l2 : Addr) : Prop where
  a : z ≠ L
  b : TI ≠ L
  c : TO ≠ L
  d : i1 ≠ L
  e : i2 ≠ L
  f : l1 ≠ L
  g : l2 ≠ L
theorem ZSt.keep {h h' : Heap} {L z TI TO i1 i2 l1 l2 : Addr} {xs ys : Array Value} {i : Nat} (Z : ZSt h L z TI TO i1 i2 l1 l2 xs ys i) (A : LOff L z TI TO i1 i2 l1 l2) (k : ∀ q o, q ≠ L → h.get? q = some o → h'.get? q = some o) : ZSt h' L z TI TO i1 i2 l1 l2 xs ys i where
  pr := k _ _ A.b Z.pr
  ia := Z.ia.at fun o u => k _ o A.d u
  ib := Z.ib.at fun o u => k _ o A.e u
  ta := let ⟨o, u, r⟩ := Z.ta; ⟨o, k _ o A.f u, r⟩
  tb := let ⟨o, u, r⟩ := Z.tb; ⟨o, k _ o A.g u, r⟩
  out := by
    rcases Z.out with ⟨u, v⟩ | ⟨U, f, oU, u1, u2, u3, u4⟩
    · exact .inl ⟨k _ _ A.a u, k _ _ A.c v⟩
    · exact .inr ⟨U, f, oU, k _ _ A.a u1, k _ _ u3 u2, u3, u4⟩
/-- the pairs that the list holds -/
structure ZPrs (xs ys : Array Value) (lo : Addr) (h : Heap) (as : List Addr) : Prop where
  up : as.Pairwise (· < ·)
  from_ : ∀ a ∈ as, lo ≤ a
  at_ : ∀ (j : Nat) (a : Addr), as[j]? = some a → ∃ x y, xs[j]? = some x ∧ ys[j]? = some y ∧ IsPair h a x y
theorem ZPrs.lt {xs ys : Array Value} {lo : Addr} {h : Heap} {as : List Addr} (p : ZPrs xs ys lo h as) {a : Addr} (ha : a ∈ as) : a < h.objs.size := by
  obtain ⟨j, hj⟩ := List.mem_iff_getElem?.mp ha
  obtain ⟨x, y, _, _, e⟩ := p.at_ j a hj
  exact Heap.lt_size e
theorem ne_lo {a z lo : Addr} (h : z < lo) (b : lo ≤ a) : a ≠ z := Nat.ne_of_gt (Nat.lt_of_lt_of_le h b)
abbrev IsLs (h : Heap) (L : Addr) (acc : Array Value) (c : Nat) : Prop := h.get? L = some { cls := .type "list", dict := none, data := .seq acc c, slots := #[] }
theorem zl_loop {L z TI TO i1 i2 l1 l2 : Addr} {xs ys : Array Value} {n : Nat} {Rs : Result → Shared → Prop} (hh : AA.handled = none) (D : ZipApart z TI TO i1 i2 l1 l2) (A : LOff L z TI TO i1 i2 l1 l2) (res : Value) (lo : Addr) (h₀ : Heap)
    (below : z < lo ∧ TO < lo ∧ i1 < lo ∧ i2 < lo ∧ L < lo) (hn : n ≤ sizeLine) (ins : ∀ j, j < n → (∃ x, xs[j]? = some x) ∧ ∃ y, ys[j]? = some y) (ends : xs[n]? = none ∨ ys[n]? = none)
    (fin : ∀ h' tk acc c as, (∀ q o, q ≠ L → q ≠ z → q ≠ TO → q ≠ i1 → q ≠ i2 → h₀.get? q = some o → h'.get? q = some o) → IsLs h' L acc c → as.length = n → ZPrs xs ys lo h' as → acc.toList = as.map Value.ref → Rs (.ok (.ret res)) { sh with heap := h', toks := tk }) :
    ∀ (m k : Nat) (h : Heap) (tk c : Nat) (acc : Array Value) (as : List Addr), n - k = m → k ≤ n → ZSt h L z TI TO i1 i2 l1 l2 xs ys k → (∀ q o, q ≠ L → q ≠ z → q ≠ TO → q ≠ i1 → q ≠ i2 → h₀.get? q = some o → h.get? q = some o) → IsLs h L acc c → acc.toList = as.map Value.ref → as.length = k →
      ZPrs xs ys lo h as → lo ≤ h.objs.size → codeAny (model prog wd) AA (.builtin "list.extend.loop" ⟨[.ref L, .ref z, res], []⟩) Rs { sh with heap := h, toks := tk } := by
  intro m
  induction m with
  | zero =>
    intro k h tk c acc as em hk Z keep hL hacc hal hP hlo
    obtain rfl : k = n := by omega
    refine codeAny_builtin PySem.F.entry_extend_loop ?_; rw [Around.under_plainId PySem.F.plain_extend_loop _]
    show wpAny _ AA.in1 (pyNext (.ref z) >>= _) _ _ _
    refine wpAny_bind (zst_end (sh := { sh with heap := h, toks := tk }) (AA := AA.in1) hh D Z ends fun g kg => wpAny_pure (fin g tk acc c as (fun q o q0 q1 q2 q3 q4 u => kg q o q1 q2 q3 q4 (keep q o q0 q1 q2 q3 q4 u)) (kg _ _ A.a.symm A.c.symm A.d.symm A.e.symm hL) hal ⟨hP.up, hP.from_, fun j a hj => ?_⟩ hacc))
    obtain ⟨x, y, e1, e2, e3⟩ := hP.at_ j a hj
    have b := hP.from_ a (List.mem_of_getElem? hj)
    exact ⟨x, y, e1, e2, kg _ _ (ne_lo below.1 b) (ne_lo below.2.1 b) (ne_lo below.2.2.1 b) (ne_lo below.2.2.2.1 b) e3⟩
  | succ m ih =>
    intro k h tk c acc as em hk Z keep hL hacc hal hP hlo
    obtain ⟨⟨x, ex⟩, ⟨y, ey⟩⟩ := ins k (by omega)
    have hsz : acc.size = k := by rw [← Array.length_toList, hacc, List.length_map, hal]
    refine codeAny_builtin PySem.F.entry_extend_loop ?_; rw [Around.under_plainId PySem.F.plain_extend_loop _]
    show wpAny _ AA.in1 (pyNext (.ref z) >>= _) _ _ _
    refine wpAny_bind (zst_item (sh := { sh with heap := h, toks := tk }) D Z (Heap.lt_size hL) ex ey fun g Zg pg sg kg => ?_)
    dsimp only at pg sg kg ⊢
    have gL := kg _ _ A.a.symm A.c.symm A.d.symm A.e.symm hL
    have oth : ∀ q o, q ≠ L → g.get? q = some o → (g.update L (Obj.mapSeq (·.push (Value.ref h.objs.size)))).get? q = some o := fun q o hq u => (Heap.get?_update_other _ _ (Ne.symm hq)).trans u
    have nL : h.objs.size ≠ L := Nat.ne_of_gt (Heap.lt_size hL)
    show wpAny _ AA.in1 (updateSeq L (·.push (Value.ref h.objs.size)) >>= _) _ _ _
    refine wpAny_bind (wpAny_updateSeq gL rfl (wpAny_pure ⟨plainId_quiet PySem.F.plain_extend_loop _, ih (k + 1) _ tk _ (acc.push (Value.ref h.objs.size)) (as ++ [h.objs.size]) (by omega) (by omega) (Zg.keep A oth) (fun q o q0 q1 q2 q3 q4 u => oth q o q0 (kg q o q1 q2 q3 q4 (keep q o q0 q1 q2 q3 q4 u)))
      (Heap.get?_update_self _ gL rfl) (by rw [Array.toList_push, hacc, List.map_append] <;> rfl) (by rw [List.length_append, hal] <;> rfl) ⟨?_, ?_, ?_⟩ ?_⟩) (by rw [hsz]; omega) (by show (acc.push (Value.ref h.objs.size)).size ≤ sizeLine + 1; rw [Array.size_push, hsz]; omega))
    · exact List.pairwise_append.mpr ⟨hP.up, List.pairwise_singleton _ _, fun a ha b hb => by rw [List.mem_singleton.mp hb]; exact hP.lt ha⟩
    · intro a ha
      rcases List.mem_append.mp ha with ha | ha
      · exact hP.from_ a ha
      · rw [List.mem_singleton.mp ha]; exact hlo
    · intro j a hj
      rcases Nat.lt_or_ge j as.length with jl | jl
      · rw [List.getElem?_append_left jl] at hj
        obtain ⟨x', y', e1, e2, e3⟩ := hP.at_ j a hj
        have b := hP.from_ a (List.mem_of_getElem? hj)
        exact ⟨x', y', e1, e2, oth _ _ (ne_lo below.2.2.2.2 b) (kg _ _ (ne_lo below.1 b) (ne_lo below.2.1 b) (ne_lo below.2.2.1 b) (ne_lo below.2.2.2.1 b) e3)⟩
      · rw [List.getElem?_append_right jl] at hj
        have j0 : j - as.length = 0 := by
          rcases Nat.eq_zero_or_pos (j - as.length) with u | u
          · exact u
          · rw [List.getElem?_eq_none (by simp only [List.length_singleton]; omega)] at hj
            cases hj
        rw [j0] at hj
        cases hj
        rw [show j = k by omega]
        exact ⟨x, y, ex, ey, oth _ _ nL pg⟩
    · have e : (g.update L (Obj.mapSeq (·.push (Value.ref h.objs.size)))).get? h.objs.size = _ := oth _ _ nL pg
      exact Nat.le_trans hlo (Nat.le_of_lt (Heap.lt_size e))
theorem zip_len : typeLookup (.type "zip") "__len__" = pure none := am_miss_of_fast (by decide +kernel)
theorem zip_hint : typeLookup (.type "zip") "__length_hint__" = pure none := am_miss_of_fast (by decide +kernel)
/-- list(z), z a new zip of two tuples -/
theorem zl_call {z TI TO i1 i2 l1 l2 : Addr} {xs ys : Array Value} {n : Nat} {W : Value → Shared → Prop} (hh : AA.handled = none) (D : ZipApart z TI TO i1 i2 l1 l2) (ty : sh.TypeIs (.ref z) "zip") (gz : IsZip sh.heap z TI TO .none) (gt : IsPair sh.heap TO .none .none) (pr : IsPair sh.heap TI (.ref i1) (.ref i2))
    (ia : sh.heap.IsTupleIter i1 l1 0) (ib : sh.heap.IsTupleIter i2 l2 0) (ta : sh.heap.IsTuple l1 xs) (tb : sh.heap.IsTuple l2 ys) (hn : n ≤ sizeLine) (ins : ∀ j, j < n → (∃ x, xs[j]? = some x) ∧ ∃ y, ys[j]? = some y) (ends : xs[n]? = none ∨ ys[n]? = none)
    (fin : ∀ h' tk acc c as, (∀ q o, q ≠ z → q ≠ TO → q ≠ i1 → q ≠ i2 → sh.heap.get? q = some o → h'.get? q = some o) → IsLs h' sh.heap.objs.size acc c → as.length = n → ZPrs xs ys sh.heap.objs.size h' as → (∀ a ∈ as, a ≠ sh.heap.objs.size) → acc.toList = as.map Value.ref → W (.ref sh.heap.objs.size) { sh with heap := h', toks := tk }) :
    wpAny (model prog wd) AA (call (.type "list") [.ref z]) W EE sh := by
  have lt : ∀ {q : Addr} {o : Obj}, sh.heap.get? q = some o → q < sh.heap.objs.size := fun e => Heap.lt_size e
  have z1 := lt gz
  have z2 := lt gt
  have z3 := lt pr
  have z4 : i1 < sh.heap.objs.size := let ⟨_, e, _⟩ := ia; lt e
  have z5 : i2 < sh.heap.objs.size := let ⟨_, e, _⟩ := ib; lt e
  have z6 : l1 < sh.heap.objs.size := let ⟨_, e, _⟩ := ta; lt e
  have z7 : l2 < sh.heap.objs.size := let ⟨_, e, _⟩ := tb; lt e
  have A : LOff sh.heap.objs.size z TI TO i1 i2 l1 l2 := ⟨Nat.ne_of_lt z1, Nat.ne_of_lt z3, Nat.ne_of_lt z2, Nat.ne_of_lt z4, Nat.ne_of_lt z5, Nat.ne_of_lt z6, Nat.ne_of_lt z7⟩
  have Z0 : ∀ g, (∀ q o, q ≠ sh.heap.objs.size → sh.heap.get? q = some o → g.get? q = some o) → ZSt g sh.heap.objs.size z TI TO i1 i2 l1 l2 xs ys 0 := fun g k =>
    ⟨k _ _ A.b pr, ia.at fun o u => k _ o A.d u, ib.at fun o u => k _ o A.e u, (let ⟨o, u, r⟩ := ta; ⟨o, k _ o A.f u, r⟩), (let ⟨o, u, r⟩ := tb; ⟨o, k _ o A.g u, r⟩), .inl ⟨k _ _ A.a gz, k _ _ A.c gt⟩⟩
  refine callType_codes (Q₁ := fun obj s₁ => obj = .ref sh.heap.objs.size ∧ s₁ = { sh with heap := sh.heap.push { cls := .type "list", data := .seq #[] } }) PySem.F.called_list (PySem.F.typeCall_list_1 _) PySem.F.entry_list_init (PySem.code_list_new _ ⟨rfl, rfl⟩) fun obj s₁ h₁ => ?_
  obtain ⟨rfl, rfl⟩ := h₁
  have gL : (sh.heap.push { cls := .type "list", data := .seq #[] }).get? sh.heap.objs.size = some { cls := .type "list", data := .seq #[] } := Heap.get?_push_size _ rfl
  refine ⟨⟨_, gL, rfl⟩, PySem.F.args_list_init_2 _ _, ?_⟩
  show wpAny _ _ (do let old ← Builtin.List.listItems (.ref sh.heap.objs.size); Builtin.List.listUpdate (.ref sh.heap.objs.size) (fun _ => #[]); letGo old.toList.reverse; Builtin.List.listExtendWith (.ref sh.heap.objs.size) (.ref z) .none) _ _ _
  refine wpAny_bind ?_
  unfold Builtin.List.listItems
  refine wpAny_bind (wpAny_seqItems gL rfl (wpAny_pure ?_))
  show wpAny _ _ (updateSeq sh.heap.objs.size (fun _ => #[]) >>= fun _ => letGo (#[] : Array Value).toList.reverse >>= fun _ => Builtin.List.listExtendWith (.ref sh.heap.objs.size) (.ref z) .none) _ _ _
  refine wpAny_bind (wpAny_updateSeq gL rfl ?_)
  have g2 := Heap.get?_update_self (Obj.mapSeq (fun _ => (#[] : Array Value))) gL rfl
  have o1 : ∀ q o, q ≠ sh.heap.objs.size → sh.heap.get? q = some o → (sh.heap.push { cls := .type "list", data := .seq #[] }).get? q = some o := fun q o _ e => Heap.get?_push_of_some _ e
  have o2 : ∀ q o, q ≠ sh.heap.objs.size → sh.heap.get? q = some o → ((sh.heap.push { cls := .type "list", data := .seq #[] }).update sh.heap.objs.size (Obj.mapSeq (fun _ => (#[] : Array Value)))).get? q = some o :=
    fun q o hq e => (Heap.get?_update_other _ _ (Ne.symm hq)).trans (o1 q o hq e)
  refine wpAny_bind (wpAny_letGo ?_)
  have gz2 := o2 _ _ A.a gz
  have ty2 : Shared.TypeIs { sh with heap := (sh.heap.push { cls := .type "list", data := .seq #[] }).update sh.heap.objs.size (Obj.mapSeq (fun _ => (#[] : Array Value))) } (.ref z) "zip" := ⟨_, gz2, rfl⟩
  unfold Builtin.List.listExtendWith
  refine wpAny_bind (wpAny_typeOf ty2 ?_)
  have h1 : Builtin.List.listSameRef (.ref sh.heap.objs.size) (.ref z) = false := by simp [Builtin.List.listSameRef, (Ne.symm A.a)]
  have h2 : (Value.type "zip" == Value.type "list") = false := by decide
  have h3 : (Value.type "zip" == Value.type "tuple") = false := by decide
  simp only [h1, h2, h3, Bool.or_false, Bool.false_eq_true, if_false]
  refine wpAny_bind (wpAny_pyIter_zip gz2 ?_)
  refine wpAny_bind (wpAny_holding ?_)
  unfold Builtin.List.listLengthHint
  refine wpAny_bind (wpAny_specialOf ty2 zip_len ?_)
  show wpAny _ _ (specialOf (Value.ref z) (Str.ofString "__length_hint__") >>= _) _ _ _
  refine wpAny_bind (wpAny_specialOf ty2 zip_hint ?_)
  refine wpAny_pure ?_
  show wpAny _ _ (rule "list.extend.makes-room" >>= fun _ => Builtin.List.listTouch (.ref sh.heap.objs.size) >>= fun _ =>
    again (.builtin "list.extend.loop" ⟨[.ref sh.heap.objs.size, .ref z, .none], []⟩)) _ _ _
  refine wpAny_bind (wpAny_rule ?_)
  refine wpAny_bind ?_
  show wpAny _ _ (updateSeq sh.heap.objs.size (·.push .none) >>= fun _ => updateSeq sh.heap.objs.size (·.pop)) _ _ _
  refine wpAny_bind (wpAny_updateSeq g2 rfl ?_)
  have g3 := Heap.get?_update_self (Obj.mapSeq (·.push Value.none)) g2 rfl
  refine wpAny_updateSeq (hz := by seq_fits) g3 rfl ?_
  have g4 := Heap.get?_update_self (Obj.mapSeq (·.pop)) g3 rfl
  have o4 : ∀ q o, q ≠ sh.heap.objs.size → sh.heap.get? q = some o → ((((sh.heap.push { cls := .type "list", data := .seq #[] }).update sh.heap.objs.size (Obj.mapSeq (fun _ => (#[] : Array Value)))).update sh.heap.objs.size (Obj.mapSeq (·.push Value.none))).update sh.heap.objs.size (Obj.mapSeq (·.pop))).get? q = some o :=
    fun q o hq e => (Heap.get?_update_other _ _ (Ne.symm hq)).trans ((Heap.get?_update_other _ _ (Ne.symm hq)).trans (o2 q o hq e))
  refine wpAny_pure ⟨plainId_quiet PySem.F.plain_extend_loop _, zl_loop (AA := AA.in1) (sh := sh) hh D A .none (sh.heap.objs.size + 1) _ ⟨Nat.lt_succ_of_lt z1, Nat.lt_succ_of_lt z2, Nat.lt_succ_of_lt z4, Nat.lt_succ_of_lt z5, Nat.lt_succ_self _⟩ hn ins ends
    (fun h' tk acc c as hk hL hl hP hacc => ?_) n 0 _ _ _ #[] [] (Nat.sub_zero _) (Nat.zero_le _) (Z0 _ o4) (fun q o _ _ _ _ _ e => e) g4 rfl rfl ⟨List.Pairwise.nil, (fun _ ha => nomatch ha), (fun j a hj => by simp at hj)⟩ ?_⟩
  · exact ⟨rfl, fin h' tk acc c as (fun q o q1 q2 q3 q4 e => hk q o (Nat.ne_of_lt (Heap.lt_size e)) q1 q2 q3 q4 (o4 q o (Nat.ne_of_lt (Heap.lt_size e)) e)) hL hl ⟨hP.up, (fun a ha => Nat.le_of_succ_le (hP.from_ a ha)), hP.at_⟩ (fun a ha => Nat.ne_of_gt (hP.from_ a ha)) hacc⟩
  · exact Heap.lt_size g4
end
section
variable {prog : Program} {wd : World}
def putP : Hp → List Addr → List (V × V) → Hp
  | H, a :: as, p :: ps => putP (upd H a (.tup [p.1, p.2])) as ps
  | H, _, _ => H
theorem putP_off {b : Addr} : ∀ (as : List Addr) (ps : List (V × V)) (H : Hp), b ∉ as → putP H as ps b = H b
  | [], _, _, _ => rfl
  | _ :: _, [], _, _ => rfl
  | a :: as, p :: ps, H, h => by
    show putP (upd H a (.tup [p.1, p.2])) as ps b = H b
    rw [putP_off as ps _ (fun z => h (List.mem_cons_of_mem _ z)), upd_ne (fun z => h (by rw [z]; exact List.mem_cons_self))]
theorem putP_at : ∀ (as : List Addr) (ps : List (V × V)) (H : Hp), as.length = ps.length → as.Nodup → ∀ (j : Nat) (t : Addr), as[j]? = some t → ∃ p, ps[j]? = some p ∧ putP H as ps t = some (.tup [p.1, p.2])
  | [], _, _, _, _, j, t, h => by simp at h
  | _ :: _, [], _, h, _, _, _, _ => by cases h
  | a :: as, p :: ps, H, h, hn, 0, t, ht => by
    have hn' := List.nodup_cons.mp hn
    have e : a = t := by simpa using ht
    subst e
    refine ⟨p, rfl, ?_⟩
    show putP (upd H a (.tup [p.1, p.2])) as ps a = _
    rw [putP_off as ps _ hn'.1, upd_same]
  | a :: as, p :: ps, H, h, hn, j + 1, t, ht => by
    have hn' := List.nodup_cons.mp hn
    obtain ⟨r, e1, e2⟩ := putP_at as ps (upd H a (.tup [p.1, p.2])) (Nat.succ.inj h) hn'.2 j t (by simpa using ht)
    exact ⟨r, by simpa using e1, e2⟩
/-- what list(zip(t, u)) leaves -/
def rZipL (K : PySem.W.Frag) : List V → Hp → VK → Prop := fun vs H Q => ∃ (a b : Addr) (xs ys : List V), vs = [.ref a, .ref b] ∧ SqT K H a xs ∧ SqT K H b ys ∧
  ∀ (H' : Hp) (p : Addr) (ts : List Addr), (∀ b o, H b = some o → H' b = some o) → H p = none → (∀ t ∈ ts, H t = none) → p ∉ ts → H' p = some (.lst (ts.map V.ref)) → ts.length = (xs.zip ys).length →
    (∀ (j : Nat) (t : Addr), ts[j]? = some t → ∃ q, (xs.zip ys)[j]? = some q ∧ H' t = some (.tup [q.1, q.2])) → Q (.ref p) H'
def tZipL (K : PySem.W.Frag) (ta : TA) : TE := fun σ H Q => ta σ H fun vs H1 => rZipL K vs H1 Q
variable {X : Cx}
theorem zip_laid {pins : List (Addr × Obj)} {σ : L2.St} {H : Hp} {s : Shared} {h' : Heap} {tk : Nat} {xs ys : List V} {its its2 : List Value} {acc : Array Value} {c : Nat} {as : List Addr} {S : Addr} (I : Inv X pins σ H s) (rx : Vals xs its) (ry : Vals ys its2) (hz : (xs.zip ys).length ≤ sizeLine)
    (hk : ∀ b o, s.heap.get? b = some o → h'.get? b = some o) (hS0 : s.heap.objs.size ≤ S) (hS : IsLs h' S acc c) (hl : as.length = (xs.zip ys).length) (hP : ZPrs its.toArray its2.toArray s.heap.objs.size h' as) (hne : ∀ a ∈ as, a ≠ S) (hacc : acc.toList = as.map Value.ref) :
    ∃ H' : Hp, (∀ b o, H b = some o → H' b = some o) ∧ H S = none ∧ (∀ t ∈ as, H t = none) ∧ S ∉ as ∧ H' S = some (.lst (as.map V.ref)) ∧ (∀ (j : Nat) (t : Addr), as[j]? = some t → ∃ q, (xs.zip ys)[j]? = some q ∧ H' t = some (.tup [q.1, q.2])) ∧ Inv X pins σ H' { s with heap := h', toks := tk } := by
  have hSn : S ∉ as := fun z => hne _ z rfl
  have nd : as.Nodup := List.Pairwise.imp (fun {a b} (h : a < b) => Nat.ne_of_lt h) hP.up
  have new : ∀ t ∈ as, H t = none := fun t ht => I.hok.fresh (hP.from_ t ht)
  have newS : H S = none := I.hok.fresh hS0
  have atP := putP_at as (xs.zip ys) (upd H S (.lst (as.map V.ref))) hl nd
  have off : ∀ b, b ∉ as → b ≠ S → putP (upd H S (.lst (as.map V.ref))) as (xs.zip ys) b = H b := fun b h1 h2 => by rw [putP_off as _ _ h1, upd_ne h2]
  have low : ∀ b o, s.heap.get? b = some o → b ∉ as ∧ b ≠ S := fun b o e => ⟨fun z => absurd (Heap.lt_size e) (Nat.not_lt.mpr (hP.from_ b z)), Nat.ne_of_lt (Nat.lt_of_lt_of_le (Heap.lt_size e) hS0)⟩
  have kp : ∀ b u, H b = some u → (putP (upd H S (.lst (as.map V.ref))) as (xs.zip ys)) b = some u := fun b u e => by
    rw [off b (fun z => by rw [new b z] at e; cases e) (fun z => by rw [z, newS] at e; cases e)]
    exact e
  have eS : putP (upd H S (.lst (as.map V.ref))) as (xs.zip ys) S = some (.lst (as.map V.ref)) := by rw [putP_off as _ _ hSn, upd_same]
  refine ⟨putP (upd H S (.lst (as.map V.ref))) as (xs.zip ys), kp, newS, new, hSn, eS, atP, ?_⟩
  refine I.call' (ch := []) rfl ⟨fun b o q _ _ _ => hk b o q, fun b o q _ _ _ => ⟨o.slots, hk b o q⟩, fun b o q n _ => ?_, fun b o q _ => ⟨o, hk b o q⟩, fun b xs q => kp b _ q, fun b o u q => kp b _ q, fun b ps q => ⟨#[], by rw [kp b _ q]; simp⟩⟩ (fun b u q => ?_) I.bare fun b z => by simp at z
  · obtain ⟨z1, z2⟩ := low b o q
    rw [off b z1 z2]
    exact n
  · by_cases hb : b ∈ as
    · obtain ⟨j, hj⟩ := List.mem_iff_getElem?.mp hb
      obtain ⟨p, e2, e3⟩ := atP j b hj
      rw [e3] at q
      cases q
      obtain ⟨x, y, f1, f2, f3⟩ := hP.at_ j b hj
      obtain ⟨g1, g2⟩ := List.getElem?_zip_eq_some.mp e2
      obtain ⟨u1, k1, r1⟩ := rx.get g1
      obtain ⟨u2, k2, r2⟩ := ry.get g2
      rw [List.getElem?_toArray, k1] at f1
      rw [List.getElem?_toArray, k2] at f2
      cases f1
      cases f2
      exact ⟨by show 2 ≤ sizeLine; decide, [x, y], .cons r1 (.cons r2 .nil), ⟨_, f3, rfl, _, rfl⟩⟩
    · by_cases hb2 : b = S
      · rw [hb2] at q ⊢
        rw [eS] at q
        cases q
        refine ⟨by rw [List.length_map]; omega, acc.toList, c, by rw [hacc]; exact LiI.vals_refs as, ?_⟩
        rw [Array.toArray_toList]
        exact hS
      · rw [off b hb hb2] at q
        exact (I.hok b u q).stay (fun d v _ y => hk d v y) (fun d y => kp d _ y) fun d xs y => kp d _ y
/-- list(zip(e, e2)) of two tuples -/
theorem pe_listZip {e e2 : Expr} {ta : TA} {p zp zpos pos : Pos} (hgl : Gl X "list") (hml : X.mg "list" = none) (hv : bootBuiltins "list" = some (.type "list")) (hg : Gl X "zip") (hm : X.mg "zip" = none) (ha : PA X [e, e2] ta) (hc : X.calm = true := by rfl)
    (hs1 : starEach [.Call (.Name "zip" zp) [e, e2] [] zpos] X.env = (false, eval (.Call (.Name "zip" zp) [e, e2] [] zpos) X.env) :: starEach [] X.env := by rfl)
    (hs : starEach [e, e2] X.env = (false, eval e X.env) :: starEach [e2] X.env := by rfl) (hpl : (backTo zpos (starEach [e2] X.env)).any (·.1) = false := by rfl) :
    PE X (.Call (.Name "list" p) [.Call (.Name "zip" zp) [e, e2] [] zpos] [] pos) (tZipL X.K ta) := by
  refine ⟨fun pins s σ H Q I h => ?_⟩
  refine wpAny_Call_Name_kw (ld_blt I hgl hml hv ?_)
  refine PyProof.Rows.callWith_type1 ?_ hs1 rfl
  rw [hs1]
  show wpAny _ _ (spliced ((false, eval (.Call (.Name "zip" zp) [e, e2] [] zpos) X.env) :: backTo pos (starEach [] X.env))) _ _ s
  refine Calls.spliced_cons ?_
  refine Call_ (ld_blt I hg hm PyProof.Rows.boot_zip (PyProof.Rows.callWith_type1 (thn (ha.run zpos pins s σ H _ I h) fun us s1 ⟨vs, H1, I1, r1, q1⟩ => ?_) hs hpl))
  obtain ⟨a, b, xs, ys, ex, sx, sy, q1⟩ := q1
  subst ex
  cases r1 with
  | cons r rr =>
    cases rr with
    | cons r' rr =>
      cases rr
      cases r
      cases r'
      obtain ⟨its, rv, p1, z1⟩ := I1.tuple sx
      obtain ⟨its2, rv2, p2, z2⟩ := I1.tuple sy
      obtain ⟨o1, ho1, _⟩ := id p1
      obtain ⟨o2, ho2, _⟩ := id p2
      refine RZ.call_zipT (show s1.heap.IsTuple a its.toArray from p1) (show s1.heap.IsTuple b its2.toArray from p2) fun h' hz hTI hTO h1 h2 hsz hk => ?_
      refine Calls.spliced_nil ?_
      have len : (xs.zip ys).length = min xs.length ys.length := List.length_zip
      have l1 := rv.length
      have l2 := rv2.length
      refine zl_call (n := (xs.zip ys).length) (xs := its.toArray) (ys := its2.toArray) (sh := { s1 with heap := h' }) (I1.ok.hd hc) (PySem.W.ktu_apart s1.heap.objs.size a b (Heap.lt_size ho1) (Heap.lt_size ho2)) ⟨_, hz, rfl⟩ hz hTO hTI h1 h2 (let ⟨o, q, r⟩ := p1; ⟨o, hk _ o q, r⟩) (let ⟨o, q, r⟩ := p2; ⟨o, hk _ o q, r⟩) (by omega) (fun j hj => ⟨⟨its[j]'(by omega), ?_⟩, its2[j]'(by omega), ?_⟩) ?_ fun h2' tk acc c as kk hL hl hP hne hacc => ?_
      · rw [List.getElem?_toArray, List.getElem?_eq_getElem (by omega)]
      · rw [List.getElem?_toArray, List.getElem?_eq_getElem (by omega)]
      · rw [List.getElem?_toArray, List.getElem?_toArray]
        rcases Nat.le_total xs.length ys.length with u | u
        · exact .inl (List.getElem?_eq_none (by omega))
        · exact .inr (List.getElem?_eq_none (by omega))
      · have sz : h'.objs.size = s1.heap.objs.size + 5 := hsz
        have lt5 : ∀ {q : Addr} {o : Obj} {n : Nat}, s1.heap.get? q = some o → q ≠ s1.heap.objs.size + n := fun e => Nat.ne_of_lt (Nat.lt_of_lt_of_le (Heap.lt_size e) (Nat.le_add_right _ _))
        have up : s1.heap.objs.size ≤ h'.objs.size := by rw [sz]; exact Nat.le_add_right _ _
        obtain ⟨H', k1, k2, k3, k4, k5, k6, J⟩ := zip_laid (tk := tk) I1 rv rv2 (by omega) (fun q o e => kk q o (lt5 e) (lt5 e) (Nat.ne_of_lt (Heap.lt_size e)) (lt5 e) (hk q o e)) up hL hl ⟨hP.up, fun a ha => Nat.le_trans up (hP.from_ a ha), hP.at_⟩ hne hacc
        exact ⟨.ref _, H', J, rfl, q1 H' _ as k1 k2 k3 k4 k5 hl k6⟩
end
/-! ### a, b, *c = a tuple -/
theorem un_starT {prog : Program} {w : World} {A : Around} {E : Value → Shared → Prop} {s : Shared} {l : Addr} {items : Array Value} {i : Nat} {Q : List Value → Shared → Prop} (hl : IsTup s.heap l items) (hh : A.handled = none) (hi : i ≤ items.size) (hz : items.size ≤ 16384)
    (h : ∀ h₂ tk, Heap.ExtBut s.heap.objs.size s.heap h₂ → Q (items.toList.take i ++ [.ref h₂.objs.size]) { s with heap := h₂.push (seqObj "list" (items.toList.drop i).toArray 0), toks := tk }) : wpAny (model prog w) A (unpackItems (.ref l) (i + 1) (some i)) Q E s := by
  have hlt : l ≠ s.heap.objs.size := by obtain ⟨o, ho, _⟩ := hl; exact Nat.ne_of_lt (Heap.lt_size ho)
  have hll : l < s.heap.objs.size := by obtain ⟨o, ho, _⟩ := hl; exact Heap.lt_size ho
  unfold unpackItems
  refine wpAny_bind ?_
  unfold notIterableAtAll
  refine wpAny_bind (wpAny_specialOf hl.typeIs slot_tuple_iter.lookup ?_)
  refine wpAny_pure ?_
  simp only [Bool.false_eq_true, if_false]
  refine wpAny_bind (wpAny_holding (iter_tuple hl ?_))
  refine wpAny_bind (wpAny_holding (draw_tuple hlt i 0 _ _ ⟨_, Heap.get?_push_size _ rfl, rfl, rfl⟩ (hl.push _) (by omega) fun h₁ hit₁ hs₁ => ?_))
  have hl₁ : IsTup h₁ l items := (hl.push _).extBut hs₁.extBut hlt
  rw [Nat.zero_add] at hit₁
  have hit₁' := hit₁
  obtain ⟨oi, hoi, _⟩ := hit₁'
  have hl₁' := hl₁
  obtain ⟨ol, hol, _⟩ := hl₁'
  rw [List.drop_zero]
  have hfl : (items.toList.take i).length = i := by rw [List.length_take, Array.length_toList]; omega
  rw [if_neg (show ¬ ((items.toList.take i).length < i) by rw [hfl]; omega)]
  refine wpAny_bind (wpAny_holding (PySem.W.kun_collect (s := { s with heap := h₁ }) (T := "tuple_iterator") (.inr (.inr (.inr rfl))) (Walks.tuple (A := A.in1) hh s.heap.objs.size l hlt items) (fun j u st => st.1.typeIs) (k := i) (by omega) ⟨hit₁, hl₁⟩ (Heap.lt_size hoi) (Heap.lt_size hol) (fun h₂ tk hk => ?_) (by rw [sizeLine_eq]; omega)))
  have hrl : (items.toList.drop i).length = items.size - i := by rw [List.length_drop, Array.length_toList]
  show wpAny _ _ (if (items.toList.drop i).length < i + 1 - 1 - i then _ else _) _ _ _
  rw [if_neg (by rw [hrl]; omega)]
  show wpAny _ _ (newList ((items.toList.drop i).take ((items.toList.drop i).length - (i + 1 - 1 - i))) >>= fun d => pure (items.toList.take i ++ [d] ++ (items.toList.drop i).drop ((items.toList.drop i).length - (i + 1 - 1 - i)))) _ _ _
  have e0 : (items.toList.drop i).length - (i + 1 - 1 - i) = (items.toList.drop i).length := by omega
  rw [e0, List.take_length, List.drop_length]
  simp only [List.append_nil]
  have he : Heap.ExtBut s.heap.objs.size s.heap h₂ := fun b o hb e => hk b o hb (hs₁.extBut b o hb (Heap.get?_push_of_some _ e))
  exact wpAny_bind (wpAny_newList (wpAny_pure (h h₂ tk he)) (by rw [hrl, sizeLine_eq]; omega))
section
variable {X : Cx}
theorem pgs_star {t : Expr} {g : TG} {p : Pos} (h : PG X t g) (hs : (assignEach [.Starred t p] X.env).map (·.2) = [assign t X.env] := by rfl) : PGs X [.Starred t p] (gCons g gNil) := by
  refine ⟨fun pins s σ H vs us Q I r h' => ?_⟩
  obtain ⟨v, vr, e1, h'⟩ := h'
  subst e1
  cases r with
  | cons r rr =>
    rw [hs]
    refine assignInOrder_cons (thn (h.run pins s σ H _ _ _ I r h') fun _ s1 ⟨σ1, H1, I1, q1⟩ => ?_)
    obtain ⟨e, q1⟩ := q1
    subst e
    cases rr
    exact assignInOrder_nil ⟨σ1, H1, I1, q1⟩
def gStar (K : PySem.W.Frag) (i : Nat) (t : TGs) : TG := fun v σ H Q => ∃ a xs, v = .ref a ∧ SqT K H a xs ∧ i ≤ xs.length ∧ xs.length ≤ 1000 ∧ ∀ D, H D = none → t (xs.take i ++ [.ref D]) σ (upd H D (.lst (xs.drop i))) Q
theorem pg_star {es : List Expr} {k : Nat} {t : TGs} {i : Nat} {pos : Pos} (hc : X.calm = true) (h : PGs X es t) (hn : (assignEach es X.env).length = i + 1 := by rfl) (hst : (assignEach es X.env).findIdx? (·.1) = some i := by rfl) : PG X (.Tuple es k pos) (gStar X.K i t) := by
  refine ⟨fun pins s σ H v u Q I r hw => ?_⟩
  obtain ⟨a, xs, e1, hq, hi, hl, hw⟩ := hw
  subst e1
  cases r
  obtain ⟨its, rv, ht, hz⟩ := I.tuple hq
  rw [assign_Tuple]
  refine wpAny_bind (wpAny_standAt ?_)
  unfold unpack
  rw [hn, hst]
  have hlen : its.length = xs.length := rv.length.symm
  refine wpAny_bind (wpAny_holding (un_starT ht (I.ok.hd hc) (by simp [hlen, hi]) (by simp [hlen]; omega) fun h₂ tk he => ?_))
  have I1 : Inv X pins σ H { s with heap := h₂, toks := tk } := I.kept (t' := tk) fun b o e => he b o (Nat.ne_of_lt (Heap.lt_size e)) e
  have vd : Vals (xs.drop i) (its.drop i) := rv.drop i
  have hD : H h₂.objs.size = none := I1.hok.fresh (Nat.le_refl _)
  have I2 : Inv X pins σ (upd H h₂.objs.size (.lst (xs.drop i))) { s with heap := h₂.push (seqObj "list" (its.drop i).toArray 0), toks := tk } := I1.laid (t' := tk) (fun b u e => Heap.get?_push_of_some _ e) (Nat.le_refl _)
    (show ObjOk X.prog X.w _ _ _ (.lst (xs.drop i)) from ⟨by rw [List.length_drop, sizeLine_eq]; omega, its.drop i, 0, vd, Heap.get?_push_size _ rfl⟩)
  have vt : Vals (xs.take i ++ [.ref h₂.objs.size]) (its.take i ++ [.ref h₂.objs.size]) := (rv.take i).append (.cons rfl .nil)
  exact h.run pins _ σ _ _ _ Q I2 (by simpa using vt) (hw _ hD)
end
/-! ### dicts of ints -/
theorem seq_nat {n k : Nat} (h : k < n) : seqIndex? (k : Int) n = some k := by
  refine (ixN_seq (n := n) (i := k) (j := k) ?_).1
  unfold ixN
  rw [if_pos (by omega), if_pos (by omega), Int.toNat_natCast]
/-- a key that a row of pairs over a list without doubles does not have yet -/
theorem valV_none_of {f : Int → V} {ys : List Int} {y : Int} (h : y ∉ ys) : valV (ys.map fun z => ((Sum.inl z : Key), f z)) (Sum.inl y) = none := by
  induction ys with
  | nil => rfl
  | cons z r ih =>
    rw [List.map_cons, valV_neg (fun e => h (List.mem_cons.mpr (Or.inl (Sum.inl.inj e).symm))), ih (fun e => h (List.mem_cons_of_mem _ e))]
theorem not_in_take {ys : List Int} {i : Nat} {y : Int} (hn : ys.Nodup) (h : ys[i]? = some y) : y ∉ ys.take i := by
  intro hm
  obtain ⟨j, hj⟩ := List.mem_iff_getElem?.mp hm
  obtain ⟨hi, e⟩ := List.getElem?_eq_some_iff.mp h
  rw [List.getElem?_take] at hj
  split at hj
  · rename_i hlt
    obtain ⟨hj', e2⟩ := List.getElem?_eq_some_iff.mp hj
    have z : ys[j] = ys[i] := by rw [e2, e]
    have := (List.getElem_inj hn).mp z
    omega
  · cases hj
/-- a dict block over any walk -/
theorem dc_it {J : It} {n : Nat} {G : Hp → Prop} {Y : Nat → Hp → V → Hp → Prop} (w : Walk J n G Y) {g : TG} {tt : TT} {tk tv : TE} {vs : List Nat} {σ : L2.St} {H1 : Hp} {D : Addr} {Qd : Hp → Prop} (Pv : Nat → Hp → Prop) (h0 : Pv 0 (upd H1 D (.dK []))) (hG : ∀ i H, i ≤ n → Pv i H → G H)
    (hs : ∀ i x H H', i < n → Pv i H → Y i H x H' → g x (wipe σ vs) H' fun σ2 H2 => wipe σ2 vs = wipe σ vs ∧ tt σ2 H2 fun b H3 =>
      if b = true then tk σ2 H3 fun y H4 => tv σ2 H4 fun z H5 => ∃ kvs k, y = kV k ∧ H5 D = some (.dK kvs) ∧ kvs.length < sizeLine ∧ Pv (i + 1) (upd H5 D (.dK (putK kvs k z))) else Pv (i + 1) H3) (hd : ∀ H, Pv n H → Qd H) :
    ∃ W : Nat → Nat → Hp → Prop, (∃ m, W 0 m (upd H1 D (.dK []))) ∧ ∀ i m H, W i m H →
      (J.stop i H ∧ Qd H) ∨ (J.go i H ∧ ∃ Nx : Hp → Prop, (∀ H', Nx H' → ∃ m', m' < m ∧ W (i + 1) m' H') ∧ ∀ x H', J.yld i H x H' → g x (wipe σ vs) H' fun σ2 H2 => wipe σ2 vs = wipe σ vs ∧ tt σ2 H2 fun b H3 =>
        if b = true then tk σ2 H3 fun y H4 => tv σ2 H4 fun z H5 => ∃ kvs k, y = kV k ∧ H5 D = some (.dK kvs) ∧ kvs.length < sizeLine ∧ Nx (upd H5 D (.dK (putK kvs k z))) else Nx H3) := by
  refine ⟨fun i m H => i + m = n ∧ Pv i H, ⟨n, Nat.zero_add n, h0⟩, fun i m H hp => ?_⟩
  have q := hG i H (hp.1 ▸ Nat.le_add_right i m) hp.2
  cases m with
  | zero =>
    obtain ⟨rfl, p⟩ := hp
    exact .inl ⟨w.stops H q, hd H p⟩
  | succ m =>
    obtain ⟨e, p⟩ := hp
    have hi : i < n := by omega
    exact .inr ⟨w.goes i H hi q, Pv (i + 1), fun H' p' => ⟨m, Nat.lt_succ_self m, by omega, p'⟩, fun x H' y => hs i x H H' hi p (w.yields i H x H' hi q y)⟩
/-- a dict block over a list that the block leaves as it is -/
theorem dc_list {K : PySem.W.Frag} {a : Addr} {xs : List V} {g : TG} {tt : TT} {tk tv : TE} {vs : List Nat} {σ : L2.St} {H1 : Hp} {D : Addr} {Qd : Hp → Prop} (Pv : Nat → Hp → Prop) (h0 : Pv 0 (upd H1 D (.dK []))) (hl : ∀ i H, i ≤ xs.length → Pv i H → SqL K H a xs)
    (hs : ∀ i x H, xs[i]? = some x → Pv i H → g x (wipe σ vs) H fun σ2 H2 => wipe σ2 vs = wipe σ vs ∧ tt σ2 H2 fun b H3 =>
      if b = true then tk σ2 H3 fun y H4 => tv σ2 H4 fun z H5 => ∃ kvs k, y = kV k ∧ H5 D = some (.dK kvs) ∧ kvs.length < sizeLine ∧ Pv (i + 1) (upd H5 D (.dK (putK kvs k z))) else Pv (i + 1) H3) (hd : ∀ H, Pv xs.length H → Qd H) :
    ∃ W : Nat → Nat → Hp → Prop, (∃ m, W 0 m (upd H1 D (.dK []))) ∧ ∀ i m H, W i m H →
      ((Itl K a).stop i H ∧ Qd H) ∨ ((Itl K a).go i H ∧ ∃ Nx : Hp → Prop, (∀ H', Nx H' → ∃ m', m' < m ∧ W (i + 1) m' H') ∧ ∀ x H', (Itl K a).yld i H x H' → g x (wipe σ vs) H' fun σ2 H2 => wipe σ2 vs = wipe σ vs ∧ tt σ2 H2 fun b H3 =>
        if b = true then tk σ2 H3 fun y H4 => tv σ2 H4 fun z H5 => ∃ kvs k, y = kV k ∧ H5 D = some (.dK kvs) ∧ kvs.length < sizeLine ∧ Nx (upd H5 D (.dK (putK kvs k z))) else Nx H3) :=
  dc_it walk_list Pv h0 hl (fun i x H H' _ p y => by
    obtain ⟨rfl, e⟩ := y
    exact hs i x _ e p) hd
/-- an expression over a dict that is locked meanwhile -/
def tLock (te : TE) : TE := fun σ H Q => ∃ (d : Addr) (kvs : List (Key × V)), H d = some (.dK kvs) ∧ ∀ od, te σ (upd H d (.frz od (.dK kvs))) fun x H' => H' d = some (.frz od (.dK kvs)) ∧ Q x (upd H' d (.dK kvs))
theorem pe_lock {X : Cx} {e : Expr} {te : TE} (he : PE X e te) : PE X e (tLock te) := by
  refine ⟨fun pins s σ H Q I h => ?_⟩
  obtain ⟨d, kvs, hd, q⟩ := h
  have nf := I.nofrz hd trivial
  obtain ⟨od, J⟩ := I.lock hd trivial
  exact thn (he.run pins s σ _ _ J (q od)) fun u s1 ⟨x, H1, I1, r, h1, q1⟩ => ⟨x, _, I1.unlock h1 nf, r, q1⟩
/-! ### own errors: made, raised, caught, asked; defs called from a suite -/
/-- o.m(..) where what leaves it is wished for at the caller's slots -/
def tMethN (C : Addr) (m : Str) (sp : Sp) (E : L2.St → XK) (ta : TE) (t : TA) : TE := fun σ H Q => ta σ H fun x H1 => ∃ a dx fs, x = .ref a ∧ H1 a = some (.ins C dx fs) ∧ fs.lookup m = none ∧ t σ H1 fun vs H2 => sp (x :: vs) H2 Q (E σ)
section
variable {X : Cx} {CX : CXT} {lv : Nat} {g C : Addr} {gd : FuncData} {pn : List Str} {sp : Sp} {W : L2.St → XK} {x m : Str} {q0 q1 q2 : Pos} {u0 ob : Expr} {ur : List Expr} {to : TE} {ta : TA}
theorem pe_methN {pl : Sem Bool} (hob : PE X ob to) (cl : Cls X.K C) (me : Meth X.K C m g) (fn : FnOk X.prog X.w X.K X.mg X.base CX lv g gd pn sp) (room : Room lv X.A) (bi : Binds X.K gd pn []) (pass : ∀ σ, PassesAt CX X σ (W σ)) (har : PA X (u0 :: ur) ta)
    (st : starEach (u0 :: ur) X.env = (false, eval u0 X.env) :: starEach ur X.env := by rfl) (nokw : (backTo q2 (starEach ur X.env)).any (·.1) = false := by rfl)
    (ev : eval (.Call (.Attribute ob m q1) (u0 :: ur) [] q2) X.env = (do
      let r ← eval ob X.env
      standAt q1.atName
      let (k, fst) ← holding [r] (getMethod r m pl)
      callWith q2 k fst (backTo q2 (starEach (u0 :: ur) X.env)) (backToKw q2 (keywordEach [] X.env))) := by rfl) :
    PE X (.Call (.Attribute ob m q1) (u0 :: ur) [] q2) (tMethN C m sp W to ta) := by
  refine ⟨fun pins s σ H Q inv wish => ?_⟩
  refine PySem.W.methodCall_KW (pl := pl) (thn (hob.run pins s σ H _ inv wish) fun v s1 ⟨y, H1, inv1, rel, a, dx, fs, ey, ea, no, wish1⟩ => ?_) ev
  subst ey
  obtain rfl : v = Value.ref a := rel
  refine getmeth_ok inv1 ea cl me no ?_
  refine PySem.W.callWith_K (first := [.ref a]) (h₀ := X.base) inv.ok.mod.kin me.kp (thn (har.run q2 pins s1 σ H1 _ inv1 wish1) fun us s2 ⟨ys, H2, inv2, rels, wish2⟩ => ⟨inv2.kIn, ?_⟩) st nokw
  exact run_fnS (us := .ref a :: us) (vs := .ref a :: ys) fn room bi (pass σ) inv2 (.cons rfl rels) wish2
end
/-- C(e, ..): an own error by its own __init__, where nothing is handled -/
theorem pmkN {X : Cx} {CX : CXT} {x : Str} {u0 : Expr} {ur : List Expr} {ta : TA} {q0 q1 : Pos} {C ini : Addr} {lv : Nat} {fd : FuncData} {pn : List Str} {sp : Sp} (cl : OexC X.K C) (hin : PySem.W.findIn X.K (.ref C) "__init__" = some (some (.ref ini))) (ity : PySem.W.typeIn X.K (.ref ini) = some (.type "function"))
    (fn : FnOk X.prog X.w X.K X.mg X.base CX lv ini fd pn sp) (room : Room (lv + 1) X.A) (bi : Binds X.K fd pn []) (pass : Passes CX X (fun _ _ _ => False)) (gl : Gl X x) (mx : X.mg x = some (.ref C)) (har : PA X (u0 :: ur) ta)
    (nd0 : (x == ("__debug__" : Str)) = false := by decide) (st : starEach (u0 :: ur) X.env = (false, eval u0 X.env) :: starEach ur X.env := by rfl) (nokw : (backTo q1 (starEach ur X.env)).any (·.1) = false := by rfl) :
    L2N.PMk X (.Call (.Name x q0) (u0 :: ur) [] q1) (tMkO C sp [] ta) := by
  intro pins s σ H Q inv wish
  obtain ⟨_, _, _, _, bm, _, _, _, _, _, _, _, _, _, _, hC, hbm⟩ := cl.cls
  refine wpAny_Call_Name_kw (ld_glob inv gl mx ?_ nd0)
  refine PySem.W.callWith_K (h₀ := X.base) inv.ok.mod.kin cl.kC (thn (har.run q1 pins s σ H _ inv wish) fun us s1 ⟨ys, H1, inv1, rels, hz, wish1⟩ => ⟨inv1.kIn, ?_⟩) st nokw
  show wpAny _ _ (call (.ref C) us) _ _ _
  obtain ⟨hp, gs, dr, tk, os⟩ := s1
  have big : hp.objs.size ≤ hp.objs.size + 1 := Nat.le_succ _
  have wish2 := wish1 (hp.objs.size + 1) (inv1.hok.fresh big)
  rw [List.append_nil] at wish2
  have keep : ∀ b o, hp.get? b = some o → ((hp.push (PySem.W.kdv_tup us)).push (PySem.HandSPX.excO C hp.objs.size)).get? b = some o := fun b o e => Heap.get?_push_of_some _ (Heap.get?_push_of_some _ e)
  have there : ((hp.push (PySem.W.kdv_tup us)).push (PySem.HandSPX.excO C hp.objs.size)).get? (hp.objs.size + 1) = some (PySem.HandSPX.excO C hp.objs.size) := by heap_get
  have inv2 : Inv X pins σ (upd H1 (hp.objs.size + 1) (exo (hp.objs.size + 1) C none)) ⟨(hp.push (PySem.W.kdv_tup us)).push (PySem.HandSPX.excO C hp.objs.size), gs, dr, tk, os⟩ :=
    inv1.laid (t' := tk) (a := hp.objs.size + 1) (o := exo (hp.objs.size + 1) C none) (h' := (hp.push (PySem.W.kdv_tup us)).push (PySem.HandSPX.excO C hp.objs.size)) keep big (exo_ok there)
  have rels2 : Vals (V.ref (hp.objs.size + 1) :: ys) (Value.ref (hp.objs.size + 1) :: us) := .cons rfl rels
  have ln : (Value.ref (hp.objs.size + 1) :: us ++ []).length = pn.length := by
    have e := rels2.length
    rw [fn.len _ _ _ _ wish2] at e
    rw [List.append_nil]
    exact e.symm
  have few : us.length ≤ sizeLine := by
    rw [← Paired.length rels, sizeLine_eq]
    omega
  have bnd := bi _ (Value.ref (hp.objs.size + 1) :: us) inv2.kIn ln
  rw [List.append_nil] at bnd
  refine wpAny_call (PySem.HandSPX.call_own F.excBase_ValueError (fun Y => PySem.HandSPX.refsVE_contains Y bm hbm) (inv1.kIn _ _ hC) (PySem.W.looks_findIn inv1.kIn hin) (fun me => PySem.W.bind_fn inv1.kIn me ity) few
    (codeAny_mono (fn.run _ X.stack _ _ ⟨Value.ref (hp.objs.size + 1) :: us, []⟩ (Value.ref (hp.objs.size + 1) :: us) _ _ (fun _ _ _ => False) (room.make C us []) (inv2.env0.make C us []) bnd rels2 wish2) fun r s' post => ?_))
  cases r with
  | error er => exact pass pins σ _ _ er s' inv2 post
  | ok fl =>
    cases fl with
    | ret u =>
      obtain ⟨v, H2, os2, bare2, un2, hok2, rv, ev, d, fs, ea, ed, hd1, wish3⟩ := post
      subst ev
      obtain ⟨h2, gs2, dr2, tk2, os3⟩ := s'
      obtain ⟨t0, G, J, kG, ge, hoe, na⟩ := mk_end0 (d2 := dr2) (t2 := tk2) inv1 big keep un2 hok2 os2 bare2 ea ed hd1
      refine ⟨rv, hp.objs.size + 1, _, _, ⟨G, gs2, dr2, tk2, os3⟩, _, .ref C, some d, rfl, J, kG, ge, hoe, ⟨rfl, rfl, fun zs hv => ?_⟩, rfl, rfl, na, rfl, bare2, raises_own cl.exC cl.tyC, wish3⟩
      cases hv
      rfl
    | next => exact False.elim post
    | brk => exact False.elim post
    | cont => exact False.elim post
section
variable {P : Program} {w : World} {K : PySem.W.Frag} {mg : Str → Option Value} {base : Heap} [LamT K mg base]
/-- a def that may raise own errors -/
theorem Fun_okN {x qual : Str} {st : Stmt} {f : Addr} {fd : FuncData} {N ps : List Str} {k : Nat} {sp : Sp} (F : Fun K x qual st f fd) (S : FnScope N ps (defScope st)) (len : ∀ vs H Q E, sp vs H Q E → vs.length = ps.length)
    (body : ∀ (cdv : Value) (A : Around) (outer : List Env) (s : Shared) (H : Hp) (vs : List V) (Q : VK) (E : XK), Room k (A.deeper (envOfC qual (defScope st) s.heap.objs.size f cdv)) → sp vs H Q E →
      ∃ t, PSs (cxOf (L2N.CX P w) P w K mg base N qual (defScope st) f cdv A outer s H E) (defBody st) t ∧ t { nx := fun _ H' => Q .non H', rt := Q } (start N vs) H) : FnOk P w K mg base (L2N.CX P w) (k + 1) f fd ps sp := by
  obtain ⟨oc, od, kV, doc, pm, an, cdv, ct, osl, rfl, lk, hcd⟩ := F.ex
  exact fn_of lk hcd S len fun A outer s H vs Q E room wish => body cdv A outer s H vs Q E room wish
/-- a def that lets nothing out may stand where one that raises is asked for -/
theorem calmN {f : Addr} {fd : FuncData} {ps : List Str} {k : Nat} {sp : Sp} (G : FnOk P w K mg base CX0 k f fd ps sp) : FnOk P w K mg base (L2N.CX P w) k f fd ps sp :=
  ⟨G.len, fun A outer s H args us vs Q E a b c d e => codeAny_mono (G.run A outer s H args us vs Q E a b c d e) fun r s' z => match r, z with
    | .ok (.ret u), z => z
    | .ok .next, z => z.elim
    | .ok .brk, z => z.elim
    | .ok .cont, z => z.elim
    | .error _, z => z.elim⟩
theorem takesN {X : Cx} : L2N.Takes X (fun _ _ _ _ => False) := fun _ _ z => by
  obtain ⟨_, _, _, _, _, _, _, _, _, _, _, _, _, _, _, _, z⟩ := z
  exact z.elim
/-! a def that is called while p is handled -/
structure FnP (P : Program) (w : World) (K : PySem.W.Frag) (mg : Str → Option Value) (base : Heap) (k : Nat) (f : Addr) (fd : FuncData) (ps : List Str) (sp : Addr × Obj → Sp) : Prop where
  len : ∀ p vs H Q E, sp p vs H Q E → vs.length = ps.length
  run : ∀ (A : Around) (outer : List Env) (s : Shared) (H : Hp) (args : Args) (us : List Value) (vs : List V) (Q : VK) (E : XK) (p : Addr × Obj), L2H.RoomH k A → L2H.Hot1 A p → L2H.PinOk outer H s p → Env0 P w K mg base A outer s H → BindsTo s fd args (ps.zip us) → Vals vs us → sp p vs H Q E →
    codeAny (model P w) A (.call (.ref f) args) (CR CX0 outer P w H s Q E) s
theorem FnP.mono {j k : Nat} {f : Addr} {fd : FuncData} {ps : List Str} {sp : Addr × Obj → Sp} (F : FnP P w K mg base j f fd ps sp) (h : j ≤ k) : FnP P w K mg base k f fd ps sp :=
  ⟨F.len, fun A outer s H args us vs Q E p r => F.run A outer s H args us vs Q E p (r.mono h)⟩
/-- the body, walked while p is handled: X.pn = [p] -/
theorem Fun_okP {x qual : Str} {st : Stmt} {f : Addr} {fd : FuncData} {N ps : List Str} {k : Nat} {sp : Addr × Obj → Sp} (F : Fun K x qual st f fd) (S : FnScope N ps (defScope st)) (len : ∀ p vs H Q E, sp p vs H Q E → vs.length = ps.length)
    (body : ∀ (cdv : Value) (A : Around) (outer : List Env) (s : Shared) (H : Hp) (vs : List V) (Q : VK) (E : XK) (p : Addr × Obj), L2H.Hot1 A p → L2H.RoomH k (A.deeper (envOfC qual (defScope st) s.heap.objs.size f cdv)) → sp p vs H Q E →
      ∃ t, PSs (L2H.cxH CX0 P w K mg base N qual (defScope st) f cdv A outer s H E p) (defBody st) t ∧ t { nx := fun _ H' => Q .non H', rt := Q } (start N vs) H) : FnP P w K mg base (k + 1) f fd ps sp := by
  obtain ⟨oc, od, kV, doc, pm, an, cdv, ct, osl, rfl, lk, hcd⟩ := F.ex
  refine ⟨len, fun A outer s H args us vs Q E p room hot pin e0 bnd rels wish => ?_⟩
  have ln := len _ _ _ _ _ wish
  have inK : K.In s.heap := e0.mod.kin.keeps fun b o e => (e0.bs b o e).1
  have lim : s.heap.NoLimit := e0.mod.nolimit.keeps fun b o e => (e0.bs b o e).1
  have kinds : ∀ y ∈ ps.zip us, (defScope st).names.lookup y.1 = some .local ∨ ((defScope st).names.lookup y.1 = some .cell ∧ ((cellsFrom (s.heap.objs.size + 1) (defScope st).names []).lookup y.1).isSome = true) := by
    rintro ⟨n, v⟩ hy
    have mem := (List.of_mem_zip hy).1
    rcases S.par n mem with q | q
    · exact .inl q
    · exact .inr ⟨q, PySem.W.cellsFrom_some _ _ _ (.inl q)⟩
  refine codeAny_call_function room.depth (inK _ _ lk) rfl S.co S.gen rfl (PySem.W.codeRec_of inK hcd) (bnd _ _ _ _ ?_)
  refine wpAny_newFunctionEnv_cells S.kind kinds fun env he s1 ic => ?_
  subst he
  refine ⟨lim.keeps ic.toInCall.keep, codeAny_func ?_⟩
  obtain ⟨t, ht, hq⟩ := body cdv A outer s H vs Q E p hot (room.deeper _) wish
  have inv : Inv (L2H.cxH CX0 P w K mg base N qual (defScope st) f cdv A outer s H E p) [] (L2.start N vs) H s1 := L2H.inv_startH S pin e0 ln rels ic
  refine wpAny_mono (ht.run [] s1 (L2.start N vs) H _ inv hq) (fun fl s' z => ?_) fun e s' z => z
  cases fl with
  | ret u =>
    obtain ⟨v, σ', H', J, rv, q⟩ := z
    exact ⟨v, H', J.os, J.bare, J.base, J.hok, rv, q⟩
  | next =>
    obtain ⟨σ', H', J, q⟩ := z
    exact ⟨.non, H', J.os, J.bare, J.base, J.hok, rfl, q⟩
  | brk =>
    obtain ⟨_, _, _, q⟩ := z
    exact q.elim
  | cont =>
    obtain ⟨_, _, _, q⟩ := z
    exact q.elim
end
/-- p is handled in X -/
def HotP (X : Cx) (p : Addr × Obj) : Prop := L2H.Hot1 X.A p ∧ p ∈ X.pn
theorem HotP.c {X : Cx} {p : Addr × Obj} (h : HotP X p) : L2H.HotC X := ⟨p, h.1, h.2⟩
theorem hotS {X : Cx} {a : Addr} {oe : Obj} {cls : Value} {d : Option Addr} {pn : List (Addr × Obj)} (hz : L2N.Zn cls d oe) (hf : ∃ vs, oe.data = .fields vs) : HotP (X.suite a ((a, oe) :: pn)) (a, oe) :=
  ⟨⟨rfl, let ⟨vs, e⟩ := hf; ⟨vs, e, hz.2.2 vs e⟩⟩, List.mem_cons_self⟩
def tCallP (sp : Sp) (t : TA) : TE := fun σ H Q => t σ H fun vs H1 => sp vs H1 Q (fun _ _ _ => False)
theorem pe_callP {X : Cx} {k : Nat} {f : Addr} {fd : FuncData} {ps : List Str} {sp : Addr × Obj → Sp} {p : Addr × Obj} {x : Str} {u0 : Expr} {ur : List Expr} {ta : TA} {q0 q1 : Pos} (F : FnP X.prog X.w X.K X.mg X.base k f fd ps sp) (room : L2H.RoomH k X.A) (hp : HotP X p) (gl : Gl X x) (mx : X.mg x = some (.ref f)) (hk : PySem.W.keepIn X.K (.ref f) = true)
    (bi : Binds X.K fd ps []) (har : PA X (u0 :: ur) ta) (nd0 : (x == ("__debug__" : Str)) = false := by decide) (st : starEach (u0 :: ur) X.env = (false, eval u0 X.env) :: starEach ur X.env := by rfl) (nokw : (backTo q1 (starEach ur X.env)).any (·.1) = false := by rfl) :
    PE X (.Call (.Name x q0) (u0 :: ur) [] q1) (tCallP (sp p) ta) := by
  refine ⟨fun pins s σ H Q inv wish => ?_⟩
  refine wpAny_Call_Name_kw (ld_glob inv gl mx ?_ nd0)
  refine PySem.W.callWith_K (h₀ := X.base) inv.ok.mod.kin hk (thn (har.run q1 pins s σ H _ inv wish) fun us s1 ⟨ys, H1, inv1, rels, wish1⟩ => ⟨inv1.kIn, ?_⟩) st nokw
  have ln : us.length = ps.length := by rw [← rels.length]; exact F.len _ _ _ _ _ wish1
  have bnd := bi s1 us inv1.kIn (by rw [List.append_nil]; exact ln)
  rw [List.append_nil] at bnd
  have pp := inv1.pin p (List.mem_append_left _ hp.2)
  have pin : L2H.PinOk X.stack H1 s1 p := ⟨pp.1, pp.2.1, fun hm => (List.mem_cons.mp (inv1.stkSub p.1 hm)).elim pp.2.2.1 pp.2.2.2.1, pp.2.2.2.2⟩
  refine wpAny_call (codeAny_mono (F.run X.A X.stack s1 H1 ⟨us, []⟩ us ys Q _ p room hp.1 pin inv1.env0 bnd rels wish1) fun r s' post => ?_)
  cases r with
  | error e => exact post.elim
  | ok fl =>
    cases fl with
    | ret u => exact inv1.after post
    | next => exact False.elim post
    | brk => exact False.elim post
    | cont => exact False.elim post
/-- the error p: of the class at D, its fields fs at d -/
structure ErrAt (D : Addr) (d : Addr) (fs : List (Str × V)) (p : Addr × Obj) (H : Hp) : Prop where
  cls : p.2.cls = .ref D
  dic : p.2.dict = some d
  fld : ∃ vs, p.2.data = .fields vs
  at_ : H d = some (.xd fs)
theorem ErrAt.same {D d : Addr} {fs : List (Str × V)} {p : Addr × Obj} {H H' : Hp} (e : ErrAt D d fs p H) (s : Same H H') : ErrAt D d fs p H' := ⟨e.cls, e.dic, e.fld, s _ _ e.at_⟩
theorem errS {D d a : Addr} {fs : List (Str × V)} {oe : Obj} {H : Hp} (hz : L2N.Zn (.ref D) (some d) oe) (hf : ∃ vs, oe.data = .fields vs) (h : H d = some (.xd fs)) : ErrAt D d fs (a, oe) H := ⟨hz.1, hz.2.1, hf, h⟩
/-- isinstance(e, T), e the error in hand -/
def rIsP (K : PySem.W.Frag) (p : Addr × Obj) : List V → Hp → VK → Prop := fun xs H Q => ∃ (c : V) (cv : Value) (b : Bool) (D d : Addr) (fs : List (Str × V)), xs = [.ref p.1, c] ∧ (∀ u, RelV c u → u = cv) ∧ ErrC K D ∧ ErrAt D d fs p H ∧ PySem.W.kitOne K (.ref D) cv = some b ∧ Q (.bl b) H
theorem call_isP {X : Cx} {p : Addr × Obj} (hp : p ∈ X.pn) : CallR X (.builtin "isinstance") (rIsP X.K p) := by
  intro pins s σ H xs us Q inv rels wish
  obtain ⟨c, cv, b, D, d, fs, rfl, one, C, e, kit, q⟩ := wish
  cases rels with
  | cons r0 rr =>
    cases rr with
    | cons r1 rr =>
      cases rr
      cases r0
      cases one _ r1
      obtain ⟨mA, hns, _⟩ : ObjOk X.prog X.w H s.heap d (.xd fs) := inv.hok d _ e.at_
      obtain ⟨od, ho, _⟩ := lookIn_ns hns
      obtain ⟨vs, hv⟩ := e.fld
      have J : PySem.W.InstAt s.heap p.1 p.2 D (some od) := ⟨(inv.pin p (List.mem_append_left _ hp)).1, e.cls, by unfold PySem.W.notCls; rw [hv] <;> rfl, by rw [e.dic]; exact ho⟩
      exact PySem.W.kia_one (PySem.W.kitx_exc C.cl C.ga C.gg C.ex C.ca C.cn C.ct C.mo) inv.kIn J kit (fun z => nomatch z) fun tk => ⟨.bl b, H, inv.kept (t' := tk) fun _ _ z => z, rfl, q⟩
/-- e.f, e the error in hand -/
def tXp (K : PySem.W.Frag) (p : Addr × Obj) (n : Str) (te : TE) : TE := fun σ H Q => te σ H fun x H1 => ∃ (D d : Addr) (fs : List (Str × V)) (v : V), x = .ref p.1 ∧ ErrC K D ∧ PySem.W.findIn K (.ref D) n = some none ∧ ErrAt D d fs p H1 ∧ fs.lookup n = some v ∧ Q v H1
theorem pe_xp {X : Cx} {p : Addr × Obj} {ex : Expr} {te : TE} {pos : Pos} {n : Str} (hp : p ∈ X.pn) (he : PE X ex te) (hb : attributeBase ex n X.env (eval ex X.env) = eval ex X.env := by rfl) : PE X (.Attribute ex n pos) (tXp X.K p n te) := by
  refine ⟨fun pins s σ H Q inv wish => attr_of hb (thn (he.run pins s σ H _ inv wish) fun u s1 post => ?_)⟩
  obtain ⟨x, H1, inv1, rx, D, d, fs, v, rfl, C, no, e, l, q⟩ := post
  obtain rfl : u = Value.ref p.1 := rx
  obtain ⟨mA, hns, hr⟩ : ObjOk X.prog X.w H1 s1.heap d (.xd fs) := inv1.hok d _ e.at_
  obtain ⟨od, ho, hl⟩ := lookIn_ns hns
  obtain ⟨z, hz, rz⟩ := RelO.some_of (v := v) (o := mA n) (by rw [← l]; exact hr n)
  obtain ⟨vs, hv⟩ := e.fld
  have J : PySem.W.InstAt s1.heap p.1 p.2 D (some od) := ⟨(inv1.pin p (List.mem_append_left _ hp)).1, e.cls, by unfold PySem.W.notCls; rw [hv] <;> rfl, by rw [e.dic]; exact ho⟩
  exact HandSPX.exc_get inv1.kIn J C.ga C.gg C.ex (PySem.W.findObj_own C.hd no rfl (by rw [hl, hz])) (handed_of rz) ⟨v, H1, inv1.tok _, rz, q⟩
/-! try with several clauses, with or without a name -/
/-- what the clauses wish of an error of the body -/
def wM (K : PySem.W.Frag) (Wout : WX) (D : Ends) : List (Value × Option Nat × (Addr → Value → Option Addr → TS)) → WX
  | [] => Wout
  | (c, none, ts) :: r => fun cls d σ H => ∃ b, PySem.W.exmOne K cls c = some b ∧ (b = true → ∀ a, H a = none → ts a cls d D σ H) ∧ (b = false → wM K Wout D r cls d σ H)
  | (c, some i, ts) :: r => fun cls d σ H => ∃ b, PySem.W.exmOne K cls c = some b ∧
      (b = true → ∀ a, H a = none → ts a cls d { nx := fun σ' H' => D.nx (σ'.set i none) H', rt := D.rt, bk := fun σ' H' => D.bk (σ'.set i none) H', ct := fun σ' H' => D.ct (σ'.set i none) H' } (σ.set i (some (.ref a))) H) ∧ (b = false → wM K Wout D r cls d σ H)
inductive HdM (X : Cx) : List ExceptHandler → List (Value × Option Nat × (Addr → Value → Option Addr → TS)) → Prop
  | nil : HdM X [] []
  | bare {x : Str} {c : Value} {ts : Addr → Value → Option Addr → TS} {st : Stmt} {suite : List Stmt} {np p' : Pos} {hds : List ExceptHandler} {l : List (Value × Option Nat × (Addr → Value → Option Addr → TS))} (nm : Names X x c)
      (su : ∀ (a : Addr) (oe : Obj) (cls : Value) (d : Option Addr) (pn : List (Addr × Obj)), L2N.Zn cls d oe → (∃ vs, oe.data = .fields vs) → PSs (X.suite a ((a, oe) :: pn)) (st :: suite) (ts a cls d)) (r : HdM X hds l) :
      HdM X (.ExceptHandler (some (.Name x np)) none (st :: suite) p' :: hds) ((c, none, ts) :: l)
  | name {x n : Str} {i : Nat} {c : Value} {ts : Addr → Value → Option Addr → TS} {st : Stmt} {suite : List Stmt} {np p' : Pos} {hds : List ExceptHandler} {l : List (Value × Option Nat × (Addr → Value → Option Addr → TS))} (two : X.N.Nodup) (slot : X.N[i]? = some n) (loc : X.env.kindOf n = some .local) (nm : Names X x c)
      (su : ∀ (a : Addr) (oe : Obj) (cls : Value) (d : Option Addr) (pn : List (Addr × Obj)), L2N.Zn cls d oe → (∃ vs, oe.data = .fields vs) → PSs (X.suite a ((a, oe) :: pn)) (st :: suite) (ts a cls d)) (r : HdM X hds l) :
      HdM X (.ExceptHandler (some (.Name x np)) (some n) (st :: suite) p' :: hds) ((c, some i, ts) :: l)
theorem ps_tryM {X : Cx} {body : List Stmt} {h0 : ExceptHandler} {hds : List ExceptHandler} {l : List (Value × Option Nat × (Addr → Value → Option Addr → TS))} {pos : Pos} {tb : WX → TS} {Wout : WX} (stk : X.stack = X.env :: X.outer) (frm : X.env.frame = some X.env.locals) (tk : L2N.Takes X Wout)
    (bd : ∀ (W : WX) (pn : List (Addr × Obj)) (xe : Value → Shared → Prop), L2N.Takes (X.tr pn xe) W → PassesOwn (model X.prog X.w) X.A X.env xe → PSs (X.tr pn xe) body (tb W))
    (hh : HdM X (h0 :: hds) l) : PS X (.Try body (h0 :: hds) [] [] pos) (fun D σ H => tb (wM X.K Wout D l) D σ H) := by
  refine ⟨fun pins s σ H D inv wish => ?_⟩
  have ok := inv.ok
  have frs0 : X.A.frames = some (X.env :: X.outer) := by rw [ok.frames, stk]
  refine wpAny_Try_except ?_
  refine wpAny_mono ((bd (wM X.K Wout D l) (X.pn ++ pins) (fun e sa => wpAny (model X.prog X.w) X.A (noteFrame e X.env) (fun _ sb => wpAny (model X.prog X.w) X.A (setFlight e none) (fun _ sc => wpAny (model X.prog X.w) X.A (handleBy e X.env (h0 :: hds)) (SP X pins D) X.xe sc) X.xe sb) X.xe sa)
    (fun u s' air => ?_) PassesOwn.looking).run [] s σ H D (inv.toTry _) wish) (fun f s1 post => ?_) (fun e s1 he => he)
  · obtain ⟨a, B, sI, pins', σ', H', cls, d, rfl, inv', nb, up, sky, na, os, ag, wish'⟩ := air
    have inv0 : Inv X pins σ' H' sI := inv'.ofTry ok
    have sky0 : Sky B (X.env :: X.outer) a (L2N.Zn cls d) X.env.locals s'.heap := by rw [← stk]; exact sky
    show wpAny (model X.prog X.w) X.A (noteFrame (.ref a) X.env) _ _ _
    refine L2N.Sky.land L2N.Zn.steady frs0 frm sky0 fun hA flA upA => ?_
    have invA : Inv X pins σ' H' { s' with heap := hA } := inv0.landed nb flA.1 (up.trans upA) os ag
    obtain ⟨oA, vA, geA, zA, dA⟩ := flA.there
    have off : a ∉ frs (X.env :: X.outer) := fun hm => by
      obtain ⟨_, o', e', hnf⟩ := flA.2.2.1.mem hm
      rw [geA] at e'
      cases e'
      exact hnf _ dA
    have offL : a ≠ X.env.locals := fun z => off (List.mem_filterMap.mpr ⟨X.env, List.mem_cons_self, by rw [frm, z]⟩)
    have offF : a ∉ X.fs := fun hm => by
      obtain ⟨e, he, q⟩ := List.mem_filterMap.mp hm
      exact off (List.mem_filterMap.mpr ⟨e, List.mem_cons_of_mem _ he, q⟩)
    have invS := invA.suite geA dA na offL offF
    have asks : ∀ {x : Str} {c : Value} {np : Pos}, Names X x c → ∀ {Q : Value → Shared → Prop} {E : Value → Shared → Prop}, Q c { s' with heap := hA } → wpAny (model X.prog X.w) (X.A.mark (some (.ref a))) (eval (.Name x np) X.env) Q E { s' with heap := hA } := fun {x c np} nm {Q E} q => by
      obtain ⟨hg, hdbg, hm | ⟨hm, hv, hnn⟩⟩ := nm
      · exact ld_glob (X := X.suite a ((a, oA) :: (X.pn ++ pins))) invS hg hm q hdbg
      · exact ld_blt (X := X.suite a ((a, oA) :: (X.pn ++ pins))) invS hg hm hv q hnn hdbg
    have LT : PySem.W.Looks (model X.prog X.w) hA (typeOf (.ref a)) cls := fun A Q E s k q => wpAny_typeOf_ref (k _ _ geA) (by rw [zA.1]; exact q)
    suffices go : ∀ {hs : List ExceptHandler} {ls : List (Value × Option Nat × (Addr → Value → Option Addr → TS))}, HdM X hs ls → wM X.K Wout D ls cls d σ' H' → wpAny (model X.prog X.w) X.A (handleBy (.ref a) X.env hs) (SP X pins D) X.xe { s' with heap := hA } from go hh wish'
    intro hs ls hk
    induction hk with
    | nil =>
      intro wo
      refine wpAny_handleBy_nil ?_
      obtain ⟨_, _, _, oB, vB, TB, _, _, geB, _, dB, fldB, _⟩ := id flA
      unfold PySem.passOn
      refine wpAny_bind (wpAny_field geB dB fldB ?_)
      rw [if_neg (by simp : ¬ ((Value.ref TB == Value.none) = true))]
      have fin : wpAny (model X.prog X.w) X.A (setFlight (.ref a) X.env.frame) (fun _ sx => wpAny (model X.prog X.w) X.A (throw (.ref a) : Sem Flow) (SP X pins D) X.xe sx) X.xe { s' with heap := hA } := by
        rw [frm]
        refine HandSPX.setFlight_upZ flA fun hB heB upB => wpAny_throw (tk _ _ ?_)
        exact ⟨a, B, sI, pins, σ', H', cls, d, rfl, inv0, nb, (up.trans upA).trans upB, .inr (.inr (by rw [stk]; exact heB)), na, os, ag, wo⟩
      first
        | exact wpAny_bind (wpAny_pure (wpAny_bind fin))
        | exact wpAny_bind fin
    | @bare x c ts st suite np p' hs2 l2 nm su r ih =>
      intro wo
      obtain ⟨b, hb1, yes, no⟩ := wo
      refine wpAny_handleBy_cons (codeAny_handlers_test (asks nm ((PySem.W.exm_one (M := model X.prog X.w) invA.kIn LT hb1).here ?_))) (by intro q; cases q)
      cases b with
      | false => exact ih (no rfl)
      | true =>
        refine codeAny_handlers_suite ?_
        refine HandSPX.lands_againZ flA fun hB flB upB => ?_
        have invB : Inv X pins σ' H' { s' with heap := hB } := inv0.landed nb flB.1 ((up.trans upA).trans upB) os ag
        obtain ⟨oB, vB, geB, zB, dB⟩ := flB.there
        refine wpAny_mono ((su a oB cls d (X.pn ++ pins) zB ⟨_, dB⟩).run [] _ _ H' _ (invB.suite geB dB na offL offF) (yes rfl a na)) (fun f s6 post => ?_) (fun _ _ z => False.elim z)
        cases f with
        | next => exact let ⟨_, _, I6, q6⟩ := post; ⟨_, _, I6.unsuite ok, q6⟩
        | brk => exact let ⟨_, _, I6, q6⟩ := post; ⟨_, _, I6.unsuite ok, q6⟩
        | cont => exact let ⟨_, _, I6, q6⟩ := post; ⟨_, _, I6.unsuite ok, q6⟩
        | ret u => exact let ⟨_, _, _, I6, r6, q6⟩ := post; ⟨_, _, _, I6.unsuite ok, r6, q6⟩
    | @name x n i c ts st suite np p' hs2 l2 two slot loc nm su r ih =>
      intro wo
      obtain ⟨b, hb1, yes, no⟩ := wo
      refine wpAny_handleBy_cons (codeAny_handlers_test (asks nm ((PySem.W.exm_one (M := model X.prog X.w) invA.kIn LT hb1).here ?_))) (by intro q; cases q)
      cases b with
      | false => exact ih (no rfl)
      | true =>
        refine codeAny_handlers_suite_as ?_
        refine HandSPX.lands_againZ flA fun hB flB upB => ?_
        have invB : Inv X pins σ' H' { s' with heap := hB } := inv0.landed nb flB.1 ((up.trans upA).trans upB) os ag
        obtain ⟨oB, vB, geB, zB, dB⟩ := flB.there
        refine store_ok (X := X.suite a ((a, oB) :: (X.pn ++ pins))) (v := .ref a) (invB.suite geB dB na offL offF) two slot (.inl loc) rfl (fun s5 inv5 => ?_) (.inr loc)
        refine wpAny_mono ((su a oB cls d (X.pn ++ pins) zB ⟨_, dB⟩).run [] s5 _ H' _ inv5 (yes rfl a na)) (fun f s6 post => ?_) (fun _ _ z => False.elim z)
        have gone : ∀ {σ6 : L2.St} {H6 : Hp} {Q : Shared → Prop}, Inv (X.suite a ((a, oB) :: (X.pn ++ pins))) [] σ6 H6 s6 → (∀ s7, Inv X pins (σ6.set i none) H6 s7 → Q s7) →
            wpAny (model X.prog X.w) X.A (do bindName X.env n .none; unbindBehindTheSuite X.env n p') (fun _ s7 => Q s7) X.xe s6 := fun {σ6 H6 Q} I6 hq => gone_ok (I6.unsuite ok) two slot loc hq
        cases f with
        | next => exact let ⟨_, _, I6, q6⟩ := post; gone I6 fun s7 I7 => ⟨_, _, I7, q6⟩
        | brk => exact let ⟨_, _, I6, q6⟩ := post; gone I6 fun s7 I7 => ⟨_, _, I7, q6⟩
        | cont => exact let ⟨_, _, I6, q6⟩ := post; gone I6 fun s7 I7 => ⟨_, _, I7, q6⟩
        | ret u => exact let ⟨_, _, _, I6, r6, q6⟩ := post; gone I6 fun s7 I7 => ⟨_, _, _, I7, r6, q6⟩
  · cases f with
    | next => exact let ⟨_, _, I1, q⟩ := post; wpAny_execs_nil ⟨_, _, I1.ofTry ok, q⟩
    | brk => exact let ⟨_, _, I1, q⟩ := post; ⟨_, _, I1.ofTry ok, q⟩
    | cont => exact let ⟨_, _, I1, q⟩ := post; ⟨_, _, I1.ofTry ok, q⟩
    | ret u => exact let ⟨_, _, _, I1, r, q⟩ := post; ⟨_, _, _, I1.ofTry ok, r, q⟩
/-- xs.count(b) of bools -/
theorem eqb_count {k : Bool} : ∀ {us : List Value} {bs : List Bool}, Vals (bs.map V.bl) us → us.countP (fun v => match v with | .bool c => c == k | _ => false) = bs.count k
  | [], [], _ => rfl
  | _ :: _, [], h => nomatch h
  | [], _ :: _, h => nomatch h
  | u :: us, b :: bs, h => by
    cases h with
    | cons r t =>
      have e : u = Value.bool b := r
      subst e
      rw [List.countP_cons, List.count_cons, eqb_count t]
def rCntB (K : PySem.W.Frag) : V → List V → Hp → VK → Prop := fun x xs H Q => ∃ (p : Addr) (bs : List Bool) (k : Bool), x = .ref p ∧ xs = [.bl k] ∧ SqL K H p (bs.map V.bl) ∧ Q (.int (bs.count k : Nat)) H
theorem mt_lcountB {X : Cx} : MtR X "list.count" (rCntB X.K) := by
  intro pins s σ H x xs v us Q inv rx rxs wish
  obtain ⟨p, bs, k, rfl, rfl, hs, q⟩ := wish
  cases rx
  obtain ⟨u, rfl, ru⟩ := rxs.one
  have eu : u = Value.bool k := ru
  subst eu
  obtain ⟨its, rv, ⟨⟨cls, dd, data, sl⟩, n, ho, hc, hdn, hd⟩, hlen⟩ := inv.list hs
  simp only at hc hd
  subst hc hd
  have all : ∀ {us : List Value} {bs : List Bool}, Vals (bs.map V.bl) us → ∀ y ∈ us, ∃ b, y = Value.bool b := by
    intro us
    induction us with
    | nil => exact fun _ y hy => nomatch hy
    | cons u us ih =>
      intro bs h y hy
      cases bs with
      | nil => cases h
      | cons b bs =>
        cases h with
        | cons r t =>
          rcases List.mem_cons.mp hy with e | e
          · exact ⟨b, e.trans r⟩
          · exact ih t y e
  refine call_meets PySem.F.slot_list_count ⟨_, ho, rfl⟩ PySem.F.entry_list_count (PySem.F.args_list_count_2 _ _)
    (SeqAt.list_countAt p its.toArray n dd sl (.bool k) (fun v => match v with | .bool c => c == k | _ => false)) ⟨ho, fun y hy => ?_, ?_⟩
  · obtain ⟨b, rfl⟩ := all rv y (by simpa using hy)
    exact SeqAt.EqAt.bool_bool b k
  · refine ⟨.int (bs.count k : Nat), H, inv.tok _, ⟨s.toks, ?_⟩, q⟩
    show Value.int ((its.toArray.toList.countP _ : Nat) : Int) s.toks = Value.int ((bs.count k : Nat) : Int) s.toks
    rw [show its.toArray.toList = its from rfl, eqb_count rv]
theorem exm_sub {K : PySem.W.Frag} {R D : Addr} {b : Bool} (h1 : PySem.W.subIn K (.ref D) (.type "BaseException") = some true) (h2 : PySem.W.isClsIn K D = true) (h3 : PySem.W.typeIn K (.ref D) = some (.type "type")) (h4 : PySem.W.subIn K (.ref R) (.ref D) = some b) : PySem.W.exmOne K (.ref R) (.ref D) = some b := by
  have i : (PySem.W.clsIn K D).isSome = true := h2
  unfold PySem.W.exmOne PySem.W.kitCls
  rw [if_pos (by rw [h1]; rfl)]
  show (if ((PySem.W.clsIn K D).isSome && PySem.W.typeIn K (.ref D) == some (.type "type")) = true then PySem.W.subIn K (.ref R) (.ref D) else none) = some b
  rw [if_pos (by rw [i, h3]; rfl)]
  exact h4
/-- what the top has of a class whose errors are raised -/
theorem errC_mk {K : PySem.W.Frag} {D : Addr} (cl : PySem.W.isClsIn K D = true) (ga : PySem.W.findIn K (.ref D) "__getattribute__" = some (some (.builtin "BaseException.__getattribute__"))) (gg : PySem.W.findIn K (.ref D) "__getattr__" = some none) (ex : PySem.W.subIn K (.ref D) (.type "BaseException") = some true)
    (hd : PySem.W.hasDictIn K D = true) (ca : PySem.W.findIn K (.ref D) "__class__" = some (some (.builtin "object.__class__"))) (cn : PySem.W.specialIn K (.builtin "object.__class__") "__get__" = some (some (.builtin "getset_descriptor.__get__")))
    (ct : PySem.W.takesIn K (.builtin "object.__class__") = some true) (mo : PySem.W.mroIn K D (.type "object") = some true) : ErrC K D := ⟨cl, ga, gg, ex, hd, ca, cn, ct, mo⟩
/-- __init__ of an error with one field; with two -/
def sp_err1 (f : Str) (C : Addr) : Sp := fun vs H Q _ => ∃ (a : Addr) (v : V), vs = [.ref a, v] ∧ H a = some (exo a C none) ∧ ∀ d, H d = none → d ≠ a → Q .non (upd (upd H d (exd d [(f, v)])) a (exo a C (some d)))
def sp_err2 (f g : Str) (C : Addr) : Sp := fun vs H Q _ => ∃ (a : Addr) (v u : V), vs = [.ref a, v, u] ∧ H a = some (exo a C none) ∧ ∀ d, H d = none → d ≠ a → Q .non (upd (upd (upd H d (exd d [(f, v)])) a (exo a C (some d))) d (exd d [(g, u), (f, v)]))
theorem del_upds {H : Hp} {a d : Addr} {o1 o2 : HO} {x : HO} (na : H a = none) (ne : d ≠ a) : upd (del (upd (upd H d o1) a o2) a) d x = upd H d x := by
  funext b
  by_cases h : b = d
  · rw [h, upd_same, upd_same]
  · rw [upd_ne h, upd_ne h]
    by_cases h2 : b = a
    · rw [h2, del_same, na]
    · rw [del_ne h2, upd_ne h2, upd_ne h]
theorem raise1 {C : Addr} {f : Str} {H : Hp} {v : V} {Q : XK} (h : ∀ d, H d = none → Q (.ref C) (some d) (upd H d (.xd [(f, v)]))) : [v].length ≤ 1000 ∧ ∀ a, H a = none → sp_err1 f C (.ref a :: ([v] ++ [])) (upd H a (exo a C none))
    (fun u H2 => u = .non ∧ ∃ (d : Addr) (fs : List (Str × V)), H2 a = some (exo a C (some d)) ∧ H2 d = some (exd d fs) ∧ H d = none ∧ Q (.ref C) (some d) (upd (del H2 a) d (.xd fs))) (fun _ _ _ => False) := by
  refine ⟨by show 1 ≤ 1000; decide, fun a na => ⟨a, v, rfl, upd_same, fun d nd ne => ⟨rfl, d, _, upd_same, (upd_ne ne).trans upd_same, ?_, ?_⟩⟩⟩
  · rw [upd_ne ne] at nd
    exact nd
  · have e : upd (del (upd (upd (upd H a (exo a C none)) d (exd d [(f, v)])) a (exo a C (some d))) a) d (.xd [(f, v)]) = upd H d (.xd [(f, v)]) := by
      funext b
      by_cases h1 : b = d
      · rw [h1, upd_same, upd_same]
      · rw [upd_ne h1, upd_ne h1]
        by_cases h2 : b = a
        · rw [h2, del_same, na]
        · rw [del_ne h2, upd_ne h2, upd_ne h1, upd_ne h2]
    rw [e]
    refine h d ?_
    rw [upd_ne ne] at nd
    exact nd
theorem raise2 {C : Addr} {f g : Str} {H : Hp} {v u : V} {Q : XK} (h : ∀ d, H d = none → Q (.ref C) (some d) (upd H d (.xd [(g, u), (f, v)]))) : [v, u].length ≤ 1000 ∧ ∀ a, H a = none → sp_err2 f g C (.ref a :: ([v, u] ++ [])) (upd H a (exo a C none))
    (fun z H2 => z = .non ∧ ∃ (d : Addr) (fs : List (Str × V)), H2 a = some (exo a C (some d)) ∧ H2 d = some (exd d fs) ∧ H d = none ∧ Q (.ref C) (some d) (upd (del H2 a) d (.xd fs))) (fun _ _ _ => False) := by
  refine ⟨by show 2 ≤ 1000; decide, fun a na => ⟨a, v, u, rfl, upd_same, fun d nd ne => ⟨rfl, d, _, (upd_ne ne.symm).trans upd_same, upd_same, ?_, ?_⟩⟩⟩
  · rw [upd_ne ne] at nd
    exact nd
  · have e : upd (del (upd (upd (upd (upd H a (exo a C none)) d (exd d [(f, v)])) a (exo a C (some d))) d (exd d [(g, u), (f, v)])) a) d (.xd [(g, u), (f, v)]) = upd H d (.xd [(g, u), (f, v)]) := by
      funext b
      by_cases h1 : b = d
      · rw [h1, upd_same, upd_same]
      · rw [upd_ne h1, upd_ne h1]
        by_cases h2 : b = a
        · rw [h2, del_same, na]
        · rw [del_ne h2, upd_ne h1, upd_ne h2, upd_ne h1, upd_ne h2]
    rw [e]
    refine h d ?_
    rw [upd_ne ne] at nd
    exact nd
/-! the same, for a suite: its reading may not name the pinned object -/
def rIsS (K : PySem.W.Frag) (a : Addr) (cls : Value) (d : Option Addr) : List V → Hp → VK → Prop := fun xs H Q => ∃ (c : V) (cv : Value) (b : Bool) (D dd : Addr) (fs : List (Str × V)), xs = [.ref a, c] ∧ (∀ u, RelV c u → u = cv) ∧ cls = .ref D ∧ d = some dd ∧ ErrC K D ∧ H dd = some (.xd fs) ∧ PySem.W.kitOne K (.ref D) cv = some b ∧ Q (.bl b) H
theorem call_isS {X : Cx} {a : Addr} {oe : Obj} {cls : Value} {d : Option Addr} {pn : List (Addr × Obj)} (hz : L2N.Zn cls d oe) (hf : ∃ vs, oe.data = .fields vs) : CallR (X.suite a ((a, oe) :: pn)) (.builtin "isinstance") (rIsS X.K a cls d) := fun pins s σ H xs us Q inv rels wish => by
  obtain ⟨c, cv, b, D, dd, fs, e, one, rfl, rfl, C, h, kit, q⟩ := wish
  exact call_isP (X := X.suite a ((a, oe) :: pn)) (p := (a, oe)) List.mem_cons_self pins s σ H xs us Q inv rels ⟨c, cv, b, D, dd, fs, e, one, C, ⟨hz.1, hz.2.1, hf, h⟩, kit, q⟩
def tXs (K : PySem.W.Frag) (a : Addr) (cls : Value) (d : Option Addr) (n : Str) (te : TE) : TE := fun σ H Q => te σ H fun x H1 => ∃ (D dd : Addr) (fs : List (Str × V)) (v : V), x = .ref a ∧ cls = .ref D ∧ d = some dd ∧ ErrC K D ∧ PySem.W.findIn K (.ref D) n = some none ∧ H1 dd = some (.xd fs) ∧ fs.lookup n = some v ∧ Q v H1
theorem pe_xs {X : Cx} {a : Addr} {oe : Obj} {cls : Value} {d : Option Addr} {pn : List (Addr × Obj)} {ex : Expr} {te : TE} {pos : Pos} {n : Str} (hz : L2N.Zn cls d oe) (hf : ∃ vs, oe.data = .fields vs) (he : PE (X.suite a ((a, oe) :: pn)) ex te)
    (hb : attributeBase ex n X.env (eval ex X.env) = eval ex X.env := by rfl) : PE (X.suite a ((a, oe) :: pn)) (.Attribute ex n pos) (tXs X.K a cls d n te) := by
  refine ⟨fun pins s σ H Q inv wish => attr_of hb (thn (he.run pins s σ H _ inv wish) fun u s1 post => ?_)⟩
  obtain ⟨x, H1, inv1, rx, D, dd, fs, v, rfl, rfl, rfl, C, no, eh, l, q⟩ := post
  obtain rfl : u = Value.ref a := rx
  obtain ⟨mA, hns, hr⟩ : ObjOk X.prog X.w H1 s1.heap dd (.xd fs) := inv1.hok dd _ eh
  obtain ⟨od, ho, hl⟩ := lookIn_ns hns
  obtain ⟨z, hz1, rz⟩ := RelO.some_of (v := v) (o := mA n) (by rw [← l]; exact hr n)
  obtain ⟨vs, hv⟩ := hf
  have J : PySem.W.InstAt s1.heap a oe D (some od) := ⟨(inv1.pin (a, oe) (List.mem_append_left _ List.mem_cons_self)).1, hz.1, by unfold PySem.W.notCls; rw [hv] <;> rfl, by rw [hz.2.1]; exact ho⟩
  exact HandSPX.exc_get inv1.kIn J C.ga C.gg C.ex (PySem.W.findObj_own C.hd no rfl (by rw [hl, hz1])) (handed_of rz) ⟨v, H1, inv1.tok _, rz, q⟩
/-- a call from a suite -/
def tCallS1 (sp : Addr × Obj → Sp) (a : Addr) (cls : Value) (d : Option Addr) (t : TA) : TE := fun σ H Q => t σ H fun vs H1 => ∀ oe, L2N.Zn cls d oe → (∃ vs, oe.data = .fields vs) → sp (a, oe) vs H1 Q (fun _ _ _ => False)
theorem pe_callS1 {X : Cx} {a : Addr} {oe : Obj} {cls : Value} {d : Option Addr} {pn : List (Addr × Obj)} {k : Nat} {f : Addr} {fd : FuncData} {ps : List Str} {sp : Addr × Obj → Sp} {x : Str} {u0 : Expr} {ur : List Expr} {ta : TA} {q0 q1 : Pos} (F : FnP X.prog X.w X.K X.mg X.base k f fd ps sp) (room : Room k X.A)
    (hz : L2N.Zn cls d oe) (hf : ∃ vs, oe.data = .fields vs) (gl : Gl X x) (mx : X.mg x = some (.ref f)) (hk : PySem.W.keepIn X.K (.ref f) = true) (bi : Binds X.K fd ps []) (har : PA (X.suite a ((a, oe) :: pn)) (u0 :: ur) ta) (nd0 : (x == ("__debug__" : Str)) = false := by decide)
    (st : starEach (u0 :: ur) X.env = (false, eval u0 X.env) :: starEach ur X.env := by rfl) (nokw : (backTo q1 (starEach ur X.env)).any (·.1) = false := by rfl) : PE (X.suite a ((a, oe) :: pn)) (.Call (.Name x q0) (u0 :: ur) [] q1) (tCallS1 sp a cls d ta) := by
  have har2 : PA (X.suite a ((a, oe) :: pn)) (u0 :: ur) (fun σ H Q => ∃ R, ta σ H R ∧ ∀ vs H1, R vs H1 → Q vs H1) :=
    ⟨fun pos pins s σ H Q inv ⟨R, w, i⟩ => thn (har.run pos pins s σ H R inv w) fun us s' ⟨vs, H', J, r, q⟩ => ⟨vs, H', J, r, i vs H' q⟩⟩
  exact ⟨fun pins s σ H Q inv wish => (pe_callP (X := X.suite a ((a, oe) :: pn)) (p := (a, oe)) F (L2H.roomH_mark room _) (hotS hz hf) gl mx hk bi har2 nd0 st nokw).run pins s σ H Q inv ⟨_, wish, fun vs H1 q => q oe hz hf⟩⟩
theorem hotD {P : Program} {w : World} {K : PySem.W.Frag} {mg : Str → Option Value} {base : Heap} {N : List Str} {qual : Str} {sc : Scope} {f : Addr} {cd : Value} {A : Around} {outer : List Env} {s : Shared} {H : Hp} {E : XK} {p : Addr × Obj} (hot : L2H.Hot1 A p) :
    HotP (L2H.cxH CX0 P w K mg base N qual sc f cd A outer s H E p) p := ⟨hot, List.mem_cons_self⟩
/-! ### the tape of drawn numbers -/
/-- all that was tracked stays, but what stands at t -/
def Kp (t : Addr) (H H' : Hp) : Prop := ∀ b o, b ≠ t → H b = some o → H' b = some o
theorem Kp.refl (t : Addr) (H : Hp) : Kp t H H := fun _ _ _ h => h
theorem Kp.trans {t : Addr} {H H1 H2 : Hp} (a : Kp t H H1) (b : Kp t H1 H2) : Kp t H H2 := fun c o n h => b c o n (a c o n h)
theorem Kp.of_same {t : Addr} {H H' : Hp} (a : Same H H') : Kp t H H' := fun c o _ h => a c o h
theorem Kp.put {t : Addr} {H : Hp} {o : HO} : Kp t H (upd H t o) := fun b u n h => by rw [upd_ne n]; exact h
theorem same_upd {H : Hp} {p : Addr} {o : HO} (h : H p = none) : Same H (upd H p o) := fun b x e => by
  rw [upd_ne (ne_of_none e h)]
  exact e
theorem Kp.new {t : Addr} {H H' : Hp} {p : Addr} {o : HO} (a : Kp t H H') (h : H' p = none) : Kp t H (upd H' p o) := a.trans (.of_same (same_upd h))
def Tape (H : Hp) (t c : Addr) : Prop := ∃ (cs : List Int) (a : Nat) (b k r : Int), H t = some (.lst [.ref c, .int a, .int b, .int k, .int r]) ∧ H c = some (.lst (cs.map V.int)) ∧ c ≠ t ∧ a < cs.length
theorem Tape.same {H H' : Hp} {t c : Addr} (h : Tape H t c) (s : Same H H') : Tape H' t c := by
  obtain ⟨cs, a, b, k, r, h1, h2, h3, h4⟩ := h
  exact ⟨cs, a, b, k, r, s _ _ h1, s _ _ h2, h3, h4⟩
theorem Tape.off {H : Hp} {t c m : Addr} (h : Tape H t c) (n : H m = none) : m ≠ t ∧ m ≠ c := by
  obtain ⟨cs, a, b, k, r, h1, h2, h3, h4⟩ := h
  exact ⟨fun e => ne_of_none h1 n e.symm, fun e => ne_of_none h2 n e.symm⟩
theorem Tape.put {H : Hp} {t c m : Addr} {o : HO} (h : Tape H t c) (n : m ≠ t ∧ m ≠ c) : Tape (upd H m o) t c := by
  obtain ⟨cs, a, b, k, r, h1, h2, h3, h4⟩ := h
  exact ⟨cs, a, b, k, r, by rw [upd_ne n.1.symm]; exact h1, by rw [upd_ne n.2.symm]; exact h2, h3, h4⟩
theorem Tape.set {H : Hp} {t c : Addr} {cs : List Int} {a : Nat} {b k r : Int} (h2 : H c = Option.some (.lst (cs.map V.int))) (h3 : c ≠ t) (h4 : a < cs.length) : Tape (upd H t (.lst [.ref c, .int a, .int b, .int k, .int r])) t c :=
  ⟨cs, a, b, k, r, upd_same, by rw [upd_ne h3]; exact h2, h3, h4⟩
theorem ix5 (a b c d e : V) : ixN [a, b, c, d, e].length 0 = Option.some 0 ∧ ixN [a, b, c, d, e].length 1 = Option.some 1 ∧ ixN [a, b, c, d, e].length 2 = Option.some 2 ∧ ixN [a, b, c, d, e].length 3 = Option.some 3 ∧ ixN [a, b, c, d, e].length 4 = Option.some 4 := ⟨rfl, rfl, rfl, rfl, rfl⟩
theorem sz5 (a b c d e : V) : [a, b, c, d, e].length ≤ sizeLine := by show 5 ≤ sizeLine; decide
section
variable {P : Program} {w : World} {K : PySem.W.Frag} {mg : Str → Option Value} {base : Heap} [LamT K mg base]
def sp__law_tape (K : PySem.W.Frag) : Sp := fun vs H Q _ => ∃ (a : Addr) (ns : List Int), vs = [.ref a] ∧ SqL K H a (ns.map V.int) ∧ ns.length ≤ 1000 ∧ ∀ H' t c, Same H H' → H t = none → Tape H' t c → Q (.ref t) H'
theorem T0.ok__law_tape (T : T0 K mg) : FnOk P w K mg base CX0 1 T.a__law_tape T.fd__law_tape ["script"] (sp__law_tape K) := by
  refine T.F__law_tape.ok sc__law_tape (fun vs H Q E h => ?_) (fun cdv A outer s H vs Q E hr h => ?_)
  · obtain ⟨a, ns, rfl, _⟩ := h
    rfl
  · obtain ⟨a, ns, rfl, hS, hlen, q⟩ := h
    refine ⟨_, (pss_cons (ps_setLc (i := 1) (own := [("cell", 2)]) (g := gName 2) (by rfl) sc__law_tape.nd rfl rfl (sw_true rfl rfl rfl (by decide +kernel)) (pi_list (pv 0)) (blkOk_by (own := [("cell", 2)]) (N := ["script", "cells", "cell"]) (sc := defScope s__law_tape) (by decide +kernel)) (fun _ _ _ _ _ => pg_name (i := 2) sc__law_tape.nd rfl (Or.inl rfl)) (fun _ _ _ _ _ => pts_nil) (fun _ _ _ _ _ => (pe_callB call_abs (by rfl) T.m_abs (by decide +kernel) (pa_cons (pe_callTy call_int1 (by rfl) T.m_int (by decide +kernel) (pa_cons (pv 2) pa_nil)) pa_nil))))
        (C8.pss_cut (ps_if (pt_cmpR op_eq (pe_callB (call_lenK (K := K)) (by rfl) T.m_len PySem.boot_len (pa_cons (pv 1) pa_nil)) pe_int (nomark _)) (pss_one (ps_set (i := 1) sc__law_tape.nd rfl (Or.inl rfl) (pe_lst (pa_cons pe_int pa_nil)))) pss_nil)
        (pss_one (ps_ret (pe_lst (pa_cons (pv 1) (pa_cons pe_int (pa_cons (pe_ix (ix_listK (K := K)) (pv 1) pe_int (fun _ _ => rfl)) (pa_cons pe_int (pa_cons pe_int pa_nil)))))))))), ?_⟩
    -- cells = [..]
    refine ⟨.ref a, rfl, a, rfl, ⟨_, hS⟩, fun D hD => lc_list (K := K) (a := a) (xs := ns.map V.int) (fun i H' => Same H H' ∧ ∃ ms : List Int, ms.length = i ∧ H' D = some (.lst (ms.map V.int))) ⟨same_upd hD, [], rfl, upd_same⟩ (fun i H' _ p => p.1.seq hS) (fun i x H' hx p => ?_) (fun H1 p => ?_)⟩
    · obtain ⟨sm, ms, e1, e2⟩ := p
      rw [List.getElem?_map] at hx
      obtain ⟨n, hn, rfl⟩ := Option.map_eq_some_iff.mp hx
      refine ⟨rfl, ?_⟩
      refine ⟨_, rfl, .inl ⟨_, rfl, _, rfl, ms.map V.int, e2, ?_, ?_⟩⟩
      · have hi : i < ns.length := (List.getElem?_eq_some_iff.mp hn).1
        rw [List.length_map]
        exact small1000' (by omega)
      · refine ⟨fun b o h => ?_, ms ++ [if n < 0 then -n else n], ?_, ?_⟩
        · rw [upd_ne (ne_of_none h hD)]
          exact sm b o h
        · rw [List.length_append, e1]
          rfl
        · rw [upd_same, List.map_append]
          rfl
    · obtain ⟨sm, ms, e1, e2⟩ := p
      rw [List.length_map] at e1
      -- if len(cells) == 0
      refine ⟨fun σ' H' => ∃ (c : Addr) (cs : List Int) (x2 : Option V), σ' = [some (.ref a), some (.ref c), x2] ∧ Same H H' ∧ H c = none ∧ H' c = some (.lst (cs.map V.int)) ∧ 0 < cs.length, ?_, fun σ' H' hM => ?_⟩
      · refine ⟨.ref D, rfl, D, ms.map V.int, rfl, .inl (SqL.of e2), rfl, _, rfl, ite2 (fun e => ?_) (fun e => ?_)⟩
        · refine ⟨by decide, fun p np => ?_⟩
          refine ⟨p, [0], none, rfl, ?_, ?_, upd_same, by decide⟩
          · exact sm.trans (same_upd np)
          · exact sm.free np
        · have h0 : ((ms.map V.int).length : Int) ≠ 0 := fun z => e (decide_eq_true (congrArg V.int z))
          rw [List.length_map] at h0
          exact ⟨D, ms, none, rfl, sm, hD, e2, by omega⟩
      · obtain ⟨c, cs, x2, rfl, sm2, nc, e3, hp⟩ := hM
        refine ⟨.ref c, rfl, .ref c, rfl, c, cs.map V.int, 0, .int (cs[0]), rfl, rfl, SqL.of e3, at_ints hp, sz5 _ _ _ _ _, fun t nt => ?_⟩
        refine q _ t c (sm2.trans (same_upd nt)) (sm2.free nt) (Tape.set (a := 0) e3 (ne_of_none e3 nt) hp)
def sp__law_pick (K : PySem.W.Frag) : Sp := fun vs H Q _ => ∃ (t c : Addr) (n : Int), vs = [.ref t, .int n] ∧ Tape H t c ∧ 0 < n ∧ n ≤ 4000000000 ∧ ∀ x H', 0 ≤ x → x < n → Kp t H H' → Tape H' t c → Q (.int x) H'
theorem T0.ok__law_pick (T : T0 K mg) : FnOk P w K mg base CX0 1 T.a__law_pick T.fd__law_pick ["tape", "size"] (sp__law_pick K) := by
  refine T.F__law_pick.ok sc__law_pick (fun vs H Q E h => ?_) (fun cdv A outer s H vs Q E hr h => ?_)
  · obtain ⟨t, c, n, rfl, _⟩ := h
    rfl
  · obtain ⟨t, c, n, rfl, ⟨cs, a, b, k, r, hT, hC, nct, ha⟩, hn0, hn1, q⟩ := h
    refine ⟨_, (pss_cons (ps_set (i := 2) sc__law_pick.nd rfl (Or.inl rfl) (pe_ix (ix_listK (K := K)) (pv 0) pe_int (fun _ _ => rfl)))
        (pss_cons (ps_set (i := 3) sc__law_pick.nd rfl (Or.inl rfl) (pe_ix (ix_listK (K := K)) (pv 2) (pe_ix (ix_listK (K := K)) (pv 0) pe_int (fun _ _ => rfl)) (fun _ _ => rfl)))
        (pss_cons (ps_set (i := 4) sc__law_pick.nd rfl (Or.inl rfl) (pe_op op_add (pe_ix (ix_listK (K := K)) (pv 0) pe_int (fun _ _ => rfl)) (pe_op op_mul pe_int (pe_ix (ix_listK (K := K)) (pv 0) pe_int (fun _ _ => rfl)))))
        (C8.pss_cut (ps_if (PW.pt (pw_and (pt_cmpR op_ge (pv 3) (pe_op op_pow pe_int pe_int) (nomark _)) (pw_and1 (pt_cmpR op_eq (pe_ix (ix_listK (K := K)) (pv 0) pe_int (fun _ _ => rfl)) pe_int (nomark _))))) (pss_cons (ps_set (i := 5) sc__law_pick.nd rfl (Or.inl rfl) (pe_op op_modN (pe_callTy call_int1 (by rfl) T.m_int (by decide +kernel) (pa_cons (pe_ix (ix_listK (K := K)) (pv 0) pe_int (fun _ _ => rfl)) pa_nil)) (pv 1)))
        (pss_cons (ps_asg ((pe_op op_fdivW (pe_ix (ix_listK (K := K)) (pv 0) pe_int (fun _ _ => rfl)) (pv 1))) (pg_sub (pv 0) pe_int set_list))
        (pss_one (ps_set (i := 6) sc__law_pick.nd rfl (Or.inl rfl) (pe_cmpR op_eq (pe_ix (ix_listK (K := K)) (pv 0) pe_int (fun _ _ => rfl)) pe_int (nomark _)))))) (pss_cons (ps_set (i := 7) sc__law_pick.nd rfl (Or.inl rfl) (pe_op op_modN (pe_callTy call_int1 (by rfl) T.m_int (by decide +kernel) (pa_cons (pe_op op_add (pe_op op_add (pv 3) (pe_op op_mul pe_int (pv 4))) pe_int) pa_nil)) pe_int))
        (pss_cons (ps_set (i := 7) sc__law_pick.nd rfl (Or.inl rfl) (pe_op op_modN (pe_callTy call_int1 (by rfl) T.m_int (by decide +kernel) (pa_cons (pe_op op_mul (pv 7) (pe_op op_add (pv 7) pe_int)) pa_nil)) pe_int))
        (pss_cons (ps_set (i := 7) sc__law_pick.nd rfl (Or.inl rfl) (pe_op op_modN (pe_callTy call_int1 (by rfl) T.m_int (by decide +kernel) (pa_cons (pe_op op_add (pe_op op_mul (pv 7) (pe_op op_add (pv 7) pe_int)) (pe_op op_mul pe_int (pv 4))) pa_nil)) pe_int))
        (pss_cons (ps_set (i := 5) sc__law_pick.nd rfl (Or.inl rfl) (pe_op op_modN (pe_callTy call_int1 (by rfl) T.m_int (by decide +kernel) (pa_cons (pe_op op_fdivN (pv 7) pe_int) pa_nil)) (pv 1)))
        (pss_one (ps_set (i := 6) sc__law_pick.nd rfl (Or.inl rfl) (pe_cmpR op_eq (pe_op op_modN (pe_callTy call_int1 (by rfl) T.m_int (by decide +kernel) (pa_cons (pv 4) pa_nil)) pe_int) pe_int (nomark _)))))))))
        (pss_cons (ps_asg (pe_op op_add (pe_ix (ix_listK (K := K)) (pv 0) pe_int (fun _ _ => rfl)) pe_int) (pg_sub (pv 0) pe_int set_list))
        (C8.pss_cut (ps_if (pt_val (pv 6)) (pss_cons (ps_asg pe_int (pg_sub (pv 0) pe_int set_list))
        (pss_cons (ps_asg (pe_op op_add (pe_ix (ix_listK (K := K)) (pv 0) pe_int (fun _ _ => rfl)) pe_int) (pg_sub (pv 0) pe_int set_list))
        (C8.pss_cut (ps_if (pt_cmpR op_eq (pe_ix (ix_listK (K := K)) (pv 0) pe_int (fun _ _ => rfl)) (pe_callB (call_lenK (K := K)) (by rfl) T.m_len PySem.boot_len (pa_cons (pv 2) pa_nil)) (nomark _)) (pss_cons (ps_asg pe_int (pg_sub (pv 0) pe_int set_list))
        (pss_one (ps_asg (pe_op op_add (pe_ix (ix_listK (K := K)) (pv 0) pe_int (fun _ _ => rfl)) pe_int) (pg_sub (pv 0) pe_int set_list)))) pss_nil)
        (pss_one (ps_asg (pe_ix (ix_listK (K := K)) (pv 2) (pe_ix (ix_listK (K := K)) (pv 0) pe_int (fun _ _ => rfl)) (fun _ _ => rfl)) (pg_sub (pv 0) pe_int set_list)))))) pss_nil)
        (pss_one (ps_ret (pv 5))))))))), ?_⟩
    have st : SqL K H t [.ref c, .int a, .int b, .int k, .int r] := SqL.of hT
    have sc : SqL K H c (cs.map V.int) := SqL.of hC
    -- cells = tape[0]; cell = cells[tape[1]]
    refine ⟨.ref t, rfl, t, _, 0, .ref c, rfl, rfl, st, rfl, ?_⟩
    refine ⟨.ref c, rfl, .ref t, rfl, t, _, 1, .int a, rfl, rfl, st, rfl, c, _, a, .int (cs[a]), rfl, rfl, sc, at_ints ha, ?_⟩
    -- k = tape[3] + 61 * tape[4]
    refine ⟨.ref t, rfl, t, _, 3, .int k, rfl, rfl, st, rfl, .ref t, rfl, t, _, 4, .int r, rfl, rfl, st, rfl, 61, r, rfl, rfl, .inl (by decide), _, _, rfl, rfl, ?_⟩
    refine ⟨fun σ' H' => ∃ (x : Int) (u : Bool) (b' : Int) (y : Option V), σ' = [some (.ref t), some (.int n), some (.ref c), some (.int cs[a]), some (.int (k + 61 * r)), some (.int x), some (.bl u), y] ∧ 0 ≤ x ∧ x < n ∧ H' = upd H t (.lst [.ref c, .int a, .int b', .int k, .int r]), ?_, fun σ' H' hM => ?_⟩
    · -- if cell >= 10 ** 18 and tape[4] == 0
      have hn : n ≠ 0 := by omega
      have fm : ∀ x : Int, 0 ≤ x.fmod n ∧ x.fmod n < n := fun x => fmod_range x hn0
      refine ⟨.int cs[a], rfl, 10, 18, rfl, rfl, ⟨by decide, by decide, by decide⟩, _, _, rfl, rfl, _, rfl, ite2 (fun _ => ?A) (fun _ => ?no1)⟩
      case' A => refine ⟨.ref t, rfl, t, _, 4, .int r, rfl, rfl, st, rfl, rfl, _, rfl, ite2 (fun _ => ?yes) (fun _ => ?no2)⟩
      case yes =>
        walk_at "go"
        exact ⟨_, _, _, none, rfl, (fm _).1, (fm _).2, rfl⟩
      case no1 | no2 =>
        walk_at "go"
        exact ⟨_, _, b, _, rfl, (fm _).1, (fm _).2, upd_self hT⟩
    · obtain ⟨x, u, b', y, rfl, hx0, hx1, rfl⟩ := hM
      have sc' : ∀ xs, SqL K (upd H t (.lst xs)) c (cs.map V.int) := fun xs => SqL.of ((upd_ne nct).trans hC)
      -- tape[3] = tape[3] + 1
      walk_at "go"
      rw [upd_upd]
      refine ⟨fun σ' H' => ∃ (a' : Nat) (b2 k2 r2 : Int), a' < cs.length ∧ σ' = [some (.ref t), some (.int n), some (.ref c), some (.int cs[a]), some (.int (k + 61 * r)), some (.int x), some (.bl u), y] ∧ H' = upd H t (.lst [.ref c, .int a', .int b2, .int k2, .int r2]), ?_, fun σ' H' hM => ?_⟩
      · refine ⟨_, rfl, _, rfl, ?_⟩
        cases u with
        | false => exact iteF ⟨a, b', k + 1, r, ha, rfl, rfl⟩
        | true =>
          refine iteT ?_
          -- tape[3] = 0; tape[1] = tape[1] + 1
          walk_at "go"
          rw [upd_upd]
          walk_at "go"
          rw [upd_upd]
          refine ⟨fun σ' H' => ∃ (a' : Nat) (r2 : Int), a' < cs.length ∧ σ' = [some (.ref t), some (.int n), some (.ref c), some (.int cs[a]), some (.int (k + 61 * r)), some (.int x), some (.bl true), y] ∧ H' = upd H t (.lst [.ref c, .int a', .int b', .int 0, .int r2]), ?_, fun σ' H' hM => ?_⟩
          · -- if tape[1] == len(cells)
            refine ⟨_, rfl, t, _, 1, .int (a + 1), rfl, rfl, SqL.of upd_same, rfl, ?_⟩
            refine ⟨_, rfl, c, _, rfl, .inl (sc' _), rfl, _, rfl, ite2 (fun e => ?_) (fun e => ?_)⟩
            · walk_at "go"
              rw [upd_upd]
              walk_at "go"
              rw [upd_upd]
              exact ⟨0, r + 1, by omega, rfl, rfl⟩
            · rw [List.length_map] at e
              refine ⟨a + 1, r, ?_, rfl, rfl⟩
              have h0 : ((a : Int) + 1) ≠ (cs.length : Int) := fun z => e (decide_eq_true (congrArg V.int z))
              omega
          · obtain ⟨a', r2, ha2, rfl, rfl⟩ := hM
            -- tape[2] = cells[tape[1]]
            refine ⟨_, rfl, _, rfl, t, _, 1, .int a', rfl, rfl, SqL.of upd_same, rfl, c, _, a', .int cs[a'], rfl, rfl, sc' _, at_ints ha2, ?_⟩
            walk_at "go"
            exact ⟨a', _, _, _, ha2, rfl, upd_upd⟩
      · obtain ⟨a', b2, k2, r2, ha2, rfl, rfl⟩ := hM
        exact ⟨_, rfl, q _ _ hx0 hx1 .put (Tape.set hC nct ha2)⟩
local macro_rules | `(tactic| walk_at "kp") => `(tactic| first
  | exact Kp.refl _ _
  | assumption
  | (refine Kp.trans ?_ (by assumption); walk_at "kp"))
local macro_rules | `(tactic| walk_at "pick") => `(tactic|
  refine ⟨_, _, _, rfl, (by assumption), (by first | decide | omega), (by first | decide | omega), fun x H' h0 h1 kp hT => ?_⟩)
def sp__law_size (K : PySem.W.Frag) : Sp := fun vs H Q _ => ∃ (t c : Addr) (n : Int), vs = [.ref t, .int n] ∧ Tape H t c ∧ n ≤ 100 ∧ ∀ x H', 1 ≤ x → n ≤ x → x ≤ 1000000000 → Kp t H H' → Tape H' t c → Q (.int x) H'
theorem T0.ok__law_size (T : T0 K mg) : FnOk P w K mg base CX0 2 T.a__law_size T.fd__law_size ["tape", "count"] (sp__law_size K) := by
  refine T.F__law_size.ok sc__law_size (fun vs H Q E h => ?_) (fun cdv A outer s H vs Q E hr h => ?_)
  · obtain ⟨t, c, n, rfl, _⟩ := h
    rfl
  · obtain ⟨t, c, n, rfl, hT, hn, q⟩ := h
    refine ⟨_, (pss_cons (ps_set (i := 2) sc__law_size.nd rfl (Or.inl rfl) (pe_call T.ok__law_pick hr (by rfl) T.g__law_pick T.k__law_pick T.b__law_pick .nil pass0 (pa_cons (pv 0) (pa_cons pe_int pa_nil))))
        (pss_cons (ps_set (i := 3) sc__law_size.nd rfl (Or.inl rfl) (pe_callB (call_max2 rfl) (by rfl) T.m_max (by decide +kernel) (pa_cons pe_int (pa_cons (pv 1) pa_nil))))
        (pss_cons (ps_if (pt_cmpR op_eq (pv 2) pe_int (nomark _)) (pss_one (ps_ret (pv 3))) pss_nil)
        (pss_cons (ps_if (pt_cmpR op_eq (pv 2) pe_int (nomark _)) (pss_one (ps_ret (pe_op op_add (pv 3) (pe_call T.ok__law_pick hr (by rfl) T.g__law_pick T.k__law_pick T.b__law_pick .nil pass0 (pa_cons (pv 0) (pa_cons pe_int pa_nil)))))) pss_nil)
        (pss_cons (ps_if (pt_cmpR op_eq (pv 2) pe_int (nomark _)) (pss_one (ps_ret (pe_op op_add (pv 3) (pe_call T.ok__law_pick hr (by rfl) T.g__law_pick T.k__law_pick T.b__law_pick .nil pass0 (pa_cons (pv 0) (pa_cons pe_int pa_nil)))))) pss_nil)
        (pss_one (ps_ret (pe_op op_add (pe_op op_add (pv 3) pe_int) (pe_call T.ok__law_pick hr (by rfl) T.g__law_pick T.k__law_pick T.b__law_pick .nil pass0 (pa_cons (pv 0) (pa_cons pe_int pa_nil))))))))))), ?_⟩
    refine ⟨_, rfl, ?_⟩
    walk_at "pick"
    rename_i x H1 h0 h1 kp hT1
    refine ⟨.int n, rfl, 1, n, rfl, ?_⟩
    have l1 : 1 ≤ (if n > 1 then n else (1 : Int)) ∧ n ≤ (if n > 1 then n else (1 : Int)) ∧ (if n > 1 then n else (1 : Int)) ≤ 100 := by split <;> omega
    revert l1
    generalize (if n > 1 then n else (1 : Int)) = l
    intro l1
    refine ⟨_, rfl, rfl, _, rfl, ite2 (fun _ => ?_) (fun _ => ?_)⟩
    · exact ⟨_, rfl, q _ _ (by omega) (by omega) (by omega) (by walk_at "kp") hT1⟩
    refine ⟨_, rfl, rfl, _, rfl, ite2 (fun _ => ?_) (fun _ => ?_)⟩
    · refine ⟨_, rfl, _, rfl, ?_⟩
      walk_at "pick"
      exact ⟨_, _, rfl, rfl, q _ _ (by omega) (by omega) (by omega) (by walk_at "kp") (by assumption)⟩
    refine ⟨_, rfl, rfl, _, rfl, ite2 (fun _ => ?_) (fun _ => ?_)⟩
    · refine ⟨_, rfl, _, rfl, ?_⟩
      walk_at "pick"
      exact ⟨_, _, rfl, rfl, q _ _ (by omega) (by omega) (by omega) (by walk_at "kp") (by assumption)⟩
    · refine ⟨_, rfl, _, _, rfl, rfl, _, rfl, ?_⟩
      walk_at "pick"
      exact ⟨_, _, rfl, rfl, q _ _ (by omega) (by omega) (by omega) (by walk_at "kp") (by assumption)⟩
/-! ### _law_same -/
theorem op_isB {X : Cx} : OpR X (compareOp .Is) (fun x y H Q => ∃ b, y = .bl b ∧ Q (.bl (decide (x = .bl b))) H) := by
  intro pins s σ H x y v u Q I rx ry h
  obtain ⟨b, rfl, q⟩ := h
  cases (show u = Value.bool b from ry)
  cases x with
  | bl c =>
    cases (show v = Value.bool c from rx)
    refine is_bool (fin_bl I q ?_)
    cases b <;> cases c <;> rfl
  | non => cases rx; exact wpAny_is_plain rfl (fin_bl I q rfl)
  | int _ => obtain ⟨t, rfl⟩ := rx; exact wpAny_is_plain rfl (fin_bl I q rfl)
  | str _ => obtain ⟨t, rfl⟩ := rx; exact wpAny_is_plain rfl (fin_bl I q rfl)
  | byt _ => obtain ⟨t, rfl⟩ := rx; exact wpAny_is_plain rfl (fin_bl I q rfl)
  | flt _ => obtain ⟨t, rfl⟩ := rx; exact wpAny_is_plain rfl (fin_bl I q rfl)
  | ref _ => cases rx; exact wpAny_is_plain rfl (fin_bl I q rfl)
  | ty _ => cases rx; exact wpAny_is_plain rfl (fin_bl I q rfl)
def atomV : V → Bool
  | .non => true
  | .bl _ => true
  | .int _ => true
  | .str _ => true
  | _ => false
/-- the same data, of at most this depth -/
inductive Sm (K : PySem.W.Frag) : Nat → Hp → V → V → Prop
  | atom {d : Nat} {H : Hp} {x : V} : atomV x = true → Sm K (d + 1) H x x
  | lst {d : Nat} {H : Hp} {a b : Addr} {xs ys : List V} : SqL K H a xs → SqL K H b ys → xs.length = ys.length → ys.length ≤ 100000 → (∀ (i : Nat) x y, xs[i]? = some x → ys[i]? = some y → Sm K d H x y) → Sm K (d + 1) H (.ref a) (.ref b)
  | tup {d : Nat} {H : Hp} {a b : Addr} {xs ys : List V} : SqT K H a xs → SqT K H b ys → xs.length = ys.length → ys.length ≤ 100000 → (∀ (i : Nat) x y, xs[i]? = some x → ys[i]? = some y → Sm K d H x y) → Sm K (d + 1) H (.ref a) (.ref b)
  | dic {d : Nat} {H : Hp} {a b : Addr} {xs ys : List (Key × V)} : H a = some (.dK xs) → H b = some (.dK ys) → xs.length = ys.length → ys.length ≤ 100000 → (∀ (i : Nat) x y, xs[i]? = some x → ys[i]? = some y → x.1 = y.1) →
      (∀ (i : Nat) x y, xs[i]? = some x → ys[i]? = some y → Sm K (d + 1) H x.2 y.2) → Sm K (d + 4) H (.ref a) (.ref b)
theorem same_t {K : PySem.W.Frag} {H H' : Hp} {a : Addr} {xs : List V} (e : Same H H') (h : SqT K H a xs) : SqT K H' a xs := by
  rcases h with (h | ⟨o, h⟩) | h
  · exact .inl (.inl (e _ _ h))
  · exact .inl (.inr ⟨o, e _ _ h⟩)
  · exact .inr h
theorem Sm.same {K : PySem.W.Frag} {d : Nat} {H : Hp} {x y : V} (h : Sm K d H x y) : ∀ {H' : Hp}, Same H H' → Sm K d H' x y := by
  induction h with
  | atom h => exact fun _ => .atom h
  | lst h1 h2 h3 h4 _ ih => exact fun s => .lst (s.seq h1) (s.seq h2) h3 h4 fun i x y e1 e2 => ih i x y e1 e2 s
  | tup h1 h2 h3 h4 _ ih => exact fun s => .tup (same_t s h1) (same_t s h2) h3 h4 fun i x y e1 e2 => ih i x y e1 e2 s
  | dic h1 h2 h3 h4 h5 _ ih => exact fun s => .dic (s _ _ h1) (s _ _ h2) h3 h4 h5 fun i x y e1 e2 => ih i x y e1 e2 s
theorem Sm.succ {K : PySem.W.Frag} {d : Nat} {H : Hp} {x y : V} (h : Sm K d H x y) : Sm K (d + 1) H x y := by
  induction h with
  | atom h => exact .atom h
  | lst h1 h2 h3 h4 _ ih => exact .lst h1 h2 h3 h4 ih
  | tup h1 h2 h3 h4 _ ih => exact .tup h1 h2 h3 h4 ih
  | dic h1 h2 h3 h4 h5 _ ih => exact .dic h1 h2 h3 h4 h5 ih
theorem Sm.int {K : PySem.W.Frag} {d : Nat} {H : Hp} {i j : Int} (h : i = j) : Sm K (d + 1) H (.int i) (.int j) := by subst h; exact .atom rfl
theorem Sm.bl {K : PySem.W.Frag} {d : Nat} {H : Hp} {i j : Bool} (h : i = j) : Sm K (d + 1) H (.bl i) (.bl j) := by subst h; exact .atom rfl
theorem tyx_l {K : PySem.W.Frag} {H : Hp} {a : Addr} {xs : List V} (h : SqL K H a xs) : TyX K H (.ref a) (.type "list") := by
  rcases h with (h | ⟨o, h⟩) | ⟨o, its, n, h1, h2, _⟩
  · exact .base (.lst h)
  · exact .base (.frz h)
  · exact .kList h1 h2
theorem tyx_t {K : PySem.W.Frag} {H : Hp} {a : Addr} {xs : List V} (h : SqT K H a xs) : TyX K H (.ref a) (.type "tuple") := by
  rcases h with (h | ⟨o, h⟩) | ⟨o, its, n, h1, h2, _⟩
  · exact .base (.tup h)
  · exact .fTuple h
  · exact .kTuple h1 h2
theorem pair_ix {R : V → V → Prop} : ∀ {xs ys : List V}, Paired R xs ys → ∀ (i : Nat) x y, xs[i]? = some x → ys[i]? = some y → R x y
  | _, _, .nil, i, x, y, h, _ => by simp at h
  | _, _, .cons r _, 0, x, y, h, g => by
    cases h
    cases g
    exact r
  | _, _, .cons _ t, i + 1, x, y, h, g => pair_ix t i x y h g
theorem Sm.lstP {K : PySem.W.Frag} {d : Nat} {H : Hp} {a b : Addr} {xs ys : List V} (h1 : SqL K H a xs) (h2 : SqL K H b ys) (h3 : ys.length ≤ 100000) (p : Paired (Sm K d H) xs ys) : Sm K (d + 1) H (.ref a) (.ref b) :=
  .lst h1 h2 p.length h3 (pair_ix p)
theorem Sm.tupP {K : PySem.W.Frag} {d : Nat} {H : Hp} {a b : Addr} {xs ys : List V} (h1 : SqT K H a xs) (h2 : SqT K H b ys) (h3 : ys.length ≤ 100000) (p : Paired (Sm K d H) xs ys) : Sm K (d + 1) H (.ref a) (.ref b) :=
  .tup h1 h2 p.length h3 (pair_ix p)
def sp__law_same (d : Nat) (K : PySem.W.Frag) : Sp := fun vs H Q _ => ∃ x y, vs = [x, y] ∧ Sm K d H x y ∧ ∀ H', Same H H' → Q (.bl true) H'
theorem fnok_never {CX : CXT} {k : Nat} {f : Addr} {fd : FuncData} {ps : List Str} {sp : Sp} (h : ∀ vs H Q E, ¬ sp vs H Q E) : FnOk P w K mg base CX k f fd ps sp where
  len := fun vs H Q E z => (h vs H Q E z).elim
  run := fun A outer s H args us vs Q E hr h0 hb hv z => (h vs H Q E z).elim
theorem T0.ok__law_same_succ (T : T0 K mg) {d : Nat} (G : FnOk P w K mg base CX0 d T.a__law_same T.fd__law_same ["actual", "due"] (sp__law_same d K)) : FnOk P w K mg base CX0 (d + 1) T.a__law_same T.fd__law_same ["actual", "due"] (sp__law_same (d + 1) K) := by
  refine T.F__law_same.ok sc__law_same (fun vs H Q E h => ?_) (fun cdv A outer s H vs Q E hr h => ?_)
  · obtain ⟨x, y, rfl, _⟩ := h
    rfl
  · obtain ⟨x, y, rfl, hS, q⟩ := h
    refine ⟨_, (pss_cons (ps_if (pt_cmpR op_isN (pv 1) pe_non (nomark _)) (pss_one (ps_ret (pe_cmpR op_isN (pv 0) pe_non (nomark _)))) pss_nil)
        (pss_cons (ps_if (pt_cmpR op_isB (pv 1) pe_bl (nomark _)) (pss_one (ps_ret (pe_cmpR op_isB (pv 0) pe_bl (nomark _)))) pss_nil)
        (pss_cons (ps_if (pt_cmpR op_isB (pv 1) pe_bl (nomark _)) (pss_one (ps_ret (pe_cmpR op_isB (pv 0) pe_bl (nomark _)))) pss_nil)
        (pss_cons (ps_if (pt_val (pe_callB (call_isinstK (K := K)) (by rfl) T.m_isinstance (by decide +kernel) (pa_cons (pv 1) (pa_cons (pe_bltn (v := .ty "int") (by rfl) T.m_int (by decide +kernel) rfl) pa_nil)))) (pss_one (ps_ret (pe_and (pe_callB (call_isinstK (K := K)) (by rfl) T.m_isinstance (by decide +kernel) (pa_cons (pv 0) (pa_cons (pe_bltn (v := .ty "int") (by rfl) T.m_int (by decide +kernel) rfl) pa_nil))) (pe_and (pe_not (pe_callB (call_isinstK (K := K)) (by rfl) T.m_isinstance (by decide +kernel) (pa_cons (pv 0) (pa_cons (pe_bltn (v := .ty "bool") (by rfl) T.m_bool (by decide +kernel) rfl) pa_nil)))) (pe_one (pe_cmpR op_eq (pv 0) (pv 1) (nomark _))))))) pss_nil)
        (pss_cons (ps_if (pt_val (pe_callB (call_isinstK (K := K)) (by rfl) T.m_isinstance (by decide +kernel) (pa_cons (pv 1) (pa_cons (pe_bltn (v := .ty "str") (by rfl) T.m_str (by decide +kernel) rfl) pa_nil)))) (pss_one (ps_ret (pe_and (pe_callB (call_isinstK (K := K)) (by rfl) T.m_isinstance (by decide +kernel) (pa_cons (pv 0) (pa_cons (pe_bltn (v := .ty "str") (by rfl) T.m_str (by decide +kernel) rfl) pa_nil))) (pe_one (pe_cmpR op_eq (pv 0) (pv 1) (nomark _)))))) pss_nil)
        (pss_cons (ps_if (pt_val (pe_callB (call_isinstK (K := K)) (by rfl) T.m_isinstance (by decide +kernel) (pa_cons (pv 1) (pa_cons (pe_bltn (v := .ty "dict") (by rfl) T.m_dict (by decide +kernel) rfl) pa_nil)))) (pss_one (ps_ret (pe_and (pe_callB (call_isinstK (K := K)) (by rfl) T.m_isinstance (by decide +kernel) (pa_cons (pv 0) (pa_cons (pe_bltn (v := .ty "dict") (by rfl) T.m_dict (by decide +kernel) rfl) pa_nil))) (pe_one (pe_call G hr (by rfl) T.g__law_same T.k__law_same T.b__law_same .nil pass0 (pa_cons (LiI.pe_listItems rfl (pv 0) (by rfl) T.m_list (by decide +kernel)) (pa_cons (LiI.pe_listItems rfl (pv 1) (by rfl) T.m_list (by decide +kernel)) pa_nil))))))) pss_nil)
        (C8.pss_cut (ps_if (PW.pt (pw_and (pt_val (pe_callB (call_isinstK (K := K)) (by rfl) T.m_isinstance (by decide +kernel) (pa_cons (pv 1) (pa_cons (pe_bltn (v := .ty "tuple") (by rfl) T.m_tuple (by decide +kernel) rfl) pa_nil)))) (pw_and1 (pt_not (pt_val (pe_callB (call_isinstK (K := K)) (by rfl) T.m_isinstance (by decide +kernel) (pa_cons (pv 0) (pa_cons (pe_bltn (v := .ty "tuple") (by rfl) T.m_tuple (by decide +kernel) rfl) pa_nil)))))))) (pss_one (ps_ret pe_bl)) pss_nil)
        (C8.pss_cut (ps_if (PW.pt (pw_and (pt_val (pe_callB (call_isinstK (K := K)) (by rfl) T.m_isinstance (by decide +kernel) (pa_cons (pv 1) (pa_cons (pe_bltn (v := .ty "list") (by rfl) T.m_list (by decide +kernel) rfl) pa_nil)))) (pw_and1 (pt_not (pt_val (pe_callB (call_isinstK (K := K)) (by rfl) T.m_isinstance (by decide +kernel) (pa_cons (pv 0) (pa_cons (pe_bltn (v := .ty "list") (by rfl) T.m_list (by decide +kernel) rfl) pa_nil)))))))) (pss_one (ps_ret pe_bl)) pss_nil)
        (pss_cons (ps_if (pt_cmpR op_ne (pe_callB (call_lenK (K := K)) (by rfl) T.m_len PySem.boot_len (pa_cons (pv 0) pa_nil)) (pe_callB (call_lenK (K := K)) (by rfl) T.m_len PySem.boot_len (pa_cons (pv 1) pa_nil)) (nomark _)) (pss_one (ps_ret pe_bl)) pss_nil)
        (pss_cons (ps_for PassesOwn.never rfl (pi_range1 (by rfl) T.m_range (pa_cons (pe_callB (call_lenK (K := K)) (by rfl) T.m_len PySem.boot_len (pa_cons (pv 1) pa_nil)) pa_nil)) (pg_name (i := 2) sc__law_same.nd rfl (Or.inl rfl)) (pss_one (ps_if (pt_not (pt_val (pe_call G hr (by rfl) T.g__law_same T.k__law_same T.b__law_same .nil pass0 (pa_cons (pe_ix ix_seq (pv 0) (pv 2) (fun _ _ => rfl)) (pa_cons (pe_ix ix_seq (pv 1) (pv 2) (fun _ _ => rfl)) pa_nil))))) (pss_one (ps_ret pe_bl)) pss_nil)))
        (pss_one (ps_ret pe_bl)))))))))))), ?_⟩
    refine ⟨_, rfl, rfl, _, rfl, ite2 (fun e => ?_) (fun e => ?_)⟩
    · have e := of_decide_eq_true e
      subst e
      cases hS with
      | atom _ => exact ⟨_, rfl, rfl, q _ (.refl _)⟩
    refine ⟨_, rfl, _, rfl, _, rfl, ite2 (fun e => ?_) (fun e => ?_)⟩
    · have e := of_decide_eq_true e
      subst e
      cases hS with
      | atom _ => exact ⟨_, rfl, _, rfl, q _ (.refl _)⟩
    refine ⟨_, rfl, _, rfl, _, rfl, ite2 (fun e => ?_) (fun e => ?_)⟩
    · have e := of_decide_eq_true e
      subst e
      cases hS with
      | atom _ => exact ⟨_, rfl, _, rfl, q _ (.refl _)⟩
    rename_i hn ht
    have hS' : (x = y ∧ atomV x = true) ∨ (∃ (T : String) (a b : Addr) (xs ys : List V), x = .ref a ∧ y = .ref b ∧ (T = "list" ∧ SqL K H a xs ∧ SqL K H b ys ∨ T = "tuple" ∧ SqT K H a xs ∧ SqT K H b ys) ∧ xs.length = ys.length ∧ ys.length ≤ 100000 ∧ ∀ (i : Nat) x y, xs[i]? = some x → ys[i]? = some y → Sm K d H x y) ∨
        (∃ (e : Nat) (a b : Addr) (xs ys : List (Key × V)), d = e + 3 ∧ x = .ref a ∧ y = .ref b ∧ H a = some (.dK xs) ∧ H b = some (.dK ys) ∧ xs.length = ys.length ∧ ys.length ≤ 100000 ∧ (∀ (i : Nat) x y, xs[i]? = some x → ys[i]? = some y → x.1 = y.1) ∧
          ∀ (i : Nat) x y, xs[i]? = some x → ys[i]? = some y → Sm K (e + 1) H x.2 y.2) := by
      cases hS with
      | atom h => exact .inl ⟨rfl, h⟩
      | lst h1 h2 h3 h4 h5 => exact .inr (.inl ⟨"list", _, _, _, _, rfl, rfl, .inl ⟨rfl, h1, h2⟩, h3, h4, h5⟩)
      | tup h1 h2 h3 h4 h5 => exact .inr (.inl ⟨"tuple", _, _, _, _, rfl, rfl, .inr ⟨rfl, h1, h2⟩, h3, h4, h5⟩)
      | dic h1 h2 h3 h4 h5 h6 => exact .inr (.inr ⟨_, _, _, _, _, rfl, rfl, rfl, h1, h2, h3, h4, h5, h6⟩)
    rcases hS' with ⟨rfl, hx⟩ | ⟨t, a, b, xs, ys, rfl, rfl, hk, hl, hz, hi⟩ | ⟨c, a, b, xs, ys, rfl, rfl, rfl, h1, h2, hl, hz, hk, hi⟩
    · cases x with
      | non => exact absurd (decide_eq_true rfl) hn
      | bl b => cases b with
        | true => exact absurd (decide_eq_true rfl) ht
        | false => exact absurd (decide_eq_true rfl) e
      | int i =>
        refine ⟨_, rfl, _, _, _, _, true, rfl, .ty "int", .base (.int _), kit_ty (by decide +kernel), _, rfl, iteT ?_⟩
        refine ⟨_, rfl, _, _, _, _, true, rfl, .ty "int", .base (.int _), kit_ty (by decide +kernel), _, rfl, iteT ?_⟩
        refine ⟨_, rfl, _, _, _, _, false, rfl, .ty "bool", .base (.int _), kit_ty (by decide +kernel), _, rfl, _, rfl, iteT ?_⟩
        refine ⟨_, rfl, _, rfl, rfl, ?_⟩
        rw [decide_eq_true rfl]
        exact q _ (.refl _)
      | str i =>
        refine ⟨_, rfl, _, _, _, _, false, rfl, .ty "int", .base (.str _), kit_ty (by decide +kernel), _, rfl, iteF ?_⟩
        refine ⟨_, rfl, _, _, _, _, true, rfl, .ty "str", .base (.str _), kit_ty (by decide +kernel), _, rfl, iteT ?_⟩
        refine ⟨_, rfl, _, _, _, _, true, rfl, .ty "str", .base (.str _), kit_ty (by decide +kernel), _, rfl, iteT ?_⟩
        refine ⟨_, rfl, _, rfl, rfl, ?_⟩
        rw [decide_eq_true rfl]
        exact q _ (.refl _)
      | _ => cases hx
    · have tb : TyX K H (.ref b) (.type t) := by
        rcases hk with ⟨rfl, _, h⟩ | ⟨rfl, _, h⟩
        · exact tyx_l h
        · exact tyx_t h
      have ta : TyX K H (.ref a) (.type t) := by
        rcases hk with ⟨rfl, h, _⟩ | ⟨rfl, h, _⟩
        · exact tyx_l h
        · exact tyx_t h
      have tt : t = "list" ∨ t = "tuple" := hk.imp (fun h => h.1) (fun h => h.1)
      refine ⟨_, rfl, _, _, _, _, false, rfl, .ty "int", tb, kit_ty (by rcases tt with rfl | rfl <;> decide +kernel), _, rfl, iteF ?_⟩
      refine ⟨_, rfl, _, _, _, _, false, rfl, .ty "str", tb, kit_ty (by rcases tt with rfl | rfl <;> decide +kernel), _, rfl, iteF ?_⟩
      refine ⟨_, rfl, _, _, _, _, false, rfl, .ty "dict", tb, kit_ty (by rcases tt with rfl | rfl <;> decide +kernel), _, rfl, iteF ?_⟩
      refine ⟨fun σ' H' => σ' = [some (.ref a), some (.ref b), none] ∧ H = H', ?_, ?_⟩
      · rcases tt with rfl | rfl
        · refine ⟨_, rfl, _, _, _, _, false, rfl, .ty "tuple", tb, kit_ty (by decide +kernel), _, rfl, iteF (iteF ⟨rfl, rfl⟩)⟩
        · refine ⟨_, rfl, _, _, _, _, true, rfl, .ty "tuple", tb, kit_ty (by decide +kernel), _, rfl, iteT ?_⟩
          refine ⟨_, rfl, _, _, _, _, true, rfl, .ty "tuple", ta, kit_ty (by decide +kernel), _, rfl, iteF ⟨rfl, rfl⟩⟩
      rintro _ _ ⟨rfl, rfl⟩
      refine ⟨fun σ' H' => σ' = [some (.ref a), some (.ref b), none] ∧ H = H', ?_, ?_⟩
      · rcases tt with rfl | rfl
        · refine ⟨_, rfl, _, _, _, _, true, rfl, .ty "list", tb, kit_ty (by decide +kernel), _, rfl, iteT ?_⟩
          refine ⟨_, rfl, _, _, _, _, true, rfl, .ty "list", ta, kit_ty (by decide +kernel), _, rfl, iteF ⟨rfl, rfl⟩⟩
        · refine ⟨_, rfl, _, _, _, _, false, rfl, .ty "list", tb, kit_ty (by decide +kernel), _, rfl, iteF (iteF ⟨rfl, rfl⟩)⟩
      rintro _ _ ⟨rfl, rfl⟩
      have la : SqL K H a xs ∨ SqT K H a xs := hk.imp (fun h => h.2.1) (fun h => h.2.1)
      have lb : SqL K H b ys ∨ SqT K H b ys := hk.imp (fun h => h.2.2) (fun h => h.2.2)
      refine ⟨_, rfl, a, xs, rfl, la, _, rfl, b, ys, rfl, lb, rfl, _, rfl, ?_⟩
      rw [hl, decide_eq_true rfl]
      refine iteF ?_
      -- for k in range(len(due))
      refine ⟨_, rfl, b, ys, rfl, lb, (ys.length : Int), rfl, by omega, by omega, ?_⟩
      rw [Int.toNat_natCast]
      refine for_range (lo := 0) (n := ys.length) (fun _ σ' H' => (∃ o, σ' = [some (.ref a), some (.ref b), o]) ∧ Same H H') ⟨⟨none, rfl⟩, .refl _⟩ (fun i σ' H' hlt p => ?_) (fun σ' H' p => ?_)
      · obtain ⟨⟨o, rfl⟩, sm⟩ := p
        obtain ⟨u, hu⟩ : ∃ u, xs[i]? = some u := ⟨_, List.getElem?_eq_getElem (by omega)⟩
        obtain ⟨v, hv⟩ : ∃ v, ys[i]? = some v := ⟨_, List.getElem?_eq_getElem (by omega)⟩
        rw [Int.zero_add]
        have sa : ∀ Q : VK, Q u H' → rIx K (.ref a) (.int (i : Int)) H' Q := fun Q h => by
          rcases la with l | l
          · exact .inl ⟨a, xs, i, u, rfl, rfl, sm.seq l, atI_nat hu, h⟩
          · exact .inr (.inl ⟨a, xs, i, u, rfl, rfl, same_t sm l, atI_nat hu, h⟩)
        have sb : ∀ Q : VK, Q v H' → rIx K (.ref b) (.int (i : Int)) H' Q := fun Q h => by
          rcases lb with l | l
          · exact .inl ⟨b, ys, i, v, rfl, rfl, sm.seq l, atI_nat hv, h⟩
          · exact .inr (.inl ⟨b, ys, i, v, rfl, rfl, same_t sm l, atI_nat hv, h⟩)
        refine ⟨_, rfl, _, rfl, sa _ ⟨_, rfl, _, rfl, sb _ ⟨u, v, rfl, (hi i u v hu hv).same sm, fun H2 s2 => ⟨true, rfl, iteF ?_⟩⟩⟩⟩
        exact ⟨⟨_, rfl⟩, sm.trans s2⟩
      · obtain ⟨⟨o, rfl⟩, sm⟩ := p
        exact q _ sm
    · have tb : TyX K H (.ref b) (.type "dict") := .base (.dK h2)
      have ta : TyX K H (.ref a) (.type "dict") := .base (.dK h1)
      refine ⟨_, rfl, _, _, _, _, false, rfl, .ty "int", tb, kit_ty (by decide +kernel), _, rfl, iteF ?_⟩
      refine ⟨_, rfl, _, _, _, _, false, rfl, .ty "str", tb, kit_ty (by decide +kernel), _, rfl, iteF ?_⟩
      refine ⟨_, rfl, _, _, _, _, true, rfl, .ty "dict", tb, kit_ty (by decide +kernel), _, rfl, iteT ?_⟩
      refine ⟨_, rfl, _, _, _, _, true, rfl, .ty "dict", ta, kit_ty (by decide +kernel), _, rfl, iteT ?_⟩
      refine ⟨_, rfl, a, xs, rfl, h1, fun H2 p1 t1 s2 n1 nt1 np1 e1 pr1 => ?_⟩
      refine ⟨_, rfl, b, ys, rfl, s2 _ _ h2, fun H3 p2 t2 s3 n2 nt2 np2 e2 pr2 => ?_⟩
      have l1 : t1.length = xs.length := pr1.length
      have l2 : t2.length = ys.length := pr2.length
      refine ⟨_, _, rfl, .lst (SqL.of (s3 _ _ e1)) (SqL.of e2) (by rw [List.length_map, List.length_map]; omega) (by rw [List.length_map]; omega) (fun i u v hu hv => ?_), fun H4 s4 => q _ (Same.trans (Same.trans s2 s3) s4)⟩
      rw [List.getElem?_map] at hu hv
      obtain ⟨u1, hu1, rfl⟩ := Option.map_eq_some_iff.mp hu
      obtain ⟨v1, hv1, rfl⟩ := Option.map_eq_some_iff.mp hv
      obtain ⟨x1, hx1, r1⟩ := paired_get pr1 hu1
      obtain ⟨x2, hx2, r2⟩ := paired_get pr2 hv1
      refine .tup (SqT.of (s3 _ _ r1)) (SqT.of r2) rfl (by show 2 ≤ 100000; decide) (fun j y z hy hz => ?_)
      have e12 := hk i x1 x2 hx1 hx2
      match j with
      | 0 =>
        cases hy
        cases hz
        rw [e12]
        exact .atom (by cases x2.1 <;> rfl)
      | 1 =>
        cases hy
        cases hz
        exact (hi i x1 x2 hx1 hx2).same (Same.trans s2 s3)
      | j + 2 => cases hy
theorem T0.ok__law_same (T : T0 K mg) : ∀ d : Nat, FnOk P w K mg base CX0 d T.a__law_same T.fd__law_same ["actual", "due"] (sp__law_same d K)
  | 0 => fnok_never fun vs H Q E h => by
    obtain ⟨x, y, _, h, _⟩ := h
    cases h
  | d + 1 => T.ok__law_same_succ (T.ok__law_same d)
/-! ### _law_same while an error is handled -/
theorem fnp_never {k : Nat} {f : Addr} {fd : FuncData} {ps : List Str} {sp : Addr × Obj → Sp} (h : ∀ p vs H Q E, ¬ sp p vs H Q E) : FnP P w K mg base k f fd ps sp where
  len := fun p vs H Q E z => (h p vs H Q E z).elim
  run := fun A outer s H args us vs Q E p h1 h2 h3 h4 h5 h6 z => (h p vs H Q E z).elim
theorem T0.okp__law_same_succ (T : T0 K mg) {d : Nat} (hd3 : d + 1 ≤ 3) (G : FnP P w K mg base d T.a__law_same T.fd__law_same ["actual", "due"] (fun _ => sp__law_same d K)) : FnP P w K mg base (d + 1) T.a__law_same T.fd__law_same ["actual", "due"] (fun _ => sp__law_same (d + 1) K) := by
  refine Fun_okP T.F__law_same sc__law_same (fun p vs H Q E h => ?_) (fun cdv A outer s H vs Q E p hot hr h => ?_)
  · obtain ⟨x, y, rfl, _⟩ := h
    rfl
  · obtain ⟨x, y, rfl, hS, q⟩ := h
    refine ⟨_, (pss_cons (ps_if (pt_cmpR op_isN (pv 1) pe_non (nomark _)) (pss_one (ps_ret (pe_cmpR op_isN (pv 0) pe_non (nomark _)))) pss_nil)
        (pss_cons (ps_if (pt_cmpR op_isB (pv 1) pe_bl (nomark _)) (pss_one (ps_ret (pe_cmpR op_isB (pv 0) pe_bl (nomark _)))) pss_nil)
        (pss_cons (ps_if (pt_cmpR op_isB (pv 1) pe_bl (nomark _)) (pss_one (ps_ret (pe_cmpR op_isB (pv 0) pe_bl (nomark _)))) pss_nil)
        (pss_cons (ps_if (pt_val (pe_callB (call_isinstK (K := K)) (by rfl) T.m_isinstance (by decide +kernel) (pa_cons (pv 1) (pa_cons (pe_bltn (v := .ty "int") (by rfl) T.m_int (by decide +kernel) rfl) pa_nil)))) (pss_one (ps_ret (pe_and (pe_callB (call_isinstK (K := K)) (by rfl) T.m_isinstance (by decide +kernel) (pa_cons (pv 0) (pa_cons (pe_bltn (v := .ty "int") (by rfl) T.m_int (by decide +kernel) rfl) pa_nil))) (pe_and (pe_not (pe_callB (call_isinstK (K := K)) (by rfl) T.m_isinstance (by decide +kernel) (pa_cons (pv 0) (pa_cons (pe_bltn (v := .ty "bool") (by rfl) T.m_bool (by decide +kernel) rfl) pa_nil)))) (pe_one (pe_cmpR op_eq (pv 0) (pv 1) (nomark _))))))) pss_nil)
        (pss_cons (ps_if (pt_val (pe_callB (call_isinstK (K := K)) (by rfl) T.m_isinstance (by decide +kernel) (pa_cons (pv 1) (pa_cons (pe_bltn (v := .ty "str") (by rfl) T.m_str (by decide +kernel) rfl) pa_nil)))) (pss_one (ps_ret (pe_and (pe_callB (call_isinstK (K := K)) (by rfl) T.m_isinstance (by decide +kernel) (pa_cons (pv 0) (pa_cons (pe_bltn (v := .ty "str") (by rfl) T.m_str (by decide +kernel) rfl) pa_nil))) (pe_one (pe_cmpR op_eq (pv 0) (pv 1) (nomark _)))))) pss_nil)
        (pss_cons (ps_if (pt_val (pe_callB (call_isinstK (K := K)) (by rfl) T.m_isinstance (by decide +kernel) (pa_cons (pv 1) (pa_cons (pe_bltn (v := .ty "dict") (by rfl) T.m_dict (by decide +kernel) rfl) pa_nil)))) (pss_one (ps_never)) pss_nil)
        (C8.pss_cut (ps_if (PW.pt (pw_and (pt_val (pe_callB (call_isinstK (K := K)) (by rfl) T.m_isinstance (by decide +kernel) (pa_cons (pv 1) (pa_cons (pe_bltn (v := .ty "tuple") (by rfl) T.m_tuple (by decide +kernel) rfl) pa_nil)))) (pw_and1 (pt_not (pt_val (pe_callB (call_isinstK (K := K)) (by rfl) T.m_isinstance (by decide +kernel) (pa_cons (pv 0) (pa_cons (pe_bltn (v := .ty "tuple") (by rfl) T.m_tuple (by decide +kernel) rfl) pa_nil)))))))) (pss_one (ps_ret pe_bl)) pss_nil)
        (C8.pss_cut (ps_if (PW.pt (pw_and (pt_val (pe_callB (call_isinstK (K := K)) (by rfl) T.m_isinstance (by decide +kernel) (pa_cons (pv 1) (pa_cons (pe_bltn (v := .ty "list") (by rfl) T.m_list (by decide +kernel) rfl) pa_nil)))) (pw_and1 (pt_not (pt_val (pe_callB (call_isinstK (K := K)) (by rfl) T.m_isinstance (by decide +kernel) (pa_cons (pv 0) (pa_cons (pe_bltn (v := .ty "list") (by rfl) T.m_list (by decide +kernel) rfl) pa_nil)))))))) (pss_one (ps_ret pe_bl)) pss_nil)
        (pss_cons (ps_if (pt_cmpR op_ne (pe_callB (call_lenK (K := K)) (by rfl) T.m_len PySem.boot_len (pa_cons (pv 0) pa_nil)) (pe_callB (call_lenK (K := K)) (by rfl) T.m_len PySem.boot_len (pa_cons (pv 1) pa_nil)) (nomark _)) (pss_one (ps_ret pe_bl)) pss_nil)
        (pss_cons (L2H.ps_forH PassesOwn.leaving (hotD hot).c (L2H.pi_range1H rfl T.m_range (pa_cons (pe_callB (call_lenK (K := K)) (by rfl) T.m_len PySem.boot_len (pa_cons (pv 1) pa_nil)) pa_nil)) (pg_name (i := 2) sc__law_same.nd rfl (Or.inl rfl)) (pss_one (ps_if (pt_not (pt_val (pe_callP G hr (hotD hot) rfl T.g__law_same T.k__law_same T.b__law_same (pa_cons (pe_ix ix_seq (pv 0) (pv 2) (fun _ _ => rfl)) (pa_cons (pe_ix ix_seq (pv 1) (pv 2) (fun _ _ => rfl)) pa_nil))))) (pss_one (ps_ret pe_bl)) pss_nil)))
        (pss_one (ps_ret pe_bl)))))))))))), ?_⟩
    refine ⟨_, rfl, rfl, _, rfl, ite2 (fun e => ?_) (fun e => ?_)⟩
    · have e := of_decide_eq_true e
      subst e
      cases hS with
      | atom _ => exact ⟨_, rfl, rfl, q _ (.refl _)⟩
    refine ⟨_, rfl, _, rfl, _, rfl, ite2 (fun e => ?_) (fun e => ?_)⟩
    · have e := of_decide_eq_true e
      subst e
      cases hS with
      | atom _ => exact ⟨_, rfl, _, rfl, q _ (.refl _)⟩
    refine ⟨_, rfl, _, rfl, _, rfl, ite2 (fun e => ?_) (fun e => ?_)⟩
    · have e := of_decide_eq_true e
      subst e
      cases hS with
      | atom _ => exact ⟨_, rfl, _, rfl, q _ (.refl _)⟩
    rename_i hn ht
    have hS' : (x = y ∧ atomV x = true) ∨ (∃ (T : String) (a b : Addr) (xs ys : List V), x = .ref a ∧ y = .ref b ∧ (T = "list" ∧ SqL K H a xs ∧ SqL K H b ys ∨ T = "tuple" ∧ SqT K H a xs ∧ SqT K H b ys) ∧ xs.length = ys.length ∧ ys.length ≤ 100000 ∧ ∀ (i : Nat) x y, xs[i]? = some x → ys[i]? = some y → Sm K d H x y) ∨
        (∃ (e : Nat) (a b : Addr) (xs ys : List (Key × V)), d = e + 3 ∧ x = .ref a ∧ y = .ref b ∧ H a = some (.dK xs) ∧ H b = some (.dK ys) ∧ xs.length = ys.length ∧ ys.length ≤ 100000 ∧ (∀ (i : Nat) x y, xs[i]? = some x → ys[i]? = some y → x.1 = y.1) ∧
          ∀ (i : Nat) x y, xs[i]? = some x → ys[i]? = some y → Sm K (e + 1) H x.2 y.2) := by
      cases hS with
      | atom h => exact .inl ⟨rfl, h⟩
      | lst h1 h2 h3 h4 h5 => exact .inr (.inl ⟨"list", _, _, _, _, rfl, rfl, .inl ⟨rfl, h1, h2⟩, h3, h4, h5⟩)
      | tup h1 h2 h3 h4 h5 => exact .inr (.inl ⟨"tuple", _, _, _, _, rfl, rfl, .inr ⟨rfl, h1, h2⟩, h3, h4, h5⟩)
      | dic h1 h2 h3 h4 h5 h6 => exact .inr (.inr ⟨_, _, _, _, _, rfl, rfl, rfl, h1, h2, h3, h4, h5, h6⟩)
    rcases hS' with ⟨rfl, hx⟩ | ⟨t, a, b, xs, ys, rfl, rfl, hk, hl, hz, hi⟩ | ⟨c, a, b, xs, ys, rfl, rfl, rfl, h1, h2, hl, hz, hk, hi⟩
    · cases x with
      | non => exact absurd (decide_eq_true rfl) hn
      | bl b => cases b with
        | true => exact absurd (decide_eq_true rfl) ht
        | false => exact absurd (decide_eq_true rfl) e
      | int i =>
        refine ⟨_, rfl, _, _, _, _, true, rfl, .ty "int", .base (.int _), kit_ty (by decide +kernel), _, rfl, iteT ?_⟩
        refine ⟨_, rfl, _, _, _, _, true, rfl, .ty "int", .base (.int _), kit_ty (by decide +kernel), _, rfl, iteT ?_⟩
        refine ⟨_, rfl, _, _, _, _, false, rfl, .ty "bool", .base (.int _), kit_ty (by decide +kernel), _, rfl, _, rfl, iteT ?_⟩
        refine ⟨_, rfl, _, rfl, rfl, ?_⟩
        rw [decide_eq_true rfl]
        exact q _ (.refl _)
      | str i =>
        refine ⟨_, rfl, _, _, _, _, false, rfl, .ty "int", .base (.str _), kit_ty (by decide +kernel), _, rfl, iteF ?_⟩
        refine ⟨_, rfl, _, _, _, _, true, rfl, .ty "str", .base (.str _), kit_ty (by decide +kernel), _, rfl, iteT ?_⟩
        refine ⟨_, rfl, _, _, _, _, true, rfl, .ty "str", .base (.str _), kit_ty (by decide +kernel), _, rfl, iteT ?_⟩
        refine ⟨_, rfl, _, rfl, rfl, ?_⟩
        rw [decide_eq_true rfl]
        exact q _ (.refl _)
      | _ => cases hx
    · have tb : TyX K H (.ref b) (.type t) := by
        rcases hk with ⟨rfl, _, h⟩ | ⟨rfl, _, h⟩
        · exact tyx_l h
        · exact tyx_t h
      have ta : TyX K H (.ref a) (.type t) := by
        rcases hk with ⟨rfl, h, _⟩ | ⟨rfl, h, _⟩
        · exact tyx_l h
        · exact tyx_t h
      have tt : t = "list" ∨ t = "tuple" := hk.imp (fun h => h.1) (fun h => h.1)
      refine ⟨_, rfl, _, _, _, _, false, rfl, .ty "int", tb, kit_ty (by rcases tt with rfl | rfl <;> decide +kernel), _, rfl, iteF ?_⟩
      refine ⟨_, rfl, _, _, _, _, false, rfl, .ty "str", tb, kit_ty (by rcases tt with rfl | rfl <;> decide +kernel), _, rfl, iteF ?_⟩
      refine ⟨_, rfl, _, _, _, _, false, rfl, .ty "dict", tb, kit_ty (by rcases tt with rfl | rfl <;> decide +kernel), _, rfl, iteF ?_⟩
      refine ⟨fun σ' H' => σ' = [some (.ref a), some (.ref b), none] ∧ H = H', ?_, ?_⟩
      · rcases tt with rfl | rfl
        · refine ⟨_, rfl, _, _, _, _, false, rfl, .ty "tuple", tb, kit_ty (by decide +kernel), _, rfl, iteF (iteF ⟨rfl, rfl⟩)⟩
        · refine ⟨_, rfl, _, _, _, _, true, rfl, .ty "tuple", tb, kit_ty (by decide +kernel), _, rfl, iteT ?_⟩
          refine ⟨_, rfl, _, _, _, _, true, rfl, .ty "tuple", ta, kit_ty (by decide +kernel), _, rfl, iteF ⟨rfl, rfl⟩⟩
      rintro _ _ ⟨rfl, rfl⟩
      refine ⟨fun σ' H' => σ' = [some (.ref a), some (.ref b), none] ∧ H = H', ?_, ?_⟩
      · rcases tt with rfl | rfl
        · refine ⟨_, rfl, _, _, _, _, true, rfl, .ty "list", tb, kit_ty (by decide +kernel), _, rfl, iteT ?_⟩
          refine ⟨_, rfl, _, _, _, _, true, rfl, .ty "list", ta, kit_ty (by decide +kernel), _, rfl, iteF ⟨rfl, rfl⟩⟩
        · refine ⟨_, rfl, _, _, _, _, false, rfl, .ty "list", tb, kit_ty (by decide +kernel), _, rfl, iteF (iteF ⟨rfl, rfl⟩)⟩
      rintro _ _ ⟨rfl, rfl⟩
      have la : SqL K H a xs ∨ SqT K H a xs := hk.imp (fun h => h.2.1) (fun h => h.2.1)
      have lb : SqL K H b ys ∨ SqT K H b ys := hk.imp (fun h => h.2.2) (fun h => h.2.2)
      refine ⟨_, rfl, a, xs, rfl, la, _, rfl, b, ys, rfl, lb, rfl, _, rfl, ?_⟩
      rw [hl, decide_eq_true rfl]
      refine iteF ?_
      -- for k in range(len(due))
      refine ⟨_, rfl, b, ys, rfl, lb, (ys.length : Int), rfl, by omega, by omega, ?_⟩
      rw [Int.toNat_natCast]
      refine for_range (lo := 0) (n := ys.length) (fun _ σ' H' => (∃ o, σ' = [some (.ref a), some (.ref b), o]) ∧ Same H H') ⟨⟨none, rfl⟩, .refl _⟩ (fun i σ' H' hlt p => ?_) (fun σ' H' p => ?_)
      · obtain ⟨⟨o, rfl⟩, sm⟩ := p
        obtain ⟨u, hu⟩ : ∃ u, xs[i]? = some u := ⟨_, List.getElem?_eq_getElem (by omega)⟩
        obtain ⟨v, hv⟩ : ∃ v, ys[i]? = some v := ⟨_, List.getElem?_eq_getElem (by omega)⟩
        rw [Int.zero_add]
        have sa : ∀ Q : VK, Q u H' → rIx K (.ref a) (.int (i : Int)) H' Q := fun Q h => by
          rcases la with l | l
          · exact .inl ⟨a, xs, i, u, rfl, rfl, sm.seq l, atI_nat hu, h⟩
          · exact .inr (.inl ⟨a, xs, i, u, rfl, rfl, same_t sm l, atI_nat hu, h⟩)
        have sb : ∀ Q : VK, Q v H' → rIx K (.ref b) (.int (i : Int)) H' Q := fun Q h => by
          rcases lb with l | l
          · exact .inl ⟨b, ys, i, v, rfl, rfl, sm.seq l, atI_nat hv, h⟩
          · exact .inr (.inl ⟨b, ys, i, v, rfl, rfl, same_t sm l, atI_nat hv, h⟩)
        refine ⟨_, rfl, _, rfl, sa _ ⟨_, rfl, _, rfl, sb _ ⟨u, v, rfl, (hi i u v hu hv).same sm, fun H2 s2 => ⟨true, rfl, iteF ?_⟩⟩⟩⟩
        exact ⟨⟨_, rfl⟩, sm.trans s2⟩
      · obtain ⟨⟨o, rfl⟩, sm⟩ := p
        exact q _ sm
    · exact absurd hd3 (by omega)
theorem T0.okp__law_same (T : T0 K mg) : ∀ d : Nat, d ≤ 3 → FnP P w K mg base d T.a__law_same T.fd__law_same ["actual", "due"] (fun _ => sp__law_same d K)
  | 0, _ => fnp_never fun p vs H Q E h => by
    obtain ⟨x, y, _, h, _⟩ := h
    cases h
  | d + 1, h => T.okp__law_same_succ h (T.okp__law_same d (Nat.le_of_succ_le h))
/-! ### far -/
def farL (n a b : Int) : Int := (b - a - 1).fmod n + 1
def sp_far (K : PySem.W.Frag) : Sp := fun vs H Q _ => ∃ n a b : Int, vs = [.int n, .int a, .int b] ∧ 0 < n ∧ Q (.int (farL n a b)) H
theorem T0.ok_far (T : T0 K mg) : FnOk P w K mg base CX0 1 T.a_far T.fd_far ["size", "start", "end"] (sp_far K) := by
  refine T.F_far.ok sc_far (fun vs H Q E h => ?_) (fun cdv A outer s H vs Q E hr h => ?_)
  · obtain ⟨n, a, b, rfl, _⟩ := h
    rfl
  · obtain ⟨n, a, b, rfl, hn, q⟩ := h
    refine ⟨_, (pss_one (ps_ret (pe_op op_add (pe_op op_modN (pe_op op_sub (pe_op op_sub (pv 2) (pv 1)) pe_int) (pv 0)) pe_int))), ?_⟩
    exact ⟨_, rfl, _, rfl, _, _, rfl, rfl, _, _, rfl, rfl, _, rfl, _, _, rfl, rfl, by omega, _, _, rfl, rfl, q⟩
theorem far_range (a b : Int) {n : Int} (h : 0 < n) : 1 ≤ farL n a b ∧ farL n a b ≤ n := by
  have := fmod_range (b - a - 1) h
  unfold farL
  omega
theorem far_emod (a b : Int) {n : Int} (h : 0 < n) : farL n a b = (b - a - 1) % n + 1 := by
  unfold farL
  rw [Int.fmod_eq_emod_of_nonneg _ (by omega)]
theorem far_eq (a b : Int) {n : Int} (h : 0 < n) : farL n a b = if (b - a).fmod n = 0 then n else (b - a).fmod n := by
  rw [far_emod a b h, Int.fmod_eq_emod_of_nonneg _ (by omega)]
  have e := Int.emod_add_mul_ediv (b - a) n
  have h0 := Int.emod_nonneg (b - a) (by omega : n ≠ 0)
  have h1 := Int.emod_lt_of_pos (b - a) h
  by_cases z : (b - a) % n = 0
  · rw [if_pos z]
    rw [z] at e
    rw [show b - a - 1 = (n - 1) + n * ((b - a) / n - 1) by rw [Int.mul_sub]; omega, Int.add_mul_emod_self_left, Int.emod_eq_of_lt (by omega) (by omega)]
    omega
  · rw [if_neg z]
    rw [show b - a - 1 = ((b - a) % n - 1) + n * ((b - a) / n) by omega, Int.add_mul_emod_self_left, Int.emod_eq_of_lt (by omega) (by omega)]
    omega
def sp_between (K : PySem.W.Frag) : Sp := fun vs H Q _ => ∃ n a p b : Int, vs = [.int n, .int a, .int p, .int b] ∧ 0 < n ∧ Q (.bl (decide (farL n a p < farL n a b))) H
theorem T0.ok_between (T : T0 K mg) : FnOk P w K mg base CX0 2 T.a_between T.fd_between ["size", "start", "place", "end"] (sp_between K) := by
  refine T.F_between.ok sc_between (fun vs H Q E h => ?_) (fun cdv A outer s H vs Q E hr h => ?_)
  · obtain ⟨n, a, p, b, rfl, _⟩ := h
    rfl
  · obtain ⟨n, a, p, b, rfl, hn, q⟩ := h
    refine ⟨_, (pss_one (ps_ret (pe_cmpR op_lt (pe_call T.ok_far hr (by rfl) T.g_far T.k_far T.b_far .nil pass0 (pa_cons (pv 0) (pa_cons (pv 1) (pa_cons (pv 2) pa_nil)))) (pe_call T.ok_far hr (by rfl) T.g_far T.k_far T.b_far .nil pass0 (pa_cons (pv 0) (pa_cons (pv 1) (pa_cons (pv 3) pa_nil)))) (nomark _)))), ?_⟩
    exact ⟨_, rfl, _, rfl, _, rfl, _, _, _, rfl, hn, _, rfl, _, rfl, _, rfl, _, _, _, rfl, hn, _, _, rfl, rfl, q⟩
def sp_covers (K : PySem.W.Frag) : Sp := fun vs H Q _ => ∃ n a p b : Int, vs = [.int n, .int a, .int p, .int b] ∧ 0 < n ∧ Q (.bl (decide (farL n a p ≤ farL n a b))) H
/-! ### a house -/
def hf (n p x : Int) (b : V) : List (Str × V) := [("size", .int n), ("place", .int p), ("next_house", .int x), ("before", b)]
theorem hf_size {n p x : Int} {b : V} : (hf n p x b).lookup ("size" : Str) = some (.int n) := by unfold hf; walk_at "lk"
theorem hf_place {n p x : Int} {b : V} : (hf n p x b).lookup ("place" : Str) = some (.int p) := by unfold hf; walk_at "lk"
theorem hf_next {n p x : Int} {b : V} : (hf n p x b).lookup ("next_house" : Str) = some (.int x) := by unfold hf; walk_at "lk"
theorem hf_before {n p x : Int} {b : V} : (hf n p x b).lookup ("before" : Str) = some b := by unfold hf; walk_at "lk"
def HouseAt (C : Addr) (H : Hp) (a : Addr) (n p x : Int) (b : V) : Prop := ∃ dx, H a = some (.ins C dx (hf n p x b))
def sp_House__init (C : Addr) : Sp := fun vs H Q _ => ∃ (h dx : Addr) (n p x : Int) (b : V), vs = [.ref h, .int n, .int p, .int x, b] ∧ H h = some (.ins C dx []) ∧ ∀ H', HouseAt C H' h n p x b → Kp h H H' → Q .non H'
theorem T0.ok_House__init (T : T0 K mg) : FnOk P w K mg base CX0 1 T.a_House__init T.fd_House__init ["self", "size", "place", "next_house", "before"] (sp_House__init T.C_House) := by
  refine T.F_House__init.ok sc_House__init (fun vs H Q E h => ?_) (fun cdv A outer s H vs Q E hr h => ?_)
  · obtain ⟨h, dx, n, p, x, b, rfl, _⟩ := h
    rfl
  · obtain ⟨h, dx, n, p, x, b, rfl, hh, q⟩ := h
    refine ⟨_, (pss_cons (ps_fld (pv 0) (pv 1) rfl)
        (pss_cons (ps_fld (pv 0) (pv 2) rfl)
        (pss_cons (ps_fld (pv 0) (pv 3) rfl)
        (pss_one (ps_fld (pv 0) (pv 4) rfl))))), ?_⟩
    refine ⟨_, rfl, _, rfl, h, _, dx, [], rfl, hh, T.cl_House, T.na_House_size, (by show 0 < 1000; decide), ?_⟩
    refine ⟨_, rfl, _, rfl, h, _, dx, _, rfl, upd_same, T.cl_House, T.na_House_place, (by show 1 < 1000; decide), ?_⟩
    refine ⟨_, rfl, _, rfl, h, _, dx, _, rfl, upd_same, T.cl_House, T.na_House_next_house, (by show 2 < 1000; decide), ?_⟩
    refine ⟨_, rfl, _, rfl, h, _, dx, _, rfl, upd_same, T.cl_House, T.na_House_before, (by show 3 < 1000; decide), ?_⟩
    refine q _ ⟨dx, ?_⟩ (fun b' o ne e => ?_)
    · rw [upd_same]
      have e : putF "before" b (putF "next_house" (.int x) (putF "place" (.int p) (putF "size" (.int n) []))) = hf n p x b := by
        walk_at "pf"
        rfl
      exact congrArg (fun z => some (HO.ins _ _ z)) e
    · rw [upd_ne ne, upd_ne ne, upd_ne ne, upd_ne ne]
      exact e
def sp_letter (C : Addr) (z : Str) : Sp := fun vs H Q _ => ∃ (h : Addr) (n p x : Int) (b : V), vs = [.ref h] ∧ HouseAt C H h n p x b ∧ ∀ l, H l = none → Q (.ref l) (upd H l (.tup [.str z, .int x, .int p]))
theorem T0.ok_House__tell_letter (T : T0 K mg) : FnOk P w K mg base CX0 1 T.a_House__tell_letter T.fd_House__tell_letter ["self"] (sp_letter T.C_House "tell") := by
  refine T.F_House__tell_letter.ok sc_House__tell_letter (fun vs H Q E h => ?_) (fun cdv A outer s H vs Q E hr h => ?_)
  · obtain ⟨h, n, p, x, b, rfl, _⟩ := h
    rfl
  · obtain ⟨h, n, p, x, b, rfl, ⟨dx, hh⟩, q⟩ := h
    refine ⟨_, (pss_one (ps_ret (pe_tup (pa_cons pe_str (pa_cons (show PE _ _ (tFld K _ _) from pe_fld (pv 0) rfl) (pa_cons (show PE _ _ (tFld K _ _) from pe_fld (pv 0) rfl) pa_nil)))))), ?_⟩
    refine ⟨_, rfl, h, _, dx, _, _, rfl, hh, T.cl_House, T.na_House_next_house, hf_next, ?_⟩
    refine ⟨_, rfl, h, _, dx, _, _, rfl, hh, T.cl_House, T.na_House_place, hf_place, lenL (by show 3 ≤ 100000; decide), q⟩
theorem T0.ok_House__ask_letter (T : T0 K mg) : FnOk P w K mg base CX0 1 T.a_House__ask_letter T.fd_House__ask_letter ["self"] (sp_letter T.C_House "ask") := by
  refine T.F_House__ask_letter.ok sc_House__ask_letter (fun vs H Q E h => ?_) (fun cdv A outer s H vs Q E hr h => ?_)
  · obtain ⟨h, n, p, x, b, rfl, _⟩ := h
    rfl
  · obtain ⟨h, n, p, x, b, rfl, ⟨dx, hh⟩, q⟩ := h
    refine ⟨_, (pss_one (ps_ret (pe_tup (pa_cons pe_str (pa_cons (show PE _ _ (tFld K _ _) from pe_fld (pv 0) rfl) (pa_cons (show PE _ _ (tFld K _ _) from pe_fld (pv 0) rfl) pa_nil)))))), ?_⟩
    refine ⟨_, rfl, h, _, dx, _, _, rfl, hh, T.cl_House, T.na_House_next_house, hf_next, ?_⟩
    refine ⟨_, rfl, h, _, dx, _, _, rfl, hh, T.cl_House, T.na_House_place, hf_place, lenL (by show 3 ≤ 100000; decide), q⟩
/-- what a house without a before, or with one, answers -/
def okB (b : V) : Prop := b = .non ∨ ∃ z : Int, b = .int z
def sp_House__answer_to (C : Addr) : Sp := fun vs H Q _ => ∃ (h : Addr) (n p x u : Int) (b : V), vs = [.ref h, .int u] ∧ HouseAt C H h n p x b ∧ (b = .non → Q .non H) ∧ (∀ z : Int, b = .int z → ∀ l, H l = none → Q (.ref l) (upd H l (.tup [.str "answer", .int u, .int p, .int z]))) ∧ okB b
theorem T0.ok_House__answer_to (T : T0 K mg) : FnOk P w K mg base CX0 1 T.a_House__answer_to T.fd_House__answer_to ["self", "sender"] (sp_House__answer_to T.C_House) := by
  refine T.F_House__answer_to.ok sc_House__answer_to (fun vs H Q E h => ?_) (fun cdv A outer s H vs Q E hr h => ?_)
  · obtain ⟨h, n, p, x, u, b, rfl, _⟩ := h
    rfl
  · obtain ⟨h, n, p, x, u, b, rfl, ⟨dx, hh⟩, q0, q1, ob⟩ := h
    refine ⟨_, (pss_cons (ps_if (pt_cmpR op_isN (show PE _ _ (tFld K _ _) from pe_fld (pv 0) rfl) pe_non (nomark _)) (pss_one (ps_ret pe_non)) pss_nil)
        (pss_one (ps_ret (pe_tup (pa_cons pe_str (pa_cons (pv 1) (pa_cons (show PE _ _ (tFld K _ _) from pe_fld (pv 0) rfl) (pa_cons (show PE _ _ (tFld K _ _) from pe_fld (pv 0) rfl) pa_nil)))))))), ?_⟩
    refine ⟨_, rfl, h, _, dx, _, _, rfl, hh, T.cl_House, T.na_House_before, hf_before, rfl, _, rfl, ite2 (fun e => ?_) (fun e => ?_)⟩
    · exact q0 (of_decide_eq_true e)
    · rcases ob with rfl | ⟨z, rfl⟩
      · exact absurd (decide_eq_true rfl) e
      · refine ⟨_, rfl, _, rfl, h, _, dx, _, _, rfl, hh, T.cl_House, T.na_House_place, hf_place, ?_⟩
        exact ⟨_, rfl, h, _, dx, _, _, rfl, hh, T.cl_House, T.na_House_before, hf_before, lenL (by show 4 ≤ 100000; decide), q1 z rfl⟩
def hTell (n p u : Int) (b : V) : V := match b with
  | .int z => if farL n z u < farL n z p then .int u else .int z
  | _ => .int u
def hAns (n p x u m : Int) : Int := if x = u ∧ farL n p m < farL n p u then m else x
theorem hf_pb {n p x : Int} {b c : V} : putF "before" c (hf n p x b) = hf n p x c := by
  unfold hf
  walk_at "pf"
theorem hf_pn {n p x y : Int} {b : V} : putF "next_house" (.int y) (hf n p x b) = hf n p y b := by
  unfold hf
  walk_at "pf"
def sp_House__hear_tell (C : Addr) : Sp := fun vs H Q _ => ∃ (h : Addr) (n p x u : Int) (b : V), vs = [.ref h, .int u] ∧ HouseAt C H h n p x b ∧ okB b ∧ 0 < n ∧ ∀ H', HouseAt C H' h n p x (hTell n p u b) → Kp h H H' → Q .non H'
theorem T0.ok_House__hear_tell (T : T0 K mg) : FnOk P w K mg base CX0 3 T.a_House__hear_tell T.fd_House__hear_tell ["self", "sender"] (sp_House__hear_tell T.C_House) := by
  refine T.F_House__hear_tell.ok sc_House__hear_tell (fun vs H Q E h => ?_) (fun cdv A outer s H vs Q E hr h => ?_)
  · obtain ⟨h, n, p, x, u, b, rfl, _⟩ := h
    rfl
  · obtain ⟨h, n, p, x, u, b, rfl, ⟨dx, hh⟩, ob, hn, q⟩ := h
    refine ⟨_, (pss_one (ps_if (PW.pt (pw_or (pt_cmpR op_isN (show PE _ _ (tFld K _ _) from pe_fld (pv 0) rfl) pe_non (nomark _)) (pw_or1 (pt_val (pe_call T.ok_between hr (by rfl) T.g_between T.k_between T.b_between .nil pass0 (pa_cons (show PE _ _ (tFld K _ _) from pe_fld (pv 0) rfl) (pa_cons (show PE _ _ (tFld K _ _) from pe_fld (pv 0) rfl) (pa_cons (pv 1) (pa_cons (show PE _ _ (tFld K _ _) from pe_fld (pv 0) rfl) pa_nil))))))))) (pss_one (ps_fld (pv 0) (pv 1) rfl)) pss_nil)), ?_⟩
    have set : ∀ Q' : L2.St → Hp → Prop, (∀ H', HouseAt T.C_House H' h n p x (.int u) → Kp h H H' → Q' [some (.ref h), some (.int u)] H') → sFld K (tVar 0) (tVar 1) "before" { nx := Q', rt := Q } [some (.ref h), some (.int u)] H := fun Q' k =>
      ⟨_, rfl, _, rfl, h, _, dx, _, rfl, hh, T.cl_House, T.na_House_before, (by show 4 < 1000; decide), k _ ⟨dx, by rw [upd_same, hf_pb]⟩ .put⟩
    refine ⟨_, rfl, h, _, dx, _, _, rfl, hh, T.cl_House, T.na_House_before, hf_before, rfl, _, rfl, ite2 (fun e => ?_) (fun e => ?_)⟩
    · have e := of_decide_eq_true e
      subst e
      exact iteT (set _ fun H' h1 h2 => q H' h1 h2)
    · rcases ob with rfl | ⟨z, rfl⟩
      · exact absurd (decide_eq_true rfl) e
      · refine ⟨_, rfl, h, _, dx, _, _, rfl, hh, T.cl_House, T.na_House_size, hf_size, _, rfl, h, _, dx, _, _, rfl, hh, T.cl_House, T.na_House_before, hf_before, ?_⟩
        refine ⟨_, rfl, _, rfl, h, _, dx, _, _, rfl, hh, T.cl_House, T.na_House_place, hf_place, n, z, u, p, rfl, hn, _, rfl, ite2 (fun f => ?_) (fun f => ?_)⟩
        · refine set _ fun H' h1 h2 => q H' ?_ h2
          have f := of_decide_eq_true f
          rw [show hTell n p u (.int z) = .int u from if_pos f]
          exact h1
        · have f : ¬ (farL n z u < farL n z p) := fun g => f (decide_eq_true g)
          refine q H ?_ (.refl _ _)
          rw [show hTell n p u (.int z) = .int z from if_neg f]
          exact ⟨dx, hh⟩
def sp_House__hear_answer (C : Addr) : Sp := fun vs H Q _ => ∃ (h : Addr) (n p x u m : Int) (b : V), vs = [.ref h, .int u, .int m] ∧ HouseAt C H h n p x b ∧ 0 < n ∧ ∀ H', HouseAt C H' h n p (hAns n p x u m) b → Kp h H H' → Q .non H'
theorem T0.ok_House__hear_answer (T : T0 K mg) : FnOk P w K mg base CX0 3 T.a_House__hear_answer T.fd_House__hear_answer ["self", "sender", "named"] (sp_House__hear_answer T.C_House) := by
  refine T.F_House__hear_answer.ok sc_House__hear_answer (fun vs H Q E h => ?_) (fun cdv A outer s H vs Q E hr h => ?_)
  · obtain ⟨h, n, p, x, u, m, b, rfl, _⟩ := h
    rfl
  · obtain ⟨h, n, p, x, u, m, b, rfl, ⟨dx, hh⟩, hn, q⟩ := h
    refine ⟨_, (pss_one (ps_if (PW.pt (pw_and (pt_cmpR op_eq (show PE _ _ (tFld K _ _) from pe_fld (pv 0) rfl) (pv 1) (nomark _)) (pw_and1 (pt_val (pe_call T.ok_between hr (by rfl) T.g_between T.k_between T.b_between .nil pass0 (pa_cons (show PE _ _ (tFld K _ _) from pe_fld (pv 0) rfl) (pa_cons (show PE _ _ (tFld K _ _) from pe_fld (pv 0) rfl) (pa_cons (pv 2) (pa_cons (pv 1) pa_nil))))))))) (pss_one (ps_fld (pv 0) (pv 2) rfl)) pss_nil)), ?_⟩
    refine ⟨_, rfl, h, _, dx, _, _, rfl, hh, T.cl_House, T.na_House_next_house, hf_next, _, rfl, rfl, _, rfl, ite2 (fun e => ?_) (fun e => ?_)⟩
    · have e := V.int.inj (of_decide_eq_true e)
      refine ⟨_, rfl, h, _, dx, _, _, rfl, hh, T.cl_House, T.na_House_size, hf_size, _, rfl, h, _, dx, _, _, rfl, hh, T.cl_House, T.na_House_place, hf_place, ?_⟩
      refine ⟨_, rfl, _, rfl, n, p, m, u, rfl, hn, _, rfl, ite2 (fun f => ?_) (fun f => ?_)⟩
      · have f := of_decide_eq_true f
        have g : hAns n p x u m = m := if_pos ⟨e, f⟩
        rw [g] at q
        exact ⟨_, rfl, _, rfl, h, _, dx, _, rfl, hh, T.cl_House, T.na_House_next_house, (by show 4 < 1000; decide), q _ ⟨dx, by rw [upd_same, hf_pn]⟩ .put⟩
      · have f : ¬ (farL n p m < farL n p u) := fun g => f (decide_eq_true g)
        have g : hAns n p x u m = x := if_neg (fun z => f z.2)
        rw [g] at q
        exact q H ⟨dx, hh⟩ (.refl _ _)
    · have e : ¬ x = u := fun g => e (decide_eq_true (congrArg V.int g))
      have g : hAns n p x u m = x := if_neg (fun z => e z.1)
      rw [g] at q
      exact q H ⟨dx, hh⟩ (.refl _ _)
/-- a letter as a row of values -/
inductive Let where
  | tell (r u : Int) | ask (r u : Int) | answer (r u m : Int)
def Let.vals : Let → List V
  | .tell r u => [.str "tell", .int r, .int u]
  | .ask r u => [.str "ask", .int r, .int u]
  | .answer r u m => [.str "answer", .int r, .int u, .int m]
/-- the before, the next behind the letter, and the answer -/
def hB (n p : Int) (b : V) : Let → V
  | .tell _ u => hTell n p u b
  | _ => b
def hN (n p x : Int) : Let → Int
  | .answer _ u m => hAns n p x u m
  | _ => x
def hA (p : Int) (b : V) : Let → Option (List V)
  | .ask _ u => match b with
    | .int z => some [.str "answer", .int u, .int p, .int z]
    | _ => none
  | _ => none
def sp_House__hear (K : PySem.W.Frag) (C : Addr) : Sp := fun vs H Q _ => ∃ (h l : Addr) (n p x : Int) (b : V) (L : Let), vs = [.ref h, .ref l] ∧ HouseAt C H h n p x b ∧ okB b ∧ 0 < n ∧ SqT K H l L.vals ∧
  ∀ v H', HouseAt C H' h n p (hN n p x L) (hB n p b L) → Kp h H H' → (match hA p b L with | none => v = .non | some ys => ∃ a, v = .ref a ∧ H' a = some (.tup ys)) → Q v H'
theorem T0.ok_House__hear (T : T0 K mg) : FnOk P w K mg base CX0 4 T.a_House__hear T.fd_House__hear ["self", "letter"] (sp_House__hear K T.C_House) := by
  refine T.F_House__hear.ok sc_House__hear (fun vs H Q E h => ?_) (fun cdv A outer s H vs Q E hr h => ?_)
  · obtain ⟨h, l, n, p, x, b, L, rfl, _⟩ := h
    rfl
  · obtain ⟨h, l, n, p, x, b, L, rfl, hh, ob, hn, hl, q⟩ := h
    refine ⟨_, (pss_cons (ps_set (i := 2) sc_House__hear.nd rfl (Or.inl rfl) (pe_ix (ix_tupK (K := K)) (pv 1) pe_int (fun _ _ => rfl)))
        (pss_cons (ps_set (i := 3) sc_House__hear.nd rfl (Or.inl rfl) (pe_ix (ix_tupK (K := K)) (pv 1) pe_int (fun _ _ => rfl)))
        (pss_cons (ps_if (pt_cmpR op_eq (pv 2) pe_str (nomark _)) (pss_one (ps_ret (pe_meth (pv 0) T.cl_House T.me_House__answer_to T.ok_House__answer_to (hr.mono (by decide)) T.b_House__answer_to .nil pass0 (pa_cons (pv 3) pa_nil)))) pss_nil)
        (pss_cons (ps_if (pt_cmpR op_eq (pv 2) pe_str (nomark _)) (pss_one (ps_expr (pe_meth (pv 0) T.cl_House T.me_House__hear_tell T.ok_House__hear_tell hr T.b_House__hear_tell .nil pass0 (pa_cons (pv 3) pa_nil)))) (pss_one (ps_expr (pe_meth (pv 0) T.cl_House T.me_House__hear_answer T.ok_House__hear_answer hr T.b_House__hear_answer .nil pass0 (pa_cons (pv 3) (pa_cons (pe_ix (ix_tupK (K := K)) (pv 1) pe_int (fun _ _ => rfl)) pa_nil))))))
        (pss_one (ps_ret pe_non)))))), ?_⟩
    cases L with
    | tell r u =>
      refine ⟨_, rfl, l, _, 0, .str "tell", rfl, rfl, hl, rfl, _, rfl, l, _, 2, .int u, rfl, rfl, hl, rfl, ?_⟩
      refine ⟨_, rfl, rfl, _, rfl, ?_⟩
      rw [show decide (V.str "tell" = V.str "ask") = false by decide +kernel]
      refine iteF ⟨_, rfl, rfl, _, rfl, ?_⟩
      rw [show decide (V.str "tell" = V.str "tell") = true by decide +kernel]
      obtain ⟨dx, hh'⟩ := hh
      refine iteT ⟨_, rfl, h, dx, _, rfl, hh', ?_, _, rfl, h, n, p, x, u, b, rfl, ⟨dx, hh'⟩, ob, hn, fun H' h1 h2 => ?_⟩
      · unfold hf; walk_at "lk"
      · exact q .non H' h1 h2 rfl
    | ask r u =>
      refine ⟨_, rfl, l, _, 0, .str "ask", rfl, rfl, hl, rfl, _, rfl, l, _, 2, .int u, rfl, rfl, hl, rfl, ?_⟩
      refine ⟨_, rfl, rfl, _, rfl, ?_⟩
      rw [show decide (V.str "ask" = V.str "ask") = true by decide +kernel]
      obtain ⟨dx, hh'⟩ := hh
      refine iteT ⟨_, rfl, h, dx, _, rfl, hh', ?_, _, rfl, h, n, p, x, u, b, rfl, ⟨dx, hh'⟩, fun e => ?_, fun z e l' nl => ?_, ob⟩
      · unfold hf; walk_at "lk"
      · subst e
        exact q .non H ⟨dx, hh'⟩ (.refl _ _) rfl
      · subst e
        refine q (.ref l') _ ⟨dx, ?_⟩ (Kp.of_same (same_upd nl)) ⟨l', rfl, upd_same⟩
        rw [upd_ne (ne_of_none hh' nl)]
        exact hh'
    | answer r u m =>
      refine ⟨_, rfl, l, _, 0, .str "answer", rfl, rfl, hl, rfl, _, rfl, l, _, 2, .int u, rfl, rfl, hl, rfl, ?_⟩
      refine ⟨_, rfl, rfl, _, rfl, ?_⟩
      rw [show decide (V.str "answer" = V.str "ask") = false by decide +kernel]
      refine iteF ⟨_, rfl, rfl, _, rfl, ?_⟩
      rw [show decide (V.str "answer" = V.str "tell") = false by decide +kernel]
      obtain ⟨dx, hh'⟩ := hh
      refine iteF ⟨_, rfl, h, dx, _, rfl, hh', ?_, _, rfl, _, rfl, l, _, 3, .int m, rfl, rfl, hl, rfl, h, n, p, x, u, m, b, rfl, ⟨dx, hh'⟩, hn, fun H' h1 h2 => ?_⟩
      · unfold hf; walk_at "lk"
      · exact q .non H' h1 h2 rfl
--CUT
--CUT
/-! ### a net -/
def nf (n : Int) (dn db dl : Addr) : List (Str × V) := [("size", .int n), ("_nexts", .ref dn), ("_befores", .ref db), ("_letters", .ref dl)]
theorem nf_size {n : Int} {dn db dl : Addr} : (nf n dn db dl).lookup ("size" : Str) = some (.int n) := by unfold nf; walk_at "lk"
theorem nf_nexts {n : Int} {dn db dl : Addr} : (nf n dn db dl).lookup ("_nexts" : Str) = some (.ref dn) := by unfold nf; walk_at "lk"
theorem nf_befores {n : Int} {dn db dl : Addr} : (nf n dn db dl).lookup ("_befores" : Str) = some (.ref db) := by unfold nf; walk_at "lk"
theorem nf_letters {n : Int} {dn db dl : Addr} : (nf n dn db dl).lookup ("_letters" : Str) = some (.ref dl) := by unfold nf; walk_at "lk"
/-- the net at a; ks its houses in the order in which they came -/
structure NetAt (C : Addr) (H : Hp) (a : Addr) (n : Int) (dn db dl : Addr) (nx bf : List (Key × V)) (ls : List V) : Prop where
  me : ∃ dx, H a = some (.ins C dx (nf n dn db dl))
  hn : H dn = some (.dK nx)
  hb : H db = some (.dK bf)
  hl : H dl = some (.lst ls)
theorem none_back {H H1 : Hp} {p : Addr} (s : Same H H1) (h : H1 p = none) : H p = none := by
  cases e : H p with
  | none => rfl
  | some o => rw [s _ _ e] at h; cases h
theorem NetAt.same {C a dn db dl : Addr} {H H' : Hp} {n : Int} {nx bf : List (Key × V)} {ls : List V} (N : NetAt C H a n dn db dl nx bf ls) (s : Same H H') : NetAt C H' a n dn db dl nx bf ls :=
  ⟨let ⟨dx, e⟩ := N.me; ⟨dx, s _ _ e⟩, s _ _ N.hn, s _ _ N.hb, s _ _ N.hl⟩
def sp_Net__houses (C : Addr) : Sp := fun vs H Q _ => ∃ (h dn db dl : Addr) (n : Int) (nx bf : List (Key × V)) (ls : List V) (ks : List Int), vs = [.ref h] ∧ NetAt C H h n dn db dl nx bf ls ∧ nx.map (·.1) = ks.map Sum.inl ∧ ks.length < 64 ∧
  ∀ (ys : List Int) (p : Addr), ys.Perm ks → ys.Pairwise (· ≤ ·) → H p = none → Q (.ref p) (upd H p (.lst (ys.map V.int)))
theorem T0.ok_Net__houses (T : T0 K mg) : FnOk P w K mg base CX0 1 T.a_Net__houses T.fd_Net__houses ["self"] (sp_Net__houses T.C_Net) := by
  refine T.F_Net__houses.ok sc_Net__houses (fun vs H Q E h => ?_) (fun cdv A outer s H vs Q E hr h => ?_)
  · obtain ⟨h, dn, db, dl, n, nx, bf, ls, ks, rfl, _⟩ := h
    rfl
  · obtain ⟨h, dn, db, dl, n, nx, bf, ls, ks, rfl, hN, hk, h64, q⟩ := h
    obtain ⟨dx, hh⟩ := hN.me
    refine ⟨_, (pss_one (ps_ret (pe_callB (call_sortedDI rfl) (by rfl) T.m_sorted (by decide +kernel) (pa_cons (show PE _ _ (tFld K _ _) from pe_fld (pv 0) rfl) pa_nil)))), ?_⟩
    exact ⟨_, rfl, h, _, dx, _, _, rfl, hh, T.cl_Net, T.na_Net__nexts, nf_nexts, dn, nx, ks, rfl, .inl hN.hn, hk, h64, q⟩
def sp_Net__check_house (C : Addr) : Sp := fun vs H Q _ => ∃ (h dn db dl : Addr) (n p : Int) (nx bf : List (Key × V)) (ls : List V), vs = [.ref h, .int p] ∧ NetAt C H h n dn db dl nx bf ls ∧ (valV nx (.inl p)).isSome = true ∧ Q .non H
theorem T0.ok_Net__check_house (T : T0 K mg) : FnOk P w K mg base CX0 1 T.a_Net__check_house T.fd_Net__check_house ["self", "place"] (sp_Net__check_house T.C_Net) := by
  refine T.F_Net__check_house.ok sc_Net__check_house (fun vs H Q E h => ?_) (fun cdv A outer s H vs Q E hr h => ?_)
  · obtain ⟨h, dn, db, dl, n, p, nx, bf, ls, rfl, _⟩ := h
    rfl
  · obtain ⟨h, dn, db, dl, n, p, nx, bf, ls, rfl, hN, hk, q⟩ := h
    obtain ⟨dx, hh⟩ := hN.me
    refine ⟨_, (pss_one (ps_if (pt_cmp (pc_dnotin (un1 hr) (pv 1) (show PE _ _ (tFld K _ _) from pe_fld (pv 0) rfl))) (pss_one (ps_never)) pss_nil)), ?_⟩
    refine ⟨_, rfl, _, rfl, h, _, dx, _, _, rfl, hh, T.cl_Net, T.na_Net__nexts, nf_nexts, dn, _, rfl, DGet.k (k := Sum.inl p) hN.hn, _, rfl, ?_⟩
    rw [hk]
    exact iteF q
def sp_check_on_circle : Sp := fun vs H Q _ => ∃ (n p : Int), vs = [.int n, .int p] ∧ 0 ≤ p ∧ p < n ∧ Q .non H
theorem T0.ok_check_on_circle (T : T0 K mg) : FnOk P w K mg base CX0 1 T.a_check_on_circle T.fd_check_on_circle ["size", "place"] sp_check_on_circle := by
  refine T.F_check_on_circle.ok sc_check_on_circle (fun vs H Q E h => ?_) (fun cdv A outer s H vs Q E hr h => ?_)
  · obtain ⟨n, p, rfl, _⟩ := h
    rfl
  · obtain ⟨n, p, rfl, p0, p1, q⟩ := h
    refine ⟨_, (pss_one (ps_if (PW.pt (pw_or (pt_cmpR op_lt (pv 1) pe_int (nomark _)) (pw_or1 (pt_cmpR op_ge (pv 1) (pv 0) (nomark _))))) (pss_one (ps_never)) pss_nil)), ?_⟩
    refine ⟨_, rfl, _, _, rfl, rfl, _, rfl, ite2 (fun e => absurd (of_decide_eq_true e) (by omega)) (fun _ => ?_)⟩
    refine ⟨_, rfl, _, rfl, _, _, rfl, rfl, _, rfl, ite2 (fun e => absurd (of_decide_eq_true e) (by omega)) (fun _ => ?_)⟩
    exact q
def sp_Net__check_letter (C : Addr) : Sp := fun vs H Q _ => ∃ (h dn db dl : Addr) (n p : Int) (nx bf : List (Key × V)) (ls : List V), vs = [.ref h, .int p] ∧ NetAt C H h n dn db dl nx bf ls ∧ 0 ≤ p ∧ p < ls.length ∧ Q .non H
theorem T0.ok_Net__check_letter (T : T0 K mg) : FnOk P w K mg base CX0 1 T.a_Net__check_letter T.fd_Net__check_letter ["self", "at"] (sp_Net__check_letter T.C_Net) := by
  refine T.F_Net__check_letter.ok sc_Net__check_letter (fun vs H Q E h => ?_) (fun cdv A outer s H vs Q E hr h => ?_)
  · obtain ⟨h, dn, db, dl, n, p, nx, bf, ls, rfl, _⟩ := h
    rfl
  · obtain ⟨h, dn, db, dl, n, p, nx, bf, ls, rfl, hN, p0, p1, q⟩ := h
    obtain ⟨dx, hh⟩ := hN.me
    refine ⟨_, (pss_one (ps_if (PW.pt (pw_or (pt_cmpR op_lt (pv 1) pe_int (nomark _)) (pw_or1 (pt_cmpR op_ge (pv 1) (pe_callB (call_lenK (K := K)) (by rfl) T.m_len PySem.boot_len (pa_cons (show PE _ _ (tFld K _ _) from pe_fld (pv 0) rfl) pa_nil)) (nomark _))))) (pss_one (ps_never)) pss_nil)), ?_⟩
    refine ⟨_, rfl, _, _, rfl, rfl, _, rfl, ite2 (fun e => absurd (of_decide_eq_true e) (by omega)) (fun _ => ?_)⟩
    refine ⟨_, rfl, _, rfl, h, _, dx, _, _, rfl, hh, T.cl_Net, T.na_Net__letters, nf_letters, dl, ls, rfl, .inl (SqL.of hN.hl), _, _, rfl, rfl, _, rfl, ite2 (fun e => absurd (of_decide_eq_true e) (by omega)) (fun _ => ?_)⟩
    exact q
theorem dget_of {H : Hp} {a : Addr} {kvs : List (Key × V)} {k : Key} {v : V} (e : H a = some (.dK kvs)) (h : valV kvs k = some v) : DGet H a (kV k) (some v) := h ▸ DGet.k e
def sp_Net__house_at (C D : Addr) : Sp := fun vs H Q _ => ∃ (h dn db dl : Addr) (n p x : Int) (b : V) (nx bf : List (Key × V)) (ls : List V), vs = [.ref h, .int p] ∧ NetAt C H h n dn db dl nx bf ls ∧ valV nx (.inl p) = some (.int x) ∧ valV bf (.inl p) = some b ∧
  ∀ H' r, Same H H' → H r = none → HouseAt D H' r n p x b → Q (.ref r) H'
theorem T0.ok_Net__house_at (T : T0 K mg) : FnOk P w K mg base CX0 3 T.a_Net__house_at T.fd_Net__house_at ["self", "place"] (sp_Net__house_at T.C_Net T.C_House) := by
  refine T.F_Net__house_at.ok sc_Net__house_at (fun vs H Q E h => ?_) (fun cdv A outer s H vs Q E hr h => ?_)
  · obtain ⟨h, dn, db, dl, n, p, x, b, nx, bf, ls, rfl, _⟩ := h
    rfl
  · obtain ⟨h, dn, db, dl, n, p, x, b, nx, bf, ls, rfl, hN, hx, hb, q⟩ := h
    obtain ⟨dx, hh⟩ := hN.me
    refine ⟨_, (pss_one (ps_ret (pe_make T.mk_House T.ok_House__init hr (by rfl) T.mc_House T.b_House__init .nil pass0 (pa_cons (show PE _ _ (tFld K _ _) from pe_fld (pv 0) rfl) (pa_cons (pv 1) (pa_cons (pe_dget (un1 hr) (show PE _ _ (tFld K _ _) from pe_fld (pv 0) rfl) (pv 1) (fun _ _ => rfl)) (pa_cons (pe_dget (un1 hr) (show PE _ _ (tFld K _ _) from pe_fld (pv 0) rfl) (pv 1) (fun _ _ => rfl)) pa_nil))))))), ?_⟩
    refine ⟨_, rfl, h, _, dx, _, _, rfl, hh, T.cl_Net, T.na_Net_size, nf_size, _, rfl, ?_⟩
    refine ⟨_, rfl, h, _, dx, _, _, rfl, hh, T.cl_Net, T.na_Net__nexts, nf_nexts, _, rfl, dn, _, rfl, dget_of hN.hn hx, ?_⟩
    refine ⟨_, rfl, h, _, dx, _, _, rfl, hh, T.cl_Net, T.na_Net__befores, nf_befores, _, rfl, db, _, rfl, dget_of hN.hb hb, ?_⟩
    refine fun r dx' nr ndx ne => ⟨r, dx', n, p, x, b, rfl, upd_same, fun H' hA k => ⟨rfl, q H' r (fun c o e => ?_) nr hA⟩⟩
    refine k c o (ne_of_none e nr) ?_
    rw [upd_ne (ne_of_none e nr), upd_ne (ne_of_none e ndx)]
    exact e
def sp_Net__send (C : Addr) : Sp := fun vs H Q _ => ∃ (h dn db dl : Addr) (n : Int) (nx bf : List (Key × V)) (ls : List V) (v : V), vs = [.ref h, v] ∧ NetAt C H h n dn db dl nx bf ls ∧ ls.length ≤ 100000 ∧ Q v (upd H dl (.lst (ls ++ [v])))
theorem T0.ok_Net__send (T : T0 K mg) : FnOk P w K mg base CX0 1 T.a_Net__send T.fd_Net__send ["self", "letter"] (sp_Net__send T.C_Net) := by
  refine T.F_Net__send.ok sc_Net__send (fun vs H Q E h => ?_) (fun cdv A outer s H vs Q E hr h => ?_)
  · obtain ⟨h, dn, db, dl, n, nx, bf, ls, v, rfl, _⟩ := h
    rfl
  · obtain ⟨h, dn, db, dl, n, nx, bf, ls, v, rfl, hN, hz, q⟩ := h
    obtain ⟨dx, hh⟩ := hN.me
    refine ⟨_, (pss_cons (ps_expr (pe_bm PySem.F.plainAttrs_list PySem.F.slot_list_append PySem.F.type_list_append mt_append (show PE _ _ (tFld K _ _) from pe_fld (pv 0) rfl) (pa_cons (pv 1) pa_nil)))
        (pss_one (ps_ret (pv 1)))), ?_⟩
    refine ⟨_, rfl, h, _, dx, _, _, rfl, hh, T.cl_Net, T.na_Net__letters, nf_letters, ?_⟩
    exact ⟨.inl ⟨rfl, _, SqL.of hN.hl⟩, _, rfl, dl, ls, v, rfl, rfl, hN.hl, small1000' hz, _, rfl, q⟩
def sp_Net__letters (C : Addr) : Sp := fun vs H Q _ => ∃ (h dn db dl : Addr) (n : Int) (nx bf : List (Key × V)) (ls : List V), vs = [.ref h] ∧ NetAt C H h n dn db dl nx bf ls ∧ ∀ p, H p = none → Q (.ref p) (upd H p (.lst ls))
theorem T0.ok_Net__letters (T : T0 K mg) : FnOk P w K mg base CX0 1 T.a_Net__letters T.fd_Net__letters ["self"] (sp_Net__letters T.C_Net) := by
  refine T.F_Net__letters.ok sc_Net__letters (fun vs H Q E h => ?_) (fun cdv A outer s H vs Q E hr h => ?_)
  · obtain ⟨h, dn, db, dl, n, nx, bf, ls, rfl, _⟩ := h
    rfl
  · obtain ⟨h, dn, db, dl, n, nx, bf, ls, rfl, hN, q⟩ := h
    obtain ⟨dx, hh⟩ := hN.me
    refine ⟨_, (pss_one (ps_ret (pe_callTy (call_list_ofK (K := K)) (by rfl) T.m_list (by decide +kernel) (pa_cons (show PE _ _ (tFld K _ _) from pe_fld (pv 0) rfl) pa_nil)))), ?_⟩
    exact ⟨_, rfl, h, _, dx, _, _, rfl, hh, T.cl_Net, T.na_Net__letters, nf_letters, dl, ls, rfl, .inl (SqL.of hN.hl), q⟩
def sp_Net__say (C : Addr) (z : Str) : Sp := fun vs H Q _ => ∃ (h dn db dl : Addr) (n p x : Int) (b : V) (nx bf : List (Key × V)) (ls : List V), vs = [.ref h, .int p] ∧ NetAt C H h n dn db dl nx bf ls ∧ valV nx (.inl p) = some (.int x) ∧ valV bf (.inl p) = some b ∧ ls.length ≤ 1000 ∧
  ∀ H' l, Same H H' → H l = none → H' l = some (.tup [.str z, .int x, .int p]) → Q (.ref l) (upd H' dl (.lst (ls ++ [.ref l])))
theorem T0.ok_Net__tell (T : T0 K mg) : FnOk P w K mg base CX0 4 T.a_Net__tell T.fd_Net__tell ["self", "house"] (sp_Net__say T.C_Net "tell") := by
  refine T.F_Net__tell.ok sc_Net__tell (fun vs H Q E h => ?_) (fun cdv A outer s H vs Q E hr h => ?_)
  · obtain ⟨h, dn, db, dl, n, p, x, b, nx, bf, ls, rfl, _⟩ := h
    rfl
  · obtain ⟨h, dn, db, dl, n, p, x, b, nx, bf, ls, rfl, hN, hx, hb, hz, q⟩ := h
    obtain ⟨dx, hh⟩ := hN.me
    refine ⟨_, (pss_cons (ps_expr (pe_meth (pv 0) T.cl_Net T.me_Net__check_house T.ok_Net__check_house (hr.mono (by decide)) T.b_Net__check_house .nil pass0 (pa_cons (pv 1) pa_nil)))
        (pss_one (ps_ret (pe_meth (pv 0) T.cl_Net T.me_Net__send T.ok_Net__send (hr.mono (by decide)) T.b_Net__send .nil pass0 (pa_cons (pe_meth0 (pe_meth (pv 0) T.cl_Net T.me_Net__house_at T.ok_Net__house_at hr T.b_Net__house_at .nil pass0 (pa_cons (pv 1) pa_nil)) T.cl_House T.me_House__tell_letter T.ok_House__tell_letter (hr.mono (by decide)) T.b_House__tell_letter .nil pass0) pa_nil))))), ?_⟩
    refine ⟨_, rfl, h, dx, _, rfl, hh, (by unfold nf; walk_at "lk"), _, rfl, h, dn, db, dl, n, p, nx, bf, ls, rfl, hN, (by rw [hx]; rfl), ?_⟩
    refine ⟨_, rfl, h, dx, _, rfl, hh, (by unfold nf; walk_at "lk"), _, rfl, h, dx, _, rfl, hh, (by unfold nf; walk_at "lk"), _, rfl, h, dn, db, dl, n, p, x, b, nx, bf, ls, rfl, hN, hx, hb, fun H1 r sm nr hA => ?_⟩
    obtain ⟨d2, hA2⟩ := id hA
    refine ⟨r, d2, _, rfl, hA2, (by unfold hf; walk_at "lk"), r, n, p, x, b, rfl, hA, fun l nl => ?_⟩
    refine ⟨h, dn, db, dl, n, nx, bf, ls, .ref l, rfl, (hN.same sm).same (same_upd nl), by omega, q _ l (Same.trans sm (same_upd nl)) ?_ upd_same⟩
    cases e : H l with
    | none => rfl
    | some o => rw [sm _ _ e] at nl; cases nl
theorem T0.ok_Net__ask (T : T0 K mg) : FnOk P w K mg base CX0 4 T.a_Net__ask T.fd_Net__ask ["self", "house"] (sp_Net__say T.C_Net "ask") := by
  refine T.F_Net__ask.ok sc_Net__ask (fun vs H Q E h => ?_) (fun cdv A outer s H vs Q E hr h => ?_)
  · obtain ⟨h, dn, db, dl, n, p, x, b, nx, bf, ls, rfl, _⟩ := h
    rfl
  · obtain ⟨h, dn, db, dl, n, p, x, b, nx, bf, ls, rfl, hN, hx, hb, hz, q⟩ := h
    obtain ⟨dx, hh⟩ := hN.me
    refine ⟨_, (pss_cons (ps_expr (pe_meth (pv 0) T.cl_Net T.me_Net__check_house T.ok_Net__check_house (hr.mono (by decide)) T.b_Net__check_house .nil pass0 (pa_cons (pv 1) pa_nil)))
        (pss_one (ps_ret (pe_meth (pv 0) T.cl_Net T.me_Net__send T.ok_Net__send (hr.mono (by decide)) T.b_Net__send .nil pass0 (pa_cons (pe_meth0 (pe_meth (pv 0) T.cl_Net T.me_Net__house_at T.ok_Net__house_at hr T.b_Net__house_at .nil pass0 (pa_cons (pv 1) pa_nil)) T.cl_House T.me_House__ask_letter T.ok_House__ask_letter (hr.mono (by decide)) T.b_House__ask_letter .nil pass0) pa_nil))))), ?_⟩
    refine ⟨_, rfl, h, dx, _, rfl, hh, (by unfold nf; walk_at "lk"), _, rfl, h, dn, db, dl, n, p, nx, bf, ls, rfl, hN, (by rw [hx]; rfl), ?_⟩
    refine ⟨_, rfl, h, dx, _, rfl, hh, (by unfold nf; walk_at "lk"), _, rfl, h, dx, _, rfl, hh, (by unfold nf; walk_at "lk"), _, rfl, h, dn, db, dl, n, p, x, b, nx, bf, ls, rfl, hN, hx, hb, fun H1 r sm nr hA => ?_⟩
    obtain ⟨d2, hA2⟩ := id hA
    refine ⟨r, d2, _, rfl, hA2, (by unfold hf; walk_at "lk"), r, n, p, x, b, rfl, hA, fun l nl => ?_⟩
    refine ⟨h, dn, db, dl, n, nx, bf, ls, .ref l, rfl, (hN.same sm).same (same_upd nl), by omega, q _ l (Same.trans sm (same_upd nl)) ?_ upd_same⟩
    cases e : H l with
    | none => rfl
    | some o => rw [sm _ _ e] at nl; cases nl
def sp_Net__lose (C : Addr) : Sp := fun vs H Q _ => ∃ (h dn db dl : Addr) (n : Int) (k : Nat) (v : V) (nx bf : List (Key × V)) (ls : List V), vs = [.ref h, .int k] ∧ NetAt C H h n dn db dl nx bf ls ∧ ls[k]? = some v ∧ ls.length ≤ 1000 ∧ Q v (upd H dl (.lst (ls.eraseIdx k)))
theorem T0.ok_Net__lose (T : T0 K mg) : FnOk P w K mg base CX0 2 T.a_Net__lose T.fd_Net__lose ["self", "at"] (sp_Net__lose T.C_Net) := by
  refine T.F_Net__lose.ok sc_Net__lose (fun vs H Q E h => ?_) (fun cdv A outer s H vs Q E hr h => ?_)
  · obtain ⟨h, dn, db, dl, n, k, v, nx, bf, ls, rfl, _⟩ := h
    rfl
  · obtain ⟨h, dn, db, dl, n, k, v, nx, bf, ls, rfl, hN, hv, hz, q⟩ := h
    obtain ⟨dx, hh⟩ := hN.me
    have hk := (List.getElem?_eq_some_iff.mp hv).1
    refine ⟨_, (pss_cons (ps_expr (pe_meth (pv 0) T.cl_Net T.me_Net__check_letter T.ok_Net__check_letter hr T.b_Net__check_letter .nil pass0 (pa_cons (pv 1) pa_nil)))
        (pss_one (ps_ret (pe_bm PySem.F.plainAttrs_list PySem.F.slot_list_pop PySem.F.type_list_pop mt_popAt (show PE _ _ (tFld K _ _) from pe_fld (pv 0) rfl) (pa_cons (pv 1) pa_nil))))), ?_⟩
    refine ⟨_, rfl, h, dx, _, rfl, hh, (by unfold nf; walk_at "lk"), _, rfl, h, dn, db, dl, n, k, nx, bf, ls, rfl, hN, by omega, by omega, ?_⟩
    refine ⟨_, rfl, h, _, dx, _, _, rfl, hh, T.cl_Net, T.na_Net__letters, nf_letters, .inl ⟨rfl, _, SqL.of hN.hl⟩, _, rfl, dl, ls, k, k, v, rfl, rfl, hN.hl, by omega, by omega, seq_nat hk, hv, q⟩
def sp_Net__repeat (C : Addr) : Sp := fun vs H Q _ => ∃ (h dn db dl : Addr) (n : Int) (k : Nat) (v : V) (nx bf : List (Key × V)) (ls : List V), vs = [.ref h, .int k] ∧ NetAt C H h n dn db dl nx bf ls ∧ ls[k]? = some v ∧ ls.length ≤ 1000 ∧ Q v (upd H dl (.lst (ls ++ [v])))
theorem T0.ok_Net__repeat (T : T0 K mg) : FnOk P w K mg base CX0 2 T.a_Net__repeat T.fd_Net__repeat ["self", "at"] (sp_Net__repeat T.C_Net) := by
  refine T.F_Net__repeat.ok sc_Net__repeat (fun vs H Q E h => ?_) (fun cdv A outer s H vs Q E hr h => ?_)
  · obtain ⟨h, dn, db, dl, n, k, v, nx, bf, ls, rfl, _⟩ := h
    rfl
  · obtain ⟨h, dn, db, dl, n, k, v, nx, bf, ls, rfl, hN, hv, hz, q⟩ := h
    obtain ⟨dx, hh⟩ := hN.me
    have hk := (List.getElem?_eq_some_iff.mp hv).1
    refine ⟨_, (pss_cons (ps_expr (pe_meth (pv 0) T.cl_Net T.me_Net__check_letter T.ok_Net__check_letter hr T.b_Net__check_letter .nil pass0 (pa_cons (pv 1) pa_nil)))
        (pss_one (ps_ret (pe_meth (pv 0) T.cl_Net T.me_Net__send T.ok_Net__send hr T.b_Net__send .nil pass0 (pa_cons (pe_ix (ix_listK (K := K)) (show PE _ _ (tFld K _ _) from pe_fld (pv 0) rfl) (pv 1) (fun _ _ => rfl)) pa_nil))))), ?_⟩
    refine ⟨_, rfl, h, dx, _, rfl, hh, (by unfold nf; walk_at "lk"), _, rfl, h, dn, db, dl, n, k, nx, bf, ls, rfl, hN, by omega, by omega, ?_⟩
    refine ⟨_, rfl, h, dx, _, rfl, hh, (by unfold nf; walk_at "lk"), _, rfl, h, _, dx, _, _, rfl, hh, T.cl_Net, T.na_Net__letters, nf_letters, _, rfl, dl, ls, k, v, rfl, rfl, SqL.of hN.hl, atI_nat hv, ?_⟩
    exact ⟨h, dn, db, dl, n, nx, bf, ls, v, rfl, hN, by omega, q⟩
def sp_Net__nexts (C : Addr) : Sp := fun vs H Q _ => ∃ (h dn db dl : Addr) (n : Int) (nx bf : List (Key × V)) (ls : List V) (ks : List Int) (f : Int → V), vs = [.ref h] ∧ NetAt C H h n dn db dl nx bf ls ∧ nx.map (·.1) = ks.map Sum.inl ∧ ks.length < 64 ∧ ks.Nodup ∧ (∀ k ∈ ks, valV nx (.inl k) = some (f k)) ∧
  ∀ (ys : List Int) (p : Addr) (H' : Hp), ys.Perm ks → ys.Pairwise (· ≤ ·) → Same H H' → H p = none → H' p = some (.dK (ys.map fun y => (.inl y, f y))) → Q (.ref p) H'
theorem T0.ok_Net__nexts (T : T0 K mg) : FnOk P w K mg base CX0 2 T.a_Net__nexts T.fd_Net__nexts ["self"] (sp_Net__nexts T.C_Net) := by
  refine T.F_Net__nexts.ok sc_Net__nexts (fun vs H Q E h => ?_) (fun cdv A outer s H vs Q E hr h => ?_)
  · obtain ⟨h, dn, db, dl, n, nx, bf, ls, ks, f, rfl, _⟩ := h
    rfl
  · obtain ⟨h, dn, db, dl, n, nx, bf, ls, ks, f, rfl, hN, hk, h64, hnd, hf, q⟩ := h
    obtain ⟨dx, hh⟩ := hN.me
    refine ⟨_, (pss_one (ps_ret (pe_dc (own := [("house", 1)]) (g := gName 1) (by rfl) sc_Net__nexts.nd (pi_list (pe_meth0 (pv 0) T.cl_Net T.me_Net__houses T.ok_Net__houses hr T.b_Net__houses .nil pass0)) (blkOk_by (own := [("house", 1)]) (N := ["self", "house"]) (sc := defScope s_Net__nexts) (by decide +kernel)) (fun _ _ _ _ _ => pg_name (i := 1) sc_Net__nexts.nd rfl (Or.inl rfl)) (fun _ _ _ _ _ => pts_nil) (fun _ _ _ _ _ => (pv 1)) (fun _ _ _ _ _ => (pe_dget (un1 hr) (show PE _ _ (tFld K _ _) from pe_fld (pv 0) rfl) (pv 1) (fun _ _ => rfl)))))), ?_⟩
    refine ⟨_, rfl, h, dx, _, rfl, hh, (by unfold nf; walk_at "lk"), h, dn, db, dl, n, nx, bf, ls, ks, rfl, hN, hk, h64, fun ys l perm pw nl => ?_⟩
    have hl : upd H l (.lst (ys.map V.int)) l = some (.lst (ys.map V.int)) := upd_same
    have sm := same_upd (o := .lst (ys.map V.int)) nl
    generalize upd H l (.lst (ys.map V.int)) = H1 at hl sm
    have ynd : ys.Nodup := perm.nodup_iff.mpr hnd
    have ylen := perm.length_eq
    refine ⟨l, rfl, ⟨_, SqL.of hl⟩, fun D hD => ?_⟩
    refine dc_list (K := K) (a := l) (xs := ys.map V.int) (fun i H' => Same H1 H' ∧ H' D = some (.dK ((ys.take i).map fun y => (.inl y, f y)))) ⟨same_upd hD, upd_same⟩ (fun i H' _ p => SqL.of (p.1 _ _ hl)) (fun i x H' hx pv => ?_) (fun H2 pv => ?_)
    · obtain ⟨s2, e2⟩ := pv
      rw [List.getElem?_map] at hx
      obtain ⟨y, hy, rfl⟩ := Option.map_eq_some_iff.mp hx
      have hN2 := (hN.same sm).same s2
      obtain ⟨dx, hh⟩ := hN2.me
      refine ⟨rfl, lc_yes ?_⟩
      refine ⟨_, rfl, _, rfl, h, _, dx, _, _, rfl, hh, T.cl_Net, T.na_Net__nexts, nf_nexts, _, rfl, dn, _, rfl, dget_of (k := Sum.inl y) hN2.hn (hf y (perm.mem_iff.mp (List.mem_of_getElem? hy))), _, Sum.inl y, rfl, e2, small1000' (by rw [List.length_map, List.length_take]; omega), fun b o e => ?_, ?_⟩
      · rw [upd_ne (ne_of_none e hD)]
        exact s2 b o e
      · rw [upd_same, putK_new _ (valV_none_of (not_in_take ynd hy)), List.take_add_one, hy, List.map_append]
        rfl
    · obtain ⟨s2, e2⟩ := pv
      rw [List.length_map, List.take_length] at e2
      exact q ys D H2 perm pw (Same.trans sm s2) (none_back sm hD) e2
def sp_Net__befores (C : Addr) : Sp := fun vs H Q _ => ∃ (h dn db dl : Addr) (n : Int) (nx bf : List (Key × V)) (ls : List V) (ks : List Int) (f : Int → V), vs = [.ref h] ∧ NetAt C H h n dn db dl nx bf ls ∧ nx.map (·.1) = ks.map Sum.inl ∧ ks.length < 64 ∧ ks.Nodup ∧ (∀ k ∈ ks, valV bf (.inl k) = some (f k)) ∧
  ∀ (ys : List Int) (p : Addr) (H' : Hp), ys.Perm ks → ys.Pairwise (· ≤ ·) → Same H H' → H p = none → H' p = some (.dK ((ys.filter fun y => decide (f y ≠ .non)).map fun y => (.inl y, f y))) → Q (.ref p) H'
theorem filter_step {f : Int → V} {ys : List Int} {i : Nat} {y : Int} (h : ys[i]? = some y) : (ys.take (i + 1)).filter (fun y => decide (f y ≠ .non)) = if f y = .non then (ys.take i).filter (fun y => decide (f y ≠ .non)) else (ys.take i).filter (fun y => decide (f y ≠ .non)) ++ [y] := by
  rw [List.take_add_one, h, List.filter_append]
  show _ ++ List.filter _ [y] = _
  by_cases e : f y = .non
  · rw [if_pos e]
    simp only [List.filter_cons, List.filter_nil, e, ne_eq, not_true_eq_false, decide_false, Bool.false_eq_true, if_false, List.append_nil]
  · rw [if_neg e]
    simp only [List.filter_cons, List.filter_nil, e, ne_eq, not_false_eq_true, decide_true, if_true]
theorem T0.ok_Net__befores (T : T0 K mg) : FnOk P w K mg base CX0 2 T.a_Net__befores T.fd_Net__befores ["self"] (sp_Net__befores T.C_Net) := by
  refine T.F_Net__befores.ok sc_Net__befores (fun vs H Q E h => ?_) (fun cdv A outer s H vs Q E hr h => ?_)
  · obtain ⟨h, dn, db, dl, n, nx, bf, ls, ks, f, rfl, _⟩ := h
    rfl
  · obtain ⟨h, dn, db, dl, n, nx, bf, ls, ks, f, rfl, hN, hk, h64, hnd, hf, q⟩ := h
    obtain ⟨dx, hh⟩ := hN.me
    refine ⟨_, (pss_cons (ps_set (i := 1) sc_Net__befores.nd rfl (Or.inr rfl) (show PE _ _ (tFld K _ _) from pe_fld (pv 0) rfl))
        (pss_one (ps_ret (pe_dc (own := [("house", 2)]) (g := gName 2) (by rfl) sc_Net__befores.nd (pi_list (pe_meth0 (pv 0) T.cl_Net T.me_Net__houses T.ok_Net__houses hr T.b_Net__houses .nil pass0)) (blkOk_by (own := [("house", 2)]) (N := ["self", "befores", "house"]) (sc := defScope s_Net__befores) (by decide +kernel)) (fun _ _ _ _ _ => pg_name (i := 2) sc_Net__befores.nd rfl (Or.inl rfl)) (fun _ _ _ _ _ => pts_one (pt_cmpR op_notN (pe_dget (un1 hr) (pv 1) (pv 2) (fun _ _ => rfl)) pe_non (nomark _))) (fun _ _ _ _ _ => (pv 2)) (fun _ _ _ _ _ => (pe_dget (un1 hr) (pv 1) (pv 2) (fun _ _ => rfl))))))), ?_⟩
    refine ⟨_, rfl, h, _, dx, _, _, rfl, hh, T.cl_Net, T.na_Net__befores, nf_befores, ?_⟩
    refine ⟨_, rfl, h, dx, _, rfl, hh, (by unfold nf; walk_at "lk"), h, dn, db, dl, n, nx, bf, ls, ks, rfl, hN, hk, h64, fun ys l perm pw nl => ?_⟩
    have hl : upd H l (.lst (ys.map V.int)) l = some (.lst (ys.map V.int)) := upd_same
    have sm := same_upd (o := .lst (ys.map V.int)) nl
    generalize upd H l (.lst (ys.map V.int)) = H1 at hl sm
    have ynd : ys.Nodup := perm.nodup_iff.mpr hnd
    have ylen := perm.length_eq
    refine ⟨l, rfl, ⟨_, SqL.of hl⟩, fun D hD => ?_⟩
    refine dc_list (K := K) (a := l) (xs := ys.map V.int) (fun i H' => Same H1 H' ∧ H' D = some (.dK (((ys.take i).filter fun y => decide (f y ≠ .non)).map fun y => (.inl y, f y)))) ⟨same_upd hD, upd_same⟩ (fun i H' _ p => SqL.of (p.1 _ _ hl)) (fun i x H' hx pv => ?_) (fun H2 pv => ?_)
    · obtain ⟨s2, e2⟩ := pv
      rw [List.getElem?_map] at hx
      obtain ⟨y, hy, rfl⟩ := Option.map_eq_some_iff.mp hx
      have hN2 := (hN.same sm).same s2
      have g := dget_of (k := Sum.inl y) hN2.hb (hf y (perm.mem_iff.mp (List.mem_of_getElem? hy)))
      have fs := filter_step (f := f) hy
      refine ⟨rfl, _, rfl, _, rfl, db, _, rfl, g, ?_⟩
      refine ⟨rfl, _, rfl, ?_⟩
      by_cases e : f y = .non
      · rw [if_pos e] at fs
        refine iteF' (by rw [decide_eq_true e]; rfl) ?_
        rw [fs]
        exact ⟨s2, e2⟩
      · rw [if_neg e] at fs
        refine iteT' (by rw [decide_eq_false e]; rfl) ?_
        have nin : y ∉ (ys.take i).filter fun y => decide (f y ≠ .non) := fun m => not_in_take ynd hy (List.mem_filter.mp m).1
        refine ⟨_, rfl, _, rfl, _, rfl, db, _, rfl, g, _, Sum.inl y, rfl, e2, small1000' ?_, fun b o e => ?_, ?_⟩
        · rw [List.length_map]
          refine Nat.le_trans (List.length_filter_le _ _) ?_
          rw [List.length_take]
          omega
        · rw [upd_ne (ne_of_none e hD)]
          exact s2 b o e
        · rw [upd_same, putK_new _ (valV_none_of nin), fs, List.map_append]
          rfl
    · obtain ⟨s2, e2⟩ := pv
      rw [List.length_map, List.take_length] at e2
      exact q ys D H2 perm pw (Same.trans sm s2) (none_back sm hD) e2
theorem NetAt.setl {C a dn db dl : Addr} {H : Hp} {n : Int} {nx bf : List (Key × V)} {ls ls' : List V} (N : NetAt C H a n dn db dl nx bf ls) : NetAt C (upd H dl (.lst ls')) a n dn db dl nx bf ls' where
  me := let ⟨dx, e⟩ := N.me; ⟨dx, (upd_ne (fun z => by rw [z, N.hl] at e; cases e)).trans e⟩
  hn := (upd_ne (fun z => by have e := N.hn; rw [z, N.hl] at e; cases e)).trans N.hn
  hb := (upd_ne (fun z => by have e := N.hb; rw [z, N.hl] at e; cases e)).trans N.hb
  hl := upd_same
theorem NetAt.setb {C a dn db dl : Addr} {H : Hp} {n : Int} {nx bf bf' : List (Key × V)} {ls : List V} (N : NetAt C H a n dn db dl nx bf ls) (ne : db ≠ dn) : NetAt C (upd H db (.dK bf')) a n dn db dl nx bf' ls where
  me := let ⟨dx, e⟩ := N.me; ⟨dx, (upd_ne (fun z => by rw [z, N.hb] at e; cases e)).trans e⟩
  hn := (upd_ne (Ne.symm ne)).trans N.hn
  hb := upd_same
  hl := (upd_ne (fun z => by have e := N.hl; rw [z, N.hb] at e; cases e)).trans N.hl
theorem NetAt.setn {C a dn db dl : Addr} {H : Hp} {n : Int} {nx nx' bf : List (Key × V)} {ls : List V} (N : NetAt C H a n dn db dl nx bf ls) (ne : db ≠ dn) : NetAt C (upd H dn (.dK nx')) a n dn db dl nx' bf ls where
  me := let ⟨dx, e⟩ := N.me; ⟨dx, (upd_ne (fun z => by rw [z, N.hn] at e; cases e)).trans e⟩
  hn := upd_same
  hb := (upd_ne ne).trans N.hb
  hl := (upd_ne (fun z => by have e := N.hl; rw [z, N.hn] at e; cases e)).trans N.hl
theorem scal_ok {x y : V} (h : okB x) (g : okB y) : scal x y = true := by
  rcases h with rfl | ⟨i, rfl⟩ <;> rcases g with rfl | ⟨j, rfl⟩ <;> rfl
theorem okB_hB {n p : Int} {b : V} {L : Let} (h : okB b) : okB (hB n p b L) := by
  cases L with
  | tell r u =>
    show okB (hTell n p u b)
    unfold hTell
    split <;> first | exact .inr ⟨_, rfl⟩ | assumption | (split <;> first | exact .inr ⟨_, rfl⟩ | assumption)
  | ask r u => exact h
  | answer r u m => exact h
def Let.to : Let → Int
  | .tell r _ => r
  | .ask r _ => r
  | .answer r _ _ => r
theorem Let.at1 (L : Let) : atI L.vals (1 : Int) = some (.int L.to) := by cases L <;> rfl
/-- what reading leaves: the two dicts, the letters, what is returned -/
structure RdPost (C h dn db dl : Addr) (n r x : Int) (b : V) (L : Let) (nx bf : List (Key × V)) (ls : List V) (H H' : Hp) (v : V) : Prop where
  keep : ∀ a o, a ≠ dn → a ≠ db → a ≠ dl → H a = some o → H' a = some o
  net : NetAt C H' h n dn db dl (if hA r b L = none ∧ hB n r b L = b ∧ hN n r x L ≠ x then putK nx (.inl r) (.int (hN n r x L)) else nx) (if hA r b L = none ∧ hB n r b L ≠ b then putK bf (.inl r) (hB n r b L) else bf) ls
  told : ∃ a, v = .ref a ∧ H' a = some (.tup (if hA r b L ≠ none then [.str "wrote", .int r, hB n r b L] else if hB n r b L ≠ b then [.str "before", .int r, hB n r b L] else if hN n r x L ≠ x then [.str "next", .int r, .int (hN n r x L)] else [.str "kept", .int r, .non]))
def sp_Net__read (K : PySem.W.Frag) (C : Addr) : Sp := fun vs H Q _ => ∃ (h dn db dl lt : Addr) (n x : Int) (b : V) (k : Nat) (L : Let) (nx bf : List (Key × V)) (ls : List V), vs = [.ref h, .int k] ∧ NetAt C H h n dn db dl nx bf ls ∧ ls[k]? = some (.ref lt) ∧ H lt = some (.tup L.vals) ∧ valV nx (.inl L.to) = some (.int x) ∧ valV bf (.inl L.to) = some b ∧ okB b ∧ 0 < n ∧ db ≠ dn ∧ nx.length ≤ 1000 ∧ bf.length ≤ 1000 ∧ ls.length ≤ 1000 ∧
  ∀ H' v ls', (match hA L.to b L with | none => ls' = ls.eraseIdx k | some ys => ∃ a, ls' = ls.eraseIdx k ++ [.ref a] ∧ H' a = some (.tup ys)) → RdPost C h dn db dl n L.to x b L nx bf ls' H H' v → Q v H'
theorem T0.ok_Net__read (T : T0 K mg) : FnOk P w K mg base CX0 5 T.a_Net__read T.fd_Net__read ["self", "at"] (sp_Net__read K T.C_Net) := by
  refine T.F_Net__read.ok sc_Net__read (fun vs H Q E h => ?_) (fun cdv A outer s H vs Q E hr h => ?_)
  · obtain ⟨h, dn, db, dl, lt, n, x, b, k, L, nx, bf, ls, rfl, _⟩ := h
    rfl
  · obtain ⟨h, dn, db, dl, lt, n, x, b, k, L, nx, bf, ls, rfl, hN, hv, hlt, hx, hb, ob, hn, ne, z1, z2, z3, q⟩ := h
    obtain ⟨dx, hh⟩ := hN.me
    have hk := (List.getElem?_eq_some_iff.mp hv).1
    refine ⟨_, (pss_cons (ps_expr (pe_meth (pv 0) T.cl_Net T.me_Net__check_letter T.ok_Net__check_letter (hr.mono (by decide)) T.b_Net__check_letter .nil pass0 (pa_cons (pv 1) pa_nil)))
        (pss_cons (ps_set (i := 2) sc_Net__read.nd rfl (Or.inl rfl) (pe_bm PySem.F.plainAttrs_list PySem.F.slot_list_pop PySem.F.type_list_pop mt_popAt (show PE _ _ (tFld K _ _) from pe_fld (pv 0) rfl) (pa_cons (pv 1) pa_nil)))
        (pss_cons (ps_set (i := 3) sc_Net__read.nd rfl (Or.inl rfl) (pe_ix (ix_tupK (K := K)) (pv 2) pe_int (fun _ _ => rfl)))
        (pss_cons (ps_set (i := 4) sc_Net__read.nd rfl (Or.inl rfl) (pe_meth (pv 0) T.cl_Net T.me_Net__house_at T.ok_Net__house_at (hr.mono (by decide)) T.b_Net__house_at .nil pass0 (pa_cons (pv 3) pa_nil)))
        (pss_cons (ps_set (i := 5) sc_Net__read.nd rfl (Or.inl rfl) (pe_meth (pv 4) T.cl_House T.me_House__hear T.ok_House__hear hr T.b_House__hear .nil pass0 (pa_cons (pv 2) pa_nil)))
        (pss_cons (ps_if (pt_cmpR op_notN (pv 5) pe_non (nomark _)) (pss_cons (ps_expr (pe_meth (pv 0) T.cl_Net T.me_Net__send T.ok_Net__send (hr.mono (by decide)) T.b_Net__send .nil pass0 (pa_cons (pv 5) pa_nil)))
        (pss_one (ps_ret (pe_tup (pa_cons pe_str (pa_cons (pv 3) (pa_cons (show PE _ _ (tFld K _ _) from pe_fld (pv 4) rfl) pa_nil))))))) pss_nil)
        (pss_cons (ps_if (pt_cmpR op_ne (show PE _ _ (tFld K _ _) from pe_fld (pv 4) rfl) (pe_dget (un1 hr) (show PE _ _ (tFld K _ _) from pe_fld (pv 0) rfl) (pv 3) (fun _ _ => rfl)) (nomark _)) (pss_cons (ps_asg (show PE _ _ (tFld K _ _) from pe_fld (pv 4) rfl) (pg_sub (show PE _ _ (tFld K _ _) from pe_fld (pv 0) rfl) (pv 3) (set_dict (un1 hr))))
        (pss_one (ps_ret (pe_tup (pa_cons pe_str (pa_cons (pv 3) (pa_cons (show PE _ _ (tFld K _ _) from pe_fld (pv 4) rfl) pa_nil))))))) pss_nil)
        (pss_cons (ps_if (pt_cmpR op_ne (show PE _ _ (tFld K _ _) from pe_fld (pv 4) rfl) (pe_dget (un1 hr) (show PE _ _ (tFld K _ _) from pe_fld (pv 0) rfl) (pv 3) (fun _ _ => rfl)) (nomark _)) (pss_cons (ps_asg (show PE _ _ (tFld K _ _) from pe_fld (pv 4) rfl) (pg_sub (show PE _ _ (tFld K _ _) from pe_fld (pv 0) rfl) (pv 3) (set_dict (un1 hr))))
        (pss_one (ps_ret (pe_tup (pa_cons pe_str (pa_cons (pv 3) (pa_cons (show PE _ _ (tFld K _ _) from pe_fld (pv 4) rfl) pa_nil))))))) pss_nil)
        (pss_one (ps_ret (pe_tup (pa_cons pe_str (pa_cons (pv 3) (pa_cons pe_non pa_nil)))))))))))))), ?_⟩
    refine ⟨_, rfl, h, dx, _, rfl, hh, (by unfold nf; walk_at "lk"), _, rfl, h, dn, db, dl, n, k, nx, bf, ls, rfl, hN, by omega, by omega, ?_⟩
    refine ⟨_, rfl, h, _, dx, _, _, rfl, hh, T.cl_Net, T.na_Net__letters, nf_letters, .inl ⟨rfl, _, SqL.of hN.hl⟩, _, rfl, dl, ls, k, k, .ref lt, rfl, rfl, hN.hl, by omega, by omega, seq_nat hk, hv, ?_⟩
    have off : ∀ {a : Addr} {o : HO}, H a = some o → (∀ xs, o ≠ .lst xs) → a ≠ dl := fun e no z => by rw [z, hN.hl] at e; exact no _ (Option.some.inj e).symm
    have k1 : ∀ a o, a ≠ dl → H a = some o → upd H dl (.lst (ls.eraseIdx k)) a = some o := fun a o na e => (upd_ne na).trans e
    have N1 : NetAt T.C_Net (upd H dl (.lst (ls.eraseIdx k))) h n dn db dl nx bf (ls.eraseIdx k) := ⟨⟨dx, k1 _ _ (off hh fun _ z => nomatch z) hh⟩, k1 _ _ (off hN.hn fun _ z => nomatch z) hN.hn, k1 _ _ (off hN.hb fun _ z => nomatch z) hN.hb, upd_same⟩
    have lt1 := k1 _ _ (off hlt fun _ z => nomatch z) hlt
    generalize upd H dl (.lst (ls.eraseIdx k)) = H1 at k1 N1 lt1
    obtain ⟨dx, hh1⟩ := N1.me
    refine ⟨_, rfl, lt, _, 1, _, rfl, rfl, SqT.of lt1, L.at1, ?_⟩
    refine ⟨_, rfl, h, dx, _, rfl, hh1, (by unfold nf; walk_at "lk"), _, rfl, h, dn, db, dl, n, L.to, x, b, nx, bf, _, rfl, N1, hx, hb, fun H2 r2 sm nr hA1 => ?_⟩
    obtain ⟨d2, hA2⟩ := id hA1
    refine ⟨_, rfl, r2, d2, _, rfl, hA2, (by unfold hf; walk_at "lk"), _, rfl, r2, lt, n, L.to, x, b, L, rfl, hA1, ob, hn, SqT.of (sm _ _ lt1), fun v H3 hA3 k3 post => ?_⟩
    have k2 : ∀ a o, a ≠ dl → H a = some o → H3 a = some o := fun a o na e => k3 _ _ (ne_of_none (k1 _ _ na e) nr) (sm _ _ (k1 _ _ na e))
    have kp3 : Same H1 H3 := fun a o e => k3 _ _ (ne_of_none e nr) (sm _ _ e)
    have N3 := N1.same kp3
    obtain ⟨dx, hh3⟩ := N3.me
    have nd : r2 ≠ dl := fun z => by rw [z, N1.hl] at nr; cases nr
    have ndb : r2 ≠ db := fun z => by rw [z, N1.hb] at nr; cases nr
    have ndn : r2 ≠ dn := fun z => by rw [z, N1.hn] at nr; cases nr
    have le : (ls.eraseIdx k).length ≤ 1000 := Nat.le_trans (List.length_eraseIdx_le _ _) z3
    obtain ⟨d3, hA3'⟩ := id hA3
    cases eA : hA L.to b L with
    | some ys =>
      rw [eA] at post
      obtain ⟨a, rfl, hy⟩ := post
      refine ⟨_, rfl, rfl, _, rfl, ?_⟩
      refine iteT' (by rw [decide_eq_false (fun z => nomatch z)]; rfl) ?_
      refine ⟨_, rfl, h, dx, _, rfl, hh3, (by unfold nf; walk_at "lk"), _, rfl, h, dn, db, dl, n, nx, bf, _, .ref a, rfl, N3, by omega, ?_⟩
      refine ⟨_, rfl, _, rfl, r2, _, d3, _, _, rfl, (upd_ne nd).trans hA3', T.cl_House, T.na_House_before, hf_before, lenL (by show 3 ≤ 100000; decide), fun p np => ?_⟩
      have ap : a ≠ dl := fun z => by rw [z, N3.hl] at hy; cases hy
      have hy4 : upd H3 dl (.lst (ls.eraseIdx k ++ [.ref a])) a = some (.tup ys) := (upd_ne ap).trans hy
      refine q _ _ (ls.eraseIdx k ++ [.ref a]) ?_ ⟨fun c o n1 n2 n3 e => ?_, ?_, p, rfl, ?_⟩
      · rw [eA]
        exact ⟨a, rfl, (upd_ne (ne_of_none hy4 np)).trans hy4⟩
      · have e4 : upd H3 dl (.lst (ls.eraseIdx k ++ [.ref a])) c = some o := (upd_ne n3).trans (k2 c o n3 e)
        exact (upd_ne (ne_of_none e4 np)).trans e4
      · rw [eA]
        rw [if_neg (fun z => nomatch z.1), if_neg (fun z => nomatch z.1)]
        exact (N3.setl).same (same_upd np)
      · rw [eA, upd_same, if_pos (fun z => nomatch z)]
    | none =>
      rw [eA] at post
      subst post
      refine ⟨_, rfl, rfl, _, rfl, ?_⟩
      refine iteF' (by rfl) ?_
      have okb := okB_hB (n := n) (p := L.to) (L := L) ob
      refine ⟨_, rfl, r2, _, d3, _, _, rfl, hA3', T.cl_House, T.na_House_before, hf_before, _, rfl, h, _, dx, _, _, rfl, hh3, T.cl_Net, T.na_Net__befores, nf_befores, _, rfl, db, b, rfl, dget_of N3.hb hb, scal_ok okb ob, _, rfl, ?_⟩
      by_cases eb : hB n L.to b L = b
      · refine iteF' (by rw [decide_eq_true eb]; rfl) ?_
        refine ⟨_, rfl, r2, _, d3, _, _, rfl, hA3', T.cl_House, T.na_House_next_house, hf_next, _, rfl, h, _, dx, _, _, rfl, hh3, T.cl_Net, T.na_Net__nexts, nf_nexts, _, rfl, dn, _, rfl, dget_of N3.hn hx, rfl, _, rfl, ?_⟩
        by_cases ex : Z.hN n L.to x L = x
        · refine iteF' (by rw [decide_eq_true (congrArg V.int ex)]; rfl) ?_
          refine ⟨_, rfl, lenL (by show 3 ≤ 100000; decide), fun p np => q _ _ (ls.eraseIdx k) (by rw [eA]) ⟨fun c o n1 n2 n3 e => ?_, ?_, p, rfl, ?_⟩⟩
          · exact (upd_ne (ne_of_none (k2 c o n3 e) np)).trans (k2 c o n3 e)
          · rw [if_neg (fun z => z.2.2 ex), if_neg (fun z => z.2 eb)]
            exact N3.same (same_upd np)
          · rw [upd_same, if_neg (fun z => z eA), if_neg (fun z => z eb), if_neg (fun z => z ex)]
        · refine iteT' (by rw [decide_eq_false (fun z => ex (V.int.inj z))]; rfl) ?_
          refine ⟨_, rfl, r2, _, d3, _, _, rfl, hA3', T.cl_House, T.na_House_next_house, hf_next, ?_⟩
          refine ⟨_, rfl, h, _, dx, _, _, rfl, hh3, T.cl_Net, T.na_Net__nexts, nf_nexts, _, rfl, dn, _, rfl, DPut.k (k := Sum.inl L.to) N3.hn (small1000' (by omega)), ?_⟩
          refine ⟨_, rfl, _, rfl, r2, _, d3, _, _, rfl, (upd_ne ndn).trans hA3', T.cl_House, T.na_House_next_house, hf_next, lenL (by show 3 ≤ 100000; decide), fun p np => q _ _ (ls.eraseIdx k) (by rw [eA]) ⟨fun c o n1 n2 n3 e => ?_, ?_, p, rfl, ?_⟩⟩
          · have e4 := (upd_ne (o := .dK (putK nx (Sum.inl L.to) (.int (Z.hN n L.to x L)))) n1).trans (k2 c o n3 e)
            exact (upd_ne (ne_of_none e4 np)).trans e4
          · rw [if_pos ⟨eA, eb, ex⟩, if_neg (fun z => z.2 eb)]
            exact (N3.setn ne).same (same_upd np)
          · rw [upd_same, if_neg (fun z => z eA), if_neg (fun z => z eb), if_pos ex]
      · refine iteT' (by rw [decide_eq_false eb]; rfl) ?_
        refine ⟨_, rfl, r2, _, d3, _, _, rfl, hA3', T.cl_House, T.na_House_before, hf_before, ?_⟩
        refine ⟨_, rfl, h, _, dx, _, _, rfl, hh3, T.cl_Net, T.na_Net__befores, nf_befores, _, rfl, db, _, rfl, DPut.k (k := Sum.inl L.to) N3.hb (small1000' (by omega)), ?_⟩
        refine ⟨_, rfl, _, rfl, r2, _, d3, _, _, rfl, (upd_ne ndb).trans hA3', T.cl_House, T.na_House_before, hf_before, lenL (by show 3 ≤ 100000; decide), fun p np => q _ _ (ls.eraseIdx k) (by rw [eA]) ⟨fun c o n1 n2 n3 e => ?_, ?_, p, rfl, ?_⟩⟩
        · have e4 := (upd_ne (o := .dK (putK bf (Sum.inl L.to) (hB n L.to b L))) n2).trans (k2 c o n3 e)
          exact (upd_ne (ne_of_none e4 np)).trans e4
        · rw [if_neg (fun z => eb z.2.1), if_pos ⟨eA, eb⟩]
          exact (N3.setb ne).same (same_upd np)
        · rw [upd_same, if_neg (fun z => z eA), if_pos eb]
def sp_Net__check_letters (K : PySem.W.Frag) (C : Addr) : Sp := fun vs H Q _ => ∃ (h dn db dl : Addr) (n : Int) (nx bf : List (Key × V)) (ls : List V), vs = [.ref h] ∧ NetAt C H h n dn db dl nx bf ls ∧ ls.length ≤ 1000 ∧ (∀ v ∈ ls, ∃ (a : Addr) (z : Str) (qs : List Int), v = .ref a ∧ H a = some (.tup (.str z :: qs.map V.int)) ∧ ∀ q ∈ qs, (valV nx (.inl q)).isSome = true) ∧ ∀ H', Same H H' → Q .non H'
theorem T0.ok_Net__check_letters (T : T0 K mg) : FnOk P w K mg base CX0 2 T.a_Net__check_letters T.fd_Net__check_letters ["self"] (sp_Net__check_letters K T.C_Net) := by
  refine T.F_Net__check_letters.ok sc_Net__check_letters (fun vs H Q E h => ?_) (fun cdv A outer s H vs Q E hr h => ?_)
  · obtain ⟨h, dn, db, dl, n, nx, bf, ls, rfl, _⟩ := h
    rfl
  · obtain ⟨h, dn, db, dl, n, nx, bf, ls, rfl, hN, hz, hl, q⟩ := h
    obtain ⟨dx, hh⟩ := hN.me
    refine ⟨_, (pss_one (ps_for PassesOwn.never rfl (pi_list (show PE _ _ (tFld K _ _) from pe_fld (pv 0) rfl)) (pg_name (i := 1) sc_Net__check_letters.nd rfl (Or.inl rfl)) (pss_one (ps_for PassesOwn.never rfl (pi_tup (pe_slice (sl_tupK (K := K)) (pv 1) (po_some pe_int) po_none)) (pg_name (i := 2) sc_Net__check_letters.nd rfl (Or.inl rfl)) (pss_one (ps_expr (pe_meth (pv 0) T.cl_Net T.me_Net__check_house T.ok_Net__check_house hr T.b_Net__check_house .nil pass0 (pa_cons (pv 2) pa_nil)))))))), ?_⟩
    refine ⟨_, rfl, h, _, dx, _, _, rfl, hh, T.cl_Net, T.na_Net__letters, nf_letters, dl, rfl, ⟨_, SqL.of hN.hl⟩, ?_⟩
    refine for_list (K := K) (a := dl) (xs := ls) (fun i σ' H' => ∃ o1 o2, σ' = [some (.ref h), o1, o2] ∧ Same H H') ⟨none, none, rfl, fun _ _ e => e⟩ (fun i σ' H' _ p => by obtain ⟨_, _, _, s⟩ := p; exact SqL.of (s _ _ hN.hl)) (fun i v σ' H1 hv p => ?_) (fun σ' H1 p => ?_)
    · obtain ⟨o1, o2, rfl, s1⟩ := p
      obtain ⟨a, z, qs, rfl, ha, hq⟩ := hl v (List.mem_of_getElem? hv)
      have i1 : HT.sIx (V.str z :: qs.map V.int).length 0 (some (1 : Int)) = 1 := by rw [show (1 : Int) = ((1 : Nat) : Int) from rfl, HT.sIx_nat, List.length_cons]; omega
      have cut : cutV (V.str z :: qs.map V.int) (some 1) none = qs.map V.int := by
        unfold cutV
        rw [i1, HT.sIx_none, List.take_of_length_le (by rw [List.length_drop]; exact Nat.le_refl _)]
        rfl
      refine ⟨_, rfl, 1, rfl, a, _, rfl, SqT.of (s1 _ _ ha), (fun y => by rw [i1] at y; exact absurd y.1 (by decide)), fun u nu => ?_⟩
      rw [cut]
      have hu : upd H1 u (.tup (qs.map V.int)) u = some (.tup (qs.map V.int)) := upd_same
      have s2 := Same.trans s1 (same_upd (o := .tup (qs.map V.int)) nu)
      generalize upd H1 u (.tup (qs.map V.int)) = H2 at hu s2
      refine ⟨u, rfl, ⟨_, SqT.of hu⟩, ?_⟩
      refine for_tup (K := K) (a := u) (xs := qs.map V.int) (fun j σ' H' => ∃ o2, σ' = [some (.ref h), some (.ref a), o2] ∧ Same H2 H') ⟨o2, rfl, fun _ _ e => e⟩ (fun j σ' H' _ p => by obtain ⟨_, _, s⟩ := p; exact SqT.of (s _ _ hu)) (fun j v σ' H3 hv p => ?_) (fun σ' H3 p => ?_)
      · obtain ⟨o2, rfl, s3⟩ := p
        rw [List.getElem?_map] at hv
        obtain ⟨y, hy, rfl⟩ := Option.map_eq_some_iff.mp hv
        have N3 := hN.same (Same.trans s2 s3)
        obtain ⟨dx, hh⟩ := N3.me
        exact ⟨_, rfl, h, dx, _, rfl, hh, (by unfold nf; walk_at "lk"), _, rfl, h, dn, db, dl, n, y, nx, bf, ls, rfl, N3, hq y (List.mem_of_getElem? hy), _, rfl, s3⟩
      · obtain ⟨o2, rfl, s3⟩ := p
        exact ⟨_, _, rfl, Same.trans s2 s3⟩
    · obtain ⟨o1, o2, rfl, s1⟩ := p
      exact q H1 s1
def sp_Net__check_places (C : Addr) : Sp := fun vs H Q _ => ∃ (h dn db dl : Addr) (n : Int) (nx bf : List (Key × V)) (ls : List V) (ks : List Int), vs = [.ref h] ∧ NetAt C H h n dn db dl nx bf ls ∧ nx.map (·.1) = ks.map Sum.inl ∧ ks.length < 64 ∧ (∀ k ∈ ks, 0 ≤ k ∧ k < n ∧ ∃ x, valV nx (.inl k) = some (.int x) ∧ (valV nx (.inl x)).isSome = true) ∧ ∀ H', Same H H' → Q .non H'
theorem T0.ok_Net__check_places (T : T0 K mg) : FnOk P w K mg base CX0 2 T.a_Net__check_places T.fd_Net__check_places ["self"] (sp_Net__check_places T.C_Net) := by
  refine T.F_Net__check_places.ok sc_Net__check_places (fun vs H Q E h => ?_) (fun cdv A outer s H vs Q E hr h => ?_)
  · obtain ⟨h, dn, db, dl, n, nx, bf, ls, ks, rfl, _⟩ := h
    rfl
  · obtain ⟨h, dn, db, dl, n, nx, bf, ls, ks, rfl, hN, hk, h64, hv, q⟩ := h
    obtain ⟨dx, hh⟩ := hN.me
    refine ⟨_, (pss_cons (ps_for PassesOwn.never rfl (pi_list (pe_meth0 (pv 0) T.cl_Net T.me_Net__houses T.ok_Net__houses hr T.b_Net__houses .nil pass0)) (pg_name (i := 1) sc_Net__check_places.nd rfl (Or.inl rfl)) (pss_one (ps_expr (pe_call T.ok_check_on_circle hr (by rfl) T.g_check_on_circle T.k_check_on_circle T.b_check_on_circle .nil pass0 (pa_cons (show PE _ _ (tFld K _ _) from pe_fld (pv 0) rfl) (pa_cons (pv 1) pa_nil))))))
        (pss_one (ps_for PassesOwn.never rfl (pi_list (pe_meth0 (pv 0) T.cl_Net T.me_Net__houses T.ok_Net__houses hr T.b_Net__houses .nil pass0)) (pg_name (i := 1) sc_Net__check_places.nd rfl (Or.inl rfl)) (pss_one (ps_expr (pe_meth (pv 0) T.cl_Net T.me_Net__check_house T.ok_Net__check_house hr T.b_Net__check_house .nil pass0 (pa_cons (pe_dget (un1 hr) (show PE _ _ (tFld K _ _) from pe_fld (pv 0) rfl) (pv 1) (fun _ _ => rfl)) pa_nil))))))), ?_⟩
    refine ⟨_, rfl, h, dx, _, rfl, hh, (by unfold nf; walk_at "lk"), h, dn, db, dl, n, nx, bf, ls, ks, rfl, hN, hk, h64, fun ys l perm pw nl => ?_⟩
    have hl : upd H l (.lst (ys.map V.int)) l = some (.lst (ys.map V.int)) := upd_same
    have sm := same_upd (o := .lst (ys.map V.int)) nl
    generalize upd H l (.lst (ys.map V.int)) = H1 at hl sm
    refine ⟨l, rfl, ⟨_, SqL.of hl⟩, ?_⟩
    refine for_list (K := K) (a := l) (xs := ys.map V.int) (fun i σ' H' => ∃ o1, σ' = [some (.ref h), o1] ∧ H1 = H') ⟨none, rfl, rfl⟩ (fun i σ' H' _ p => by obtain ⟨_, _, rfl⟩ := p; exact SqL.of hl) (fun i v σ' H' hv' p => ?_) (fun σ' H' p => ?_)
    · obtain ⟨o1, rfl, rfl⟩ := p
      rw [List.getElem?_map] at hv'
      obtain ⟨y, hy, rfl⟩ := Option.map_eq_some_iff.mp hv'
      have N1 := hN.same sm
      obtain ⟨dx, hh⟩ := N1.me
      obtain ⟨y0, y1, _⟩ := hv y (perm.mem_iff.mp (List.mem_of_getElem? hy))
      exact ⟨_, rfl, h, _, dx, _, _, rfl, hh, T.cl_Net, T.na_Net_size, nf_size, _, rfl, n, y, rfl, y0, y1, _, rfl, rfl⟩
    obtain ⟨o1, rfl, rfl⟩ := p
    have N1 := hN.same sm
    obtain ⟨dx, hh⟩ := N1.me
    refine ⟨_, rfl, h, dx, _, rfl, hh, (by unfold nf; walk_at "lk"), h, dn, db, dl, n, nx, bf, ls, ks, rfl, N1, hk, h64, fun ys l perm pw nl => ?_⟩
    have hl : upd H1 l (.lst (ys.map V.int)) l = some (.lst (ys.map V.int)) := upd_same
    have sm2 := Same.trans sm (same_upd (o := .lst (ys.map V.int)) nl)
    generalize upd H1 l (.lst (ys.map V.int)) = H2 at hl sm2
    refine ⟨l, rfl, ⟨_, SqL.of hl⟩, ?_⟩
    refine for_list (K := K) (a := l) (xs := ys.map V.int) (fun i σ' H' => ∃ o1, σ' = [some (.ref h), o1] ∧ H2 = H') ⟨_, rfl, rfl⟩ (fun i σ' H' _ p => by obtain ⟨_, _, rfl⟩ := p; exact SqL.of hl) (fun i v σ' H' hv' p => ?_) (fun σ' H' p => ?_)
    · obtain ⟨o1, rfl, rfl⟩ := p
      rw [List.getElem?_map] at hv'
      obtain ⟨y, hy, rfl⟩ := Option.map_eq_some_iff.mp hv'
      have N2 := hN.same sm2
      obtain ⟨dx, hh⟩ := N2.me
      obtain ⟨_, _, x, hx, hx2⟩ := hv y (perm.mem_iff.mp (List.mem_of_getElem? hy))
      refine ⟨_, rfl, h, dx, _, rfl, hh, (by unfold nf; walk_at "lk"), _, rfl, h, _, dx, _, _, rfl, hh, T.cl_Net, T.na_Net__nexts, nf_nexts, _, rfl, dn, _, rfl, dget_of (k := Sum.inl y) N2.hn hx, h, dn, db, dl, n, x, nx, bf, ls, rfl, N2, hx2, _, rfl, rfl⟩
    · obtain ⟨o1, rfl, rfl⟩ := p
      exact q _ sm2
def sp_Net__take_befores (C : Addr) : Sp := fun vs H Q _ => ∃ (h dn db dl d : Addr) (n : Int) (nx bf bs : List (Key × V)) (ls : List V) (js : List Int), vs = [.ref h, .ref d] ∧ NetAt C H h n dn db dl nx bf ls ∧ H d = some (.dK bs) ∧ bs.map (·.1) = js.map Sum.inl ∧ js.length < 64 ∧ (∀ j ∈ js, (valV nx (.inl j)).isSome = true ∧ ∃ x, valV bs (.inl j) = some (.int x) ∧ (valV nx (.inl x)).isSome = true) ∧ d ≠ db ∧ db ≠ dn ∧ bf.length ≤ 1000 ∧
  ∀ H' bf', NetAt C H' h n dn db dl nx bf' ls → (∀ a o, a ≠ db → H a = some o → H' a = some o) → (∀ p : Int, valV bf' (.inl p) = if p ∈ js then valV bs (.inl p) else valV bf (.inl p)) → bf'.length ≤ bf.length + js.length → Q .non H'
theorem T0.ok_Net__take_befores (T : T0 K mg) : FnOk P w K mg base CX0 2 T.a_Net__take_befores T.fd_Net__take_befores ["self", "befores"] (sp_Net__take_befores T.C_Net) := by
  refine T.F_Net__take_befores.ok sc_Net__take_befores (fun vs H Q E h => ?_) (fun cdv A outer s H vs Q E hr h => ?_)
  · obtain ⟨h, dn, db, dl, d, n, nx, bf, bs, ls, js, rfl, _⟩ := h
    rfl
  · obtain ⟨h, dn, db, dl, d, n, nx, bf, bs, ls, js, rfl, hN, hd, hk, h64, hv, ned, ne, hz, q⟩ := h
    refine ⟨_, (pss_one (ps_for PassesOwn.never rfl (pi_list (pe_callB (call_sortedDI rfl) (by rfl) T.m_sorted (by decide +kernel) (pa_cons (pv 1) pa_nil))) (pg_name (i := 2) sc_Net__take_befores.nd rfl (Or.inl rfl)) (pss_cons (ps_expr (pe_meth (pv 0) T.cl_Net T.me_Net__check_house T.ok_Net__check_house hr T.b_Net__check_house .nil pass0 (pa_cons (pv 2) pa_nil)))
        (pss_cons (ps_expr (pe_meth (pv 0) T.cl_Net T.me_Net__check_house T.ok_Net__check_house hr T.b_Net__check_house .nil pass0 (pa_cons (pe_dget (un1 hr) (pv 1) (pv 2) (fun _ _ => rfl)) pa_nil)))
        (pss_one (ps_asg (pe_dget (un1 hr) (pv 1) (pv 2) (fun _ _ => rfl)) (pg_sub (show PE _ _ (tFld K _ _) from pe_fld (pv 0) rfl) (pv 2) (set_dict (un1 hr))))))))), ?_⟩
    refine ⟨_, rfl, d, bs, js, rfl, .inl hd, hk, h64, fun ys l perm pw nl => ?_⟩
    have hl : upd H l (.lst (ys.map V.int)) l = some (.lst (ys.map V.int)) := upd_same
    have sm := same_upd (o := .lst (ys.map V.int)) nl
    generalize upd H l (.lst (ys.map V.int)) = H1 at hl sm
    have ylen := perm.length_eq
    have nldb : l ≠ db := fun z => by rw [z, hN.hb] at nl; cases nl
    refine ⟨l, rfl, ⟨_, SqL.of hl⟩, ?_⟩
    refine for_list (K := K) (a := l) (xs := ys.map V.int) (fun i σ' H' => ∃ o1 bf', σ' = [some (.ref h), some (.ref d), o1] ∧ NetAt T.C_Net H' h n dn db dl nx bf' ls ∧ (∀ a o, a ≠ db → H1 a = some o → H' a = some o) ∧ (∀ p : Int, valV bf' (.inl p) = if p ∈ ys.take i then valV bs (.inl p) else valV bf (.inl p)) ∧ bf'.length ≤ bf.length + i)
      ⟨none, bf, rfl, hN.same sm, fun _ _ _ e => e, fun p => by rw [List.take_zero, if_neg (List.not_mem_nil)], Nat.le_refl _⟩ (fun i σ' H' _ p => by obtain ⟨_, _, _, _, k, _⟩ := p; exact SqL.of (k _ _ nldb hl)) (fun i v σ' H' hv' p => ?_) (fun σ' H' p => ?_)
    · obtain ⟨o1, bf', rfl, N1, k1, vl, ln⟩ := p
      rw [List.getElem?_map] at hv'
      obtain ⟨y, hy, rfl⟩ := Option.map_eq_some_iff.mp hv'
      have hi : i < ys.length := (List.getElem?_eq_some_iff.mp hy).1
      obtain ⟨dx, hh⟩ := N1.me
      obtain ⟨y0, x, hx, hx2⟩ := hv y (perm.mem_iff.mp (List.mem_of_getElem? hy))
      have hd1 := k1 _ _ ned (sm _ _ hd)
      refine ⟨_, rfl, h, dx, _, rfl, hh, (by unfold nf; walk_at "lk"), _, rfl, h, dn, db, dl, n, y, nx, bf', ls, rfl, N1, y0, ?_⟩
      refine ⟨_, rfl, h, dx, _, rfl, hh, (by unfold nf; walk_at "lk"), _, rfl, _, rfl, d, _, rfl, dget_of (k := Sum.inl y) hd1 hx, h, dn, db, dl, n, x, nx, bf', ls, rfl, N1, hx2, ?_⟩
      refine ⟨_, rfl, _, rfl, d, _, rfl, dget_of (k := Sum.inl y) hd1 hx, ?_⟩
      refine ⟨_, rfl, h, _, dx, _, _, rfl, hh, T.cl_Net, T.na_Net__befores, nf_befores, _, rfl, db, _, rfl, DPut.k (k := Sum.inl y) N1.hb (small1000' (by omega)), ?_⟩
      refine ⟨_, _, rfl, N1.setb ne, fun a o na e => (upd_ne na).trans (k1 _ _ na e), fun p => ?_, ?_⟩
      · rw [valV_put, vl p, List.take_add_one, hy, Option.toList_some]
        by_cases e : p = y
        · subst e
          rw [if_pos rfl, if_pos (List.mem_append_right _ (List.mem_singleton.mpr rfl)), hx]
        · have e1 : ¬ (Sum.inl p : Key) = Sum.inl y := fun z => e (Sum.inl.inj z)
          rw [if_neg e1]
          by_cases g : p ∈ ys.take i
          · rw [if_pos g, if_pos (List.mem_append_left _ g)]
          · rw [if_neg g, if_neg (fun z => (List.mem_append.mp z).elim g (fun z => e (List.mem_singleton.mp z)))]
      · have := length_putK bf' (Sum.inl y : Key) (.int x)
        omega
    · obtain ⟨o1, bf', rfl, N1, k1, vl, ln⟩ := p
      refine q H' bf' N1 (fun a o na e => k1 a o na (sm _ _ e)) (fun p => ?_) (by rw [List.length_map] at ln; omega)
      rw [vl p, List.length_map, List.take_length]
      by_cases g : p ∈ ys
      · rw [if_pos g, if_pos (perm.mem_iff.mp g)]
      · rw [if_neg g, if_neg (fun z => g (perm.mem_iff.mpr z))]
def bef (bs : List (Key × V)) (k : Int) : V := (valV bs (.inl k)).getD .non
theorem valV_none_keys {kvs : List (Key × V)} {js : List Int} {p : Int} (h : kvs.map (·.1) = js.map Sum.inl) (hp : p ∉ js) : valV kvs (.inl p) = none := by
  induction kvs generalizing js with
  | nil => rfl
  | cons kv r ih =>
    cases js with
    | nil => cases h
    | cons j js =>
      obtain ⟨k, v⟩ := kv
      have h1 : k = Sum.inl j := (List.cons.inj h).1
      rw [valV_neg (fun e => hp (by rw [h1] at e; rw [Sum.inl.inj e]; exact List.mem_cons_self)), ih (List.cons.inj h).2 (fun m => hp (List.mem_cons_of_mem _ m))]
theorem valV_all_non {ks : List Int} {k : Int} (h : k ∈ ks) : valV (ks.map fun z => ((Sum.inl z : Key), V.non)) (Sum.inl k) = some .non := by
  induction ks with
  | nil => cases h
  | cons z r ih =>
    rw [List.map_cons]
    by_cases e : z = k
    · subst e
      exact valV_pos (p := ((Sum.inl z : Key), V.non)) rfl
    · rw [valV_neg (fun g => e (Sum.inl.inj g))]
      exact ih ((List.mem_cons.mp h).resolve_left (fun g => e g.symm))
def sp_Net__init (K : PySem.W.Frag) (C : Addr) : Sp := fun vs H Q _ => ∃ (h dx d1 d2 pl : Addr) (n : Int) (nx bs : List (Key × V)) (ls : List V) (ks js : List Int), vs = [.ref h, .int n, .ref d1, .ref d2, .ref pl] ∧ H h = some (.ins C dx []) ∧ H d1 = some (.dK nx) ∧ H d2 = some (.dK bs) ∧ H pl = some (.lst ls) ∧
  nx.map (·.1) = ks.map Sum.inl ∧ ks.length < 64 ∧ ks.Nodup ∧ bs.map (·.1) = js.map Sum.inl ∧ js.length < 64 ∧ ls.length ≤ 1000 ∧
  (∀ k ∈ ks, 0 ≤ k ∧ k < n ∧ ∃ x, valV nx (.inl k) = some (.int x) ∧ (valV nx (.inl x)).isSome = true) ∧ (∀ j ∈ js, (valV nx (.inl j)).isSome = true ∧ ∃ x, valV bs (.inl j) = some (.int x) ∧ (valV nx (.inl x)).isSome = true) ∧
  (∀ v ∈ ls, ∃ (a : Addr) (z : Str) (qs : List Int), v = .ref a ∧ H a = some (.tup (.str z :: qs.map V.int)) ∧ ∀ q ∈ qs, (valV nx (.inl q)).isSome = true) ∧
  ∀ H' dn db dl bf, NetAt C H' h n dn db dl nx bf ls → (∀ a o, a ≠ h → H a = some o → H' a = some o) → H dn = none → H db = none → H dl = none → db ≠ dn → (∀ p ∈ ks, valV bf (.inl p) = some (bef bs p)) → bf.length ≤ ks.length + js.length → Q .non H'
theorem T0.ok_Net__init (T : T0 K mg) : FnOk P w K mg base CX0 3 T.a_Net__init T.fd_Net__init ["self", "size", "nexts", "befores", "letters"] (sp_Net__init K T.C_Net) := by
  refine T.F_Net__init.ok sc_Net__init (fun vs H Q E h => ?_) (fun cdv A outer s H vs Q E hr h => ?_)
  · obtain ⟨h, dx, d1, d2, pl, n, nx, bs, ls, ks, js, rfl, _⟩ := h
    rfl
  · obtain ⟨h, dx, d1, d2, pl, n, nx, bs, ls, ks, js, rfl, hh, h1, h2, hpl, hk, h64, hnd, hj, hj64, hz, hv, hw, hu, q⟩ := h
    refine ⟨_, (pss_cons (ps_fld (pv 0) (pv 1) rfl)
        (pss_cons (ps_fld (pv 0) (pe_callTy call_dictD (by rfl) T.m_dict (by decide +kernel) (pa_cons (pv 2) pa_nil)) rfl)
        (pss_cons (ps_fld (pv 0) (pe_lock <| pe_dc (own := [("house", 5)]) (g := gName 5) (by rfl) sc_Net__init.nd (pi_keys (show PE _ _ (tFld K _ _) from pe_fld (pv 0) rfl)) (blkOk_by (own := [("house", 5)]) (N := ["self", "size", "nexts", "befores", "letters", "house"]) (sc := defScope s_Net__init) (by decide +kernel)) (fun _ _ _ _ _ => pg_name (i := 5) sc_Net__init.nd rfl (Or.inl rfl)) (fun _ _ _ _ _ => pts_nil) (fun _ _ _ _ _ => (pv 5)) (fun _ _ _ _ _ => pe_non)) rfl)
        (C8.pss_cut (ps_fld (pv 0) (pe_callTy (call_list_ofK (K := K)) (by rfl) T.m_list (by decide +kernel) (pa_cons (show PE _ _ (tOrT K _ _) from pe_orT (pv 4) (pe_one (pe_lst pa_nil))) pa_nil)) rfl)
        (pss_cons (ps_expr (pe_meth0 (pv 0) T.cl_Net T.me_Net__check_places T.ok_Net__check_places hr T.b_Net__check_places .nil pass0))
        (C8.pss_cut (ps_expr (pe_meth (pv 0) T.cl_Net T.me_Net__take_befores T.ok_Net__take_befores hr T.b_Net__take_befores .nil pass0 (pa_cons (show PE _ _ (tOrT K _ _) from pe_orT (pv 3) (pe_one pe_dnewK)) pa_nil)))
        (pss_one (ps_expr (pe_meth0 (pv 0) T.cl_Net T.me_Net__check_letters T.ok_Net__check_letters hr T.b_Net__check_letters .nil pass0))))))))), ?_⟩
    have nd1 : h ≠ d1 := fun e => by rw [e, h1] at hh; cases hh
    have nd2 : h ≠ d2 := fun e => by rw [e, h2] at hh; cases hh
    have npl : h ≠ pl := fun e => by rw [e, hpl] at hh; cases hh
    refine ⟨_, rfl, _, rfl, h, _, dx, [], rfl, hh, T.cl_Net, T.na_Net_size, (by show 0 < 1000; decide), ?_⟩
    refine ⟨_, rfl, d1, nx, rfl, .inl ((upd_ne nd1.symm).trans h1), fun dn ndn => ?_⟩
    have e1 : h ≠ dn := fun e => by rw [← e, upd_same] at ndn; cases ndn
    have ndn0 : H dn = none := by rw [upd_ne e1.symm] at ndn; exact ndn
    refine ⟨_, rfl, h, _, dx, _, rfl, (upd_ne e1).trans upd_same, T.cl_Net, T.na_Net__nexts, (by show 1 < 1000; decide), ?_⟩
    have k3 : ∀ a o, a ≠ h → H a = some o → upd (upd (upd H h (.ins T.C_Net dx (putF "size" (.int n) []))) dn (.dK nx)) h (.ins T.C_Net dx (putF "_nexts" (.ref dn) (putF "size" (.int n) []))) a = some o := fun a o na e => by
      rw [upd_ne na, upd_ne (ne_of_none e ndn0), upd_ne na]
      exact e
    have hdn : upd (upd (upd H h (.ins T.C_Net dx (putF "size" (.int n) []))) dn (.dK nx)) h (.ins T.C_Net dx (putF "_nexts" (.ref dn) (putF "size" (.int n) []))) dn = some (.dK nx) := (upd_ne e1.symm).trans upd_same
    have hh3 : upd (upd (upd H h (.ins T.C_Net dx (putF "size" (.int n) []))) dn (.dK nx)) h (.ins T.C_Net dx (putF "_nexts" (.ref dn) (putF "size" (.int n) []))) h = some (.ins T.C_Net dx (putF "_nexts" (.ref dn) (putF "size" (.int n) []))) := upd_same
    generalize upd (upd (upd H h (.ins T.C_Net dx (putF "size" (.int n) []))) dn (.dK nx)) h (.ins T.C_Net dx (putF "_nexts" (.ref dn) (putF "size" (.int n) []))) = H3 at k3 hdn hh3
    refine ⟨dn, nx, hdn, fun od => ?_⟩
    refine ⟨_, rfl, h, _, dx, _, _, rfl, (upd_ne e1).trans hh3, T.cl_Net, T.na_Net__nexts, (by walk_at "pf"; walk_at "lk"), dn, od, rfl, .inl ⟨nx, upd_same, fun D hD => ?_⟩⟩
    have nDdn : D ≠ dn := fun z => by rw [z, upd_same] at hD; cases hD
    refine dc_it walk_keys (fun i H' => Same (upd H3 dn (.frz od (.dK nx))) H' ∧ H' D = some (.dK ((ks.take i).map fun k => (.inl k, .non)))) ⟨same_upd hD, upd_same⟩ (fun i H' _ p => p.1 _ _ upd_same) (fun i x H4 H5 hi pv hy => ?_) (fun H4 pv => ?_)
    · obtain ⟨rfl, k, v, hkv, rfl⟩ := hy
      obtain ⟨s4, e4⟩ := pv
      have hki : ks[i]?.map (Sum.inl : Int → Key) = some k := by rw [← List.getElem?_map, ← hk, List.getElem?_map, hkv]; rfl
      obtain ⟨y, hy, rfl⟩ := Option.map_eq_some_iff.mp hki
      refine ⟨rfl, lc_yes ?_⟩
      refine ⟨_, rfl, _, Sum.inl y, rfl, e4, small1000' (by rw [List.length_map, List.length_take]; omega), fun b o e => ?_, ?_⟩
      · rw [upd_ne (ne_of_none e hD)]
        exact s4 b o e
      · rw [upd_same, putK_new _ (valV_none_of (f := fun _ => V.non) (not_in_take hnd hy)), List.take_add_one, hy, List.map_append]
        rfl
    · obtain ⟨s4, e4⟩ := pv
      refine ⟨s4 _ _ upd_same, ?_⟩
      have nl : nx.length = ks.length := by have := congrArg List.length hk; rw [List.length_map, List.length_map] at this; exact this
      rw [nl, List.take_length] at e4
      have h5 := (upd_ne (o := .dK nx) e1).trans (s4 _ _ ((upd_ne e1).trans hh3))
      have k5 : ∀ a o, a ≠ h → H a = some o → upd H4 dn (.dK nx) a = some o := fun a o na e => (upd_ne (ne_of_none e ndn0)).trans (s4 _ _ ((upd_ne (ne_of_none e ndn0)).trans (k3 a o na e)))
      have d5 : upd H4 dn (.dK nx) dn = some (.dK nx) := upd_same
      have D5 := (upd_ne (o := .dK nx) nDdn).trans e4
      have nDh : D ≠ h := fun z => by rw [z, (upd_ne e1 : upd H3 dn _ h = _), hh3] at hD; cases hD
      have nD0 : H D = none := by
        cases e : H D with
        | none => rfl
        | some o => rw [upd_ne nDdn, k3 D o nDh e] at hD; cases hD
      generalize upd H4 dn (.dK nx) = H5 at h5 k5 d5 D5
      refine ⟨_, rfl, h, _, dx, _, rfl, h5, T.cl_Net, T.na_Net__befores, (by show 2 < 1000; decide), ?_⟩
      have h6 : upd H5 h (.ins T.C_Net dx (putF "_befores" (.ref D) (putF "_nexts" (.ref dn) (putF "size" (.int n) [])))) h = _ := upd_same
      have k6 : ∀ a o, a ≠ h → H a = some o → upd H5 h (.ins T.C_Net dx (putF "_befores" (.ref D) (putF "_nexts" (.ref dn) (putF "size" (.int n) [])))) a = some o := fun a o na e => (upd_ne na).trans (k5 a o na e)
      have d6 := (upd_ne (o := .ins T.C_Net dx (putF "_befores" (.ref D) (putF "_nexts" (.ref dn) (putF "size" (.int n) [])))) e1.symm).trans d5
      have D6 := (upd_ne (o := .ins T.C_Net dx (putF "_befores" (.ref D) (putF "_nexts" (.ref dn) (putF "size" (.int n) [])))) nDh).trans D5
      generalize upd H5 h (.ins T.C_Net dx (putF "_befores" (.ref D) (putF "_nexts" (.ref dn) (putF "size" (.int n) [])))) = H6 at h6 k6 d6 D6
      have nn : (bef [] 0 : V) = .non := rfl
      refine ⟨fun σ' H' => σ' = [some (.ref h), some (.int n), some (.ref d1), some (.ref d2), some (.ref pl), none] ∧ ∃ dl, NetAt T.C_Net H' h n dn D dl nx (ks.map fun k => (.inl k, .non)) ls ∧ (∀ a o, a ≠ h → H a = some o → H' a = some o) ∧ H dl = none, ?_, ?_⟩
      · have fin : ∀ (Hq : Hp) (l : Addr), Same H6 Hq → Hq l = none → ∃ dl, NetAt T.C_Net (upd (upd Hq l (.lst ls)) h (.ins T.C_Net dx (putF "_letters" (.ref l) (putF "_befores" (.ref D) (putF "_nexts" (.ref dn) (putF "size" (.int n) [])))))) h n dn D dl nx (ks.map fun k => (.inl k, .non)) ls ∧ (∀ a o, a ≠ h → H a = some o → upd (upd Hq l (.lst ls)) h (.ins T.C_Net dx (putF "_letters" (.ref l) (putF "_befores" (.ref D) (putF "_nexts" (.ref dn) (putF "size" (.int n) []))))) a = some o) ∧ H dl = none := fun Hq l sq nl => by
          have nlh : l ≠ h := fun z => by rw [z, sq _ _ h6] at nl; cases nl
          have nD : D ≠ l := fun z => by rw [← z, sq _ _ D6] at nl; cases nl
          have ndl : dn ≠ l := fun z => by rw [← z, sq _ _ d6] at nl; cases nl
          refine ⟨l, ⟨⟨dx, ?_⟩, (upd_ne e1.symm).trans ((upd_ne ndl).trans (sq _ _ d6)), (upd_ne nDh).trans ((upd_ne nD).trans (sq _ _ D6)), (upd_ne nlh).trans upd_same⟩, fun a o na e => ?_, ?_⟩
          · rw [upd_same]
            have e : putF "_letters" (.ref l) (putF "_befores" (.ref D) (putF "_nexts" (.ref dn) (putF "size" (.int n) []))) = nf n dn D l := by
              walk_at "pf"
              rfl
            exact congrArg (fun z => some (HO.ins _ _ z)) e
          · have e2 := sq _ _ (k6 a o na e)
            exact (upd_ne na).trans ((upd_ne (ne_of_none e2 nl)).trans e2)
          · cases e : H l with
            | none => rfl
            | some o => rw [sq _ _ (k6 l o nlh e)] at nl; cases nl
        refine ⟨_, rfl, !ls.isEmpty, .inl ⟨ls, SqL.of (k6 _ _ npl.symm hpl), rfl⟩, ite2 (fun e => ?_) (fun e => ?_)⟩
        · refine ⟨pl, ls, rfl, .inl (SqL.of (k6 _ _ npl.symm hpl)), fun l nl => ?_⟩
          have nlh : h ≠ l := fun z => by rw [← z, h6] at nl; cases nl
          exact ⟨_, rfl, h, _, dx, _, rfl, (upd_ne nlh).trans h6, T.cl_Net, T.na_Net__letters, (by show 3 < 1000; decide), rfl, fin H6 l (fun _ _ e => e) nl⟩
        · have e : ls = [] := by
            cases ls with
            | nil => rfl
            | cons a b => exact absurd rfl e
          subst e
          refine ⟨Nat.zero_le _, fun p np => ?_⟩
          have s7 := same_upd (o := .lst []) np
          have p7 : upd H6 p (.lst []) p = some (.lst []) := upd_same
          generalize upd H6 p (.lst []) = H7 at s7 p7
          refine ⟨p, [], rfl, .inl (SqL.of p7), fun l nl => ?_⟩
          have nlh : h ≠ l := fun z => by rw [← z, s7 _ _ h6] at nl; cases nl
          exact ⟨_, rfl, h, _, dx, _, rfl, (upd_ne nlh).trans (s7 _ _ h6), T.cl_Net, T.na_Net__letters, (by show 3 < 1000; decide), rfl, fin H7 l s7 nl⟩
      rintro _ H8 ⟨rfl, dl, N8, k8, ndl0⟩
      have nDn : D ≠ dn := nDdn
      obtain ⟨dx8, hh8⟩ := N8.me
      refine ⟨_, rfl, h, dx8, _, rfl, hh8, (by unfold nf; walk_at "lk"), h, dn, D, dl, n, nx, _, ls, ks, rfl, N8, hk, h64, hv, fun H9 s9 => ?_⟩
      have N9 := N8.same s9
      have k9 : ∀ a o, a ≠ h → H a = some o → H9 a = some o := fun a o na e => s9 _ _ (k8 a o na e)
      obtain ⟨dx9, hh9⟩ := N9.me
      refine ⟨fun σ' H' => σ' = [some (.ref h), some (.int n), some (.ref d1), some (.ref d2), some (.ref pl), none] ∧ ∃ bf, NetAt T.C_Net H' h n dn D dl nx bf ls ∧ (∀ a o, a ≠ h → H a = some o → H' a = some o) ∧ (∀ p ∈ ks, valV bf (.inl p) = some (bef bs p)) ∧ bf.length ≤ ks.length + js.length, ?_, ?_⟩
      · have lj : bs.length = js.length := by have := congrArg List.length hj; rw [List.length_map, List.length_map] at this; exact this
        refine ⟨_, rfl, h, dx9, _, rfl, hh9, (by unfold nf; walk_at "lk"), _, rfl, !bs.isEmpty, .inr (.inr ⟨bs, k9 _ _ nd2.symm h2, rfl⟩), ite2 (fun e => ?_) (fun e => ?_)⟩
        · refine ⟨h, dn, D, dl, d2, n, nx, _, bs, ls, js, rfl, N9, k9 _ _ nd2.symm h2, hj, hj64, hw, fun z => ?_, nDn, by rw [List.length_map]; omega, fun H' bf' N' k' v' l' => ⟨rfl, bf', N', fun a o na e => k' _ _ (fun z => by rw [z] at e; rw [e] at nD0; cases nD0) (k9 a o na e), fun p hp => ?_, by rw [List.length_map] at l'; exact l'⟩⟩
          · rw [z] at h2; rw [h2] at nD0; cases nD0
          · rw [v' p]
            by_cases g : p ∈ js
            · obtain ⟨_, x, hx, _⟩ := hw p g
              rw [if_pos g, bef, hx]; rfl
            · rw [if_neg g, bef, valV_none_keys hj g, valV_all_non hp]; rfl
        · have e : bs = [] := by
            cases bs with
            | nil => rfl
            | cons a b => exact absurd rfl e
          subst e
          have ej : js = [] := by
            cases js with
            | nil => rfl
            | cons a b => cases lj
          subst ej
          intro p np
          have s10 := same_upd (o := .dK []) np
          have p10 : upd H9 p (.dK []) p = some (.dK []) := upd_same
          have npD : p ≠ D := fun z => by rw [z, N9.hb] at np; cases np
          generalize upd H9 p (.dK []) = H10 at s10 p10
          refine ⟨h, dn, D, dl, p, n, nx, _, [], ls, [], rfl, N9.same s10, p10, rfl, by decide, (fun j hj => nomatch hj), npD, nDn, by rw [List.length_map]; omega, fun H' bf' N' k' v' l' => ⟨rfl, bf', N', fun a o na e => k' _ _ (fun z => by rw [z] at e; rw [e] at nD0; cases nD0) (s10 _ _ (k9 a o na e)), fun p hp => ?_, by rw [List.length_map] at l'; exact l'⟩⟩
          rw [v' p, if_neg (fun z => nomatch z), valV_all_non hp]
          rfl
      rintro _ H11 ⟨rfl, bf, N11, k11, v11, l11⟩
      obtain ⟨dx11, hh11⟩ := N11.me
      refine ⟨_, rfl, h, dx11, _, rfl, hh11, (by unfold nf; walk_at "lk"), h, dn, D, dl, n, nx, bf, ls, rfl, N11, hz, fun v hv => ?_, fun H12 s12 => ?_⟩
      · obtain ⟨a, z, qs, rfl, ha, hq⟩ := hu v hv
        exact ⟨a, z, qs, rfl, k11 _ _ (fun e => by rw [e, hh] at ha; cases ha) ha, hq⟩
      · exact q H12 dn D dl bf (N11.same s12) (fun a o na e => s12 _ _ (k11 a o na e)) ndn0 nD0 ndl0 nDn v11 l11
def sp_Net__check_free (C : Addr) : Sp := fun vs H Q _ => ∃ (h dn db dl : Addr) (n p : Int) (nx bf : List (Key × V)) (ls : List V), vs = [.ref h, .int p] ∧ NetAt C H h n dn db dl nx bf ls ∧ 0 ≤ p ∧ p < n ∧ valV nx (.inl p) = none ∧ Q .non H
def sp_Net__admit (C : Addr) : Sp := fun vs H Q _ => ∃ (h dn db dl : Addr) (n p x : Int) (nx bf : List (Key × V)) (ls : List V), vs = [.ref h, .int p, .int x] ∧ NetAt C H h n dn db dl nx bf ls ∧ 0 ≤ p ∧ p < n ∧ valV nx (.inl p) = none ∧ (x ≠ p → (valV nx (.inl x)).isSome = true) ∧ db ≠ dn ∧ nx.length ≤ 1000 ∧ bf.length ≤ 1000 ∧
  Q .non (upd (upd H dn (.dK (putK nx (.inl p) (.int x)))) db (.dK (putK bf (.inl p) .non)))
def sp_Net__next_of (C : Addr) : Sp := fun vs H Q _ => ∃ (h dn db dl : Addr) (n p : Int) (v : V) (nx bf : List (Key × V)) (ls : List V), vs = [.ref h, .int p] ∧ NetAt C H h n dn db dl nx bf ls ∧ valV nx (.inl p) = some v ∧ Q v H
theorem T0.ok_Net__next_of (T : T0 K mg) : FnOk P w K mg base CX0 2 T.a_Net__next_of T.fd_Net__next_of ["self", "house"] (sp_Net__next_of T.C_Net) := by
  refine T.F_Net__next_of.ok sc_Net__next_of (fun vs H Q E h => ?_) (fun cdv A outer s H vs Q E hr h => ?_)
  · obtain ⟨h, dn, db, dl, n, p, v, nx, bf, ls, rfl, _⟩ := h
    rfl
  · obtain ⟨h, dn, db, dl, n, p, v, nx, bf, ls, rfl, hN, hv, q⟩ := h
    obtain ⟨dx, hh⟩ := hN.me
    refine ⟨_, (pss_cons (ps_expr (pe_meth (pv 0) T.cl_Net T.me_Net__check_house T.ok_Net__check_house hr T.b_Net__check_house .nil pass0 (pa_cons (pv 1) pa_nil)))
        (pss_one (ps_ret (pe_dget (un1 hr) (show PE _ _ (tFld K _ _) from pe_fld (pv 0) rfl) (pv 1) (fun _ _ => rfl))))), ?_⟩
    refine ⟨_, rfl, h, dx, _, rfl, hh, (by unfold nf; walk_at "lk"), _, rfl, h, dn, db, dl, n, p, nx, bf, ls, rfl, hN, (by rw [hv]; rfl), ?_⟩
    exact ⟨_, rfl, h, _, dx, _, _, rfl, hh, T.cl_Net, T.na_Net__nexts, nf_nexts, _, rfl, dn, _, rfl, dget_of (k := Sum.inl p) hN.hn hv, q⟩
def sp_Net__before_of (C : Addr) : Sp := fun vs H Q _ => ∃ (h dn db dl : Addr) (n p : Int) (v : V) (nx bf : List (Key × V)) (ls : List V), vs = [.ref h, .int p] ∧ NetAt C H h n dn db dl nx bf ls ∧ (valV nx (.inl p)).isSome = true ∧ valV bf (.inl p) = some v ∧ Q v H
--CUT
theorem okB.atom {b : V} (h : okB b) : atomV b = true := by
  rcases h with rfl | ⟨z, rfl⟩ <;> rfl
theorem okB.tell {n p u : Int} {b : V} : okB (hTell n p u b) := by
  cases b with
  | int z =>
    unfold hTell
    dsimp only
    split
    · exact .inr ⟨_, rfl⟩
    · exact .inr ⟨_, rfl⟩
  | _ => exact .inr ⟨_, rfl⟩
theorem okB.hB {n p : Int} {b : V} (o : okB b) : ∀ L : Let, okB (hB n p b L)
  | .tell _ _ => okB.tell
  | .ask _ _ => o
  | .answer _ _ _ => o
theorem ans_atoms {p : Int} {b : V} {ys : List V} : ∀ L : Let, hA p b L = some ys → ys.length ≤ 100000 ∧ ∀ y ∈ ys, atomV y = true := by
  intro L h
  cases L with
  | ask r u =>
    cases b with
    | int z =>
      cases h
      refine ⟨by show 4 ≤ 100000; decide, fun y hy => ?_⟩
      simp only [List.mem_cons, List.not_mem_nil, or_false] at hy
      rcases hy with rfl | rfl | rfl | rfl <;> rfl
    | _ => cases h
  | tell _ _ => cases h
  | answer _ _ _ => cases h
/-- two answers are alike -/
theorem ans_same {H : Hp} {p : Int} {b : V} {L : Let} {v u : V} (h1 : match hA p b L with | none => v = .non | some ys => ∃ a, v = .ref a ∧ H a = some (.tup ys)) (h2 : match hA p b L with | none => u = .non | some ys => ∃ a, u = .ref a ∧ H a = some (.tup ys)) : Sm K 2 H v u := by
  cases e : hA p b L with
  | none =>
    rw [e] at h1 h2
    dsimp only at h1 h2
    rw [h1, h2]
    exact .atom rfl
  | some ys =>
    rw [e] at h1 h2
    obtain ⟨a, rfl, e1⟩ := h1
    obtain ⟨a2, rfl, e2⟩ := h2
    obtain ⟨l, m⟩ := ans_atoms L e
    refine .tup (SqT.of e1) (SqT.of e2) rfl l fun i x y hx hy => ?_
    rw [hx] at hy
    cases hy
    exact .atom (m x (List.mem_of_getElem? hx))
theorem ans_keep {H H' : Hp} {p : Int} {b : V} {L : Let} {v : V} (h : match hA p b L with | none => v = .non | some ys => ∃ a, v = .ref a ∧ H a = some (.tup ys)) (k : ∀ a ys, H a = some (.tup ys) → H' a = some (.tup ys)) :
    match hA p b L with | none => v = .non | some ys => ∃ a, v = .ref a ∧ H' a = some (.tup ys) := by
  cases e : hA p b L with
  | none => rw [e] at h; exact h
  | some ys =>
    rw [e] at h
    obtain ⟨a, rfl, e1⟩ := h
    exact ⟨a, rfl, k _ _ e1⟩
def sp__law_far (K : PySem.W.Frag) : Sp := fun vs H Q _ => ∃ n a b : Int, vs = [.int n, .int a, .int b] ∧ 0 < n ∧ Q (.int (farL n a b)) H
theorem T0.ok__law_far (T : T0 K mg) : FnOk P w K mg base CX0 1 T.a__law_far T.fd__law_far ["size", "start", "end"] (sp__law_far K) := by
  refine T.F__law_far.ok sc__law_far (fun vs H Q E h => ?_) (fun cdv A outer s H vs Q E hr h => ?_)
  · obtain ⟨n, a, b, rfl, _⟩ := h
    rfl
  · obtain ⟨n, a, b, rfl, hn, q⟩ := h
    refine ⟨_, (pss_cons (ps_set (i := 3) sc__law_far.nd rfl (Or.inl rfl) (pe_op op_modN (pe_callTy call_int1 (by rfl) T.m_int (by decide +kernel) (pa_cons (pe_op op_sub (pv 2) (pv 1)) pa_nil)) (pv 0)))
        (pss_cons (ps_if (pt_cmpR op_eq (pv 3) pe_int (nomark _)) (pss_one (ps_ret (pv 0))) pss_nil)
        (pss_one (ps_ret (pv 3))))), ?_⟩
    rw [far_eq a b hn] at q
    refine ⟨_, rfl, _, rfl, _, _, rfl, rfl, .inl ⟨_, rfl, _, rfl, _, _, rfl, rfl, by omega, ?_⟩⟩
    refine ⟨_, rfl, rfl, _, rfl, ite2 (fun e => ?_) (fun e => ?_)⟩
    · rw [if_pos (V.int.inj (of_decide_eq_true e))] at q
      exact ⟨_, rfl, q⟩
    · rw [if_neg (fun z => e (decide_eq_true (congrArg V.int z)))] at q
      exact ⟨_, rfl, q⟩
def sp__law_between (K : PySem.W.Frag) : Sp := fun vs H Q _ => ∃ n a p b : Int, vs = [.int n, .int a, .int p, .int b] ∧ 0 < n ∧ Q (.bl (decide (farL n a p < farL n a b))) H
theorem T0.ok__law_between (T : T0 K mg) : FnOk P w K mg base CX0 2 T.a__law_between T.fd__law_between ["size", "start", "place", "end"] (sp__law_between K) := by
  refine T.F__law_between.ok sc__law_between (fun vs H Q E h => ?_) (fun cdv A outer s H vs Q E hr h => ?_)
  · obtain ⟨n, a, p, b, rfl, _⟩ := h
    rfl
  · obtain ⟨n, a, p, b, rfl, hn, q⟩ := h
    refine ⟨_, (pss_cons (ps_if (PW.pt (pw_or (pt_cmpR op_eq (pv 2) (pv 1) (nomark _)) (pw_or1 (pt_cmpR op_eq (pv 2) (pv 3) (nomark _))))) (pss_one (ps_ret pe_bl)) pss_nil)
        (pss_one (ps_ret (pe_cmpR op_lt (pe_call T.ok__law_far hr (by rfl) T.g__law_far T.k__law_far T.b__law_far .nil pass0 (pa_cons (pv 0) (pa_cons (pv 1) (pa_cons (pv 2) pa_nil)))) (pe_call T.ok__law_far hr (by rfl) T.g__law_far T.k__law_far T.b__law_far .nil pass0 (pa_cons (pv 0) (pa_cons (pv 1) (pa_cons (pv 3) pa_nil)))) (nomark _))))), ?_⟩
    refine v_when (by walk_at "ans") (fun e => ?_) (fun e => ?_)
    · rw [dec_int, dec_int] at e
      have e : p = a ∨ p = b := by simpa using e
      have f : ¬ (farL n a p < farL n a b) := by
        rcases e with rfl | rfl
        · have h1 := far_range p b hn
          rw [far_eq p p hn, Int.sub_self, Int.zero_fmod, if_pos rfl]
          omega
        · omega
      rw [decide_eq_false f] at q
      exact q
    · exact ⟨_, rfl, _, rfl, _, rfl, n, a, p, rfl, hn, _, rfl, _, rfl, _, rfl, n, a, b, rfl, hn, _, _, rfl, rfl, q⟩
def Let.ns : Let → List Int
  | .tell r u => [r, u]
  | .ask r u => [r, u]
  | .answer r u m => [r, u, m]
def Let.fr : Let → Int
  | .tell _ u => u
  | .ask _ u => u
  | .answer _ u _ => u
def Let.wd : Let → Str
  | .tell _ _ => "tell"
  | .ask _ _ => "ask"
  | .answer _ _ _ => "answer"
theorem Let.at2 (L : Let) : atI L.vals (2 : Int) = some (.int L.fr) := by cases L <;> rfl
theorem Let.vals_eq (L : Let) : L.vals = .str L.wd :: L.ns.map V.int := by cases L <;> rfl
theorem Let.to_ns (L : Let) : L.to ∈ L.ns := by cases L <;> exact List.mem_cons_self
def nN (n r x : Int) (b : V) (L : Let) (nx : List (Key × V)) : List (Key × V) := if hA r b L = none ∧ hB n r b L = b ∧ hN n r x L ≠ x then putK nx (.inl r) (.int (hN n r x L)) else nx
def nB (n r : Int) (b : V) (L : Let) (bs : List (Key × V)) : List (Key × V) := if hA r b L = none ∧ hB n r b L ≠ b then putK bs (.inl r) (hB n r b L) else bs
def nT (n r x : Int) (b : V) (L : Let) : List V := if hA r b L ≠ none then [.str "wrote", .int r, hB n r b L] else if hB n r b L ≠ b then [.str "before", .int r, hB n r b L] else if hN n r x L ≠ x then [.str "next", .int r, .int (hN n r x L)] else [.str "kept", .int r, .non]
theorem far_self (z : Int) {n : Int} (hn : 0 < n) : farL n z z = n := by rw [far_eq z z hn, Int.sub_self, Int.zero_fmod, if_pos rfl]
theorem far_ne {n z u r : Int} (hn : 0 < n) (h : farL n z u < farL n z r) : u ≠ z := fun e => by
  subst e
  have := far_range u r hn
  have := far_self u hn
  omega
theorem far_ne2 {n z u r : Int} (h : farL n z u < farL n z r) : u ≠ r := fun e => by
  subst e
  omega
def sp__law_read (K : PySem.W.Frag) : Sp := fun vs H Q _ => ∃ (dN dB pO lt : Addr) (n x : Int) (k : Nat) (L : Let) (nx bs : List (Key × V)) (ps : List V), vs = [.int n, .ref dN, .ref dB, .ref pO, .int k] ∧ H dN = some (.dK nx) ∧ H dB = some (.dK bs) ∧ H pO = some (.lst ps) ∧ ps[k]? = some (.ref lt) ∧ H lt = some (.tup L.vals) ∧ valV nx (.inl L.to) = some (.int x) ∧ okB (bef bs L.to) ∧ 0 < n ∧ dN ≠ dB ∧ nx.length ≤ 1000 ∧ bs.length ≤ 1000 ∧ ps.length ≤ 1000 ∧
  ∀ H' v ps', (match hA L.to (bef bs L.to) L with | none => ps' = ps.eraseIdx k | some ys => ∃ a, ps' = ps.eraseIdx k ++ [.ref a] ∧ H' a = some (.tup ys)) → (∀ a o, a ≠ dN → a ≠ dB → a ≠ pO → H a = some o → H' a = some o) →
    H' dN = some (.dK (nN n L.to x (bef bs L.to) L nx)) → H' dB = some (.dK (nB n L.to (bef bs L.to) L bs)) → H' pO = some (.lst ps') → (∃ a, v = .ref a ∧ H' a = some (.tup (nT n L.to x (bef bs L.to) L))) → Q v H'
theorem T0.ok__law_read (T : T0 K mg) : FnOk P w K mg base CX0 3 T.a__law_read T.fd__law_read ["size", "nexts", "behinds", "post", "at"] (sp__law_read K) := by
  refine T.F__law_read.ok sc__law_read (fun vs H Q E h => ?_) (fun cdv A outer s H vs Q E hr h => ?_)
  · obtain ⟨dN, dB, pO, lt, n, x, k, L, nx, bs, ps, rfl, _⟩ := h
    rfl
  · obtain ⟨dN, dB, pO, lt, n, x, k, L, nx, bs, ps, rfl, hN, hB', hP, hv, hlt, hx, ob, hn, ne, z1, z2, z3, q⟩ := h
    have hk := (List.getElem?_eq_some_iff.mp hv).1
    refine ⟨_, (pss_cons (ps_set (i := 5) sc__law_read.nd rfl (Or.inl rfl) (pe_bm PySem.F.plainAttrs_list PySem.F.slot_list_pop PySem.F.type_list_pop mt_popAt (pv 3) (pa_cons (pv 4) pa_nil)))
        (pss_cons (ps_set (i := 6) sc__law_read.nd rfl (Or.inl rfl) (pe_ix (ix_tupK (K := K)) (pv 5) pe_int (fun _ _ => rfl)))
        (pss_cons (ps_set (i := 7) sc__law_read.nd rfl (Or.inl rfl) (pe_ix (ix_tupK (K := K)) (pv 5) pe_int (fun _ _ => rfl)))
        (pss_cons (ps_set (i := 8) sc__law_read.nd rfl (Or.inl rfl) (pe_dget1 (un1 hr) (pv 2) (pv 6) ⟨rfl, rfl, rfl, rfl⟩))
        (pss_cons (ps_if (pt_cmpR op_eq (pe_ix (ix_tupK (K := K)) (pv 5) pe_int (fun _ _ => rfl)) pe_str (nomark _)) (pss_one (ps_if (PW.pt (pw_or (pt_cmpR op_isN (pv 8) pe_non (nomark _)) (pw_or1 (pt_val (pe_call T.ok__law_between hr (by rfl) T.g__law_between T.k__law_between T.b__law_between .nil pass0 (pa_cons (pv 0) (pa_cons (pv 8) (pa_cons (pv 7) (pa_cons (pv 6) pa_nil))))))))) (pss_cons (ps_asg (pv 7) (pg_sub (pv 2) (pv 6) (set_dict (un1 hr))))
        (pss_one (ps_ret (pe_tup (pa_cons pe_str (pa_cons (pv 6) (pa_cons (pv 7) pa_nil))))))) pss_nil)) (pss_one (ps_if (pt_cmpR op_eq (pe_ix (ix_tupK (K := K)) (pv 5) pe_int (fun _ _ => rfl)) pe_str (nomark _)) (pss_one (ps_if (pt_cmpR op_notN (pv 8) pe_non (nomark _)) (pss_cons (ps_expr (pe_bm PySem.F.plainAttrs_list PySem.F.slot_list_append PySem.F.type_list_append mt_append (pv 3) (pa_cons (pe_tup (pa_cons pe_str (pa_cons (pv 7) (pa_cons (pv 6) (pa_cons (pv 8) pa_nil))))) pa_nil)))
        (pss_one (ps_ret (pe_tup (pa_cons pe_str (pa_cons (pv 6) (pa_cons (pv 8) pa_nil))))))) pss_nil)) (pss_one (ps_if (PW.pt (pw_and (pt_cmpR op_eq (pe_dget (un1 hr) (pv 1) (pv 6) (fun _ _ => rfl)) (pv 7) (nomark _)) (pw_and1 (pt_val (pe_call T.ok__law_between hr (by rfl) T.g__law_between T.k__law_between T.b__law_between .nil pass0 (pa_cons (pv 0) (pa_cons (pv 6) (pa_cons (pe_ix (ix_tupK (K := K)) (pv 5) pe_int (fun _ _ => rfl)) (pa_cons (pv 7) pa_nil))))))))) (pss_cons (ps_asg (pe_ix (ix_tupK (K := K)) (pv 5) pe_int (fun _ _ => rfl)) (pg_sub (pv 1) (pv 6) (set_dict (un1 hr))))
        (pss_one (ps_ret (pe_tup (pa_cons pe_str (pa_cons (pv 6) (pa_cons (pe_ix (ix_tupK (K := K)) (pv 5) pe_int (fun _ _ => rfl)) pa_nil))))))) pss_nil)))))
        (pss_one (ps_ret (pe_tup (pa_cons pe_str (pa_cons (pv 6) (pa_cons pe_non pa_nil))))))))))), ?_⟩
    refine ⟨_, rfl, .inl ⟨rfl, _, SqL.of hP⟩, _, rfl, pO, ps, k, k, .ref lt, rfl, rfl, hP, by omega, by omega, seq_nat hk, hv, ?_⟩
    have f1 : ∀ a o, a ≠ pO → H a = some o → upd H pO (.lst (ps.eraseIdx k)) a = some o := fun a o na e => (upd_ne na).trans e
    have N1 := f1 _ _ (ne_of hN hP (by intro z; cases z)) hN
    have B1 := f1 _ _ (ne_of hB' hP (by intro z; cases z)) hB'
    have lt1 := f1 _ _ (ne_of hlt hP (by intro z; cases z)) hlt
    have P1 : upd H pO (.lst (ps.eraseIdx k)) pO = some (.lst (ps.eraseIdx k)) := upd_same
    generalize upd H pO (.lst (ps.eraseIdx k)) = H1 at f1 N1 B1 lt1 P1
    have nNP : dN ≠ pO := ne_of hN hP (by intro z; cases z)
    have nBP : dB ≠ pO := ne_of hB' hP (by intro z; cases z)
    have nln : lt ≠ dN := ne_of hlt hN (by intro z; cases z)
    have le : (ps.eraseIdx k).length ≤ 1000 := Nat.le_trans (List.length_eraseIdx_le _ _) z3
    refine ⟨_, rfl, lt, _, 1, _, rfl, rfl, SqT.of lt1, L.at1, ?_⟩
    refine ⟨_, rfl, lt, _, 2, _, rfl, rfl, SqT.of lt1, L.at2, ?_⟩
    refine ⟨_, rfl, dB, rfl, .inl ⟨_, .inl B1⟩, _, rfl, _, DGet.k (k := Sum.inl L.to) B1, ?_⟩
    have kept : hA L.to (bef bs L.to) L = none → Z.hB n L.to (bef bs L.to) L = bef bs L.to → Z.hN n L.to x L = x → ∀ p, H1 p = none → Q (.ref p) (upd H1 p (.tup [.str "kept", .int L.to, .non])) := fun a1 a2 a3 p np => by
      refine q _ _ (ps.eraseIdx k) (by rw [a1]) (fun a o n1 n2 n3 e => (upd_ne (ne_of_none (f1 a o n3 e) np)).trans (f1 a o n3 e)) ?_ ?_ ((upd_ne (ne_of_none P1 np)).trans P1) ⟨p, rfl, ?_⟩
      · rw [nN, if_neg (fun z => z.2.2 a3)]
        exact (upd_ne (ne_of_none N1 np)).trans N1
      · rw [nB, if_neg (fun z => z.2 a2)]
        exact (upd_ne (ne_of_none B1 np)).trans B1
      · rw [upd_same, nT, if_neg (fun z => z a1), if_neg (fun z => z a2), if_neg (fun z => z a3)]
    cases L with
    | tell r u =>
      refine ⟨_, rfl, lt, _, 0, .str "tell", rfl, rfl, SqT.of lt1, rfl, rfl, _, rfl, ?_⟩
      rw [show decide (V.str "tell" = V.str "tell") = true by decide +kernel]
      refine iteT ?_
      have set : Z.hB n r (bef bs r) (.tell r u) = .int u → .int u ≠ bef bs r → rSetD (.ref dB) (.int r) (.int u) H1 fun H2 => ∀ p, H2 p = none → Q (.ref p) (upd H2 p (.tup [.str "before", .int r, .int u])) := fun e1 e2 => by
        refine ⟨dB, _, rfl, DPut.k (k := Sum.inl r) B1 (small1000' (by omega)), fun p np => ?_⟩
        have f2 : ∀ a o, a ≠ dB → H1 a = some o → upd (upd H1 dB (.dK (putK bs (.inl r) (.int u)))) p (.tup [.str "before", .int r, .int u]) a = some o := fun a o na e => (upd_ne (ne_of_none ((upd_ne na).trans e) np)).trans ((upd_ne na).trans e)
        refine q _ _ (ps.eraseIdx k) rfl (fun a o n1 n2 n3 e => f2 _ _ n2 (f1 a o n3 e)) ?_ ?_ (f2 _ _ nBP.symm P1) ⟨p, rfl, ?_⟩
        · rw [nN, if_neg (fun z => z.2.2 rfl)]
          exact f2 _ _ ne N1
        · rw [nB, if_pos ⟨rfl, fun z => e2 (e1.symm.trans z)⟩]
          rw [show Z.hB n (Let.tell r u).to (bef bs (Let.tell r u).to) (Let.tell r u) = .int u from e1]
          exact (upd_ne (ne_of_none (upd_same) np)).trans upd_same
        · rw [upd_same, nT, if_neg (fun z => z rfl), if_pos (show Z.hB n (Let.tell r u).to (bef bs (Let.tell r u).to) (Let.tell r u) ≠ bef bs (Let.tell r u).to from fun z => e2 (e1.symm.trans z))]
          rw [show Z.hB n (Let.tell r u).to (bef bs (Let.tell r u).to) (Let.tell r u) = .int u from e1]
          rfl
      refine ⟨_, rfl, rfl, _, rfl, ite2 (fun e => ?_) (fun e => ?_)⟩
      · have e : bef bs r = .non := of_decide_eq_true e
        refine iteT ?_
        obtain ⟨D', H2, e1, e2, st⟩ := set (by rw [e]; rfl) (by rw [e]; exact fun z => nomatch z)
        exact ⟨_, rfl, _, rfl, _, rfl, D', H2, e1, e2, _, rfl, _, rfl, lenL (by show 3 ≤ 100000; decide), st⟩
      · rcases ob with ob | ⟨z, ob⟩
        · exact absurd (decide_eq_true ob) e
        · have ob : bef bs r = .int z := ob
          refine ⟨_, rfl, _, rfl, _, rfl, _, rfl, n, z, u, r, by rw [← ob]; rfl, hn, _, rfl, ite2 (fun f => ?_) (fun f => ?_)⟩
          · have f := of_decide_eq_true f
            obtain ⟨D', H2, e1, e2, st⟩ := set (by rw [ob]; exact if_pos f) (by rw [ob]; exact fun z => far_ne hn f (V.int.inj z))
            exact ⟨_, rfl, _, rfl, _, rfl, D', H2, e1, e2, _, rfl, _, rfl, lenL (by show 3 ≤ 100000; decide), st⟩
          · refine ⟨_, rfl, lenL (by show 3 ≤ 100000; decide), kept rfl ?_ rfl⟩
            show hTell n r u (bef bs r) = bef bs r
            rw [ob]
            exact if_neg (fun g => f (decide_eq_true g))
    | ask r u =>
      refine ⟨_, rfl, lt, _, 0, .str "ask", rfl, rfl, SqT.of lt1, rfl, rfl, _, rfl, ?_⟩
      rw [show decide (V.str "ask" = V.str "tell") = false by decide +kernel]
      refine iteF ⟨_, rfl, lt, _, 0, .str "ask", rfl, rfl, SqT.of lt1, rfl, rfl, _, rfl, ?_⟩
      rw [show decide (V.str "ask" = V.str "ask") = true by decide +kernel]
      refine iteT ⟨_, rfl, rfl, _, rfl, ?_⟩
      rcases ob with ob | ⟨z, ob⟩
      · have ob : bef bs r = .non := ob
        refine iteF' (by show (!decide (bef bs r = .non)) = false; rw [decide_eq_true ob]; rfl) ?_
        exact ⟨_, rfl, lenL (by show 3 ≤ 100000; decide), kept (by show hA r (bef bs r) (.ask r u) = none; rw [ob]; rfl) rfl rfl⟩
      · have ob : bef bs r = .int z := ob
        have ea : hA r (bef bs r) (.ask r u) = some [.str "answer", .int u, .int r, .int z] := by rw [ob]; rfl
        refine iteT' (by show (!decide (bef bs r = .non)) = true; rw [ob]; rfl) ?_
        refine ⟨_, rfl, .inl ⟨rfl, _, SqL.of P1⟩, _, rfl, _, rfl, _, rfl, lenL (by show 4 ≤ 100000; decide), fun p np => ?_⟩
        have npP : p ≠ pO := fun e => by rw [e, P1] at np; cases np
        refine ⟨pO, _, _, rfl, rfl, (upd_ne npP.symm).trans P1, small1000' (by omega), ?_⟩
        have f2 : ∀ a o, a ≠ pO → H1 a = some o → upd (upd H1 p (.tup [.str "answer", .int u, .int r, bef bs r])) pO (.lst (ps.eraseIdx k ++ [.ref p])) a = some o := fun a o na e => (upd_ne na).trans ((upd_ne (ne_of_none e np)).trans e)
        have p2 : upd (upd H1 p (.tup [.str "answer", .int u, .int r, bef bs r])) pO (.lst (ps.eraseIdx k ++ [.ref p])) p = some (.tup [.str "answer", .int u, .int r, bef bs r]) := (upd_ne npP).trans upd_same
        have P2 : upd (upd H1 p (.tup [.str "answer", .int u, .int r, bef bs r])) pO (.lst (ps.eraseIdx k ++ [.ref p])) pO = some (.lst (ps.eraseIdx k ++ [.ref p])) := upd_same
        refine ⟨_, rfl, _, rfl, lenL (by show 3 ≤ 100000; decide), fun p3 np3 => ?_⟩
        have np3 : upd (upd H1 p (.tup [.str "answer", .int u, .int r, bef bs r])) pO (.lst (ps.eraseIdx k ++ [.ref p])) p3 = none := np3
        refine q _ _ (ps.eraseIdx k ++ [.ref p]) ?_ (fun a o n1 n2 n3 e => ?_) ?_ ?_ ?_ ⟨p3, rfl, ?_⟩
        · rw [show hA (Let.ask r u).to (bef bs (Let.ask r u).to) (.ask r u) = _ from ea]
          refine ⟨p, rfl, ?_⟩
          exact ((upd_ne (ne_of_none p2 np3)).trans p2).trans (by rw [ob])
        · have e2 := f2 _ _ n3 (f1 a o n3 e)
          exact (upd_ne (ne_of_none e2 np3)).trans e2
        · rw [nN, if_neg (fun z => z.2.2 rfl)]
          have e2 := f2 _ _ nNP N1
          exact (upd_ne (ne_of_none e2 np3)).trans e2
        · rw [nB, if_neg (fun z => z.2 rfl)]
          have e2 := f2 _ _ nBP B1
          exact (upd_ne (ne_of_none e2 np3)).trans e2
        · exact (upd_ne (ne_of_none P2 np3)).trans P2
        · rw [upd_same, nT, if_pos (fun z => by rw [show hA (Let.ask r u).to (bef bs (Let.ask r u).to) (.ask r u) = _ from ea] at z; cases z)]
          rfl
    | answer r u m =>
      refine ⟨_, rfl, lt, _, 0, .str "answer", rfl, rfl, SqT.of lt1, rfl, rfl, _, rfl, ?_⟩
      rw [show decide (V.str "answer" = V.str "tell") = false by decide +kernel]
      refine iteF ⟨_, rfl, lt, _, 0, .str "answer", rfl, rfl, SqT.of lt1, rfl, rfl, _, rfl, ?_⟩
      rw [show decide (V.str "answer" = V.str "ask") = false by decide +kernel]
      refine iteF ⟨_, rfl, _, rfl, dN, _, rfl, dget_of N1 hx, _, rfl, rfl, _, rfl, ite2 (fun e => ?_) (fun e => ?_)⟩
      · have e : x = u := V.int.inj (of_decide_eq_true e)
        refine ⟨_, rfl, _, rfl, _, rfl, lt, _, 3, .int m, rfl, rfl, SqT.of lt1, rfl, _, rfl, n, r, m, u, rfl, hn, _, rfl, ite2 (fun f => ?_) (fun f => ?_)⟩
        · have f := of_decide_eq_true f
          have g : Z.hN n r x (.answer r u m) = m := if_pos ⟨e, f⟩
          have mx : m ≠ x := by rw [e]; exact far_ne2 f
          refine ⟨_, rfl, lt, _, 3, .int m, rfl, rfl, SqT.of lt1, rfl, _, rfl, _, rfl, dN, _, rfl, DPut.k (k := Sum.inl r) N1 (small1000' (by omega)), ?_⟩
          have f2 : ∀ a o, a ≠ dN → H1 a = some o → upd H1 dN (.dK (putK nx (.inl r) (.int m))) a = some o := fun a o na e => (upd_ne na).trans e
          have N2 : upd H1 dN (.dK (putK nx (.inl r) (.int m))) dN = some (.dK (putK nx (.inl r) (.int m))) := upd_same
          have lt2 := f2 _ _ nln lt1
          refine ⟨_, rfl, _, rfl, lt, _, 3, .int m, rfl, rfl, SqT.of lt2, rfl, lenL (by show 3 ≤ 100000; decide), fun p np => ?_⟩
          have np : upd H1 dN (.dK (putK nx (.inl r) (.int m))) p = none := np
          refine q _ _ (ps.eraseIdx k) rfl (fun a o n1 n2 n3 e => ?_) ?_ ?_ ?_ ⟨p, rfl, ?_⟩
          · have e2 := f2 _ _ n1 (f1 a o n3 e)
            exact (upd_ne (ne_of_none e2 np)).trans e2
          · rw [nN, if_pos ⟨rfl, rfl, fun z => mx (by rw [← z]; exact g.symm)⟩, show Z.hN n (Let.answer r u m).to x (.answer r u m) = m from g]
            exact (upd_ne (ne_of_none N2 np)).trans N2
          · rw [nB, if_neg (fun z => z.2 rfl)]
            have e2 := f2 _ _ ne.symm B1
            exact (upd_ne (ne_of_none e2 np)).trans e2
          · have e2 := f2 _ _ nNP.symm P1
            exact (upd_ne (ne_of_none e2 np)).trans e2
          · rw [upd_same, nT, if_neg (fun z => z rfl), if_neg (fun z => z rfl), if_pos (fun z => mx (by rw [← z]; exact g.symm)), show Z.hN n (Let.answer r u m).to x (.answer r u m) = m from g]
        · exact ⟨_, rfl, lenL (by show 3 ≤ 100000; decide), kept rfl rfl (if_neg (fun z => f (decide_eq_true z.2)))⟩
      · exact ⟨_, rfl, lenL (by show 3 ≤ 100000; decide), kept rfl rfl (if_neg (fun z => e (decide_eq_true (congrArg V.int z.1))))⟩
def LetSame (H : Hp) (ks : List Int) (a b : V) : Prop := ∃ (p q : Addr) (L : Let), a = .ref p ∧ b = .ref q ∧ H p = some (.tup L.vals) ∧ H q = some (.tup L.vals) ∧ ∀ k ∈ L.ns, k ∈ ks
def Alike (R : V → V → Prop) (xs ys : List V) : Prop := xs.length = ys.length ∧ ∀ (i : Nat) x y, xs[i]? = some x → ys[i]? = some y → R x y
theorem Alike.mono {R R' : V → V → Prop} {xs ys : List V} (h : Alike R xs ys) (f : ∀ x y, R x y → R' x y) : Alike R' xs ys := ⟨h.1, fun i x y e1 e2 => f _ _ (h.2 i x y e1 e2)⟩
theorem Alike.erase {R : V → V → Prop} {xs ys : List V} (h : Alike R xs ys) (k : Nat) : Alike R (xs.eraseIdx k) (ys.eraseIdx k) := by
  refine ⟨by rw [List.length_eraseIdx, List.length_eraseIdx, h.1], fun i x y e1 e2 => ?_⟩
  rw [List.getElem?_eraseIdx] at e1 e2
  split at e1
  · rename_i g
    rw [if_pos g] at e2
    exact h.2 _ _ _ e1 e2
  · rename_i g
    rw [if_neg g] at e2
    exact h.2 _ _ _ e1 e2
theorem Alike.app {R : V → V → Prop} {xs ys : List V} {a b : V} (h : Alike R xs ys) (r : R a b) : Alike R (xs ++ [a]) (ys ++ [b]) := by
  refine ⟨by rw [List.length_append, List.length_append, h.1]; rfl, fun i x y e1 e2 => ?_⟩
  rw [List.getElem?_append] at e1 e2
  by_cases g : i < xs.length
  · rw [if_pos g] at e1
    rw [if_pos (by rw [← h.1]; exact g)] at e2
    exact h.2 _ _ _ e1 e2
  · rw [if_neg g] at e1
    rw [if_neg (by rw [← h.1]; exact g)] at e2
    have e0 : i - xs.length = 0 := by
      have := (List.getElem?_eq_some_iff.mp e1).1
      simp only [List.length_cons, List.length_nil] at this
      omega
    rw [e0] at e1
    rw [← h.1, e0] at e2
    cases e1
    cases e2
    exact r
theorem Alike.get {R : V → V → Prop} {xs ys : List V} (h : Alike R xs ys) {k : Nat} (hk : k < xs.length) : ∃ a b, xs[k]? = some a ∧ ys[k]? = some b ∧ R a b := by
  have h2 : k < ys.length := by rw [← h.1]; exact hk
  exact ⟨_, _, List.getElem?_eq_getElem hk, List.getElem?_eq_getElem h2, h.2 k _ _ (List.getElem?_eq_getElem hk) (List.getElem?_eq_getElem h2)⟩
theorem LetSame.mono {H H' : Hp} {ks ks' : List Int} {a b : V} (h : LetSame H ks a b) (f : ∀ p xs, H p = some (.tup xs) → H' p = some (.tup xs)) (g : ∀ k ∈ ks, k ∈ ks') : LetSame H' ks' a b :=
  let ⟨p, q, L, e1, e2, e3, e4, e5⟩ := h
  ⟨p, q, L, e1, e2, f _ _ e3, f _ _ e4, fun k hk => g _ (e5 k hk)⟩
theorem vals_atom (L : Let) : L.vals.length ≤ 100000 ∧ ∀ y ∈ L.vals, atomV y = true := by
  cases L <;> exact ⟨by simp only [Let.vals, List.length_cons, List.length_nil]; omega, by simp [Let.vals, atomV]⟩
theorem tup_same {H : Hp} {a b : Addr} {xs : List V} (h1 : H a = some (.tup xs)) (h2 : H b = some (.tup xs)) (hl : xs.length ≤ 100000) (ha : ∀ y ∈ xs, atomV y = true) : Sm K 2 H (.ref a) (.ref b) :=
  .tup (SqT.of h1) (SqT.of h2) rfl hl fun i x y hx hy => by
    rw [hx] at hy
    cases hy
    exact .atom (ha x (List.mem_of_getElem? hx))
theorem LetSame.sm {H : Hp} {ks : List Int} {a b : V} (h : LetSame H ks a b) : Sm K 2 H a b := by
  obtain ⟨p, q, L, rfl, rfl, e3, e4, _⟩ := h
  exact tup_same e3 e4 (vals_atom L).1 (vals_atom L).2
theorem LetSame.sm' {H : Hp} {ks : List Int} {a b : V} (h : LetSame H ks a b) : Sm K 2 H b a := by
  obtain ⟨p, q, L, rfl, rfl, e3, e4, _⟩ := h
  exact tup_same e4 e3 (vals_atom L).1 (vals_atom L).2
theorem bef_ok {bs : List (Key × V)} {k : Int} (h : ∀ (p : Int) v, valV bs (.inl p) = some v → ∃ x : Int, v = .int x) : okB (bef bs k) := by
  unfold bef
  cases e : valV bs (.inl k) with
  | none => exact .inl rfl
  | some v =>
    obtain ⟨x, rfl⟩ := h _ _ e
    exact .inr ⟨x, rfl⟩
theorem tape_at {H : Hp} {t c : Addr} (h : Tape H t c) : (∃ xs, H t = some (.lst xs)) ∧ ∃ xs, H c = some (.lst xs) := by
  obtain ⟨_, _, _, _, _, e1, e2, _⟩ := h
  exact ⟨⟨_, e1⟩, ⟨_, e2⟩⟩
theorem hf_nf {n n' p x : Int} {b : V} {dn db dl : Addr} (h : hf n p x b = nf n' dn db dl) : False := by
  unfold hf nf at h
  have h1 := (List.cons.inj (List.cons.inj h).2).1
  have h2 : ("place" : Str) = "_nexts" := (Prod.mk.inj h1).1
  exact absurd h2 (by decide +kernel)
theorem keys_putK_old {kvs : List (Key × V)} {k : Key} {v : V} (h : (valV kvs k).isSome = true) : (putK kvs k v).map (·.1) = kvs.map (·.1) := by
  unfold putK
  rw [if_pos (by rw [valV_any]; exact h), List.map_map]
  refine List.map_congr_left fun kv _ => ?_
  show (if kv.1 = k then (kv.1, v) else kv).1 = kv.1
  split <;> rfl
theorem nN_val {n r x j : Int} {b : V} {L : Let} {nx : List (Key × V)} (hx : valV nx (.inl r) = some (.int x)) : valV (nN n r x b L nx) (.inl j) = if j = r then some (.int (hN n r x L)) else valV nx (.inl j) := by
  unfold nN
  split
  · rw [valV_put]
    by_cases e : j = r
    · rw [if_pos e, if_pos (by rw [e])]
    · rw [if_neg e, if_neg (fun z => e (Sum.inl.inj z))]
  · rename_i g
    by_cases e : j = r
    · rw [if_pos e, e, hx]
      have : hN n r x L = x := by
        cases L with
        | tell _ _ => rfl
        | ask _ _ => rfl
        | answer r' u m' => exact Decidable.byContradiction fun z => g ⟨rfl, rfl, z⟩
      rw [this]
    · rw [if_neg e]
theorem nB_val {n r j : Int} {b : V} {L : Let} {bf : List (Key × V)} (hb : valV bf (.inl r) = some b) : valV (nB n r b L bf) (.inl j) = if j = r then some (hB n r b L) else valV bf (.inl j) := by
  unfold nB
  split
  · rw [valV_put]
    by_cases e : j = r
    · rw [if_pos e, if_pos (by rw [e])]
    · rw [if_neg e, if_neg (fun z => e (Sum.inl.inj z))]
  · rename_i g
    by_cases e : j = r
    · rw [if_pos e, e, hb]
      have : hB n r b L = b := by
        cases L with
        | tell r' u => exact Decidable.byContradiction fun z => g ⟨rfl, z⟩
        | ask _ _ => rfl
        | answer _ _ _ => rfl
      rw [this]
    · rw [if_neg e]
theorem nB_bef {n r j : Int} {L : Let} {bs : List (Key × V)} : bef (nB n r (bef bs r) L bs) j = if j = r then hB n r (bef bs r) L else bef bs j := by
  unfold nB
  split
  · rw [bef, valV_put]
    by_cases e : j = r
    · rw [if_pos e, if_pos (by rw [e])]
      rfl
    · rw [if_neg e, if_neg (fun z => e (Sum.inl.inj z))]
      rfl
  · rename_i g
    by_cases e : j = r
    · rw [if_pos e, e]
      have : hB n r (bef bs r) L = bef bs r := by
        cases L with
        | tell r' u => exact Decidable.byContradiction fun z => g ⟨rfl, z⟩
        | ask _ _ => rfl
        | answer _ _ _ => rfl
      rw [this]
    · rw [if_neg e]
theorem hN_mem {n r x : Int} {L : Let} : hN n r x L = x ∨ hN n r x L ∈ L.ns := by
  cases L with
  | tell _ _ => exact .inl rfl
  | ask _ _ => exact .inl rfl
  | answer r' u m =>
    show hAns n r x u m = x ∨ _
    show hAns n r x u m = x ∨ hAns n r x u m ∈ [r', u, m]
    unfold hAns
    split
    · exact .inr (by simp)
    · exact .inl rfl
theorem hB_mem {n r : Int} {b : V} {L : Let} (ob : okB b) : hB n r b L = b ∨ ∃ u ∈ L.ns, hB n r b L = .int u := by
  cases L with
  | tell r' u =>
    show hTell n r u b = b ∨ ∃ u' ∈ [r', u], hTell n r u b = .int u'
    rcases ob with rfl | ⟨z, rfl⟩
    · exact .inr ⟨u, by simp, rfl⟩
    · unfold hTell
      dsimp only
      split
      · exact .inr ⟨u, by simp, rfl⟩
      · exact .inl rfl
  | ask _ _ => exact .inl rfl
  | answer _ _ _ => exact .inl rfl
theorem ne_kind {H : Hp} {a b : Addr} {o u : HO} (h : H a = some o) (g : H b = some u) (e : o ≠ u) : a ≠ b := fun z => by
  rw [z, g] at h
  exact e (Option.some.inj h).symm
theorem nT_head (n r x : Int) (b : V) (L : Let) : ∃ z : Str, atI (nT n r x b L) (0 : Int) = some (.str z) ∧ decide (V.str z = V.str "wrote") = decide (hA r b L ≠ none) := by
  unfold nT
  by_cases e : hA r b L = none
  · rw [if_neg (fun z => z e), decide_eq_false (fun z => z e)]
    split
    · exact ⟨"before", rfl, by decide +kernel⟩
    · split
      · exact ⟨"next", rfl, by decide +kernel⟩
      · exact ⟨"kept", rfl, by decide +kernel⟩
  · rw [if_pos e, decide_eq_true e]
    exact ⟨"wrote", rfl, by decide +kernel⟩
theorem nT_atom {n r x : Int} {b : V} {L : Let} (ob : okB b) : (nT n r x b L).length ≤ 100000 ∧ ∀ y ∈ nT n r x b L, atomV y = true := by
  have ab : atomV (hB n r b L) = true := by
    rcases okB.hB (n := n) (p := r) ob L with h | ⟨z, h⟩ <;> rw [h] <;> rfl
  unfold nT
  split
  · exact ⟨by show 3 ≤ 100000; decide, fun y hy => by
      simp only [List.mem_cons, List.not_mem_nil, or_false] at hy
      rcases hy with rfl | rfl | rfl <;> first | rfl | exact ab⟩
  · split
    · exact ⟨by show 3 ≤ 100000; decide, fun y hy => by
        simp only [List.mem_cons, List.not_mem_nil, or_false] at hy
        rcases hy with rfl | rfl | rfl <;> first | rfl | exact ab⟩
    · split
      · exact ⟨by show 3 ≤ 100000; decide, by simp [atomV]⟩
      · exact ⟨by show 3 ≤ 100000; decide, by simp [atomV]⟩
theorem hA_let {ks : List Int} {r : Int} {b : V} {L : Let} {ys : List V} (h : hA r b L = some ys) (hL : ∀ k ∈ L.ns, k ∈ ks) (hr : r ∈ ks) (hb : ∀ z : Int, b = .int z → z ∈ ks) : ∃ L' : Let, ys = L'.vals ∧ ∀ k ∈ L'.ns, k ∈ ks := by
  cases L with
  | ask r' u =>
    cases b with
    | int z =>
      cases h
      refine ⟨.answer u r z, rfl, fun k hk => ?_⟩
      have hk : k ∈ [u, r, z] := hk
      simp only [List.mem_cons, List.not_mem_nil, or_false] at hk
      rcases hk with rfl | rfl | rfl
      · exact hL _ (by show k ∈ [r', k]; simp)
      · exact hr
      · exact hb _ rfl
    | _ => cases h
  | tell _ _ => cases h
  | answer _ _ _ => cases h
theorem NetAt.but {C a dn db dl z : Addr} {H H' : Hp} {n : Int} {nx bf : List (Key × V)} {ls : List V} (N : NetAt C H a n dn db dl nx bf ls) (k : Kp z H H') (h1 : a ≠ z) (h2 : dn ≠ z) (h3 : db ≠ z) (h4 : dl ≠ z) : NetAt C H' a n dn db dl nx bf ls :=
  ⟨let ⟨dx, e⟩ := N.me; ⟨dx, k _ _ h1 e⟩, k _ _ h2 N.hn, k _ _ h3 N.hb, k _ _ h4 N.hl⟩
theorem perm_sorted_eq : ∀ {xs ys : List Int}, xs.Perm ys → xs.Pairwise (· ≤ ·) → ys.Pairwise (· ≤ ·) → xs = ys
  | [], ys, p, _, _ => by rw [List.nil_perm.mp p]
  | a :: r, [], p, _, _ => by have := p.length_eq; cases this
  | a :: r, b :: s, p, h1, h2 => by
    have ha : a ∈ b :: s := p.mem_iff.mp List.mem_cons_self
    have hb : b ∈ a :: r := p.mem_iff.mpr List.mem_cons_self
    obtain ⟨h3, h4⟩ := List.pairwise_cons.mp h1
    obtain ⟨h5, h6⟩ := List.pairwise_cons.mp h2
    have e : a = b := by
      rcases List.mem_cons.mp ha with e | e
      · exact e
      · rcases List.mem_cons.mp hb with g | g
        · exact g.symm
        · have := h5 a e
          have := h3 b g
          omega
    subst e
    rw [perm_sorted_eq (List.Perm.cons_inv p) h4 h6]
theorem dic_same {K : PySem.W.Frag} {H : Hp} {a b : Addr} {kvs : List (Key × V)} (h1 : H a = some (.dK kvs)) (h2 : H b = some (.dK kvs)) (hl : kvs.length ≤ 100000) (ha : ∀ kv ∈ kvs, atomV kv.2 = true) : Sm K 5 H (.ref a) (.ref b) :=
  .dic h1 h2 rfl hl (fun i x y hx hy => by rw [hx] at hy; cases hy; rfl) fun i x y hx hy => by
    rw [hx] at hy
    cases hy
    exact .atom (ha x (List.mem_of_getElem? hx))
/-! ### ways along the nexts: houses met, lengths, laps -/
def itr (f : Int → Int) (s : Int) : Nat → Int
  | 0 => s
  | i + 1 => f (itr f s i)
def wl (n : Int) (f : Int → Int) (s : Int) : Nat → Int
  | 0 => 0
  | i + 1 => wl n f s i + farL n (itr f s i) (f (itr f s i))
structure Lasso (f : Int → Int) (s : Int) (m : Nat) : Prop where
  dis : ∀ i j, i < m → j < m → itr f s i = itr f s j → i = j
  back : ∃ g, g < m ∧ itr f s m = itr f s g
section
variable {n s d : Int} {f : Int → Int} {ks : List Int} {m : Nat}
theorem itr_mem (cl : ∀ k ∈ ks, f k ∈ ks) (hs : s ∈ ks) : ∀ i, itr f s i ∈ ks
  | 0 => hs
  | i + 1 => cl _ (itr_mem cl hs i)
theorem itr_add (i : Nat) : ∀ j, itr f s (i + j) = itr f (itr f s i) j
  | 0 => rfl
  | j + 1 => congrArg f (itr_add i j)
theorem wl_add (i : Nat) : ∀ j, wl n f s (i + j) = wl n f s i + wl n f (itr f s i) j
  | 0 => (Int.add_zero _).symm
  | j + 1 => by
    show wl n f s (i + j) + farL n (itr f s (i + j)) (f (itr f s (i + j))) = wl n f s i + (wl n f (itr f s i) j + farL n (itr f (itr f s i) j) (f (itr f (itr f s i) j)))
    rw [wl_add i j, itr_add i j]
    omega
theorem wl_pos (h : 0 < n) : ∀ j : Nat, (j : Int) ≤ wl n f s j
  | 0 => Int.le_refl _
  | j + 1 => by
    have := wl_pos h j
    have := (far_range (itr f s j) (f (itr f s j)) h).1
    show ((j + 1 : Nat) : Int) ≤ wl n f s j + farL n (itr f s j) (f (itr f s j))
    omega
theorem wl_lt (h : 0 < n) {i j : Nat} (l : i < j) : wl n f s i < wl n f s j := by
  obtain ⟨t, rfl⟩ : ∃ t, j = i + t := ⟨j - i, by omega⟩
  rw [wl_add]
  have := wl_pos (f := f) (s := itr f s i) h t
  omega
theorem wl_le (h : 0 < n) {i j : Nat} (l : i ≤ j) : wl n f s i ≤ wl n f s j := by
  rcases Nat.lt_or_eq_of_le l with l | rfl
  · exact Int.le_of_lt (wl_lt h l)
  · exact Int.le_refl _
theorem nodup_len : ∀ {l ks : List Int}, l.Nodup → (∀ x ∈ l, x ∈ ks) → l.length ≤ ks.length
  | [], _, _, _ => Nat.zero_le _
  | a :: r, ks, h, hs => by
    obtain ⟨h1, h2⟩ := List.nodup_cons.mp h
    have ha := hs a List.mem_cons_self
    have := nodup_len (l := r) (ks := ks.erase a) h2 fun x hx => (List.mem_erase_of_ne (fun e => h1 (by rw [← e]; exact hx))).mpr (hs x (List.mem_cons_of_mem _ hx))
    rw [List.length_erase_of_mem ha] at this
    have := List.length_pos_of_mem ha
    rw [List.length_cons]
    omega
/-- the houses met so far -/
def met (f : Int → Int) (s : Int) (i : Nat) : List Int := (List.range i).map (itr f s)
theorem met_succ (i : Nat) : met f s (i + 1) = met f s i ++ [itr f s i] := by
  unfold met
  rw [List.range_succ, List.map_append]
  rfl
theorem met_len (i : Nat) : (met f s i).length = i := by unfold met; rw [List.length_map, List.length_range]
theorem met_get {i j : Nat} (h : j < i) : (met f s i)[j]? = some (itr f s j) := by
  unfold met
  rw [List.getElem?_map, List.getElem?_range h]
  rfl
theorem met_mem {i : Nat} {x : Int} : x ∈ met f s i ↔ ∃ j, j < i ∧ itr f s j = x := by
  unfold met
  rw [List.mem_map]
  exact ⟨fun ⟨j, h, e⟩ => ⟨j, List.mem_range.mp h, e⟩, fun ⟨j, h, e⟩ => ⟨j, List.mem_range.mpr h, e⟩⟩
theorem met_nodup_of {i : Nat} (h : ∀ a b, a < i → b < i → itr f s a = itr f s b → a = b) : (met f s i).Nodup := by
  induction i with
  | zero => exact List.nodup_nil
  | succ i ih =>
    rw [met_succ]
    refine List.nodup_append.mpr ⟨ih fun a b ha hb => h a b (by omega) (by omega), by simp, fun x hx y hy e => ?_⟩
    rw [List.mem_singleton] at hy
    obtain ⟨j, hj, ej⟩ := met_mem.mp hx
    have := h j i (by omega) (by omega) (by rw [ej, e, hy])
    omega
theorem met_dis {i : Nat} (h : (met f s i).Nodup) : ∀ a b, a < i → b < i → itr f s a = itr f s b → a = b := fun a b ha hb e => by
  have h1 := met_get (f := f) (s := s) ha
  have h2 := met_get (f := f) (s := s) hb
  have l1 : a < (met f s i).length := by rw [met_len]; exact ha
  have l2 : b < (met f s i).length := by rw [met_len]; exact hb
  rw [List.getElem?_eq_getElem l1] at h1
  rw [List.getElem?_eq_getElem l2] at h2
  exact (List.getElem_inj h).mp (by rw [Option.some.inj h1, Option.some.inj h2, e])
theorem met_le (cl : ∀ k ∈ ks, f k ∈ ks) (hs : s ∈ ks) {i : Nat} (h : (met f s i).Nodup) : i ≤ ks.length := by
  have := nodup_len (ks := ks) h fun x hx => let ⟨j, _, e⟩ := met_mem.mp hx; e ▸ itr_mem cl hs j
  rw [met_len] at this
  exact this
theorem Lasso.of (h : (met f s m).Nodup) (hm : itr f s m ∈ met f s m) : Lasso f s m := ⟨met_dis h, let ⟨g, l, e⟩ := met_mem.mp hm; ⟨g, l, e.symm⟩⟩
theorem Lasso.nodup (L : Lasso f s m) : (met f s m).Nodup := met_nodup_of L.dis
theorem Lasso.le (L : Lasso f s m) (cl : ∀ k ∈ ks, f k ∈ ks) (hs : s ∈ ks) : m ≤ ks.length := met_le cl hs L.nodup
theorem Lasso.pos (L : Lasso f s m) : 0 < m := let ⟨_, l, _⟩ := L.back; by omega
theorem lap_itr {g m : Nat} (e : itr f s m = itr f s g) (t : Nat) : itr f s (m + t) = itr f s (g + t) := by rw [itr_add, itr_add, e]
theorem lap_wl {g m : Nat} (e : itr f s m = itr f s g) (t : Nat) : wl n f s (m + t) = wl n f s (g + t) + (wl n f s m - wl n f s g) := by
  rw [wl_add, wl_add, e]
  omega
theorem laps_itr {g p : Nat} (e : itr f s (g + p) = itr f s g) (t : Nat) : ∀ c : Nat, itr f s (g + t + c * p) = itr f s (g + t)
  | 0 => by rw [Nat.zero_mul, Nat.add_zero]
  | c + 1 => by
    rw [Nat.succ_mul, show g + t + (c * p + p) = g + p + (t + c * p) by omega, lap_itr e, show g + (t + c * p) = g + t + c * p by omega, laps_itr e t c]
theorem laps_wl {g p : Nat} (e : itr f s (g + p) = itr f s g) (t : Nat) : ∀ c : Nat, wl n f s (g + t + c * p) = wl n f s (g + t) + c * (wl n f s (g + p) - wl n f s g)
  | 0 => by rw [Nat.zero_mul, Nat.add_zero]; omega
  | c + 1 => by
    rw [Nat.succ_mul, show g + t + (c * p + p) = g + p + (t + c * p) by omega, lap_wl e, show g + (t + c * p) = g + t + c * p by omega, laps_wl e t c, Int.natCast_succ, Int.add_mul, Int.one_mul]
    omega
theorem Lasso.all (L : Lasso f s m) : ∀ k, ∃ i, i < m ∧ itr f s k = itr f s i
  | 0 => ⟨0, L.pos, rfl⟩
  | k + 1 => by
    obtain ⟨i, hi, e⟩ := L.all k
    by_cases h : i + 1 < m
    · exact ⟨i + 1, h, congrArg f e⟩
    · obtain ⟨g, hg, eg⟩ := L.back
      have : m = i + 1 := by omega
      subst this
      exact ⟨g, hg, (congrArg f e).trans eg⟩
theorem far_dvd (a b : Int) (h : 0 < n) : ∃ q, farL n a b = b - a + n * q := by
  rw [far_emod a b h]
  have e := Int.emod_add_mul_ediv (b - a - 1) n
  refine ⟨- ((b - a - 1) / n), ?_⟩
  rw [Int.mul_neg]
  omega
theorem wl_dvd (h : 0 < n) : ∀ j : Nat, ∃ q, wl n f s j = itr f s j - s + n * q
  | 0 => ⟨0, by show (0 : Int) = s - s + n * 0; omega⟩
  | j + 1 => by
    obtain ⟨q, e⟩ := wl_dvd h j
    obtain ⟨r, e2⟩ := far_dvd (itr f s j) (f (itr f s j)) h
    refine ⟨q + r, ?_⟩
    show wl n f s j + farL n (itr f s j) (f (itr f s j)) = f (itr f s j) - s + n * (q + r)
    rw [e, e2, Int.mul_add]
    omega
/-- as many steps as there are houses go round at least once -/
theorem wl_round (h : 0 < n) (cl : ∀ k ∈ ks, f k ∈ ks) (hs : s ∈ ks) : n ≤ wl n f s ks.length := by
  have : ¬ (met f s (ks.length + 1)).Nodup := fun z => by
    have := met_le cl hs z
    omega
  have : ∃ a b, a < b ∧ b ≤ ks.length ∧ itr f s a = itr f s b := by
    refine Classical.byContradiction fun no => this (met_nodup_of fun a b ha hb e => ?_)
    rcases Nat.lt_trichotomy a b with l | l | l
    · exact (no ⟨a, b, l, by omega, e⟩).elim
    · exact l
    · exact (no ⟨b, a, l, by omega, e.symm⟩).elim
  obtain ⟨a, b, hab, hb, e⟩ := this
  obtain ⟨q, eq⟩ := wl_dvd (f := f) (s := itr f s a) h (b - a)
  have e2 : itr f (itr f s a) (b - a) = itr f s a := by rw [← itr_add, show a + (b - a) = b by omega, e]
  have e3 : wl n f s b = wl n f s a + wl n f (itr f s a) (b - a) := by rw [← wl_add, show a + (b - a) = b by omega]
  have p1 := wl_pos (f := f) (s := itr f s a) h (b - a)
  have p2 := wl_pos (f := f) (s := s) h a
  have p3 := wl_le (f := f) (s := s) h hb
  have eq : wl n f (itr f s a) (b - a) = n * q := by omega
  have : 1 ≤ q := by
    refine Classical.byContradiction fun z => ?_
    have : n * q ≤ 0 := Int.mul_nonpos_of_nonneg_of_nonpos (by omega) (by omega)
    omega
  have : n * 1 ≤ n * q := Int.mul_le_mul_of_nonneg_left this (by omega)
  omega
theorem wl_rounds (h : 0 < n) (cl : ∀ k ∈ ks, f k ∈ ks) (hs : s ∈ ks) : ∀ q : Nat, n * q ≤ wl n f s (ks.length * q)
  | 0 => by rw [Nat.mul_zero]; show n * 0 ≤ 0; omega
  | q + 1 => by
    have h1 := wl_rounds h cl hs q
    have h2 := wl_round (f := f) h cl (itr_mem cl hs (ks.length * q))
    rw [Nat.mul_succ, wl_add, Int.natCast_succ, Int.mul_add]
    omega
/-- where the way has at least the distance d first -/
def FirstAt (n : Int) (f : Int → Int) (s d : Int) (K : Nat) : Prop := d ≤ wl n f s K ∧ ∀ k, k < K → wl n f s k < d
theorem FirstAt.uniq (h : 0 < n) {a b : Nat} (x : FirstAt n f s d a) (y : FirstAt n f s d b) : a = b := by
  rcases Nat.lt_trichotomy a b with l | l | l
  · have := y.2 a l
    have := x.1
    omega
  · exact l
  · have := x.2 b l
    have := y.1
    omega
theorem firstAt_of (h : 0 < n) {K : Nat} (h1 : d ≤ wl n f s K) (h2 : K = 0 ∨ wl n f s (K - 1) < d) : FirstAt n f s d K := by
  refine ⟨h1, fun k hk => ?_⟩
  rcases h2 with rfl | h2
  · omega
  · exact Int.lt_of_le_of_lt (wl_le h (by omega)) h2
/-- whole laps need not be walked -/
theorem laps_first (h : 0 < n) {g j : Nat} (hg : g < m) (e : itr f s m = itr f s g) (hj : j ≤ m) (h1 : ∀ i, i < j → wl n f s i + max 0 (d - wl n f s g) / (wl n f s m - wl n f s g) * (wl n f s m - wl n f s g) < d)
    (h2 : j < m → d ≤ wl n f s j + max 0 (d - wl n f s g) / (wl n f s m - wl n f s g) * (wl n f s m - wl n f s g)) :
    ∃ K, FirstAt n f s d K ∧ itr f s K = itr f s j ∧ wl n f s K = wl n f s j + max 0 (d - wl n f s g) / (wl n f s m - wl n f s g) * (wl n f s m - wl n f s g) := by
  have lp := wl_lt (f := f) (s := s) h hg
  generalize ew : wl n f s m - wl n f s g = lap at *
  have lp : 0 < lap := by omega
  have q0 : 0 ≤ max 0 (d - wl n f s g) / lap := Int.ediv_nonneg (by omega) (by omega)
  have qe := Int.emod_add_mul_ediv (max 0 (d - wl n f s g)) lap
  have r0 := Int.emod_nonneg (max 0 (d - wl n f s g)) (by omega : lap ≠ 0)
  have r1 := Int.emod_lt_of_pos (max 0 (d - wl n f s g)) lp
  generalize max 0 (d - wl n f s g) / lap = q at *
  generalize max 0 (d - wl n f s g) % lap = r at *
  obtain ⟨c, rfl⟩ : ∃ c : Nat, q = c := ⟨q.toNat, by omega⟩
  rw [Int.mul_comm lap] at qe
  generalize ec : (c : Int) * lap = skip at *
  have k2 : d ≤ wl n f s j + skip := by
    by_cases l : j < m
    · exact h2 l
    · have : j = m := by omega
      subst this
      omega
  by_cases c0 : c = 0
  · subst c0
    have : skip = 0 := by rw [← ec]; exact Int.zero_mul _
    subst this
    exact ⟨j, ⟨by omega, fun k hk => by have := h1 k hk; omega⟩, rfl, by omega⟩
  · have : lap ≤ skip := by
      rw [← ec]
      have : (1 : Int) * lap ≤ c * lap := Int.mul_le_mul_of_nonneg_right (by omega) (by omega)
      omega
    have dg : wl n f s g + skip ≤ d := by omega
    have jg : g ≤ j := by
      refine Classical.byContradiction fun z => ?_
      have := wl_lt (f := f) (s := s) h (show j < g by omega)
      omega
    obtain ⟨t, rfl⟩ : ∃ t, j = g + t := ⟨j - g, by omega⟩
    obtain ⟨p, rfl⟩ : ∃ p, m = g + p := ⟨m - g, by omega⟩
    have e1 := laps_itr e t c
    have e2 := laps_wl (n := n) e t c
    rw [ew, ec] at e2
    refine ⟨g + t + c * p, firstAt_of h (by omega) ?_, e1, e2⟩
    by_cases t0 : t = 0
    · subst t0
      right
      have := wl_lt (f := f) (s := s) h (show g + 0 + c * p - 1 < g + 0 + c * p by
        have : 0 < c * p := Nat.mul_pos (by omega) (by omega)
        omega)
      rw [e2] at this
      have e0 : wl n f s (g + 0) = wl n f s g := rfl
      omega
    · right
      have e3 := laps_wl (n := n) e (t - 1) c
      rw [ew, ec] at e3
      rw [show g + t + c * p - 1 = g + (t - 1) + c * p by omega, e3]
      exact h1 _ (by omega)
end
--CUT
/-! ### the two calm rounds, in plain words -/
def iN (nx : List (Key × V)) (y : Int) : Int := match valV nx (.inl y) with | some (.int x) => x | _ => 0
def zO : V → Int | .int z => z | _ => 0
theorem iN_of {nx : List (Key × V)} {y x : Int} (h : valV nx (.inl y) = some (.int x)) : iN nx y = x := by unfold iN; rw [h]
def tellB (n : Int) (nx bs : List (Key × V)) (y : Int) : List (Key × V) := nB n (iN nx y) (bef bs (iN nx y)) (.tell (iN nx y) y) bs
def tells (n : Int) (nx bs : List (Key × V)) (ys : List Int) : List (Key × V) := ys.foldl (tellB n nx) bs
def askL (bs nx : List (Key × V)) (y : Int) : Let := .answer y (iN nx y) (zO (bef bs (iN nx y)))
def askS (n : Int) (bs : List (Key × V)) (s : List (Key × V) × Int) (y : Int) : List (Key × V) × Int := (nN n y (iN s.1 y) (bef bs y) (askL bs s.1 y) s.1, if hN n y (iN s.1 y) (askL bs s.1 y) = iN s.1 y then s.2 else s.2 + 1)
def asks (n : Int) (bs nx : List (Key × V)) (ys : List Int) : List (Key × V) × Int := ys.foldl (askS n bs) (nx, 0)
/-- befores of houses alone -/
def GB (ks : List Int) (bs : List (Key × V)) : Prop := ∀ (p : Int) v, valV bs (.inl p) = some v → p ∈ ks ∧ ∃ x ∈ ks, v = .int x
def GN (ks : List Int) (nx : List (Key × V)) : Prop := nx.map (·.1) = ks.map Sum.inl ∧ ∀ k ∈ ks, ∃ x ∈ ks, valV nx (.inl k) = some (.int x)
def KB (bs : List (Key × V)) : Prop := ∃ js : List Int, bs.map (·.1) = js.map Sum.inl ∧ js.Nodup
theorem tells_succ {n : Int} {nx bs : List (Key × V)} {ys : List Int} {i : Nat} {y : Int} (h : ys[i]? = some y) : tells n nx bs (ys.take (i + 1)) = tellB n nx (tells n nx bs (ys.take i)) y := by
  unfold tells
  rw [List.take_add_one, h, Option.toList_some, List.foldl_append]
  rfl
theorem asks_succ {n : Int} {nx bs : List (Key × V)} {ys : List Int} {i : Nat} {y : Int} (h : ys[i]? = some y) : asks n bs nx (ys.take (i + 1)) = askS n bs (asks n bs nx (ys.take i)) y := by
  unfold asks
  rw [List.take_add_one, h, Option.toList_some, List.foldl_append]
  rfl
theorem GB.nB {ks : List Int} {bs : List (Key × V)} {n r : Int} {L : Let} (g : GB ks bs) (hL : ∀ k ∈ L.ns, k ∈ ks) (hr : r ∈ ks) : GB ks (nB n r (bef bs r) L bs) := fun p v e => by
  unfold Z.nB at e
  split at e
  · rename_i h
    rw [valV_put] at e
    by_cases z : p = r
    · rw [if_pos (by rw [z])] at e
      obtain ⟨u, mu, eu⟩ := (hB_mem (n := n) (r := r) (L := L) (bef_ok fun p v e => let ⟨_, x, _, e2⟩ := g p v e; ⟨x, e2⟩)).resolve_left h.2
      exact ⟨by rw [z]; exact hr, u, hL _ mu, by rw [← Option.some.inj e, eu]⟩
    · rw [if_neg (fun y => z (Sum.inl.inj y))] at e
      exact g p v e
  · exact g p v e
theorem GB.ok {ks : List Int} {bs : List (Key × V)} (g : GB ks bs) (k : Int) : okB (bef bs k) := bef_ok fun p v e => let ⟨_, x, _, e2⟩ := g p v e; ⟨x, e2⟩
theorem GB.some {ks : List Int} {bs : List (Key × V)} (g : GB ks bs) {k : Int} (h : bef bs k ≠ .non) : ∃ z ∈ ks, bef bs k = .int z := by
  unfold bef at h ⊢
  cases e : valV bs (.inl k) with
  | none => rw [e] at h; exact absurd rfl h
  | some v =>
    obtain ⟨_, x, mx, ex⟩ := g k v e
    exact ⟨x, mx, ex⟩
theorem valV_mem_keys {kvs : List (Key × V)} {js : List Int} {p : Int} (h : kvs.map (·.1) = js.map Sum.inl) (hp : p ∈ js) : (valV kvs (.inl p)).isSome = true := by
  induction kvs generalizing js with
  | nil =>
    cases js with
    | nil => cases hp
    | cons a b => cases h
  | cons kv r ih =>
    cases js with
    | nil => cases hp
    | cons j js =>
      obtain ⟨k, v⟩ := kv
      have h1 : k = Sum.inl j := (List.cons.inj h).1
      by_cases e : p = j
      · rw [valV_pos (by rw [h1, e])]
        rfl
      · rw [valV_neg (by rw [h1]; exact fun z => e (Sum.inl.inj z).symm)]
        exact ih (List.cons.inj h).2 ((List.mem_cons.mp hp).resolve_left e)
theorem KB.put {bs : List (Key × V)} {r : Int} {v : V} (h : KB bs) : KB (putK bs (.inl r) v) := by
  obtain ⟨js, e, nd⟩ := h
  by_cases m : r ∈ js
  · exact ⟨js, by rw [keys_putK_old (valV_mem_keys e m)]; exact e, nd⟩
  · refine ⟨js ++ [r], ?_, List.nodup_append.mpr ⟨nd, List.pairwise_singleton _ _, fun a ha b hb z => by rw [List.mem_singleton.mp hb] at z; rw [z] at ha; exact m ha⟩⟩
    rw [putK_new _ (valV_none_keys e m), List.map_append, List.map_append, e]
    rfl
theorem KB.nB {bs : List (Key × V)} {n r : Int} {b : V} {L : Let} (h : KB bs) : KB (nB n r b L bs) := by
  unfold Z.nB
  split
  · exact h.put
  · exact h
theorem GN.nN {ks : List Int} {nx : List (Key × V)} {n r x : Int} {b : V} {L : Let} (g : GN ks nx) (hL : ∀ k ∈ L.ns, k ∈ ks) (hr : r ∈ ks) (hx : valV nx (.inl r) = some (.int x)) : GN ks (nN n r x b L nx) := by
  refine ⟨?_, fun j hj => ?_⟩
  · unfold Z.nN
    split
    · rw [keys_putK_old (by rw [hx]; rfl)]
      exact g.1
    · exact g.1
  · rw [nN_val hx]
    by_cases e : j = r
    · rw [if_pos e]
      refine ⟨_, ?_, rfl⟩
      rcases hN_mem (n := n) (r := r) (x := x) (L := L) with z | z
      · rw [z]
        obtain ⟨y, my, ey⟩ := g.2 _ hr
        rw [hx] at ey
        rw [V.int.inj (Option.some.inj ey)]
        exact my
      · exact hL _ z
    · rw [if_neg e]
      exact g.2 j hj
theorem nodup_sub_len : ∀ {js ks : List Int}, js.Nodup → (∀ j ∈ js, j ∈ ks) → js.length ≤ ks.length
  | [], ks, _, _ => Nat.zero_le _
  | j :: js, ks, nd, h => by
    obtain ⟨h1, h2⟩ := List.nodup_cons.mp nd
    have m := h j List.mem_cons_self
    have := nodup_sub_len (js := js) (ks := ks.erase j) h2 fun k hk => (List.mem_erase_of_ne (fun z => h1 (by rw [← z]; exact hk))).mpr (h k (List.mem_cons_of_mem _ hk))
    rw [List.length_erase_of_mem m] at this
    have := List.length_pos_of_mem m
    show js.length + 1 ≤ ks.length
    omega
theorem KB.len {ks : List Int} {bs : List (Key × V)} (h : KB bs) (g : GB ks bs) : bs.length ≤ ks.length := by
  obtain ⟨js, e, nd⟩ := h
  have l : bs.length = js.length := by have := congrArg List.length e; rw [List.length_map, List.length_map] at this; exact this
  rw [l]
  refine nodup_sub_len nd fun j hj => ?_
  obtain ⟨v, hv⟩ := Option.isSome_iff_exists.mp (valV_mem_keys e hj)
  exact (g j v hv).1
theorem tell_bef {n : Int} {nx bs : List (Key × V)} {y k : Int} : bef (tellB n nx bs y) k = if k = iN nx y then hTell n (iN nx y) y (bef bs (iN nx y)) else bef bs k := nB_bef
theorem hTell_some {n p u : Int} {b : V} : hTell n p u b ≠ .non := by
  cases b with
  | int z =>
    unfold hTell
    dsimp only
    split <;> exact fun z => nomatch z
  | _ => exact fun z => nomatch z
theorem tells_keep {n : Int} {nx : List (Key × V)} {k : Int} : ∀ {ys : List Int} {bs : List (Key × V)}, bef bs k ≠ .non → bef (tells n nx bs ys) k ≠ .non
  | [], _, h => h
  | y :: ys, bs, h => by
    show bef (tells n nx (tellB n nx bs y) ys) k ≠ .non
    refine tells_keep ?_
    rw [tell_bef]
    split
    · exact hTell_some
    · exact h
theorem tells_has {n : Int} {nx : List (Key × V)} {y : Int} : ∀ {ys : List Int} {bs : List (Key × V)}, y ∈ ys → bef (tells n nx bs ys) (iN nx y) ≠ .non
  | a :: ys, bs, h => by
    show bef (tells n nx (tellB n nx bs a) ys) (iN nx y) ≠ .non
    by_cases e : y = a
    · subst e
      refine tells_keep ?_
      rw [tell_bef, if_pos rfl]
      exact hTell_some
    · exact tells_has ((List.mem_cons.mp h).resolve_left e)
section
variable {ks : List Int} {n : Int} {nx bs : List (Key × V)}
theorem tells_all (gn : GN ks nx) : ∀ {ys : List Int} {bs : List (Key × V)}, (∀ y ∈ ys, y ∈ ks) → GB ks bs → KB bs → GB ks (tells n nx bs ys) ∧ KB (tells n nx bs ys)
  | [], _, _, g, k => ⟨g, k⟩
  | y :: ys, bs, h, g, k => by
    have hy := h y List.mem_cons_self
    obtain ⟨x, mx, ex⟩ := gn.2 y hy
    show GB ks (tells n nx (tellB n nx bs y) ys) ∧ KB (tells n nx (tellB n nx bs y) ys)
    refine tells_all gn (ys := ys) (fun z hz => h z (List.mem_cons_of_mem _ hz)) (GB.nB g (fun k hk => ?_) (by rw [iN_of ex]; exact mx)) k.nB
    have hk : k ∈ [iN nx y, y] := hk
    simp only [List.mem_cons, List.not_mem_nil, or_false] at hk
    rcases hk with rfl | rfl
    · rw [iN_of ex]; exact mx
    · exact hy
/-- what the befores of the net and those beside say alike -/
def VF (ks : List Int) (bf bs : List (Key × V)) : Prop := ∀ k ∈ ks, valV bf (.inl k) = some (bef bs k)
theorem VF.nB {bf : List (Key × V)} {r : Int} {L : Let} (h : VF ks bf bs) (hr : r ∈ ks) : VF ks (nB n r (bef bs r) L bf) (nB n r (bef bs r) L bs) := fun j hj => by
  rw [nB_val (h _ hr), nB_bef]
  by_cases e : j = r
  · rw [if_pos e, if_pos e]
  · rw [if_neg e, if_neg e]
    exact h j hj
theorem nB_len {bf : List (Key × V)} {r : Int} {b : V} {L : Let} (h : (valV bf (.inl r)).isSome = true) : (nB n r b L bf).length = bf.length := by
  unfold Z.nB
  split
  · have := congrArg List.length (keys_putK_old (v := hB n r b L) h)
    rw [List.length_map, List.length_map] at this
    exact this
  · rfl
end
/-! ### a walk over a dict that has just been made -/
def tLk (td : TE) : TE := fun σ H Q => td σ H fun x H1 => ∃ (d : Addr) (kvs : List (Key × V)), x = .ref d ∧ H1 d = some (.dK kvs) ∧ ∀ o, Q x (upd H1 d (.frz o (.dK kvs)))
theorem pe_lk {X : Cx} {e : Expr} {td : TE} (he : PE X e td) : PE X e (tLk td) := by
  refine ⟨fun pins s σ H Q I h => ?_⟩
  refine thn (he.run pins s σ _ _ I h) fun u s1 ⟨x, H1, I1, r, d, kvs, ex, hd, q⟩ => ?_
  obtain ⟨od, I2⟩ := I1.lock hd trivial
  exact ⟨x, _, I2, r, q od⟩
/-- rows of tuples -/
def LAt {α : Type} (f : α → List V) (H : Hp) (vs : List V) (qs : List α) : Prop := vs.length = qs.length ∧ ∀ (i : Nat) v q, vs[i]? = some v → qs[i]? = some q → ∃ a, v = V.ref a ∧ H a = some (.tup (f q))
section
variable {α : Type} {f : α → List V} {H H' : Hp} {vs us : List V} {qs ps : List α}
theorem LAt.nil : LAt f H [] ([] : List α) := ⟨rfl, fun i v q h => by simp at h⟩
theorem LAt.mono (h : LAt f H vs qs) (k : ∀ a xs, H a = some (.tup xs) → H' a = some (.tup xs)) : LAt f H' vs qs := ⟨h.1, fun i v q e1 e2 => let ⟨a, e3, e4⟩ := h.2 i v q e1 e2; ⟨a, e3, k _ _ e4⟩⟩
theorem LAt.same (h : LAt f H vs qs) (s : Same H H') : LAt f H' vs qs := h.mono fun _ _ e => s _ _ e
theorem LAt.cat (h : LAt f H vs qs) (g : LAt f H us ps) : LAt f H (vs ++ us) (qs ++ ps) := by
  refine ⟨by rw [List.length_append, List.length_append, h.1, g.1], fun i v q e1 e2 => ?_⟩
  rw [List.getElem?_append] at e1 e2
  by_cases z : i < vs.length
  · rw [if_pos z] at e1
    rw [if_pos (by rw [← h.1]; exact z)] at e2
    exact h.2 i v q e1 e2
  · rw [if_neg z] at e1
    rw [if_neg (by rw [← h.1]; exact z), ← h.1] at e2
    exact g.2 _ v q e1 e2
theorem LAt.one {a : Addr} {q : α} (e : H a = some (.tup (f q))) : LAt f H [.ref a] [q] := ⟨rfl, fun i v q' e1 e2 => by
  match i with
  | 0 => cases e1; cases e2; exact ⟨a, rfl, e⟩
  | i + 1 => simp at e1⟩
theorem LAt.app {a : Addr} {q : α} (h : LAt f H vs qs) (e : H a = some (.tup (f q))) : LAt f H (vs ++ [.ref a]) (qs ++ [q]) := h.cat (.one e)
theorem LAt.at (h : LAt f H vs qs) {i : Nat} {v : V} (e : vs[i]? = some v) : ∃ a q, qs[i]? = some q ∧ v = .ref a ∧ H a = some (.tup (f q)) := by
  have hi : i < qs.length := by rw [← h.1]; exact (List.getElem?_eq_some_iff.mp e).1
  obtain ⟨a, e1, e2⟩ := h.2 i v _ e (List.getElem?_eq_getElem hi)
  exact ⟨a, _, List.getElem?_eq_getElem hi, e1, e2⟩
theorem LAt.sm {K : PySem.W.Frag} (h : LAt f H vs qs) (g : LAt f H us qs) (ha : ∀ q ∈ qs, (f q).length ≤ 100000 ∧ ∀ y ∈ f q, atomV y = true) : ∀ (i : Nat) x y, vs[i]? = some x → us[i]? = some y → Sm K 2 H x y := fun i x y hx hy => by
  obtain ⟨a, q, e0, rfl, e1⟩ := h.at hx
  obtain ⟨b, e2, e3⟩ := g.2 i y q hy e0
  rw [e2]
  exact tup_same e1 e3 (ha q (List.mem_of_getElem? e0)).1 (ha q (List.mem_of_getElem? e0)).2
end
def pV (q : Int × Int) : List V := [.int q.1, .int q.2]
def sV (n : Int) (q : Int × Int) : List V := [.int q.1, .int q.2, .int (farL n q.1 q.2)]
def rV (f g : Int → V) (y : Int) : List V := [.int y, f y, g y]
def LetP : Let → List (Int × Int)
  | .tell r u => [(u, r)]
  | .ask _ _ => []
  | .answer _ u m => [(m, u)]
/-- a snapshot -/
def Shot (n : Int) (f g : Int → V) (ys : List Int) (H : Hp) (p : Addr) (ls : List V) : Prop := ∃ (r l : Addr) (rs : List V), H p = some (.tup [.int n, .ref r, .ref l]) ∧ H l = some (.tup ls) ∧ H r = some (.tup rs) ∧ LAt (rV f g) H rs ys
def sp_Net__hold (C : Addr) : Sp := fun vs H Q _ => ∃ (h dn db dl : Addr) (n p x : Int) (v : V) (nx bf : List (Key × V)) (ls : List V), vs = [.ref h, .int p, .int x] ∧ NetAt C H h n dn db dl nx bf ls ∧ valV nx (.inl p) = some v ∧ (valV nx (.inl x)).isSome = true ∧ nx.length ≤ 1000 ∧ Q v (upd H dn (.dK (putK nx (.inl p) (.int x))))
theorem T0.ok_Net__hold (T : T0 K mg) : FnOk P w K mg base CX0 2 T.a_Net__hold T.fd_Net__hold ["self", "house", "target"] (sp_Net__hold T.C_Net) := by
  refine T.F_Net__hold.ok sc_Net__hold (fun vs H Q E h => ?_) (fun cdv A outer s H vs Q E hr h => ?_)
  · obtain ⟨h, dn, db, dl, n, p, x, v, nx, bf, ls, rfl, _⟩ := h
    rfl
  · obtain ⟨h, dn, db, dl, n, p, x, v, nx, bf, ls, rfl, hN, hp, hx, hz, q⟩ := h
    obtain ⟨dx, hh⟩ := hN.me
    refine ⟨_, (pss_cons (ps_expr (pe_meth (pv 0) T.cl_Net T.me_Net__check_house T.ok_Net__check_house hr T.b_Net__check_house .nil pass0 (pa_cons (pv 1) pa_nil)))
        (pss_cons (ps_expr (pe_meth (pv 0) T.cl_Net T.me_Net__check_house T.ok_Net__check_house hr T.b_Net__check_house .nil pass0 (pa_cons (pv 2) pa_nil)))
        (pss_cons (ps_set (i := 3) sc_Net__hold.nd rfl (Or.inl rfl) (pe_dget (un1 hr) (show PE _ _ (tFld K _ _) from pe_fld (pv 0) rfl) (pv 1) (fun _ _ => rfl)))
        (pss_cons (ps_asg (pv 2) (pg_sub (show PE _ _ (tFld K _ _) from pe_fld (pv 0) rfl) (pv 1) (set_dict (un1 hr))))
        (pss_one (ps_ret (pv 3))))))), ?_⟩
    refine ⟨_, rfl, h, dx, _, rfl, hh, (by unfold nf; walk_at "lk"), _, rfl, h, dn, db, dl, n, p, nx, bf, ls, rfl, hN, (by rw [hp]; rfl), ?_⟩
    refine ⟨_, rfl, h, dx, _, rfl, hh, (by unfold nf; walk_at "lk"), _, rfl, h, dn, db, dl, n, x, nx, bf, ls, rfl, hN, hx, ?_⟩
    refine ⟨_, rfl, h, _, dx, _, _, rfl, hh, T.cl_Net, T.na_Net__nexts, nf_nexts, _, rfl, dn, _, rfl, dget_of (k := Sum.inl p) hN.hn hp, ?_⟩
    refine ⟨_, rfl, _, rfl, h, _, dx, _, _, rfl, hh, T.cl_Net, T.na_Net__nexts, nf_nexts, _, rfl, dn, _, rfl, DPut.k (k := Sum.inl p) hN.hn (small1000' (by omega)), ?_⟩
    exact ⟨_, rfl, q⟩
def sp_Net__set_before (C : Addr) : Sp := fun vs H Q _ => ∃ (h dn db dl : Addr) (n p : Int) (b : V) (nx bf : List (Key × V)) (ls : List V), vs = [.ref h, .int p, b] ∧ NetAt C H h n dn db dl nx bf ls ∧ (valV nx (.inl p)).isSome = true ∧ (b = .non ∨ ∃ x : Int, b = .int x ∧ (valV nx (.inl x)).isSome = true) ∧ bf.length ≤ 1000 ∧ Q .non (upd H db (.dK (putK bf (.inl p) b)))
theorem T0.ok_Net__set_before (T : T0 K mg) : FnOk P w K mg base CX0 2 T.a_Net__set_before T.fd_Net__set_before ["self", "house", "before"] (sp_Net__set_before T.C_Net) := by
  refine T.F_Net__set_before.ok sc_Net__set_before (fun vs H Q E h => ?_) (fun cdv A outer s H vs Q E hr h => ?_)
  · obtain ⟨h, dn, db, dl, n, p, b, nx, bf, ls, rfl, _⟩ := h
    rfl
  · obtain ⟨h, dn, db, dl, n, p, b, nx, bf, ls, rfl, hN, hp, hb, hz, q⟩ := h
    obtain ⟨dx, hh⟩ := hN.me
    refine ⟨_, (pss_cons (ps_expr (pe_meth (pv 0) T.cl_Net T.me_Net__check_house T.ok_Net__check_house hr T.b_Net__check_house .nil pass0 (pa_cons (pv 1) pa_nil)))
        (pss_cons (ps_if (pt_cmpR op_notN (pv 2) pe_non (nomark _)) (pss_one (ps_expr (pe_meth (pv 0) T.cl_Net T.me_Net__check_house T.ok_Net__check_house hr T.b_Net__check_house .nil pass0 (pa_cons (pv 2) pa_nil)))) pss_nil)
        (pss_one (ps_asg (pv 2) (pg_sub (show PE _ _ (tFld K _ _) from pe_fld (pv 0) rfl) (pv 1) (set_dict (un1 hr))))))), ?_⟩
    refine ⟨_, rfl, h, dx, _, rfl, hh, (by unfold nf; walk_at "lk"), _, rfl, h, dn, db, dl, n, p, nx, bf, ls, rfl, hN, hp, ?_⟩
    refine ⟨_, rfl, rfl, _, rfl, ?_⟩
    rcases hb with rfl | ⟨x, rfl, hx⟩
    · refine iteF' (by rw [decide_eq_true rfl]; rfl) ?_
      exact ⟨_, rfl, _, rfl, h, _, dx, _, _, rfl, hh, T.cl_Net, T.na_Net__befores, nf_befores, _, rfl, db, _, rfl, DPut.k (k := Sum.inl p) hN.hb (small1000' (by omega)), q⟩
    · refine iteT' rfl ?_
      refine ⟨_, rfl, h, dx, _, rfl, hh, (by unfold nf; walk_at "lk"), _, rfl, h, dn, db, dl, n, x, nx, bf, ls, rfl, hN, hx, ?_⟩
      exact ⟨_, rfl, _, rfl, h, _, dx, _, _, rfl, hh, T.cl_Net, T.na_Net__befores, nf_befores, _, rfl, db, _, rfl, DPut.k (k := Sum.inl p) hN.hb (small1000' (by omega)), q⟩
def sp_Net__snapshot (C : Addr) : Sp := fun vs H Q _ => ∃ (h dn db dl : Addr) (n : Int) (nx bf : List (Key × V)) (ls : List V) (ks : List Int) (f g : Int → V), vs = [.ref h] ∧ NetAt C H h n dn db dl nx bf ls ∧ nx.map (·.1) = ks.map Sum.inl ∧ ks.length < 64 ∧ (∀ k ∈ ks, valV nx (.inl k) = some (f k) ∧ valV bf (.inl k) = some (g k)) ∧
  ∀ (ys : List Int) p H', ys.Perm ks → ys.Pairwise (· ≤ ·) → Same H H' → Shot n f g ys H' p ls → Q (.ref p) H'
def sp__pairs_said_by (K : PySem.W.Frag) : Sp := fun vs H Q _ => ∃ (a : Addr) (L : Let), vs = [.ref a] ∧ H a = some (.tup L.vals) ∧ ∀ p us H', Same H H' → H p = none → H' p = some (.lst us) → LAt pV H' us (LetP L) → Q (.ref p) H'
theorem T0.ok__pairs_said_by (T : T0 K mg) : FnOk P w K mg base CX0 1 T.a__pairs_said_by T.fd__pairs_said_by ["letter"] (sp__pairs_said_by K) := by
  refine T.F__pairs_said_by.ok sc__pairs_said_by (fun vs H Q E h => ?_) (fun cdv A outer s H vs Q E hr h => ?_)
  · obtain ⟨a, L, rfl, _⟩ := h
    rfl
  · obtain ⟨a, L, rfl, ha, q⟩ := h
    refine ⟨_, (pss_cons (ps_asg (pv 0) (pg_star rfl (pgs_cons (pg_name (i := 1) sc__pairs_said_by.nd rfl (Or.inl rfl)) (pgs_cons (pg_name (i := 2) sc__pairs_said_by.nd rfl (Or.inl rfl)) (pgs_cons (pg_name (i := 3) sc__pairs_said_by.nd rfl (Or.inl rfl)) (pgs_star (pg_name (i := 4) sc__pairs_said_by.nd rfl (Or.inl rfl))))))))
        (pss_cons (ps_if (pt_cmpR op_eq (pv 1) pe_str (nomark _)) (pss_one (ps_ret (pe_lst (pa_cons (pe_tup (pa_cons (pv 3) (pa_cons (pv 2) pa_nil))) pa_nil)))) pss_nil)
        (pss_cons (ps_if (pt_cmpR op_eq (pv 1) pe_str (nomark _)) (pss_one (ps_ret (pe_lst (pa_cons (pe_tup (pa_cons (pe_ix (ix_listK (K := K)) (pv 4) pe_int (fun _ _ => rfl)) (pa_cons (pv 3) pa_nil))) pa_nil)))) pss_nil)
        (pss_one (ps_ret (pe_lst pa_nil)))))), ?_⟩
    have end1 : ∀ (H1 : Hp) (x y : Int), Same H H1 → LetP L = [(x, y)] → ∀ p, H1 p = none → ∀ l, upd H1 p (.tup [.int x, .int y]) l = none → Q (.ref l) (upd (upd H1 p (.tup [.int x, .int y])) l (.lst [.ref p])) := fun H1 x y s1 e p np l nl => by
      have s2 := same_upd (o := .tup [.int x, .int y]) np
      have s3 := same_upd (o := .lst [.ref p]) nl
      refine q l [.ref p] _ (Same.trans s1 (Same.trans s2 s3)) (none_back (Same.trans s1 s2) nl) upd_same ?_
      rw [e]
      exact .one (f := pV) (q := (x, y)) (s3 _ _ upd_same)
    cases L with
    | tell r u =>
      refine ⟨_, rfl, a, _, rfl, SqT.of ha, by show 3 ≤ 3; decide, by show 3 ≤ 1000; decide, fun D nD => ?_⟩
      have s1 := same_upd (o := .lst []) nD
      refine ⟨_, _, rfl, _, _, rfl, _, _, rfl, _, _, rfl, rfl, ?_⟩
      refine ⟨_, rfl, rfl, _, rfl, ?_⟩
      rw [show decide (V.str "tell" = V.str "tell") = true by decide +kernel]
      refine iteT ⟨_, rfl, _, rfl, lenL (by show 2 ≤ 100000; decide), fun p np => ⟨lenL (by show 1 ≤ 100000; decide), fun l nl => end1 _ _ _ s1 rfl p np l nl⟩⟩
    | ask r u =>
      refine ⟨_, rfl, a, _, rfl, SqT.of ha, by show 3 ≤ 3; decide, by show 3 ≤ 1000; decide, fun D nD => ?_⟩
      have s1 := same_upd (o := .lst []) nD
      refine ⟨_, _, rfl, _, _, rfl, _, _, rfl, _, _, rfl, rfl, ?_⟩
      refine ⟨_, rfl, rfl, _, rfl, ?_⟩
      rw [show decide (V.str "ask" = V.str "tell") = false by decide +kernel]
      refine iteF ⟨_, rfl, rfl, _, rfl, ?_⟩
      rw [show decide (V.str "ask" = V.str "answer") = false by decide +kernel]
      refine iteF ⟨Nat.zero_le _, fun l nl => ?_⟩
      exact q l [] _ (Same.trans s1 (same_upd nl)) (none_back s1 nl) upd_same .nil
    | answer r u m =>
      refine ⟨_, rfl, a, _, rfl, SqT.of ha, by show 3 ≤ 4; decide, by show 4 ≤ 1000; decide, fun D nD => ?_⟩
      have s1 := same_upd (o := .lst [.int m]) nD
      refine ⟨_, _, rfl, _, _, rfl, _, _, rfl, _, _, rfl, rfl, ?_⟩
      refine ⟨_, rfl, rfl, _, rfl, ?_⟩
      rw [show decide (V.str "answer" = V.str "tell") = false by decide +kernel]
      refine iteF ⟨_, rfl, rfl, _, rfl, ?_⟩
      rw [show decide (V.str "answer" = V.str "answer") = true by decide +kernel]
      refine iteT ⟨_, rfl, D, _, 0, .int m, rfl, rfl, SqL.of upd_same, rfl, _, rfl, lenL (by show 2 ≤ 100000; decide), fun p np => ⟨lenL (by show 1 ≤ 100000; decide), fun l nl => end1 _ _ _ s1 rfl p np l nl⟩⟩
--CUT
theorem lc_it {J : It} {n : Nat} {G : Hp → Prop} {Y : Nat → Hp → V → Hp → Prop} (w : Walk J n G Y) {g : TG} {tt : TT} {te : TE} {vs : List Nat} {σ : L2.St} {H1 : Hp} {D : Addr} {Qd : Hp → Prop} (Pv : Nat → Hp → Prop) (h0 : Pv 0 (upd H1 D (.lst []))) (hG : ∀ i H, i ≤ n → Pv i H → G H)
    (hs : ∀ i x H H', i < n → Pv i H → Y i H x H' → g x (wipe σ vs) H' fun σ2 H2 => wipe σ2 vs = wipe σ vs ∧ tt σ2 H2 fun b H3 =>
      if b = true then te σ2 H3 fun y H4 => ∃ acc, H4 D = some (.lst acc) ∧ acc.length < sizeLine ∧ Pv (i + 1) (upd H4 D (.lst (acc ++ [y]))) else Pv (i + 1) H3) (hd : ∀ H, Pv n H → Qd H) :
    ∃ W : Nat → Nat → Hp → Prop, (∃ m, W 0 m (upd H1 D (.lst []))) ∧ ∀ i m H, W i m H →
      (J.stop i H ∧ Qd H) ∨ (J.go i H ∧ ∃ Nx : Hp → Prop, (∀ H', Nx H' → ∃ m', m' < m ∧ W (i + 1) m' H') ∧ ∀ x H', J.yld i H x H' → g x (wipe σ vs) H' fun σ2 H2 => wipe σ2 vs = wipe σ vs ∧ tt σ2 H2 fun b H3 =>
        if b = true then te σ2 H3 fun y H4 => ∃ acc, H4 D = some (.lst acc) ∧ acc.length < sizeLine ∧ Nx (upd H4 D (.lst (acc ++ [y]))) else Nx H3) := by
  refine ⟨fun i m H => i + m = n ∧ Pv i H, ⟨n, Nat.zero_add n, h0⟩, fun i m H hp => ?_⟩
  have q := hG i H (hp.1 ▸ Nat.le_add_right i m) hp.2
  cases m with
  | zero =>
    obtain ⟨rfl, p⟩ := hp
    exact .inl ⟨w.stops H q, hd H p⟩
  | succ m =>
    obtain ⟨e, p⟩ := hp
    have hi : i < n := by omega
    exact .inr ⟨w.goes i H hi q, Pv (i + 1), fun H' p' => ⟨m, Nat.lt_succ_self m, by omega, p'⟩, fun x H' y => hs i x H H' hi p (w.yields i H x H' hi q y)⟩
theorem valV_map_mem {f : Int → V} {ks : List Int} {k : Int} (h : k ∈ ks) : valV (ks.map fun z => ((Sum.inl z : Key), f z)) (Sum.inl k) = some (f k) := by
  induction ks with
  | nil => cases h
  | cons z r ih =>
    rw [List.map_cons]
    by_cases e : z = k
    · subst e
      exact valV_pos (p := ((Sum.inl z : Key), f z)) rfl
    · rw [valV_neg (fun g => e (Sum.inl.inj g))]
      exact ih ((List.mem_cons.mp h).resolve_left (fun g => e g.symm))
def gV (nx : List (Key × V)) (k : Int) : V := (valV nx (.inl k)).getD .non
theorem gV_of {nx : List (Key × V)} {k : Int} {v : V} (h : valV nx (.inl k) = some v) : gV nx k = v := by unfold gV; rw [h]; rfl
theorem gV_iN {ks : List Int} {nx : List (Key × V)} (gn : GN ks nx) {k : Int} (hk : k ∈ ks) : gV nx k = .int (iN nx k) := by
  obtain ⟨x, _, e⟩ := gn.2 k hk
  rw [gV_of e, iN_of e]
def fO (bs : List (Key × V)) (ys : List Int) : List Int := ys.filter fun y => decide (bef bs y ≠ .non)
def qA (nx : List (Key × V)) (y : Int) : Int × Int := (y, iN nx y)
def qB (bs : List (Key × V)) (y : Int) : Int × Int := (zO (bef bs y), y)
def Prs (nx bs : List (Key × V)) (ys : List Int) (Ls : List Let) : List (Int × Int) := ys.map (qA nx) ++ (fO bs ys).map (qB bs) ++ Ls.flatMap LetP
theorem letP_len (L : Let) : (LetP L).length ≤ 1 := by
  cases L
  all_goals first
    | exact Nat.zero_le _
    | exact Nat.le_refl _
theorem flat_len : ∀ Ls : List Let, (Ls.flatMap LetP).length ≤ Ls.length
  | [] => Nat.le_refl _
  | L :: r => by
    rw [List.flatMap_cons, List.length_append, List.length_cons]
    have := flat_len r
    have : (LetP L).length ≤ 1 := letP_len L
    omega
theorem okB_zO {b : V} (o : okB b) (h : b ≠ .non) : b = .int (zO b) := by
  rcases o with rfl | ⟨z, rfl⟩
  · exact absurd rfl h
  · rfl
def sp_sayings (C : Addr) : Sp := fun vs H Q _ => ∃ (h dn db dl : Addr) (n : Int) (nx bf bs : List (Key × V)) (ls : List V) (ks : List Int) (Ls : List Let), vs = [.ref h] ∧ NetAt C H h n dn db dl nx bf ls ∧ 0 < n ∧ ks.length < 64 ∧ ks.Nodup ∧ GN ks nx ∧ VF ks bf bs ∧ (∀ k ∈ ks, okB (bef bs k)) ∧ ls.length ≤ 1000 ∧ LAt Let.vals H ls Ls ∧
  ∀ (ys : List Int) p us H', ys.Perm ks → ys.Pairwise (· ≤ ·) → Same H H' → H p = none → H' p = some (.lst us) → LAt (sV n) H' us (Prs nx bs ys Ls) → us.length ≤ 2000 → Q (.ref p) H'
theorem T0.ok_sayings (T : T0 K mg) : FnOk P w K mg base CX0 3 T.a_sayings T.fd_sayings ["net"] (sp_sayings T.C_Net) := by
  refine T.F_sayings.ok sc_sayings (fun vs H Q E h => ?_) (fun cdv A outer s H vs Q E hr h => ?_)
  · obtain ⟨h, dn, db, dl, n, nx, bf, bs, ls, ks, Ls, rfl, _⟩ := h
    rfl
  · obtain ⟨h, dn, db, dl, n, nx, bf, bs, ls, ks, Ls, rfl, hN, hn, h64, nd, gn, vf, ob, hz, hL, q⟩ := h
    obtain ⟨dx, hh⟩ := hN.me
    refine ⟨_, (pss_cons (ps_set (i := 1) sc_sayings.nd rfl (Or.inl rfl) (LiI.pe_listItems rfl (pe_meth0 (pv 0) T.cl_Net T.me_Net__nexts T.ok_Net__nexts hr T.b_Net__nexts .nil pass0) (by rfl) T.m_list (by decide +kernel)))
        (pss_cons (ps_expr (pe_bm PySem.F.plainAttrs_list PySem.F.slot_list_extend PySem.F.type_list_extend mt_extend (pv 1) (pa_cons (pe_lc (own := [("house", 5), ("before", 6)]) (g := gTup K 2 (gCons (gName 5) (gCons (gName 6) gNil))) (by rfl) sc_sayings.nd (pi_items (pe_lk (pe_meth0 (pv 0) T.cl_Net T.me_Net__befores T.ok_Net__befores hr T.b_Net__befores .nil pass0))) (blkOk_by (own := [("house", 5), ("before", 6)]) (N := ["net", "pairs", "letter", "start", "end", "house", "before"]) (sc := defScope s_sayings) (by decide +kernel)) (fun _ _ _ _ _ => pg_tup rfl (pgs_cons (pg_name (i := 5) sc_sayings.nd rfl (Or.inl rfl)) (pgs_cons (pg_name (i := 6) sc_sayings.nd rfl (Or.inl rfl)) pgs_nil))) (fun _ _ _ _ _ => pts_nil) (fun _ _ _ _ _ => (pe_tup (pa_cons (pv 6) (pa_cons (pv 5) pa_nil))))) pa_nil)))
        (pss_cons (ps_for PassesOwn.never rfl (pi_list (pe_meth0 (pv 0) T.cl_Net T.me_Net__letters T.ok_Net__letters (hr.mono (by decide)) T.b_Net__letters .nil pass0)) (pg_name (i := 2) sc_sayings.nd rfl (Or.inl rfl)) (pss_one (ps_expr (pe_bm PySem.F.plainAttrs_list PySem.F.slot_list_extend PySem.F.type_list_extend mt_extend (pv 1) (pa_cons (pe_call T.ok__pairs_said_by (hr.mono (by decide)) (by rfl) T.g__pairs_said_by T.k__pairs_said_by T.b__pairs_said_by .nil pass0 (pa_cons (pv 2) pa_nil)) pa_nil)))))
        (pss_one (ps_ret (pe_lc (own := [("start", 3), ("end", 4)]) (g := gTup K 2 (gCons (gName 3) (gCons (gName 4) gNil))) (by rfl) sc_sayings.nd (pi_list (pv 1)) (blkOk_by (own := [("start", 3), ("end", 4)]) (N := ["net", "pairs", "letter", "start", "end", "house", "before"]) (sc := defScope s_sayings) (by decide +kernel)) (fun _ _ _ _ _ => pg_tup rfl (pgs_cons (pg_name (i := 3) sc_sayings.nd rfl (Or.inl rfl)) (pgs_cons (pg_name (i := 4) sc_sayings.nd rfl (Or.inl rfl)) pgs_nil))) (fun _ _ _ _ _ => pts_nil) (fun _ _ _ _ _ => (pe_tup (pa_cons (pv 3) (pa_cons (pv 4) (pa_cons (pe_call T.ok_far (hr.mono (by decide)) (by rfl) T.g_far T.k_far T.b_far .nil pass0 (pa_cons (show PE _ _ (tFld K _ _) from pe_fld (pv 0) rfl) (pa_cons (pv 3) (pa_cons (pv 4) pa_nil)))) pa_nil))))))))))), ?_⟩
    refine ⟨_, rfl, h, dx, _, rfl, hh, (by unfold nf; walk_at "lk"), h, dn, db, dl, n, nx, bf, ls, ks, gV nx, rfl, hN, gn.1, h64, nd, fun k hk => ?_, fun ys d1 H1 perm pw s1 nd1 e1 => ?_⟩
    · obtain ⟨x, _, e⟩ := gn.2 k hk
      rw [gV_of e, e]
    have ylen := perm.length_eq
    refine ⟨d1, _, rfl, e1, fun H2 pl ts s2 npl nts npts epl prd => ?_⟩
    have tlen : ts.length = ys.length := by rw [prd.length, List.length_map]
    have la2 : LAt pV H2 (ts.map V.ref) (ys.map (qA nx)) := by
      refine ⟨by rw [List.length_map, List.length_map, tlen], fun i v q' hv hq => ?_⟩
      rw [List.getElem?_map] at hv hq
      obtain ⟨t, ht, rfl⟩ := Option.map_eq_some_iff.mp hv
      obtain ⟨y, hy, rfl⟩ := Option.map_eq_some_iff.mp hq
      obtain ⟨kv, hkv, e⟩ := paired_get prd ht
      have hkv : (ys.map fun y => ((.inl y : Key), gV nx y))[i]? = some kv := hkv
      rw [List.getElem?_map, hy] at hkv
      cases hkv
      exact ⟨t, rfl, e.trans (by dsimp only; rw [gV_iN gn (perm.mem_iff.mp (List.mem_of_getElem? hy))]; rfl)⟩
    have s12 := Same.trans s1 s2
    have npl0 : H pl = none := none_back s1 npl
    have N2 := hN.same s12
    obtain ⟨dx2, hh2⟩ := N2.me
    refine ⟨_, rfl, .inl ⟨rfl, _, SqL.of epl⟩, _, rfl, h, dx2, _, rfl, hh2, (by unfold nf; walk_at "lk"), h, dn, db, dl, n, nx, bf, ls, ks, bef bs, rfl, N2, gn.1, h64, nd, vf, fun ws d2 H3 permw pww s3 nd2 e3 => ?_⟩
    have wy : ws = ys := perm_sorted_eq (permw.trans perm.symm) pww pw
    subst wy
    refine ⟨d2, _, rfl, e3, fun o => ⟨d2, o, _, rfl, upd_same, fun D hD => ?_⟩⟩
    have s3f : Same H2 (upd H3 d2 (.frz o (.dK ((fO bs ws).map fun y => (.inl y, bef bs y))))) := fun a u e => (upd_ne (ne_of_none e nd2)).trans (s3 _ _ e)
    have hd2 : upd H3 d2 (.frz o (.dK ((fO bs ws).map fun y => (.inl y, bef bs y)))) d2 = some (.frz o (.dK ((fO bs ws).map fun y => (.inl y, bef bs y)))) := upd_same
    have lf : (fO bs ws).length ≤ ws.length := List.length_filter_le _ _
    refine lc_it walk_items (fun i H' => Same (upd H3 d2 (.frz o (.dK ((fO bs ws).map fun y => (.inl y, bef bs y))))) H' ∧ ∃ rs, H' D = some (.lst rs) ∧ LAt pV H' rs (((fO bs ws).take i).map (qB bs))) ⟨same_upd hD, [], upd_same, .nil⟩ (fun i H' _ p => p.1 _ _ hd2) (fun i x H4 H5 hi pv hy => ?_) (fun H4 pv => ?_)
    · obtain ⟨s4, rs, e4, la⟩ := pv
      obtain ⟨Tt, kx, ky, rfl, nT, rfl, ekx, eky⟩ := hy
      have lr := la.1
      rw [List.length_map, List.length_take] at lr
      have ekx : (((fO bs ws).map fun y => ((.inl y : Key), bef bs y))[i]?).map (fun kv => kV kv.1) = some kx := ekx
      have eky : (((fO bs ws).map fun y => ((.inl y : Key), bef bs y))[i]?).map Prod.snd = some ky := eky
      obtain ⟨kv, hkv, rfl⟩ := Option.map_eq_some_iff.mp ekx
      rw [hkv] at eky
      have eky : kv.2 = ky := Option.some.inj eky
      rw [List.getElem?_map] at hkv
      have hkv2 := hkv
      obtain ⟨y, hyi, ekv⟩ := Option.map_eq_some_iff.mp hkv2
      subst ekv
      subst eky
      have hy := List.mem_of_getElem? hyi
      obtain ⟨hy1, hy2⟩ := List.mem_filter.mp hy
      have bz := okB_zO (ob y (perm.mem_iff.mp hy1)) (of_decide_eq_true hy2)
      have s5 := same_upd (o := .tup [kV (Sum.inl y), bef bs y]) nT
      refine ⟨Tt, _, rfl, SqT.of upd_same, rfl, _, _, rfl, _, _, rfl, rfl, rfl, lc_yes ?_⟩
      refine ⟨_, rfl, _, rfl, lenL (by show 2 ≤ 100000; decide), fun p np => ?_⟩
      have np : upd H4 Tt (.tup [kV (Sum.inl y), bef bs y]) p = none := np
      have s6 := Same.trans s5 (same_upd (o := .tup [bef bs y, .int y]) np)
      have e6 := s6 _ _ e4
      refine ⟨_, e6, small1000' (by omega), fun b u e => ?_, rs ++ [.ref p], upd_same, ?_⟩
      · exact (upd_ne (ne_of_none e hD)).trans (s6 _ _ (s4 _ _ e))
      · rw [List.take_add_one, hyi, Option.toList_some, List.map_append]
        refine ((la.same s6).app (q := qB bs y) ?_).mono fun a xs e => (upd_ne (ne_kind e e6 (fun z => nomatch z))).trans e
        refine upd_same.trans ?_
        show some (HO.tup [bef bs y, .int y]) = some (HO.tup [.int (zO (bef bs y)), .int y])
        rw [← bz]
    · obtain ⟨s4, rs, e4, la4⟩ := pv
      rw [List.length_map] at la4
      have la4 : LAt pV H4 rs (((fO bs ws).take (fO bs ws).length).map (qB bs)) := la4
      rw [List.take_length] at la4
      have s24 : Same H2 H4 := Same.trans s3f s4
      have epl4 := s24 _ _ epl
      have lr := la4.1
      rw [List.length_map] at lr
      have hz41 : ws.length < 64 := by omega
      refine ⟨pl, D, _, _, rfl, rfl, epl4, e4, lenL (by rw [List.length_map, tlen, lr]; omega), ?_⟩
      have f5 : ∀ a u, a ≠ pl → H4 a = some u → upd H4 pl (.lst (ts.map V.ref ++ rs)) a = some u := fun a u na e => (upd_ne na).trans e
      have epl5 : upd H4 pl (.lst (ts.map V.ref ++ rs)) pl = some (.lst (ts.map V.ref ++ rs)) := upd_same
      have la5 : LAt pV (upd H4 pl (.lst (ts.map V.ref ++ rs))) (ts.map V.ref ++ rs) (ws.map (qA nx) ++ (fO bs ws).map (qB bs)) := ((la2.same s24).cat la4).mono fun a xs e => f5 _ _ (ne_kind e epl4 (fun z => nomatch z)) e
      generalize upd H4 pl (.lst (ts.map V.ref ++ rs)) = H5 at f5 epl5 la5
      have s5 : Same H H5 := fun a u e => f5 _ _ (ne_of_none e npl0) (s24 _ _ (s12 _ _ e))
      have N5 := hN.same s5
      obtain ⟨dx5, hh5⟩ := N5.me
      refine ⟨_, rfl, h, dx5, _, rfl, hh5, (by unfold nf; walk_at "lk"), h, dn, db, dl, n, nx, bf, ls, rfl, N5, fun p np => ?_⟩
      have s6 := same_upd (o := .lst ls) np
      have ep6 : upd H5 p (.lst ls) p = some (.lst ls) := upd_same
      have epl6 := s6 _ _ epl5
      have la6 := la5.same s6
      have npp : p ≠ pl := fun z => by rw [z, epl5] at np; cases np
      have s06 := Same.trans s5 s6
      generalize upd H5 p (.lst ls) = H6 at s6 ep6 epl6 la6 s06
      have u0 : (ts.map V.ref ++ rs).length ≤ 128 := by rw [List.length_append, List.length_map, tlen, lr]; omega
      refine ⟨p, rfl, ⟨_, SqL.of ep6⟩, ?_⟩
      refine for_list (K := K) (a := p) (xs := ls) (fun i σ' H' => ∃ (o2 : Option V) (us : List V), σ' = [some (.ref h), some (.ref pl), o2, none, none, none, none] ∧ H' pl = some (.lst us) ∧ LAt pV H' us (ws.map (qA nx) ++ (fO bs ws).map (qB bs) ++ (Ls.take i).flatMap LetP) ∧ Same H H' ∧ H' p = some (.lst ls))
        ⟨none, _, rfl, epl6, by rw [List.take_zero, List.flatMap_nil, List.append_nil]; exact la6, s06, ep6⟩ (fun i σ' H' _ pv => by obtain ⟨_, _, _, _, _, _, h⟩ := pv; exact SqL.of h) (fun i v σ' H7 hv pv => ?_) (fun σ' H7 pv => ?_)
      · obtain ⟨o2, us, rfl, epl7, la7, s7, ep7⟩ := pv
        obtain ⟨a, L, hLi, rfl, ea⟩ := hL.at hv
        have ul := la7.1
        have fl := flat_len (Ls.take i)
        have tl : (Ls.take i).length ≤ 1000 := by rw [List.length_take, ← hL.1]; omega
        rw [List.length_append, List.length_append, List.length_map, List.length_map] at ul
        refine ⟨_, rfl, .inl ⟨rfl, _, SqL.of epl7⟩, _, rfl, a, L, rfl, s7 _ _ ea, fun q' us' H8 s8 nq eq la8 => ?_⟩
        have epl8 := s8 _ _ epl7
        have l1 : us'.length ≤ 1 := by rw [la8.1]; exact letP_len L
        refine ⟨pl, q', _, _, rfl, rfl, epl8, eq, lenL (by omega), ?_⟩
        refine ⟨_, us ++ us', rfl, upd_same, ?_, fun b u e => (upd_ne (ne_of_none e npl0)).trans (s8 _ _ (s7 _ _ e)), (upd_ne npp).trans (s8 _ _ ep7)⟩
        rw [List.take_add_one, hLi, Option.toList_some, List.flatMap_append, ← List.append_assoc]
        refine ((la7.same s8).cat (ps := [L].flatMap LetP) (by rw [List.flatMap_cons, List.flatMap_nil, List.append_nil]; exact la8)).mono fun a xs e => (upd_ne (ne_kind e epl8 (fun z => nomatch z))).trans e
      · obtain ⟨o2, us, rfl, epl7, la7, s7, ep7⟩ := pv
        rw [hL.1, List.take_length] at la7
        have ul := la7.1
        have fl := flat_len Ls
        have tl : Ls.length ≤ 1000 := by rw [← hL.1]; exact hz
        rw [List.length_append, List.length_append, List.length_map, List.length_map] at ul
        have N7 := hN.same s7
        refine ⟨_, rfl, pl, rfl, ⟨_, SqL.of epl7⟩, fun D2 hD2 => ?_⟩
        refine lc_list (K := K) (a := pl) (xs := us) (fun i H' => Same H7 H' ∧ ∃ rs, H' D2 = some (.lst rs) ∧ LAt (sV n) H' rs ((Prs nx bs ws Ls).take i)) ⟨same_upd hD2, [], upd_same, .nil⟩ (fun i H' _ p => SqL.of (p.1 _ _ epl7)) (fun i x H8 hx pv => ?_) (fun H8 pv => ?_)
        · obtain ⟨s8, rs, e8, la8⟩ := pv
          obtain ⟨a, q', hq', rfl, ea⟩ := la7.at hx
          have lr8 := la8.1
          have lt8 : ((Prs nx bs ws Ls).take i).length ≤ us.length := by
            have hi : i < us.length := (List.getElem?_eq_some_iff.mp hx).1
            rw [List.length_take]
            omega
          have N8 := N7.same s8
          obtain ⟨dx8, hh8⟩ := N8.me
          refine ⟨a, _, rfl, SqT.of (s8 _ _ ea), rfl, _, _, rfl, _, _, rfl, rfl, rfl, lc_yes ?_⟩
          refine ⟨_, rfl, _, rfl, _, rfl, h, _, dx8, _, _, rfl, hh8, T.cl_Net, T.na_Net_size, nf_size, _, rfl, _, rfl, n, q'.1, q'.2, rfl, hn, lenL (by show 3 ≤ 100000; decide), fun p' np' => ?_⟩
          have np' : H8 p' = none := np'
          have s9 := same_upd (o := .tup (sV n q')) np'
          have e9 := s9 _ _ e8
          refine ⟨_, e9, small1000' (by omega), fun b u e => ?_, rs ++ [.ref p'], upd_same, ?_⟩
          · exact (upd_ne (ne_of_none e hD2)).trans (s9 _ _ (s8 _ _ e))
          · rw [List.take_add_one, show (Prs nx bs ws Ls)[i]? = some q' from hq']
            exact ((la8.same s9).app (q := q') upd_same).mono fun a xs e => (upd_ne (ne_kind e e9 (fun z => nomatch z))).trans e
        · obtain ⟨s8, rs, e8, la8⟩ := pv
          rw [la7.1] at la8
          rw [show (Prs nx bs ws Ls).take ((ws.map (qA nx) ++ (fO bs ws).map (qB bs) ++ Ls.flatMap LetP).length) = Prs nx bs ws Ls from List.take_length] at la8
          refine q ws D2 rs H8 perm pw (Same.trans s7 s8) ?_ e8 la8 ?_
          · exact none_back s7 hD2
          · rw [la8.1]
            show (ws.map (qA nx) ++ (fO bs ws).map (qB bs) ++ Ls.flatMap LetP).length ≤ 2000
            rw [List.length_append, List.length_append, List.length_map, List.length_map]
            omega
def GC (ks : List Int) (bs : List (Key × V)) : Prop := ∀ (p : Int) v, valV bs (.inl p) = some v → p ∈ ks ∧ (v = .non ∨ ∃ x ∈ ks, v = .int x)
theorem GC.ok {ks : List Int} {bs : List (Key × V)} (g : GC ks bs) (k : Int) : okB (bef bs k) := by
  unfold bef
  cases e : valV bs (.inl k) with
  | none => exact .inl rfl
  | some v =>
    rcases (g _ _ e).2 with rfl | ⟨x, _, rfl⟩
    · exact .inl rfl
    · exact .inr ⟨x, rfl⟩
theorem GC.mem {ks : List Int} {bs : List (Key × V)} (g : GC ks bs) {k : Int} (h : bef bs k ≠ .non) : k ∈ ks := by
  unfold bef at h
  cases e : valV bs (.inl k) with
  | none => rw [e] at h; exact absurd rfl h
  | some v => exact (g _ _ e).1
theorem bef_some {bs : List (Key × V)} {k : Int} {v : V} (h : valV bs (.inl k) = some v) : bef bs k = v := by unfold bef; rw [h]; rfl
def sp__law_sayings (K : PySem.W.Frag) : Sp := fun vs H Q _ => ∃ (dN dB pO : Addr) (n : Int) (nx bs : List (Key × V)) (ps : List V) (ks : List Int) (Ls : List Let), vs = [.int n, .ref dN, .ref dB, .ref pO] ∧ H dN = some (.dK nx) ∧ H dB = some (.dK bs) ∧ H pO = some (.lst ps) ∧ 0 < n ∧ ks.length < 64 ∧ ks.Nodup ∧ GN ks nx ∧ GC ks bs ∧ KB bs ∧ ps.length ≤ 1000 ∧ LAt Let.vals H ps Ls ∧
  ∀ (ys : List Int) p us H', ys.Perm ks → ys.Pairwise (· ≤ ·) → Same H H' → H p = none → H' p = some (.lst us) → LAt (sV n) H' us (Prs nx bs ys Ls) → us.length ≤ 2000 → Q (.ref p) H'
theorem T0.ok__law_sayings (T : T0 K mg) : FnOk P w K mg base CX0 2 T.a__law_sayings T.fd__law_sayings ["size", "nexts", "behinds", "post"] (sp__law_sayings K) := by
  refine T.F__law_sayings.ok sc__law_sayings (fun vs H Q E h => ?_) (fun cdv A outer s H vs Q E hr h => ?_)
  · obtain ⟨dN, dB, pO, n, nx, bs, ps, ks, Ls, rfl, _⟩ := h
    rfl
  · obtain ⟨dN, dB, pO, n, nx, bs, ps, ks, Ls, rfl, hN, hB, hP, hn, h64, nd, gn, gc, kb, hz, hL, q⟩ := h
    refine ⟨_, (pss_cons (ps_setLc (i := 5) (own := [("one", 4)]) (g := gName 4) (by rfl) sc__law_sayings.nd rfl rfl (sw_true rfl rfl rfl (by decide +kernel)) (pi_list (pe_callB (call_sortedDI rfl) (by rfl) T.m_sorted (by decide +kernel) (pa_cons (pv 1) pa_nil))) (blkOk_by (own := [("one", 4)]) (N := ["size", "nexts", "behinds", "post", "one", "said", "letter"]) (sc := defScope s__law_sayings) (by decide +kernel)) (fun _ _ _ _ _ => pg_name (i := 4) sc__law_sayings.nd rfl (Or.inl rfl)) (fun _ _ _ _ _ => pts_nil) (fun _ _ _ _ _ => (pe_tup (pa_cons (pv 4) (pa_cons (pe_dget (un1 hr) (pv 1) (pv 4) (fun _ _ => rfl)) (pa_cons (pe_call T.ok__law_far hr (by rfl) T.g__law_far T.k__law_far T.b__law_far .nil pass0 (pa_cons (pv 0) (pa_cons (pv 4) (pa_cons (pe_dget (un1 hr) (pv 1) (pv 4) (fun _ _ => rfl)) pa_nil)))) pa_nil))))))
        (pss_cons (ps_for PassesOwn.never rfl (pi_list (pe_callB (call_sortedDI rfl) (by rfl) T.m_sorted (by decide +kernel) (pa_cons (pv 2) pa_nil))) (pg_name (i := 4) sc__law_sayings.nd rfl (Or.inl rfl)) (pss_one (ps_if (pt_cmpR op_notN (pe_dget (un1 hr) (pv 2) (pv 4) (fun _ _ => rfl)) pe_non (nomark _)) (pss_one (ps_expr (pe_bm PySem.F.plainAttrs_list PySem.F.slot_list_append PySem.F.type_list_append mt_append (pv 5) (pa_cons (pe_tup (pa_cons (pe_dget (un1 hr) (pv 2) (pv 4) (fun _ _ => rfl)) (pa_cons (pv 4) (pa_cons (pe_call T.ok__law_far hr (by rfl) T.g__law_far T.k__law_far T.b__law_far .nil pass0 (pa_cons (pv 0) (pa_cons (pe_dget (un1 hr) (pv 2) (pv 4) (fun _ _ => rfl)) (pa_cons (pv 4) pa_nil)))) pa_nil)))) pa_nil)))) pss_nil)))
        (pss_cons (ps_for PassesOwn.never rfl (pi_list (pv 3)) (pg_name (i := 6) sc__law_sayings.nd rfl (Or.inl rfl)) (pss_cons (ps_if (pt_cmpR op_eq (pe_ix (ix_tupK (K := K)) (pv 6) pe_int (fun _ _ => rfl)) pe_str (nomark _)) (pss_one (ps_expr (pe_bm PySem.F.plainAttrs_list PySem.F.slot_list_append PySem.F.type_list_append mt_append (pv 5) (pa_cons (pe_tup (pa_cons (pe_ix (ix_tupK (K := K)) (pv 6) pe_int (fun _ _ => rfl)) (pa_cons (pe_ix (ix_tupK (K := K)) (pv 6) pe_int (fun _ _ => rfl)) (pa_cons (pe_call T.ok__law_far hr (by rfl) T.g__law_far T.k__law_far T.b__law_far .nil pass0 (pa_cons (pv 0) (pa_cons (pe_ix (ix_tupK (K := K)) (pv 6) pe_int (fun _ _ => rfl)) (pa_cons (pe_ix (ix_tupK (K := K)) (pv 6) pe_int (fun _ _ => rfl)) pa_nil)))) pa_nil)))) pa_nil)))) pss_nil)
        (pss_one (ps_if (pt_cmpR op_eq (pe_ix (ix_tupK (K := K)) (pv 6) pe_int (fun _ _ => rfl)) pe_str (nomark _)) (pss_one (ps_expr (pe_bm PySem.F.plainAttrs_list PySem.F.slot_list_append PySem.F.type_list_append mt_append (pv 5) (pa_cons (pe_tup (pa_cons (pe_ix (ix_tupK (K := K)) (pv 6) pe_int (fun _ _ => rfl)) (pa_cons (pe_ix (ix_tupK (K := K)) (pv 6) pe_int (fun _ _ => rfl)) (pa_cons (pe_call T.ok__law_far hr (by rfl) T.g__law_far T.k__law_far T.b__law_far .nil pass0 (pa_cons (pv 0) (pa_cons (pe_ix (ix_tupK (K := K)) (pv 6) pe_int (fun _ _ => rfl)) (pa_cons (pe_ix (ix_tupK (K := K)) (pv 6) pe_int (fun _ _ => rfl)) pa_nil)))) pa_nil)))) pa_nil)))) pss_nil))))
        (pss_one (ps_ret (pv 5)))))), ?_⟩
    refine ⟨_, rfl, dN, nx, ks, rfl, .inl hN, gn.1, h64, fun ys l perm pw nl => ?_⟩
    have ylen := perm.length_eq
    have ynd : ys.Nodup := perm.nodup_iff.mpr nd
    have s1 := same_upd (o := .lst (ys.map V.int)) nl
    have hl : upd H l (.lst (ys.map V.int)) l = some (.lst (ys.map V.int)) := upd_same
    generalize upd H l (.lst (ys.map V.int)) = H1 at s1 hl
    refine ⟨l, rfl, ⟨_, SqL.of hl⟩, fun D hD => ?_⟩
    have D0 := none_back s1 hD
    refine lc_list (K := K) (a := l) (xs := ys.map V.int) (fun i H' => Same H1 H' ∧ ∃ rs, H' D = some (.lst rs) ∧ LAt (sV n) H' rs ((ys.take i).map (qA nx))) ⟨same_upd hD, [], upd_same, .nil⟩ (fun i H' _ p => SqL.of (p.1 _ _ hl)) (fun i x H2 hx pv => ?_) (fun H2 pv => ?_)
    · obtain ⟨s2, rs, e2, la⟩ := pv
      have hx' : (ys.map V.int)[i]? = some x := hx
      rw [List.getElem?_map] at hx'
      obtain ⟨y, hyi, rfl⟩ := Option.map_eq_some_iff.mp hx'
      obtain ⟨x', _, ex⟩ := gn.2 y (perm.mem_iff.mp (List.mem_of_getElem? hyi))
      have lr := la.1
      rw [List.length_map, List.length_take] at lr
      have N2 := s2 _ _ (s1 _ _ hN)
      refine ⟨rfl, lc_yes ?_⟩
      refine ⟨_, rfl, _, rfl, _, rfl, dN, _, rfl, dget_of (k := Sum.inl y) N2 ex, _, rfl, _, rfl, _, rfl, _, rfl, dN, _, rfl, dget_of (k := Sum.inl y) N2 ex, n, y, x', rfl, hn, lenL (by show 3 ≤ 100000; decide), fun p np => ?_⟩
      have s3 := same_upd (o := .tup [.int y, .int x', .int (farL n y x')]) np
      have e3 := s3 _ _ e2
      refine ⟨_, e3, small1000' (by omega), fun b u e => (upd_ne (ne_of_none e hD)).trans (s3 _ _ (s2 _ _ e)), rs ++ [.ref p], upd_same, ?_⟩
      rw [List.take_add_one, hyi, Option.toList_some, List.map_append]
      refine ((la.same s3).app (q := qA nx y) ?_).mono fun a xs e => (upd_ne (ne_kind e e3 (fun z => nomatch z))).trans e
      refine upd_same.trans ?_
      show some (HO.tup [.int y, .int x', .int (farL n y x')]) = some (HO.tup [.int y, .int (iN nx y), .int (farL n y (iN nx y))])
      rw [iN_of ex]
    · obtain ⟨s2, rs, e2, la⟩ := pv
      rw [List.length_map, List.take_length] at la
      have s02 : Same H H2 := Same.trans s1 s2
      obtain ⟨js, ejs, ndj⟩ := kb
      have ljs : js.length ≤ ks.length := nodup_sub_len ndj fun j hj => by
        obtain ⟨v, hv⟩ := Option.isSome_iff_exists.mp (valV_mem_keys ejs hj)
        exact (gc _ _ hv).1
      refine ⟨_, rfl, dB, bs, js, rfl, .inl (s02 _ _ hB), ejs, by omega, fun zs l2 permz pwz nl2 => ?_⟩
      have zlen := permz.length_eq
      have znd : zs.Nodup := permz.nodup_iff.mpr ndj
      have zf : fO bs zs = fO bs ys := by
        refine perm_sorted_eq ((List.perm_ext_iff_of_nodup (znd.filter _) (ynd.filter _)).mpr fun j => ?_) (pwz.filter _) (pw.filter _)
        rw [List.mem_filter, List.mem_filter, decide_eq_true_eq]
        refine ⟨fun h => ⟨perm.mem_iff.mpr (gc.mem h.2), h.2⟩, fun h => ⟨permz.mem_iff.mpr ?_, h.2⟩⟩
        refine Decidable.byContradiction fun nj => h.2 ?_
        unfold bef
        rw [valV_none_keys ejs nj]
        rfl
      have s3 := same_upd (o := .lst (zs.map V.int)) nl2
      have hl2 : upd H2 l2 (.lst (zs.map V.int)) l2 = some (.lst (zs.map V.int)) := upd_same
      have e3 := s3 _ _ e2
      have la3 := la.same s3
      have nlD : l2 ≠ D := fun z => by rw [z, e2] at nl2; cases nl2
      have s03 := Same.trans s02 s3
      have lr0 := la.1
      rw [List.length_map] at lr0
      generalize upd H2 l2 (.lst (zs.map V.int)) = H3 at s3 hl2 e3 la3 s03
      refine ⟨l2, rfl, ⟨_, SqL.of hl2⟩, ?_⟩
      refine for_list (K := K) (a := l2) (xs := zs.map V.int) (fun i σ' H' => ∃ (o4 o6 : Option V) (us : List V), σ' = [some (.int n), some (.ref dN), some (.ref dB), some (.ref pO), o4, some (.ref D), o6] ∧ H' D = some (.lst us) ∧ LAt (sV n) H' us (ys.map (qA nx) ++ (fO bs (zs.take i)).map (qB bs)) ∧ Same H H' ∧ H' l2 = some (.lst (zs.map V.int)))
        ⟨_, _, rs, rfl, e3, by rw [List.take_zero]; show LAt (sV n) H3 rs (ys.map (qA nx) ++ []); rw [List.append_nil]; exact la3, s03, hl2⟩ (fun i σ' H' _ pv => by obtain ⟨_, _, _, _, _, _, _, h⟩ := pv; exact SqL.of h) (fun i v σ' H4 hv pv => ?_) (fun σ' H4 pv => ?_)
      · obtain ⟨o4, o6, us, rfl, e4, la4, s4, hl4⟩ := pv
        have hv' : (zs.map V.int)[i]? = some v := hv
        rw [List.getElem?_map] at hv'
        obtain ⟨z, hzi, rfl⟩ := Option.map_eq_some_iff.mp hv'
        obtain ⟨b, hb⟩ := Option.isSome_iff_exists.mp (valV_mem_keys ejs (permz.mem_iff.mp (List.mem_of_getElem? hzi)))
        have B4 := s4 _ _ hB
        have gz := dget_of (k := Sum.inl z) B4 hb
        have ul := la4.1
        have fl : (fO bs (zs.take i)).length ≤ (zs.take i).length := List.length_filter_le _ _
        rw [List.length_append, List.length_map, List.length_map] at ul
        rw [List.length_take] at fl
        refine ⟨_, rfl, _, rfl, dB, _, rfl, gz, rfl, _, rfl, ?_⟩
        rcases (gc _ _ hb).2 with rfl | ⟨x, _, rfl⟩
        · refine iteF' rfl ?_
          refine ⟨_, _, us, rfl, e4, ?_, s4, hl4⟩
          rw [List.take_add_one, hzi, Option.toList_some]
          have : fO bs (zs.take i ++ [z]) = fO bs (zs.take i) := by
            unfold fO
            rw [List.filter_append, List.filter_cons_of_neg (by rw [bef_some hb]; simp), List.filter_nil, List.append_nil]
          rw [this]
          exact la4
        · refine iteT' rfl ?_
          refine ⟨_, rfl, .inl ⟨rfl, _, SqL.of e4⟩, _, rfl, _, rfl, dB, _, rfl, gz, _, rfl, _, rfl, _, rfl, _, rfl, dB, _, rfl, gz, _, rfl, n, x, z, rfl, hn, lenL (by show 3 ≤ 100000; decide), fun p np => ?_⟩
          have s5 := same_upd (o := .tup [.int x, .int z, .int (farL n x z)]) np
          have e5 := s5 _ _ e4
          refine ⟨D, _, _, rfl, rfl, e5, small1000' (by omega), ?_⟩
          refine ⟨_, _, us ++ [.ref p], rfl, upd_same, ?_, fun a u e => (upd_ne (ne_of_none e D0)).trans (s5 _ _ (s4 _ _ e)), (upd_ne nlD).trans (s5 _ _ hl4)⟩
          rw [List.take_add_one, hzi, Option.toList_some]
          have : fO bs (zs.take i ++ [z]) = fO bs (zs.take i) ++ [z] := by
            unfold fO
            rw [List.filter_append, List.filter_cons_of_pos (by rw [bef_some hb]; simp), List.filter_nil]
          rw [this, List.map_append, ← List.append_assoc]
          refine ((la4.same s5).app (q := qB bs z) ?_).mono fun a xs e => (upd_ne (ne_kind e e5 (fun z => nomatch z))).trans e
          refine upd_same.trans ?_
          show some (HO.tup [.int x, .int z, .int (farL n x z)]) = some (HO.tup [.int (zO (bef bs z)), .int z, .int (farL n (zO (bef bs z)) z)])
          rw [bef_some hb]
          rfl
      · obtain ⟨o4, o6, us, rfl, e4, la4, s4, hl4⟩ := pv
        rw [List.length_map, List.take_length, zf] at la4
        have lf : (fO bs ys).length ≤ ys.length := List.length_filter_le _ _
        have P4 := s4 _ _ hP
        refine ⟨_, rfl, pO, rfl, ⟨_, SqL.of P4⟩, ?_⟩
        have nPD : pO ≠ D := fun z => by rw [← z, hP] at D0; cases D0
        refine for_list (K := K) (a := pO) (xs := ps) (fun i σ' H' => ∃ (o4 o6 : Option V) (us : List V), σ' = [some (.int n), some (.ref dN), some (.ref dB), some (.ref pO), o4, some (.ref D), o6] ∧ H' D = some (.lst us) ∧ LAt (sV n) H' us (ys.map (qA nx) ++ (fO bs ys).map (qB bs) ++ (Ls.take i).flatMap LetP) ∧ Same H H' ∧ H' pO = some (.lst ps))
          ⟨_, _, us, rfl, e4, by rw [List.take_zero, List.flatMap_nil, List.append_nil]; exact la4, s4, P4⟩ (fun i σ' H' _ pv => by obtain ⟨_, _, _, _, _, _, _, h⟩ := pv; exact SqL.of h) (fun i v σ' H5 hv pv => ?_) (fun σ' H5 pv => ?_)
        · obtain ⟨o4, o6, us, rfl, e5, la5, s5, P5⟩ := pv
          obtain ⟨a, L, hLi, rfl, ea⟩ := hL.at hv
          have ul := la5.1
          have fl := flat_len (Ls.take i)
          have tl : (Ls.take i).length ≤ 1000 := by rw [List.length_take, ← hL.1]; omega
          rw [List.length_append, List.length_append, List.length_map, List.length_map] at ul
          have et := s5 _ _ ea
          have aD : a ≠ D := ne_of_none ea D0
          have done0 : LetP L = [] → LAt (sV n) H5 us (ys.map (qA nx) ++ (fO bs ys).map (qB bs) ++ (Ls.take (i + 1)).flatMap LetP) := fun e => by
            rw [List.take_add_one, hLi, Option.toList_some, List.flatMap_append, List.flatMap_cons, List.flatMap_nil, e, List.append_nil, List.append_nil]
            exact la5
          have done1 : ∀ x y, LetP L = [(x, y)] → ∀ p, H5 p = none → LAt (sV n) (upd (upd H5 p (.tup [.int x, .int y, .int (farL n x y)])) D (.lst (us ++ [.ref p]))) (us ++ [.ref p]) (ys.map (qA nx) ++ (fO bs ys).map (qB bs) ++ (Ls.take (i + 1)).flatMap LetP) ∧ Same H (upd (upd H5 p (.tup [.int x, .int y, .int (farL n x y)])) D (.lst (us ++ [.ref p]))) := fun x y e p np => by
            have s6 := same_upd (o := .tup [.int x, .int y, .int (farL n x y)]) np
            have e6 := s6 _ _ e5
            refine ⟨?_, fun a u e => (upd_ne (ne_of_none e D0)).trans (s6 _ _ (s5 _ _ e))⟩
            rw [List.take_add_one, hLi, Option.toList_some, List.flatMap_append, List.flatMap_cons, List.flatMap_nil, e, List.append_nil, ← List.append_assoc]
            exact ((la5.same s6).app (q := (x, y)) upd_same).mono fun a xs e => (upd_ne (ne_kind e e6 (fun z => nomatch z))).trans e
          cases L with
          | tell r u =>
            refine ⟨_, rfl, a, _, 0, .str "tell", rfl, rfl, SqT.of et, rfl, rfl, _, rfl, ?_⟩
            rw [show decide (V.str "tell" = V.str "tell") = true by decide +kernel]
            refine iteT ⟨_, rfl, .inl ⟨rfl, _, SqL.of e5⟩, _, rfl, a, _, 2, .int u, rfl, rfl, SqT.of et, rfl, _, rfl, a, _, 1, .int r, rfl, rfl, SqT.of et, rfl, _, rfl, _, rfl, a, _, 2, .int u, rfl, rfl, SqT.of et, rfl, _, rfl, a, _, 1, .int r, rfl, rfl, SqT.of et, rfl, n, u, r, rfl, hn, lenL (by show 3 ≤ 100000; decide), fun p np => ?_⟩
            have s6 := same_upd (o := .tup [.int u, .int r, .int (farL n u r)]) np
            refine ⟨D, _, _, rfl, rfl, s6 _ _ e5, small1000' (by omega), ?_⟩
            have et6 := (upd_ne (o := .lst (us ++ [.ref p])) aD).trans (s6 _ _ et)
            refine ⟨_, rfl, a, _, 0, .str "tell", rfl, rfl, SqT.of et6, rfl, rfl, _, rfl, ?_⟩
            rw [show decide (V.str "tell" = V.str "answer") = false by decide +kernel]
            refine iteF ?_
            obtain ⟨h1, h2⟩ := done1 u r rfl p np
            exact ⟨_, _, _, rfl, upd_same, h1, h2, (upd_ne nPD).trans (s6 _ _ P5)⟩
          | ask r u =>
            refine ⟨_, rfl, a, _, 0, .str "ask", rfl, rfl, SqT.of et, rfl, rfl, _, rfl, ?_⟩
            rw [show decide (V.str "ask" = V.str "tell") = false by decide +kernel]
            refine iteF ⟨_, rfl, a, _, 0, .str "ask", rfl, rfl, SqT.of et, rfl, rfl, _, rfl, ?_⟩
            rw [show decide (V.str "ask" = V.str "answer") = false by decide +kernel]
            exact iteF ⟨_, _, us, rfl, e5, done0 rfl, s5, P5⟩
          | answer r u m =>
            refine ⟨_, rfl, a, _, 0, .str "answer", rfl, rfl, SqT.of et, rfl, rfl, _, rfl, ?_⟩
            rw [show decide (V.str "answer" = V.str "tell") = false by decide +kernel]
            refine iteF ⟨_, rfl, a, _, 0, .str "answer", rfl, rfl, SqT.of et, rfl, rfl, _, rfl, ?_⟩
            rw [show decide (V.str "answer" = V.str "answer") = true by decide +kernel]
            refine iteT ⟨_, rfl, .inl ⟨rfl, _, SqL.of e5⟩, _, rfl, a, _, 3, .int m, rfl, rfl, SqT.of et, rfl, _, rfl, a, _, 2, .int u, rfl, rfl, SqT.of et, rfl, _, rfl, _, rfl, a, _, 3, .int m, rfl, rfl, SqT.of et, rfl, _, rfl, a, _, 2, .int u, rfl, rfl, SqT.of et, rfl, n, m, u, rfl, hn, lenL (by show 3 ≤ 100000; decide), fun p np => ?_⟩
            have s6 := same_upd (o := .tup [.int m, .int u, .int (farL n m u)]) np
            refine ⟨D, _, _, rfl, rfl, s6 _ _ e5, small1000' (by omega), ?_⟩
            obtain ⟨h1, h2⟩ := done1 m u rfl p np
            exact ⟨_, _, _, rfl, upd_same, h1, h2, (upd_ne nPD).trans (s6 _ _ P5)⟩
        · obtain ⟨o4, o6, us, rfl, e5, la5, s5, P5⟩ := pv
          rw [hL.1, List.take_length] at la5
          have ul := la5.1
          have fl := flat_len Ls
          have tl : Ls.length ≤ 1000 := by rw [← hL.1]; exact hz
          rw [List.length_append, List.length_append, List.length_map, List.length_map] at ul
          exact ⟨_, rfl, q ys D us H5 perm pw s5 D0 e5 la5 (by omega)⟩
def sp__law_snapshot (K : PySem.W.Frag) : Sp := fun vs H Q _ => ∃ (dN dB pO : Addr) (n : Int) (nx bs : List (Key × V)) (ps : List V) (ks : List Int), vs = [.int n, .ref dN, .ref dB, .ref pO] ∧ H dN = some (.dK nx) ∧ H dB = some (.dK bs) ∧ H pO = some (.lst ps) ∧ ks.length < 64 ∧ GN ks nx ∧
  ∀ (ys : List Int) p H', ys.Perm ks → ys.Pairwise (· ≤ ·) → Same H H' → Shot n (gV nx) (bef bs) ys H' p ps → Q (.ref p) H'
--CUT
/-! ### the law's own defs -/
def BI (x : Int) (ys : List Int) (j : Nat) (y : Int) : Prop := x ≤ y ∧ y ≤ x + j ∧ ((∀ e ∈ ys.take j, e < y) ∨ ∃ e ∈ ys.take j, y < e ∧ ∀ f ∈ ys.take j, f ≠ y)
theorem BI.zero {x : Int} {ys : List Int} : BI x ys 0 x := ⟨Int.le_refl _, by omega, .inl fun e h => by rw [List.take_zero] at h; cases h⟩
theorem mem_take_le {ys : List Int} (pw : ys.Pairwise (· ≤ ·)) {j : Nat} {z e : Int} (hz : ys[j]? = some z) (he : e ∈ ys.take j) : e ≤ z := by
  obtain ⟨i, hi⟩ := List.mem_iff_getElem?.mp he
  rw [List.getElem?_take] at hi
  split at hi
  · rename_i lt
    obtain ⟨h1, rfl⟩ := List.getElem?_eq_some_iff.mp hi
    obtain ⟨h2, rfl⟩ := List.getElem?_eq_some_iff.mp hz
    exact List.pairwise_iff_getElem.mp pw i j h1 h2 lt
  · cases hi
theorem BI.step {x : Int} {ys : List Int} {j : Nat} {y z : Int} (pw : ys.Pairwise (· ≤ ·)) (hz : ys[j]? = some z) (h : BI x ys j y) : BI x ys (j + 1) (if z ≤ y then y + 1 else y) := by
  obtain ⟨a, b, c⟩ := h
  have mt : ∀ f, f ∈ ys.take (j + 1) ↔ f ∈ ys.take j ∨ f = z := fun f => by rw [List.take_add_one, hz, Option.toList_some, List.mem_append, List.mem_singleton]
  by_cases e : z ≤ y
  · rw [if_pos e]
    refine ⟨by omega, by omega, ?_⟩
    rcases c with c | ⟨f, hf, hy, _⟩
    · refine .inl fun g hg => ?_
      rcases (mt g).mp hg with hg | rfl
      · have := c g hg
        omega
      · omega
    · have := mem_take_le pw hz hf
      omega
  · rw [if_neg e]
    refine ⟨a, by omega, .inr ?_⟩
    rcases c with c | ⟨f, hf, hy, hn⟩
    · refine ⟨z, (mt z).mpr (.inr rfl), by omega, fun g hg => ?_⟩
      rcases (mt g).mp hg with hg | rfl
      · have := c g hg
        omega
      · omega
    · refine ⟨f, (mt f).mpr (.inl hf), hy, fun g hg => ?_⟩
      rcases (mt g).mp hg with hg | rfl
      · exact hn g hg
      · omega
theorem BI.done {x : Int} {ys : List Int} {y : Int} (h : BI x ys ys.length y) : y ∉ ys := by
  obtain ⟨_, _, c⟩ := h
  rw [List.take_length] at c
  intro m
  rcases c with c | ⟨f, hf, hy, hn⟩
  · have := c y m
    omega
  · exact hn y m rfl
theorem Kp.free {t c l : Addr} {H H' : Hp} (k : Kp t H H') (T : Tape H' t c) (nl : H' l = none) : H l = none := by
  cases e : H l with
  | none => rfl
  | some o =>
    by_cases z : l = t
    · obtain ⟨_, _, _, _, _, e1, _⟩ := T
      rw [z, e1] at nl
      cases nl
    · rw [k _ _ z e] at nl
      cases nl
def sp__law_places (K : PySem.W.Frag) : Sp := fun vs H Q _ => ∃ (t c : Addr) (n m : Int), vs = [.ref t, .int n, .int m] ∧ Tape H t c ∧ 0 ≤ m ∧ m ≤ n ∧ m ≤ 60 ∧ n ≤ 1000000000 ∧ ∀ p (ms : List Int) H', H p = none → H' p = some (.lst (ms.map V.int)) → (ms.length : Int) = m → ms.Nodup → (∀ k ∈ ms, 0 ≤ k ∧ k < n) → Kp t H H' → Tape H' t c → Q (.ref p) H'
theorem T0.ok__law_places (T : T0 K mg) : FnOk P w K mg base CX0 2 T.a__law_places T.fd__law_places ["tape", "size", "count"] (sp__law_places K) := by
  refine T.F__law_places.ok sc__law_places (fun vs H Q E h => ?_) (fun cdv A outer s H vs Q E hr h => ?_)
  · obtain ⟨t, c, n, m, rfl, _⟩ := h
    rfl
  · obtain ⟨t, c, n, m, rfl, hT, hm0, hmn, hm6, hn9, q⟩ := h
    refine ⟨_, (pss_cons (ps_set (i := 3) sc__law_places.nd rfl (Or.inl rfl) (pe_lst pa_nil))
        (pss_cons (ps_for PassesOwn.never rfl (pi_range1 (by rfl) T.m_range (pa_cons (pv 2) pa_nil)) (pg_name (i := 4) sc__law_places.nd rfl (Or.inl rfl)) (pss_cons (ps_set (i := 5) sc__law_places.nd rfl (Or.inl rfl) (pe_call T.ok__law_pick hr (by rfl) T.g__law_pick T.k__law_pick T.b__law_pick .nil pass0 (pa_cons (pv 0) (pa_cons (pe_op op_sub (pv 1) (pv 4)) pa_nil))))
        (pss_cons (ps_for PassesOwn.never rfl (pi_list (pe_callB (cr_sortedK (K := K)) (by rfl) T.m_sorted (by decide +kernel) (pa_cons (pv 3) pa_nil))) (pg_name (i := 6) sc__law_places.nd rfl (Or.inl rfl)) (pss_one (ps_if (pt_cmpR op_le (pv 6) (pv 5) (nomark _)) (pss_one (ps_set (i := 5) sc__law_places.nd rfl (Or.inl rfl) (pe_op op_add (pv 5) pe_int))) pss_nil)))
        (pss_one (ps_expr (pe_bm PySem.F.plainAttrs_list PySem.F.slot_list_append PySem.F.type_list_append mt_append (pv 3) (pa_cons (pv 5) pa_nil)))))))
        (pss_one (ps_ret (pv 3))))), ?_⟩
    refine ⟨Nat.zero_le _, fun p np => ?_⟩
    have off := hT.off np
    refine ⟨_, rfl, m, rfl, by omega, by omega, ?_⟩
    refine for_range (lo := 0) (n := m.toNat) (fun i σ' H' => ∃ (o1 o2 o3 : Option V) (ms : List Int), σ' = [some (.ref t), some (.int n), some (.int m), some (.ref p), o1, o2, o3] ∧ ms.length = i ∧ ms.Nodup ∧ (∀ k ∈ ms, 0 ≤ k ∧ k < n) ∧ H' p = some (.lst (ms.map V.int)) ∧ Kp t H H' ∧ Tape H' t c)
      ⟨none, none, none, [], rfl, rfl, List.nodup_nil, fun _ h => (nomatch h), upd_same, Kp.of_same (same_upd np), hT.put off⟩ (fun i σ' H' hi pv => ?_) (fun σ' H' pv => ?_)
    · obtain ⟨o1, o2, o3, ms, rfl, hl, hnd, hrg, hp, kp, hT1⟩ := pv
      rw [Int.zero_add]
      refine ⟨_, rfl, _, rfl, _, rfl, _, _, rfl, rfl, ?_⟩
      refine ⟨t, c, n - i, rfl, hT1, by omega, by omega, fun x H2 x0 x1 kp2 hT2 => ?_⟩
      have hp2 := kp2 _ _ off.1 hp
      refine ⟨_, rfl, p, ms, rfl, SqL.of hp2, by omega, fun ss l perm pw nl => ?_⟩
      have hp3 : upd H2 l (.lst (ss.map V.int)) p = some (.lst (ms.map V.int)) := by rw [upd_ne (ne_of_none hp2 nl)]; exact hp2
      have kp3 : Kp t H (upd H2 l (.lst (ss.map V.int))) := (kp.trans kp2).new nl
      have hT3 : Tape (upd H2 l (.lst (ss.map V.int))) t c := hT2.put (hT2.off nl)
      have hl3 : upd H2 l (.lst (ss.map V.int)) l = some (.lst (ss.map V.int)) := upd_same
      generalize upd H2 l (.lst (ss.map V.int)) = H3 at hp3 kp3 hT3 hl3
      refine ⟨l, rfl, ⟨_, SqL.of hl3⟩, for_list (K := K) (a := l) (xs := ss.map V.int) (fun j σ2 H4 => ∃ (o3 : Option V) (y : Int), σ2 = [some (.ref t), some (.int n), some (.int m), some (.ref p), some (.int i), some (.int y), o3] ∧ H3 = H4 ∧ BI x ss j y) ⟨_, x, rfl, rfl, BI.zero⟩ (fun j σ2 H4 _ pv => by obtain ⟨_, _, _, rfl, _⟩ := pv; exact SqL.of hl3) (fun j v σ2 H4 hv pv => ?_) (fun σ2 H4 pv => ?_)⟩
      · obtain ⟨o3, y, rfl, rfl, bi⟩ := pv
        rw [List.getElem?_map] at hv
        obtain ⟨z, hz, rfl⟩ := Option.map_eq_some_iff.mp hv
        have st := bi.step pw hz
        refine ⟨_, rfl, _, rfl, _, _, rfl, rfl, _, rfl, ite2 (fun e => ?_) (fun e => ?_)⟩
        · rw [if_pos (of_decide_eq_true e)] at st
          exact ⟨_, rfl, _, _, rfl, rfl, _, _, rfl, rfl, st⟩
        · rw [if_neg (fun g => e (decide_eq_true g))] at st
          exact ⟨_, _, rfl, rfl, st⟩
      · obtain ⟨o3, y, rfl, rfl, bi⟩ := pv
        have sl := perm.length_eq
        rw [List.length_map] at bi
        have ny : y ∉ ms := fun g => bi.done (perm.mem_iff.mpr g)
        have yb := bi.2.1
        have ya := bi.1
        refine ⟨_, rfl, .inl ⟨rfl, _, SqL.of hp3⟩, _, rfl, p, _, _, rfl, rfl, hp3, small1000' (by rw [List.length_map]; omega), _, _, _, ms ++ [y], rfl, by rw [List.length_append, hl]; rfl, ?_, fun k hk => ?_, ?_, ?_, hT3.put off⟩
        · exact List.nodup_append.mpr ⟨hnd, List.pairwise_singleton _ _, fun a ha b hb z => by rw [List.mem_singleton.mp hb] at z; rw [z] at ha; exact ny ha⟩
        · rcases List.mem_append.mp hk with hk | hk
          · exact hrg k hk
          · rw [List.mem_singleton.mp hk]
            omega
        · rw [upd_same, List.map_append]
          rfl
        · intro b o nb e
          have nbp : b ≠ p := ne_of_none e np
          rw [upd_ne nbp]
          exact kp3 b o nb e
    · obtain ⟨o1, o2, o3, ms, rfl, hl, hnd, hrg, hp, kp, hT1⟩ := pv
      exact ⟨_, rfl, q p ms _ np hp (by omega) hnd hrg kp hT1⟩
def sp__law_nexts (K : PySem.W.Frag) : Sp := fun vs H Q _ => ∃ (t c pl : Addr) (ms : List Int), vs = [.ref t, .ref pl] ∧ Tape H t c ∧ pl ≠ t ∧ H pl = some (.lst (ms.map V.int)) ∧ ms.Nodup ∧ ms.length ≤ 1000 ∧
  ∀ p (nx : List (Key × V)) H', H p = none → H' p = some (.dK nx) → nx.map (·.1) = ms.map Sum.inl → (∀ k ∈ ms, ∃ x ∈ ms, valV nx (.inl k) = some (.int x)) → Kp t H H' → Tape H' t c → Q (.ref p) H'
theorem T0.ok__law_nexts (T : T0 K mg) : FnOk P w K mg base CX0 2 T.a__law_nexts T.fd__law_nexts ["tape", "places"] (sp__law_nexts K) := by
  refine T.F__law_nexts.ok sc__law_nexts (fun vs H Q E h => ?_) (fun cdv A outer s H vs Q E hr h => ?_)
  · obtain ⟨t, c, pl, ms, rfl, _⟩ := h
    rfl
  · obtain ⟨t, c, pl, ms, rfl, hT, n1, hp, hnd, l1, q⟩ := h
    refine ⟨_, (pss_cons (ps_set (i := 2) sc__law_nexts.nd rfl (Or.inl rfl) pe_dnewK)
        (pss_cons (ps_set (i := 3) sc__law_nexts.nd rfl (Or.inl rfl) (pe_callB (call_lenK (K := K)) (by rfl) T.m_len PySem.boot_len (pa_cons (pv 1) pa_nil)))
        (pss_cons (ps_set (i := 4) sc__law_nexts.nd rfl (Or.inl rfl) pe_int)
        (pss_cons (ps_set (i := 5) sc__law_nexts.nd rfl (Or.inl rfl) pe_int)
        (pss_cons (ps_set (i := 6) sc__law_nexts.nd rfl (Or.inl rfl) pe_int)
        (pss_cons (ps_for PassesOwn.never rfl (pi_range1 (by rfl) T.m_range (pa_cons (pv 3) pa_nil)) (pg_name (i := 7) sc__law_nexts.nd rfl (Or.inl rfl)) (C8.pss_cut (ps_if (pt_cmpR op_eq (pv 7) (pv 5) (nomark _)) (pss_cons (ps_set (i := 4) sc__law_nexts.nd rfl (Or.inl rfl) (pv 7))
        (pss_cons (ps_set (i := 5) sc__law_nexts.nd rfl (Or.inl rfl) (pv 3))
        (C8.pss_cut (ps_if (pt_cmpR op_eq (pe_call T.ok__law_pick hr (by rfl) T.g__law_pick T.k__law_pick T.b__law_pick .nil pass0 (pa_cons (pv 0) (pa_cons pe_int pa_nil))) pe_int (nomark _)) (pss_one (ps_set (i := 5) sc__law_nexts.nd rfl (Or.inl rfl) (pe_op op_add (pe_op op_add (pv 7) pe_int) (pe_call T.ok__law_pick hr (by rfl) T.g__law_pick T.k__law_pick T.b__law_pick .nil pass0 (pa_cons (pv 0) (pa_cons (pe_op op_sub (pv 3) (pv 7)) pa_nil)))))) pss_nil)
        (pss_one (ps_set (i := 6) sc__law_nexts.nd rfl (Or.inl rfl) (pe_op op_add pe_int (pe_call T.ok__law_pick hr (by rfl) T.g__law_pick T.k__law_pick T.b__law_pick .nil pass0 (pa_cons (pv 0) (pa_cons (pe_op op_sub (pv 5) (pv 4)) pa_nil))))))))) pss_nil)
        (pss_one (ps_if (pt_cmpR op_lt (pe_op op_sub (pv 7) (pv 4)) (pe_op op_sub (pv 6) pe_int) (nomark _)) (pss_one (ps_asg (pe_ix (ix_listK (K := K)) (pv 1) (pe_op op_add (pv 7) pe_int) (fun _ _ => rfl)) (pg_sub (pv 2) (pe_ix (ix_listK (K := K)) (pv 1) (pv 7) (fun _ _ => rfl)) (set_dict (un1 hr))))) (pss_one (ps_if (pt_cmpR op_eq (pe_op op_sub (pv 7) (pv 4)) (pe_op op_sub (pv 6) pe_int) (nomark _)) (pss_one (ps_asg (pe_ix (ix_listK (K := K)) (pv 1) (pv 4) (fun _ _ => rfl)) (pg_sub (pv 2) (pe_ix (ix_listK (K := K)) (pv 1) (pv 7) (fun _ _ => rfl)) (set_dict (un1 hr))))) (pss_one (ps_asg (pe_ix (ix_listK (K := K)) (pv 1) (pe_op op_add (pv 4) (pe_call T.ok__law_pick hr (by rfl) T.g__law_pick T.k__law_pick T.b__law_pick .nil pass0 (pa_cons (pv 0) (pa_cons (pe_op op_sub (pv 7) (pv 4)) pa_nil)))) (fun _ _ => rfl)) (pg_sub (pv 2) (pe_ix (ix_listK (K := K)) (pv 1) (pv 7) (fun _ _ => rfl)) (set_dict (un1 hr)))))))))))
        (pss_one (ps_ret (pv 2))))))))), fun D nD => ?_⟩
    have oD := hT.off nD
    have hp1 := (upd_ne (o := .dK []) (ne_of_none hp nD)).trans hp
    refine ⟨_, rfl, pl, _, rfl, .inl (SqL.of hp1), ?_⟩
    rw [List.length_map]
    refine ⟨_, rfl, (ms.length : Int), rfl, by omega, by omega, ?_⟩
    rw [Int.toNat_natCast]
    refine for_range (lo := 0) (n := ms.length) (fun i σ' H' => ∃ (f l r : Int) (o7 : Option V) (nx : List (Key × V)), σ' = [some (.ref t), some (.ref pl), some (.ref D), some (.int ms.length), some (.int f), some (.int l), some (.int r), o7] ∧ 0 ≤ f ∧ f ≤ i ∧ i ≤ l ∧ l ≤ ms.length ∧ (i < l → 1 ≤ r ∧ r ≤ l - f) ∧ H' D = some (.dK nx) ∧ nx.map (·.1) = (ms.take i).map Sum.inl ∧ (∀ k ∈ ms.take i, ∃ x ∈ ms, valV nx (.inl k) = some (.int x)) ∧ Kp t H H' ∧ Tape H' t c)
      ⟨0, 0, 0, none, [], rfl, by omega, by omega, by omega, by omega, fun h => by omega, upd_same, by rw [List.take_zero]; rfl, fun k h => (by rw [List.take_zero] at h; cases h), Kp.of_same (same_upd nD), hT.put oD⟩ (fun i σ' H' hi pv => ?_) (fun σ' H' pv => ?_)
    · obtain ⟨f, l, r, o7, nx, rfl, f0, fi, il, lN, hr', hD, hk, hx, k1, T1⟩ := pv
      rw [Int.zero_add]
      refine ⟨fun σ' H' => ∃ f l r : Int, σ' = [some (.ref t), some (.ref pl), some (.ref D), some (.int ms.length), some (.int f), some (.int l), some (.int r), some (.int i)] ∧ 0 ≤ f ∧ f ≤ i ∧ i < l ∧ l ≤ ms.length ∧ 1 ≤ r ∧ r ≤ l - f ∧ H' D = some (.dK nx) ∧ Kp t H H' ∧ Tape H' t c, ?_, ?_⟩
      · refine ⟨_, rfl, _, rfl, rfl, _, rfl, ite2 (fun e => ?_) (fun e => ?_)⟩
        · refine ⟨_, rfl, _, rfl, ?_⟩
          refine ⟨fun σ' H' => ∃ l : Int, σ' = [some (.ref t), some (.ref pl), some (.ref D), some (.int ms.length), some (.int i), some (.int l), some (.int r), some (.int i)] ∧ i < l ∧ l ≤ ms.length ∧ H' D = some (.dK nx) ∧ Kp t H H' ∧ Tape H' t c, ?_, ?_⟩
          · refine ⟨_, rfl, t, c, 4, rfl, T1, by decide, by decide, fun d H2 d0 d1 k2 T2 => ⟨rfl, _, rfl, ite2 (fun _ => ?_) (fun _ => ?_)⟩⟩
            · refine ⟨_, rfl, _, _, rfl, rfl, _, rfl, _, rfl, _, rfl, _, _, rfl, rfl, t, c, ms.length - i, rfl, T2, by omega, by omega, fun d H3 d0 d1 k3 T3 => ⟨_, _, rfl, rfl, _, rfl, by omega, by omega, k3 _ _ oD.1 (k2 _ _ oD.1 hD), (k1.trans k2).trans k3, T3⟩⟩
            · exact ⟨_, rfl, by omega, by omega, k2 _ _ oD.1 hD, k1.trans k2, T2⟩
          rintro _ H3 ⟨l', rfl, il', lN', hD3, k3, T3⟩
          refine ⟨_, rfl, _, rfl, _, rfl, _, _, rfl, rfl, t, c, l' - i, rfl, T3, by omega, by omega, fun d H4 d0 d1 k4 T4 => ⟨_, _, rfl, rfl, i, l', 1 + d, rfl, by omega, by omega, il', lN', by omega, by omega, k4 _ _ oD.1 hD3, k3.trans k4, T4⟩⟩
        · have ne : ¬ (i : Int) = l := fun z => e (decide_eq_true (congrArg V.int z))
          exact ⟨f, l, r, rfl, f0, fi, by omega, lN, (hr' (by omega)).1, (hr' (by omega)).2, hD, k1, T1⟩
      rintro _ H2 ⟨f, l, r, rfl, f0, fi, il, lN, r1, r2, hD2, k2, T2⟩
      have hp2 := k2 _ _ n1 hp
      have gi : ms[i]? = some ms[i] := List.getElem?_eq_getElem hi
      have lx : nx.length = (ms.take i).length := by have := congrArg List.length hk; rw [List.length_map, List.length_map] at this; exact this
      have sx : nx.length < sizeLine := small1000' (by rw [lx, List.length_take]; omega)
      have fin : ∀ (H3 : Hp) (x : Int), x ∈ ms → Kp t H H3 → Tape H3 t c → ∃ (f' l' r' : Int) (o7 : Option V) (nx' : List (Key × V)), [some (V.ref t), some (.ref pl), some (.ref D), some (.int ms.length), some (.int f), some (.int l), some (.int r), some (.int i)] = [some (.ref t), some (.ref pl), some (.ref D), some (.int ms.length), some (.int f'), some (.int l'), some (.int r'), o7] ∧ 0 ≤ f' ∧ f' ≤ ((i + 1 : Nat) : Int) ∧ ((i + 1 : Nat) : Int) ≤ l' ∧ l' ≤ ms.length ∧ (((i + 1 : Nat) : Int) < l' → 1 ≤ r' ∧ r' ≤ l' - f') ∧ upd H3 D (.dK (putK nx (.inl ms[i]) (.int x))) D = some (.dK nx') ∧ nx'.map (·.1) = (ms.take (i + 1)).map Sum.inl ∧ (∀ k ∈ ms.take (i + 1), ∃ x ∈ ms, valV nx' (.inl k) = some (.int x)) ∧ Kp t H (upd H3 D (.dK (putK nx (.inl ms[i]) (.int x)))) ∧ Tape (upd H3 D (.dK (putK nx (.inl ms[i]) (.int x)))) t c := fun H3 x mx k3 T3 => by
        refine ⟨f, l, r, _, _, rfl, f0, by omega, by omega, lN, fun _ => ⟨r1, r2⟩, upd_same, ?_, fun k hk2 => ?_, fun a o na e => ?_, T3.put oD⟩
        · rw [putK_new _ (valV_none_keys hk (not_in_take hnd gi)), List.map_append, hk, List.take_add_one, gi, Option.toList_some, List.map_append]
          rfl
        · rw [valV_put]
          by_cases e : k = ms[i]
          · rw [e, if_pos rfl]
            exact ⟨x, mx, rfl⟩
          · rw [if_neg (fun z => e (Sum.inl.inj z))]
            rw [List.take_add_one, gi, Option.toList_some] at hk2
            exact hx k ((List.mem_append.mp hk2).resolve_right (fun z => e (List.mem_singleton.mp z)))
        · exact (upd_ne (ne_of_none e nD)).trans (k3 _ _ na e)
      have pick : ∀ (j : Nat) (h : j < ms.length), atI (ms.map V.int) (j : Int) = some (.int ms[j]) := fun j h => at_ints h
      refine ⟨_, rfl, _, rfl, _, _, rfl, rfl, _, rfl, _, _, rfl, rfl, _, _, rfl, rfl, _, rfl, ite2 (fun e => ?_) (fun e => ?_)⟩
      · have e := of_decide_eq_true e
        have hj : i + 1 < ms.length := by omega
        exact ⟨_, rfl, _, rfl, _, _, rfl, rfl, pl, _, _, .int ms[i + 1], rfl, rfl, SqL.of hp2, pick (i + 1) hj, _, rfl, _, rfl, _, rfl, pl, _, _, .int ms[i], rfl, rfl, SqL.of hp2, pick i hi, D, _, rfl, DPut.k (k := Sum.inl ms[i]) hD2 sx, fin H2 ms[i + 1] (List.getElem_mem _) k2 T2⟩
      · refine ⟨_, rfl, _, rfl, _, _, rfl, rfl, _, rfl, _, _, rfl, rfl, rfl, _, rfl, ite2 (fun g => ?_) (fun g => ?_)⟩
        · have hj : f.toNat < ms.length := by omega
          have ef : f = ((f.toNat : Nat) : Int) := by omega
          exact ⟨_, rfl, _, rfl, pl, _, _, .int ms[f.toNat], rfl, rfl, SqL.of hp2, (congrArg (atI (ms.map V.int)) ef).trans (pick _ hj), _, rfl, _, rfl, _, rfl, pl, _, _, .int ms[i], rfl, rfl, SqL.of hp2, pick i hi, D, _, rfl, DPut.k (k := Sum.inl ms[i]) hD2 sx, fin H2 ms[f.toNat] (List.getElem_mem _) k2 T2⟩
        · have e : ¬ (i : Int) - f < r - 1 := fun z => e (decide_eq_true z)
          have g : ¬ (i : Int) - f = r - 1 := fun z => g (decide_eq_true (congrArg V.int z))
          refine ⟨_, rfl, _, rfl, _, rfl, _, rfl, _, rfl, _, _, rfl, rfl, t, c, i - f, rfl, T2, by omega, by omega, fun d H3 d0 d1 k3 T3 => ?_⟩
          have hj : (f + d).toNat < ms.length := by omega
          have ef : f + d = (((f + d).toNat : Nat) : Int) := by omega
          have hp3 := k3 _ _ n1 hp2
          exact ⟨_, _, rfl, rfl, pl, _, _, .int ms[(f + d).toNat], rfl, rfl, SqL.of hp3, (congrArg (atI (ms.map V.int)) ef).trans (pick _ hj), _, rfl, _, rfl, _, rfl, pl, _, _, .int ms[i], rfl, rfl, SqL.of hp3, pick i hi, D, _, rfl, DPut.k (k := Sum.inl ms[i]) (k3 _ _ oD.1 hD2) sx, fin H3 ms[(f + d).toNat] (List.getElem_mem _) (k2.trans k3) T3⟩
    · obtain ⟨f, l, r, o7, nx, rfl, f0, fi, il, lN, hr', hD, hk, hx, k1, T1⟩ := pv
      rw [List.take_length] at hk hx
      exact ⟨_, rfl, q D nx _ nD hD hk hx k1 T1⟩
theorem cut_lo {ms : List Int} {d : Int} (h0 : 0 ≤ d) : cutV (ms.map V.int) none (some d) = (ms.take d.toNat).map V.int := by
  unfold cutV
  rw [HT.sIx_none, show HT.sIx (ms.map V.int).length (ms.map V.int).length (some d) = min d.toNat (ms.map V.int).length from if_neg (by omega), List.drop_zero, List.length_map, List.map_take, Nat.sub_zero]
  by_cases e : d.toNat ≤ ms.length
  · rw [Nat.min_eq_left e]
  · rw [Nat.min_eq_right (by omega), List.take_of_length_le (by rw [List.length_map]; omega), List.take_of_length_le (by rw [List.length_map]; omega)]
theorem cut_hi {ms : List Int} {d : Int} (h0 : 0 ≤ d) : cutV (ms.map V.int) (some d) none = (ms.drop d.toNat).map V.int := by
  unfold cutV
  rw [HT.sIx_none, show HT.sIx (ms.map V.int).length 0 (some d) = min d.toNat (ms.map V.int).length from if_neg (by omega), List.length_map, List.map_drop]
  by_cases e : d.toNat ≤ ms.length
  · rw [Nat.min_eq_left e, List.take_of_length_le (by rw [List.length_drop, List.length_map]; omega)]
  · rw [Nat.min_eq_right (by omega), List.drop_of_length_le (by rw [List.length_map]; omega), List.drop_of_length_le (by rw [List.length_map]; omega), List.take_nil]
def GK (ms ks : List Int) (nx : List (Key × V)) : Prop := nx.map (·.1) = ks.map Sum.inl ∧ ∀ k ∈ ks, ∃ x ∈ ms, valV nx (.inl k) = some (.int x)
def sp__law_parts (K : PySem.W.Frag) : Sp := fun vs H Q _ => ∃ (t c pl : Addr) (ms : List Int), vs = [.ref t, .ref pl] ∧ Tape H t c ∧ pl ≠ t ∧ H pl = some (.lst (ms.map V.int)) ∧ ms.Nodup ∧ ms.length ≤ 1000 ∧
  ∀ p (nx : List (Key × V)) H', H p = none → H' p = some (.dK nx) → GN ms nx → Kp t H H' → Tape H' t c → Q (.ref p) H'
--CUT
theorem draw {t c l : Addr} {ms : List Int} {H1 : Hp} (nl : l ≠ t) (e : H1 l = some (.lst (ms.map V.int))) (h0 : 0 < ms.length) (h1 : ms.length ≤ 1000) (t1 : Tape H1 t c) {Q' : VK} (k : ∀ (z : Int) H2, z ∈ ms → Kp t H1 H2 → Tape H2 t c → Q' (.int z) H2) :
    (sp__law_pick K) ([.ref t, .int ((ms.map V.int).length : Int)] ++ []) H1 (fun y H2 => rIxL K (.ref l) y H2 Q') E0 := by
  refine ⟨t, c, _, rfl, t1, by rw [List.length_map]; omega, by rw [List.length_map]; omega, fun z H2 z0 z1 k2 t2 => ?_⟩
  rw [List.length_map] at z1
  have hz : z.toNat < ms.length := by omega
  have az : atI (ms.map V.int) z = some (.int ms[z.toNat]) := by
    rw [← at_ints hz, Int.toNat_of_nonneg z0]
  exact ⟨l, _, z, _, rfl, rfl, SqL.of (k2 _ _ nl e), az, k _ H2 (List.getElem_mem hz) k2 t2⟩
/-- the houses whose next is y -/
def hO (nx : List (Key × V)) (ys : List Int) (y : Int) : List Int := ys.filter fun o => decide (iN nx o = y)
def sp__law_behinds (K : PySem.W.Frag) : Sp := fun vs H Q _ => ∃ (t c dN : Addr) (ks : List Int) (nx : List (Key × V)), vs = [.ref t, .ref dN] ∧ Tape H t c ∧ dN ≠ t ∧ H dN = some (.dK nx) ∧ GN ks nx ∧ ks.Nodup ∧ ks.length < 64 ∧
  ∀ p (bs : List (Key × V)) H', H p = none → H' p = some (.dK bs) → GB ks bs → KB bs → Kp t H H' → Tape H' t c → Q (.ref p) H'
--CUT
theorem LAt.kp {α : Type} {f : α → List V} {t c : Addr} {H H' : Hp} {vs : List V} {qs : List α} (h : LAt f H vs qs) (T : Tape H t c) (k : Kp t H H') : LAt f H' vs qs := by
  obtain ⟨⟨xt, et⟩, _⟩ := tape_at T
  exact h.mono fun a xs e => k _ _ (ne_kind e et (fun z => nomatch z)) e
def Ltr (ks : List Int) (H : Hp) (vs : List V) (Ls : List Let) : Prop := LAt Let.vals H vs Ls ∧ ∀ L ∈ Ls, ∀ k ∈ L.ns, k ∈ ks
theorem Ltr.kp {ks : List Int} {t c : Addr} {H H' : Hp} {vs : List V} {Ls : List Let} (h : Ltr ks H vs Ls) (T : Tape H t c) (k : Kp t H H') : Ltr ks H' vs Ls := ⟨h.1.kp T k, h.2⟩
theorem Ltr.same {ks : List Int} {H H' : Hp} {vs : List V} {Ls : List Let} (h : Ltr ks H vs Ls) (s : Same H H') : Ltr ks H' vs Ls := ⟨h.1.same s, h.2⟩
theorem Ltr.app {ks : List Int} {H : Hp} {vs : List V} {Ls : List Let} {a : Addr} {L : Let} (h : Ltr ks H vs Ls) (e : H a = some (.tup L.vals)) (g : ∀ k ∈ L.ns, k ∈ ks) : Ltr ks H (vs ++ [.ref a]) (Ls ++ [L]) := ⟨h.1.app e, fun M hM => (List.mem_append.mp hM).elim (h.2 M) fun z => by rw [List.mem_singleton.mp z]; exact g⟩
def sp__law_post (K : PySem.W.Frag) : Sp := fun vs H Q _ => ∃ (t c dN : Addr) (ks : List Int) (nx : List (Key × V)), vs = [.ref t, .ref dN] ∧ Tape H t c ∧ dN ≠ t ∧ H dN = some (.dK nx) ∧ GN ks nx ∧ ks.Nodup ∧ ks.length < 64 ∧
  ∀ p (us : List V) (Ls : List Let) H', H p = none → H' p = some (.lst us) → Ltr ks H' us Ls → us.length ≤ 60 → Kp t H H' → Tape H' t c → Q (.ref p) H'
--CUT
/-! ### one net and what stands beside it -/
structure Bd where
  (h dn db dl dN dB pO : Addr)
structure Ws where
  ks : List Int
  (nx bs bf : List (Key × V))
  (ps ls : List V)
structure NJ (CN t c : Addr) (A : Bd) (n : Int) (S : Ws) (H : Hp) : Prop where
  tape : Tape H t c
  net : NetAt CN H A.h n A.dn A.db A.dl S.nx S.bf S.ls
  hN : H A.dN = some (.dK S.nx)
  hB : H A.dB = some (.dK S.bs)
  hP : H A.pO = some (.lst S.ps)
  gn : GN S.ks S.nx
  nd : S.ks.Nodup
  rng : ∀ k ∈ S.ks, 0 ≤ k ∧ k < n
  n0 : 0 < n
  gb : GB S.ks S.bs
  kb : KB S.bs
  vf : VF S.ks S.bf S.bs
  lets : Alike (LetSame H S.ks) S.ps S.ls
  ndl : A.pO ≠ t ∧ A.pO ≠ c ∧ A.dl ≠ t ∧ A.dl ≠ c ∧ A.pO ≠ A.dl
  ndd : A.dn ≠ A.db ∧ A.dn ≠ A.dN ∧ A.dn ≠ A.dB ∧ A.db ≠ A.dN ∧ A.db ≠ A.dB ∧ A.dN ≠ A.dB
  lks : S.ks.length ≤ 41
  lps : S.ps.length ≤ 60
  lbf : S.bf.length ≤ 200
/-- nothing but the tape and what belongs to A has changed -/
def Fo (t : Addr) (A : Bd) (H H' : Hp) : Prop := ∀ a o, a ≠ t → a ≠ A.dn → a ≠ A.db → a ≠ A.dl → a ≠ A.dN → a ≠ A.dB → a ≠ A.pO → H a = some o → H' a = some o
theorem Fo.of {t : Addr} {A : Bd} {H H' : Hp} (s : Same H H') : Fo t A H H' := fun a o _ _ _ _ _ _ _ e => s a o e
theorem Fo.kp {t : Addr} {A : Bd} {H H' : Hp} (s : Kp t H H') : Fo t A H H' := fun a o n _ _ _ _ _ _ e => s a o n e
theorem Fo.trans {t : Addr} {A : Bd} {H H' H2 : Hp} (f : Fo t A H H') (g : Fo t A H' H2) : Fo t A H H2 := fun a o n1 n2 n3 n4 n5 n6 n7 e => g a o n1 n2 n3 n4 n5 n6 n7 (f a o n1 n2 n3 n4 n5 n6 n7 e)
section
variable {CN t c : Addr} {A : Bd} {n : Int} {S : Ws} {H H' : Hp}
theorem NJ.kp (I : NJ CN t c A n S H) (f : Kp t H H') (T : Tape H' t c) : NJ CN t c A n S H' := by
  obtain ⟨⟨xt, et⟩, _⟩ := tape_at I.tape
  have g : ∀ {a : Addr} {o : HO}, H a = Option.some o → (∀ xs, o ≠ .lst xs) → H' a = Option.some o := fun e no => f _ _ (fun z => by rw [z, et] at e; exact no _ (Option.some.inj e).symm) e
  exact { I with
    tape := T
    net := ⟨let ⟨d, e⟩ := I.net.me; ⟨d, g e (fun _ z => nomatch z)⟩, g I.net.hn (fun _ z => nomatch z), g I.net.hb (fun _ z => nomatch z), f _ _ I.ndl.2.2.1 I.net.hl⟩
    hN := g I.hN (fun _ z => nomatch z)
    hB := g I.hB (fun _ z => nomatch z)
    hP := f _ _ I.ndl.1 I.hP
    lets := I.lets.mono fun _ _ h => h.mono (fun _ _ e => g e (fun _ z => nomatch z)) fun _ h => h }
theorem NJ.same (I : NJ CN t c A n S H) (s : Same H H') : NJ CN t c A n S H' := I.kp (.of_same s) (I.tape.same s)
/-- other tables, other letters, all in their places -/
theorem NJ.set (I : NJ CN t c A n S H) {nx bs bf : List (Key × V)} {ps ls : List V} (f : Fo t A H H') (ft : ∀ a xs, H a = some (.lst xs) → a ≠ A.dl → a ≠ A.pO → H' a = some (.lst xs)) (net : NetAt CN H' A.h n A.dn A.db A.dl nx bf ls) (hN : H' A.dN = some (.dK nx)) (hB : H' A.dB = some (.dK bs)) (hP : H' A.pO = some (.lst ps))
    (gn : GN S.ks nx) (gb : GB S.ks bs) (kb : KB bs) (vf : VF S.ks bf bs) (lt : Alike (LetSame H' S.ks) ps ls) (lp : ps.length ≤ 60) (lb : bf.length = S.bf.length) : NJ CN t c A n { S with nx := nx, bs := bs, bf := bf, ps := ps, ls := ls } H' := by
  obtain ⟨cs, a, b, k, r, e1, e2, e3, e4⟩ := I.tape
  exact {
    tape := ⟨cs, a, b, k, r, ft _ _ e1 I.ndl.2.2.1.symm I.ndl.1.symm, ft _ _ e2 I.ndl.2.2.2.1.symm I.ndl.2.1.symm, e3, e4⟩
    net := net, hN := hN, hB := hB, hP := hP, gn := gn, nd := I.nd, rng := I.rng, n0 := I.n0, gb := gb, kb := kb, vf := vf, lets := lt, ndl := I.ndl, ndd := I.ndd, lks := I.lks, lps := lp
    lbf := by show bf.length ≤ 200; rw [lb]; exact I.lbf }
/-- a tuple stays -/
theorem NJ.tup (I : NJ CN t c A n S H) (f : Fo t A H H') {a : Addr} {xs : List V} (e : H a = some (.tup xs)) : H' a = some (.tup xs) := by
  obtain ⟨⟨xt, et⟩, _⟩ := tape_at I.tape
  exact f _ _ (ne_kind e et (fun z => nomatch z)) (ne_kind e I.net.hn (fun z => nomatch z)) (ne_kind e I.net.hb (fun z => nomatch z)) (ne_kind e I.net.hl (fun z => nomatch z)) (ne_kind e I.hN (fun z => nomatch z)) (ne_kind e I.hB (fun z => nomatch z)) (ne_kind e I.hP (fun z => nomatch z)) e
/-- two nets apart -/
def Dj (A B : Bd) : Prop := (∀ a ∈ [B.dn, B.db, B.dN, B.dB], a ≠ A.dn ∧ a ≠ A.db ∧ a ≠ A.dN ∧ a ≠ A.dB) ∧ ∀ a ∈ [B.dl, B.pO], a ≠ A.dl ∧ a ≠ A.pO
theorem NJ.other {B : Bd} {S2 : Ws} (J : NJ CN t c B n S2 H) (I : NJ CN t c A n S H) (f : Fo t A H H') (T : Tape H' t c) (d : Dj A B) : NJ CN t c B n S2 H' := by
  obtain ⟨⟨xt, et⟩, _⟩ := tape_at I.tape
  have dk : ∀ {a : Addr} {z : List (Key × V)}, a ∈ [B.dn, B.db, B.dN, B.dB] → H a = some (.dK z) → H' a = some (.dK z) := fun m e => by
    obtain ⟨n1, n2, n3, n4⟩ := d.1 _ m
    exact f _ _ (ne_kind e et (fun z => nomatch z)) n1 n2 (ne_kind e I.net.hl (fun z => nomatch z)) n3 n4 (ne_kind e I.hP (fun z => nomatch z)) e
  have dl : ∀ {a : Addr} {z : List V}, a ∈ [B.dl, B.pO] → a ≠ t → H a = some (.lst z) → H' a = some (.lst z) := fun m nt e => by
    obtain ⟨n1, n2⟩ := d.2 _ m
    exact f _ _ nt (ne_kind e I.net.hn (fun z => nomatch z)) (ne_kind e I.net.hb (fun z => nomatch z)) n1 (ne_kind e I.hN (fun z => nomatch z)) (ne_kind e I.hB (fun z => nomatch z)) n2 e
  exact { J with
    tape := T
    net := ⟨let ⟨dx, e⟩ := J.net.me; ⟨dx, f _ _ (ne_kind e et (fun z => nomatch z)) (ne_kind e I.net.hn (fun z => nomatch z)) (ne_kind e I.net.hb (fun z => nomatch z)) (ne_kind e I.net.hl (fun z => nomatch z)) (ne_kind e I.hN (fun z => nomatch z)) (ne_kind e I.hB (fun z => nomatch z)) (ne_kind e I.hP (fun z => nomatch z)) e⟩, dk (by simp) J.net.hn, dk (by simp) J.net.hb, dl (by simp) J.ndl.2.2.1 J.net.hl⟩
    hN := dk (by simp) J.hN
    hB := dk (by simp) J.hB
    hP := dl (by simp) J.ndl.1 J.hP
    lets := J.lets.mono fun _ _ h => h.mono (fun _ _ e => I.tup f e) fun _ h => h }
end
theorem insert_sorted (a : Int) : ∀ l : List Int, l.Pairwise (· ≤ ·) → ∃ l' : List Int, l'.Perm (a :: l) ∧ l'.Pairwise (· ≤ ·)
  | [], _ => ⟨[a], .refl _, List.pairwise_singleton _ _⟩
  | b :: r, h => by
    obtain ⟨h1, h2⟩ := List.pairwise_cons.mp h
    by_cases e : a ≤ b
    · refine ⟨a :: b :: r, .refl _, List.pairwise_cons.mpr ⟨fun x hx => ?_, h⟩⟩
      rcases List.mem_cons.mp hx with rfl | hx
      · exact e
      · have := h1 x hx
        omega
    · obtain ⟨l', p, s⟩ := insert_sorted a r h2
      refine ⟨b :: l', (List.Perm.cons b p).trans (List.Perm.swap a b r), List.pairwise_cons.mpr ⟨fun x hx => ?_, s⟩⟩
      rcases List.mem_cons.mp (p.mem_iff.mp hx) with rfl | hx
      · omega
      · exact h1 x hx
theorem exists_sorted : ∀ l : List Int, ∃ l' : List Int, l'.Perm l ∧ l'.Pairwise (· ≤ ·)
  | [] => ⟨[], .refl _, List.Pairwise.nil⟩
  | a :: r => by
    obtain ⟨l, p, s⟩ := exists_sorted r
    obtain ⟨l', p', s'⟩ := insert_sorted a l s
    exact ⟨l', p'.trans (List.Perm.cons a p), s'⟩
structure WK where
  ks : List Int
  (nx bs bf : List (Key × V))
  (ps ls : List V)
  Ls : List Let
structure NK (CN t c : Addr) (A : Bd) (n : Int) (m : Nat) (S : WK) (H : Hp) : Prop where
  tape : Tape H t c
  net : NetAt CN H A.h n A.dn A.db A.dl S.nx S.bf S.ls
  hN : H A.dN = some (.dK S.nx)
  hB : H A.dB = some (.dK S.bs)
  hP : H A.pO = some (.lst S.ps)
  gn : GN S.ks S.nx
  nd : S.ks.Nodup
  rng : ∀ k ∈ S.ks, 0 ≤ k ∧ k < n
  n0 : 0 < n
  n9 : n ≤ 1000000000
  gc : GC S.ks S.bs
  kb : KB S.bs
  vf : VF S.ks S.bf S.bs
  lp : Ltr S.ks H S.ps S.Ls
  ll : Ltr S.ks H S.ls S.Ls
  ndl : A.pO ≠ t ∧ A.pO ≠ c ∧ A.dl ≠ t ∧ A.dl ≠ c ∧ A.pO ≠ A.dl
  ndd : A.dn ≠ A.db ∧ A.dn ≠ A.dN ∧ A.dn ≠ A.dB ∧ A.db ≠ A.dN ∧ A.db ≠ A.dB ∧ A.dN ≠ A.dB
  lks : S.ks.length ≤ 40
  lps : S.ps.length ≤ 60 + m
  lbf : S.bf.length ≤ 100 + m
section
variable {CN t c : Addr} {A : Bd} {n : Int} {m : Nat} {S : WK} {H H' : Hp}
theorem NK.kp (I : NK CN t c A n m S H) (f : Kp t H H') (T : Tape H' t c) : NK CN t c A n m S H' := by
  obtain ⟨⟨xt, et⟩, _⟩ := tape_at I.tape
  have g : ∀ {a : Addr} {o : HO}, H a = Option.some o → (∀ xs, o ≠ .lst xs) → H' a = Option.some o := fun e no => f _ _ (fun z => by rw [z, et] at e; exact no _ (Option.some.inj e).symm) e
  exact { I with
    tape := T
    net := ⟨let ⟨d, e⟩ := I.net.me; ⟨d, g e (fun _ z => nomatch z)⟩, g I.net.hn (fun _ z => nomatch z), g I.net.hb (fun _ z => nomatch z), f _ _ I.ndl.2.2.1 I.net.hl⟩
    hN := g I.hN (fun _ z => nomatch z)
    hB := g I.hB (fun _ z => nomatch z)
    hP := f _ _ I.ndl.1 I.hP
    lp := I.lp.kp I.tape f
    ll := I.ll.kp I.tape f }
theorem NK.same (I : NK CN t c A n m S H) (s : Same H H') : NK CN t c A n m S H' := I.kp (.of_same s) (I.tape.same s)
theorem NK.more (I : NK CN t c A n m S H) {m' : Nat} (h : m ≤ m') : NK CN t c A n m' S H := { I with lps := Nat.le_trans I.lps (by omega), lbf := Nat.le_trans I.lbf (by omega) }
end
theorem sV_atom {n : Int} (q : Int × Int) : (sV n q).length ≤ 100000 ∧ ∀ y ∈ sV n q, atomV y = true := ⟨by show 3 ≤ 100000; decide, by simp [sV, atomV]⟩
def sp__law_listed (K : PySem.W.Frag) (CN : Addr) : Sp := fun vs H Q _ => ∃ (t c : Addr) (A : Bd) (n : Int) (m : Nat) (S : WK), vs = [.ref A.h, .int n, .ref A.dN, .ref A.dB, .ref A.pO] ∧ NK CN t c A n m S H ∧ m ≤ 10 ∧ ∀ H', Same H H' → Q (.bl true) H'
--CUT
section
variable {ks : List Int} {nx bs bf : List (Key × V)} {p x n r : Int} {v : V} {L : Let}
theorem GN.put (g : GN ks nx) (hp : p ∈ ks) (hx : x ∈ ks) : GN ks (putK nx (.inl p) (.int x)) := by
  refine ⟨?_, fun k hk => ?_⟩
  · rw [keys_putK_old (by obtain ⟨y, _, e⟩ := g.2 p hp; rw [e]; rfl)]
    exact g.1
  · rw [valV_put]
    by_cases e : k = p
    · rw [e, if_pos rfl]
      exact ⟨x, hx, rfl⟩
    · rw [if_neg (fun z => e (Sum.inl.inj z))]
      exact g.2 k hk
theorem GC.put (g : GC ks bs) (hp : p ∈ ks) (hv : v = .non ∨ ∃ x ∈ ks, v = .int x) : GC ks (putK bs (.inl p) v) := fun k u e => by
  rw [valV_put] at e
  by_cases z : k = p
  · rw [if_pos (by rw [z])] at e
    cases e
    exact ⟨by rw [z]; exact hp, hv⟩
  · rw [if_neg (fun y => z (Sum.inl.inj y))] at e
    exact g k u e
theorem VF.put (h : VF ks bf bs) : VF ks (putK bf (.inl p) v) (putK bs (.inl p) v) := fun k hk => by
  unfold bef
  rw [valV_put, valV_put]
  by_cases e : k = p
  · rw [if_pos (by rw [e]), if_pos (by rw [e])]
    rfl
  · rw [if_neg (fun z => e (Sum.inl.inj z)), if_neg (fun z => e (Sum.inl.inj z))]
    exact h k hk
theorem GC.nB (g : GC ks bs) (hL : ∀ k ∈ L.ns, k ∈ ks) (hr : r ∈ ks) : GC ks (nB n r (bef bs r) L bs) := by
  unfold Z.nB
  split
  · rename_i h
    obtain ⟨u, mu, eu⟩ := (hB_mem (n := n) (r := r) (L := L) (g.ok r)).resolve_left h.2
    exact g.put hr (.inr ⟨u, hL _ mu, eu⟩)
  · exact g
theorem len_putK (h : (valV nx (.inl p)).isSome = true) : (putK nx (.inl p) v).length = nx.length := by
  have := congrArg List.length (keys_putK_old (v := v) h)
  rw [List.length_map, List.length_map] at this
  exact this
theorem GN.adm (g : GN ks nx) (hp : p ∉ ks) (hx : x ∈ ks) : GN (ks ++ [p]) (putK nx (.inl p) (.int x)) := by
  refine ⟨?_, fun k hk => ?_⟩
  · rw [putK_new _ (valV_none_keys g.1 hp), List.map_append, g.1, List.map_append]
    rfl
  · rw [valV_put]
    by_cases e : k = p
    · rw [e, if_pos rfl]
      exact ⟨x, List.mem_append_left _ hx, rfl⟩
    · rw [if_neg (fun z => e (Sum.inl.inj z))]
      obtain ⟨y, my, ey⟩ := g.2 k ((List.mem_append.mp hk).resolve_right (fun z => e (List.mem_singleton.mp z)))
      exact ⟨y, List.mem_append_left _ my, ey⟩
theorem GC.adm (g : GC ks bs) : GC (ks ++ [p]) bs := fun k u e => by
  obtain ⟨h1, h2⟩ := g k u e
  exact ⟨List.mem_append_left _ h1, h2.imp id fun ⟨x, mx, ex⟩ => ⟨x, List.mem_append_left _ mx, ex⟩⟩
theorem VF.adm (h : VF ks bf bs) (g : GC ks bs) (hp : p ∉ ks) : VF (ks ++ [p]) (putK bf (.inl p) .non) bs := fun k hk => by
  rw [valV_put]
  by_cases e : k = p
  · rw [if_pos (by rw [e]), e]
    refine congrArg some (Decidable.byContradiction fun z => hp ?_)
    exact g.mem (fun y => z y.symm)
  · rw [if_neg (fun z => e (Sum.inl.inj z))]
    exact h k ((List.mem_append.mp hk).resolve_right (fun z => e (List.mem_singleton.mp z)))
theorem len_putK_le (kvs : List (Key × V)) (k : Key) (v : V) : (putK kvs k v).length ≤ kvs.length + 1 := by
  unfold putK
  split
  · rw [List.length_map]; omega
  · rw [List.length_append]; exact Nat.le_refl _
end
theorem Ltr.mono {ks ks' : List Int} {H H' : Hp} {vs : List V} {Ls : List Let} (h : Ltr ks H vs Ls) (f : ∀ a xs, H a = some (.tup xs) → H' a = some (.tup xs)) (g : ∀ k ∈ ks, k ∈ ks') : Ltr ks' H' vs Ls := ⟨h.1.mono f, fun L hL k hk => g _ (h.2 L hL k hk)⟩
theorem LAt.erase {α : Type} {f : α → List V} {H : Hp} {vs : List V} {qs : List α} (h : LAt f H vs qs) (k : Nat) : LAt f H (vs.eraseIdx k) (qs.eraseIdx k) := by
  refine ⟨by rw [List.length_eraseIdx, List.length_eraseIdx, h.1], fun i x y e1 e2 => ?_⟩
  rw [List.getElem?_eraseIdx] at e1 e2
  split at e1
  · rename_i g
    rw [if_pos g] at e2
    exact h.2 _ _ _ e1 e2
  · rename_i g
    rw [if_neg g] at e2
    exact h.2 _ _ _ e1 e2
theorem Ltr.erase {ks : List Int} {H : Hp} {vs : List V} {Ls : List Let} (h : Ltr ks H vs Ls) (k : Nat) : Ltr ks H (vs.eraseIdx k) (Ls.eraseIdx k) := ⟨h.1.erase k, fun L hL => h.2 L (List.mem_of_mem_eraseIdx hL)⟩
section
variable {CN t c : Addr} {A : Bd} {n : Int} {m : Nat} {S S' : WK} {H H' : Hp}
theorem NK.lets (I : NK CN t c A n m S H) {k : Nat} (hk : k < S.ps.length) : ∃ (a b : Addr) (L : Let), S.ps[k]? = some (.ref a) ∧ S.ls[k]? = some (.ref b) ∧ S.Ls[k]? = some L ∧ H a = some (.tup L.vals) ∧ H b = some (.tup L.vals) ∧ ∀ j ∈ L.ns, j ∈ S.ks := by
  obtain ⟨a, L, h1, h2, h3⟩ := I.lp.1.at (List.getElem?_eq_getElem hk)
  have hk2 : k < S.ls.length := by rw [I.ll.1.1, ← I.lp.1.1]; exact hk
  obtain ⟨b, h4, h5⟩ := I.ll.1.2 k _ L (List.getElem?_eq_getElem hk2) h1
  exact ⟨a, b, L, by rw [List.getElem?_eq_getElem hk, h2], by rw [List.getElem?_eq_getElem hk2, h4], h1, h3, h5, I.lp.2 L (List.mem_of_getElem? h1)⟩
theorem NK.set (I : NK CN t c A n m S H) (ft : ∀ a xs, H a = some (.lst xs) → a ≠ A.dl → a ≠ A.pO → H' a = some (.lst xs)) (net : NetAt CN H' A.h n A.dn A.db A.dl S'.nx S'.bf S'.ls) (hN : H' A.dN = some (.dK S'.nx)) (hB : H' A.dB = some (.dK S'.bs)) (hP : H' A.pO = some (.lst S'.ps))
    (gn : GN S'.ks S'.nx) (nd : S'.ks.Nodup) (rng : ∀ k ∈ S'.ks, 0 ≤ k ∧ k < n) (gc : GC S'.ks S'.bs) (kb : KB S'.bs) (vf : VF S'.ks S'.bf S'.bs) (lp : Ltr S'.ks H' S'.ps S'.Ls) (ll : Ltr S'.ks H' S'.ls S'.Ls) (lks : S'.ks.length ≤ 40) (lps : S'.ps.length ≤ S.ps.length + 1) (lbf : S'.bf.length ≤ S.bf.length + 1) : NK CN t c A n (m + 1) S' H' := by
  obtain ⟨cs, a, b, k, r, e1, e2, e3, e4⟩ := I.tape
  exact {
    tape := ⟨cs, a, b, k, r, ft _ _ e1 I.ndl.2.2.1.symm I.ndl.1.symm, ft _ _ e2 I.ndl.2.2.2.1.symm I.ndl.2.1.symm, e3, e4⟩
    net := net, hN := hN, hB := hB, hP := hP, gn := gn, nd := nd, rng := rng, n0 := I.n0, n9 := I.n9, gc := gc, kb := kb, vf := vf, lp := lp, ll := ll, ndl := I.ndl, ndd := I.ndd, lks := lks
    lps := by have := I.lps; omega
    lbf := by have := I.lbf; omega }
end
theorem NetAt.putd {C a dn db dl d : Addr} {H : Hp} {n : Int} {nx bf z : List (Key × V)} {ls : List V} {o : HO} (N : NetAt C H a n dn db dl nx bf ls) (e : H d = some (.dK z)) (n1 : dn ≠ d) (n2 : db ≠ d) : NetAt C (upd H d o) a n dn db dl nx bf ls :=
  ⟨let ⟨x, e2⟩ := N.me; ⟨x, (upd_ne (ne_kind e2 e (fun z => nomatch z))).trans e2⟩, (upd_ne n1).trans N.hn, (upd_ne n2).trans N.hb, (upd_ne (ne_kind N.hl e (fun z => nomatch z))).trans N.hl⟩
theorem NetAt.putl {C a dn db dl d : Addr} {H : Hp} {n : Int} {nx bf : List (Key × V)} {ls zs : List V} {o : HO} (N : NetAt C H a n dn db dl nx bf ls) (e : H d = some (.lst zs)) (n1 : dl ≠ d) : NetAt C (upd H d o) a n dn db dl nx bf ls :=
  ⟨let ⟨x, e2⟩ := N.me; ⟨x, (upd_ne (ne_kind e2 e (fun z => nomatch z))).trans e2⟩, (upd_ne (ne_kind N.hn e (fun z => nomatch z))).trans N.hn, (upd_ne (ne_kind N.hb e (fun z => nomatch z))).trans N.hb, (upd_ne n1).trans N.hl⟩
theorem Shot.same {n : Int} {f g : Int → V} {ys : List Int} {H H' : Hp} {p : Addr} {ls : List V} (h : Shot n f g ys H p ls) (s : Same H H') : Shot n f g ys H' p ls := let ⟨r, l, rs, e1, e2, e3, e4⟩ := h; ⟨r, l, rs, s _ _ e1, s _ _ e2, s _ _ e3, e4.same s⟩
theorem Shot.sm {K : PySem.W.Frag} {n : Int} {f g : Int → V} {ys : List Int} {H : Hp} {p q : Addr} {ls ps : List V} {Ls : List Let} (s : Shot n f g ys H p ls) (t : Shot n f g ys H q ps) (hl : LAt Let.vals H ls Ls) (hp : LAt Let.vals H ps Ls) (ha : ∀ y ∈ ys, atomV (f y) = true ∧ atomV (g y) = true) (l1 : ls.length ≤ 100000) (l2 : ys.length ≤ 100000) : Sm K 4 H (.ref p) (.ref q) := by
  obtain ⟨r, l, rs, e1, e2, e3, e4⟩ := s
  obtain ⟨r', l', rs', d1, d2, d3, d4⟩ := t
  refine .tup (SqT.of e1) (SqT.of d1) rfl (by show 3 ≤ 100000; decide) (fun i x y hx hy => ?_)
  match i with
  | 0 => cases hx; cases hy; exact .atom rfl
  | 1 =>
    cases hx; cases hy
    refine .tup (SqT.of e3) (SqT.of d3) (by rw [e4.1, d4.1]) (by rw [d4.1]; exact l2) (e4.sm d4 fun y hy => ⟨by show 3 ≤ 100000; decide, ?_⟩)
    intro v hv
    have hv : v ∈ [V.int y, f y, g y] := hv
    simp only [List.mem_cons, List.not_mem_nil, or_false] at hv
    rcases hv with rfl | rfl | rfl
    · rfl
    · exact (ha y hy).1
    · exact (ha y hy).2
  | 2 =>
    cases hx; cases hy
    exact .tup (SqT.of e2) (SqT.of d2) (by rw [hl.1, hp.1]) (by rw [hp.1, ← hl.1]; exact l1) (hl.sm hp fun L _ => vals_atom L)
  | i + 3 => cases hx
theorem GB.gc {ks : List Int} {bs : List (Key × V)} (g : GB ks bs) : GC ks bs := fun p v e => ⟨(g p v e).1, .inr (g p v e).2⟩
--CUT
/-! ### deeds over a net and the law's tables (NK) -/
theorem g_nil {σ : L2.St} {H : Hp} {Q : List V → Hp → Prop} (h : Q [] H) : tNil σ H Q := h
def FrA (A : Bd) (H H' : Hp) : Prop := ∀ a o, a ≠ A.dn → a ≠ A.db → a ≠ A.dl → a ≠ A.dN → a ≠ A.dB → a ≠ A.pO → H a = some o → H' a = some o
theorem FrA.trans {A : Bd} {H H' H'' : Hp} (f : FrA A H H') (g : FrA A H' H'') : FrA A H H'' := fun a o n1 n2 n3 n4 n5 n6 e => g a o n1 n2 n3 n4 n5 n6 (f a o n1 n2 n3 n4 n5 n6 e)
theorem FrA.of {A : Bd} {H H' : Hp} (s : Same H H') : FrA A H H' := fun a o _ _ _ _ _ _ e => s _ _ e
section
variable {CN t c : Addr} {A : Bd} {n : Int} {m : Nat} {S : WK} {H H' : Hp}
/-- a list that is none of the net's or the law's -/
theorem NK.frl (I : NK CN t c A n m S H) (f : FrA A H H') {a : Addr} {xs : List V} (n1 : a ≠ A.dl) (n2 : a ≠ A.pO) (e : H a = some (.lst xs)) : H' a = some (.lst xs) :=
  f a _ (ne_kind e I.net.hn (fun z => nomatch z)) (ne_kind e I.net.hb (fun z => nomatch z)) n1 (ne_kind e I.hN (fun z => nomatch z)) (ne_kind e I.hB (fun z => nomatch z)) n2 e
theorem NK.frt (I : NK CN t c A n m S H) (f : FrA A H H') {a : Addr} {xs : List V} (e : H a = some (.tup xs)) : H' a = some (.tup xs) :=
  f a _ (ne_kind e I.net.hn (fun z => nomatch z)) (ne_kind e I.net.hb (fun z => nomatch z)) (ne_kind e I.net.hl (fun z => nomatch z)) (ne_kind e I.hN (fun z => nomatch z)) (ne_kind e I.hB (fun z => nomatch z)) (ne_kind e I.hP (fun z => nomatch z)) e
theorem NK.len (I : NK CN t c A n m S H) : S.nx.length = S.ks.length := by have := congrArg List.length I.gn.1; rw [List.length_map, List.length_map] at this; exact this
theorem NK.lenb (I : NK CN t c A n m S H) : S.bs.length ≤ S.ks.length := by
  obtain ⟨js, ejs, ndj⟩ := I.kb
  have e := congrArg List.length ejs
  rw [List.length_map, List.length_map] at e
  rw [e]
  refine nodup_sub_len ndj fun j hj => ?_
  obtain ⟨v, hv⟩ := Option.isSome_iff_exists.mp (valV_mem_keys ejs hj)
  exact (I.gc _ _ hv).1
theorem NK.lenl (I : NK CN t c A n m S H) : S.ls.length = S.ps.length := by rw [I.ll.1.1, I.lp.1.1]
/-- the dicts change -/
theorem NK.dic {nx bs bf : List (Key × V)} {ks : List Int} (I : NK CN t c A n m S H) (kd : ∀ a o, (∀ z, o ≠ .dK z) → H a = some o → H' a = some o) (N : NetAt CN H' A.h n A.dn A.db A.dl nx bf S.ls) (eN : H' A.dN = some (.dK nx)) (eB : H' A.dB = some (.dK bs))
    (g1 : GN ks nx) (g2 : ks.Nodup) (g3 : ∀ k ∈ ks, 0 ≤ k ∧ k < n) (g4 : GC ks bs) (g5 : KB bs) (g6 : VF ks bf bs) (g7 : ∀ k ∈ S.ks, k ∈ ks) (g8 : ks.length ≤ 40) (g9 : bf.length ≤ S.bf.length + 1) : NK CN t c A n (m + 1) ⟨ks, nx, bs, bf, S.ps, S.ls, S.Ls⟩ H' :=
  I.set (fun a xs e _ _ => kd _ _ (fun _ z => nomatch z) e) N eN eB (kd _ _ (fun _ z => nomatch z) I.hP) g1 g2 g3 g4 g5 g6 (I.lp.mono (fun a xs e => kd _ _ (fun _ z => nomatch z) e) g7) (I.ll.mono (fun a xs e => kd _ _ (fun _ z => nomatch z) e) g7) g8 (Nat.le_succ _) g9
theorem GN.admS {ks : List Int} {nx : List (Key × V)} {p x : Int} (g : GN ks nx) (hp : p ∉ ks) (hx : x ∈ ks ++ [p]) : GN (ks ++ [p]) (putK nx (.inl p) (.int x)) := by
  refine ⟨?_, fun k hk => ?_⟩
  · rw [putK_new _ (valV_none_keys g.1 hp), List.map_append, g.1, List.map_append]
    rfl
  · rw [valV_put]
    by_cases e : k = p
    · rw [e, if_pos rfl]
      exact ⟨x, hx, rfl⟩
    · rw [if_neg (fun z => e (Sum.inl.inj z))]
      obtain ⟨y, my, ey⟩ := g.2 k ((List.mem_append.mp hk).resolve_right (fun z => e (List.mem_singleton.mp z)))
      exact ⟨y, List.mem_append_left _ my, ey⟩
/-- net.hold(y, z), nexts[y] = z -/
theorem NK.hold_ (I : NK CN t c A n m S H) {y z : Int} (hy : y ∈ S.ks) (hz : z ∈ S.ks) : NK CN t c A n (m + 1) ⟨S.ks, putK S.nx (.inl y) (.int z), S.bs, S.bf, S.ps, S.ls, S.Ls⟩ (upd (upd H A.dn (.dK (putK S.nx (.inl y) (.int z)))) A.dN (.dK (putK S.nx (.inl y) (.int z)))) ∧
    FrA A H (upd (upd H A.dn (.dK (putK S.nx (.inl y) (.int z)))) A.dN (.dK (putK S.nx (.inl y) (.int z)))) := by
  obtain ⟨dnb, dnN, dnB, dbN, dbB, dNB⟩ := I.ndd
  have N6 := I.net.setn (nx' := putK S.nx (.inl y) (.int z)) dnb.symm
  have k6 : ∀ a o, a ≠ A.dn → H a = some o → upd H A.dn (.dK (putK S.nx (.inl y) (.int z))) a = some o := fun a o n1 e => (upd_ne n1).trans e
  generalize upd H A.dn (.dK (putK S.nx (.inl y) (.int z))) = H6 at N6 k6
  have eN6 := k6 _ _ dnN.symm I.hN
  have eB6 := k6 _ _ dnB.symm I.hB
  refine ⟨I.dic (ks := S.ks) (fun a o no e => (upd_ne (ne_kind e I.hN (no _))).trans (k6 _ _ (ne_kind e I.net.hn (no _)) e)) (N6.putd eN6 dnN dbN) upd_same ((upd_ne dNB.symm).trans eB6) (I.gn.put hy hz) I.nd I.rng I.gc I.kb I.vf (fun _ h => h) I.lks (Nat.le_succ _), fun a o n1 _ _ n4 _ _ e => (upd_ne n4).trans (k6 _ _ n1 e)⟩
/-- net.admit(p, x), nexts[p] = x -/
theorem NK.adm_ (I : NK CN t c A n m S H) {p x : Int} (p0 : 0 ≤ p) (p1 : p < n) (np : p ∉ S.ks) (hx : x ∈ S.ks ++ [p]) (l40 : S.ks.length < 40) :
    NK CN t c A n (m + 1) ⟨S.ks ++ [p], putK S.nx (.inl p) (.int x), S.bs, putK S.bf (.inl p) .non, S.ps, S.ls, S.Ls⟩ (upd (upd (upd H A.dn (.dK (putK S.nx (.inl p) (.int x)))) A.db (.dK (putK S.bf (.inl p) .non))) A.dN (.dK (putK S.nx (.inl p) (.int x)))) ∧
    FrA A H (upd (upd (upd H A.dn (.dK (putK S.nx (.inl p) (.int x)))) A.db (.dK (putK S.bf (.inl p) .non))) A.dN (.dK (putK S.nx (.inl p) (.int x)))) := by
  obtain ⟨dnb, dnN, dnB, dbN, dbB, dNB⟩ := I.ndd
  have N6 := (I.net.setn (nx' := putK S.nx (.inl p) (.int x)) dnb.symm).setb (bf' := putK S.bf (.inl p) .non) dnb.symm
  have k6 : ∀ a o, a ≠ A.dn → a ≠ A.db → H a = some o → upd (upd H A.dn (.dK (putK S.nx (.inl p) (.int x)))) A.db (.dK (putK S.bf (.inl p) .non)) a = some o := fun a o n1 n2 e => (upd_ne n2).trans ((upd_ne n1).trans e)
  generalize upd (upd H A.dn (.dK (putK S.nx (.inl p) (.int x)))) A.db (.dK (putK S.bf (.inl p) .non)) = H6 at N6 k6
  have eN6 := k6 _ _ dnN.symm dbN.symm I.hN
  have eB6 := k6 _ _ dnB.symm dbB.symm I.hB
  refine ⟨I.dic (ks := S.ks ++ [p]) (fun a o no e => (upd_ne (ne_kind e I.hN (no _))).trans (k6 _ _ (ne_kind e I.net.hn (no _)) (ne_kind e I.net.hb (no _)) e)) (N6.putd eN6 dnN dbN) upd_same ((upd_ne dNB.symm).trans eB6) (I.gn.admS np hx) ?_ (fun k hk => ?_) I.gc.adm I.kb (I.vf.adm I.gc np) (fun k hk => List.mem_append_left _ hk) (by rw [List.length_append]; show _ + 1 ≤ 40; omega) (len_putK_le _ _ _), fun a o n1 n2 _ n4 _ _ e => (upd_ne n4).trans (k6 _ _ n1 n2 e)⟩
  · refine List.nodup_append.mpr ⟨I.nd, List.nodup_cons.mpr ⟨List.not_mem_nil, List.nodup_nil⟩, fun a ha b hb z => np ?_⟩
    rw [← List.mem_singleton.mp hb, ← z]
    exact ha
  · rcases List.mem_append.mp hk with hk | hk
    · exact I.rng k hk
    · rw [List.mem_singleton.mp hk]
      exact ⟨p0, p1⟩
end
/-- the net has read, the law not yet -/
structure Mid (CN : Addr) (A : Bd) (n : Int) (S : WK) (k : Nat) (H H5 : Hp) (v5 : V) (L : Let) (p : Addr) (x : Int) (ls' : List V) : Prop where
  hL : S.Ls[k]? = some L
  hp : S.ps[k]? = some (.ref p)
  ep : H p = some (.tup L.vals)
  ns : ∀ j ∈ L.ns, j ∈ S.ks
  hx : valV S.nx (.inl L.to) = some (.int x)
  a5 : match hA L.to (bef S.bs L.to) L with | none => ls' = S.ls.eraseIdx k | some ys => ∃ a, ls' = S.ls.eraseIdx k ++ [.ref a] ∧ H5 a = some (.tup ys)
  R : RdPost CN A.h A.dn A.db A.dl n L.to x (bef S.bs L.to) L S.nx S.bf ls' H H5 v5
/-- the letters behind a reading -/
def LsR (r : Int) (b : V) (L : Let) (Ls : List Let) (k : Nat) (Ls' : List Let) : Prop := match hA r b L with | none => Ls' = Ls.eraseIdx k | some ys => ∃ L', L'.vals = ys ∧ Ls' = Ls.eraseIdx k ++ [L']
section
variable {CN t c : Addr} {A : Bd} {n : Int} {m : Nat} {S : WK} {H H' : Hp}
theorem NK.read1 (I : NK CN t c A n m S H) (lm : m ≤ 900) {k : Nat} (hk : k < S.ps.length) {P : V → Hp → Prop} {E : XK} (q : ∀ H5 v5 L p x ls', Mid CN A n S k H H5 v5 L p x ls' → P v5 H5) : sp_Net__read K CN [.ref A.h, .int (k : Nat)] H P E := by
  have l1 := I.lks
  have l2 := I.len
  have l3 := I.lps
  have l4 := I.lenl
  have l5 := I.lbf
  obtain ⟨dnb, dnN, dnB, dbN, dbB, dNB⟩ := I.ndd
  obtain ⟨p, qa, L, ha, hb, hLk, ep, eq, hL⟩ := I.lets hk
  have hr' := hL _ L.to_ns
  obtain ⟨x, mx, hx⟩ := I.gn.2 _ hr'
  have ob := I.gc.ok L.to
  exact ⟨A.h, A.dn, A.db, A.dl, qa, n, x, bef S.bs L.to, k, L, S.nx, S.bf, S.ls, rfl, I.net, hb, eq, hx, I.vf _ hr', ob, I.n0, dnb.symm, by omega, by omega, by omega, fun H5 v5 ls' a5 R => q H5 v5 L p x ls' ⟨hLk, ha, ep, hL, hx, a5, R⟩⟩
theorem NK.read2 (I : NK CN t c A n m S H) (lm : m ≤ 900) {k : Nat} (hk : k < S.ps.length) {H5 : Hp} {v5 : V} {L : Let} {p : Addr} {x : Int} {ls' : List V} (M : Mid CN A n S k H H5 v5 L p x ls') {P : V → Hp → Prop} {E : XK}
    (q : ∀ H6 v6 ps' Ls', NK CN t c A n (m + 1) ⟨S.ks, nN n L.to x (bef S.bs L.to) L S.nx, nB n L.to (bef S.bs L.to) L S.bs, nB n L.to (bef S.bs L.to) L S.bf, ps', ls', Ls'⟩ H6 → LsR L.to (bef S.bs L.to) L S.Ls k Ls' → FrA A H H6 → Sm K 2 H6 v5 v6 → P v6 H6) :
    sp__law_read K [.int n, .ref A.dN, .ref A.dB, .ref A.pO, .int (k : Nat)] H5 P E := by
  have l1 := I.lks
  have l2 := I.len
  have l3 := I.lps
  have l4 := I.lenl
  have l5 := I.lbf
  have l6 := I.lenb
  obtain ⟨dnb, dnN, dnB, dbN, dbB, dNB⟩ := I.ndd
  have R := M.R
  have hx := M.hx
  have hL := M.ns
  have hr' := hL _ L.to_ns
  have ob := I.gc.ok L.to
  obtain ⟨w5, ew, ew5⟩ := R.told
  have N5 := R.keep _ _ dnN.symm dbN.symm (ne_kind I.hN I.net.hl (fun z => nomatch z)) I.hN
  have B5 := R.keep _ _ dnB.symm dbB.symm (ne_kind I.hB I.net.hl (fun z => nomatch z)) I.hB
  have P5 := R.keep _ _ (ne_kind I.hP I.net.hn (fun z => nomatch z)) (ne_kind I.hP I.net.hb (fun z => nomatch z)) I.ndl.2.2.2.2 I.hP
  have kt5 : ∀ {a : Addr} {xs : List V}, H a = some (.tup xs) → H5 a = some (.tup xs) := fun e => R.keep _ _ (ne_kind e I.net.hn (fun z => nomatch z)) (ne_kind e I.net.hb (fun z => nomatch z)) (ne_kind e I.net.hl (fun z => nomatch z)) e
  refine ⟨A.dN, A.dB, A.pO, p, n, x, k, L, S.nx, S.bs, S.ps, rfl, N5, B5, P5, M.hp, kt5 M.ep, hx, ob, I.n0, dNB, by omega, by omega, by omega, fun H6 v6 ps' a6 f6 eN6 eB6 eP6 ht6 => ?_⟩
  obtain ⟨w6, rfl, ew6⟩ := ht6
  have kt6 : ∀ {a : Addr} {xs : List V}, H5 a = some (.tup xs) → H6 a = some (.tup xs) := fun e => f6 _ _ (ne_kind e N5 (fun z => nomatch z)) (ne_kind e B5 (fun z => nomatch z)) (ne_kind e P5 (fun z => nomatch z)) e
  have N6 : NetAt CN H6 A.h n A.dn A.db A.dl (nN n L.to x (bef S.bs L.to) L S.nx) (nB n L.to (bef S.bs L.to) L S.bf) ls' := by
    have N : NetAt CN H5 A.h n A.dn A.db A.dl (nN n L.to x (bef S.bs L.to) L S.nx) (nB n L.to (bef S.bs L.to) L S.bf) ls' := R.net
    exact ⟨let ⟨d, e⟩ := N.me; ⟨d, f6 _ _ (ne_kind e N5 (fun z => nomatch z)) (ne_kind e B5 (fun z => nomatch z)) (ne_kind e P5 (fun z => nomatch z)) e⟩, f6 _ _ dnN dnB (ne_kind N.hn P5 (fun z => nomatch z)) N.hn, f6 _ _ dbN dbB (ne_kind N.hb P5 (fun z => nomatch z)) N.hb, f6 _ _ (ne_kind N.hl N5 (fun z => nomatch z)) (ne_kind N.hl B5 (fun z => nomatch z)) I.ndl.2.2.2.2.symm N.hl⟩
  have fx : FrA A H H6 := fun a o n1 n2 n3 n4 n5 n6 e => f6 _ _ n4 n5 n6 (R.keep _ _ n1 n2 n3 e)
  have kt7 : ∀ a xs, H a = some (.tup xs) → H6 a = some (.tup xs) := fun a xs e => kt6 (kt5 e)
  have fin : ∀ Ls', Ltr S.ks H6 ps' Ls' → Ltr S.ks H6 ls' Ls' → ps'.length ≤ S.ps.length + 1 → LsR L.to (bef S.bs L.to) L S.Ls k Ls' → P (.ref w6) H6 := fun Ls' h1 h2 h3 h4 => by
    subst ew
    refine q H6 _ ps' Ls' (I.set (fun a xs e n1 n2 => fx a _ (ne_kind e I.net.hn (fun z => nomatch z)) (ne_kind e I.net.hb (fun z => nomatch z)) n1 (ne_kind e I.hN (fun z => nomatch z)) (ne_kind e I.hB (fun z => nomatch z)) n2 e) N6 eN6 eB6 eP6 (I.gn.nN hL hr' hx) I.nd I.rng (I.gc.nB hL hr') I.kb.nB (VF.nB I.vf hr') h1 h2 I.lks h3 (by show (nB _ _ _ _ _).length ≤ _; rw [nB_len (by rw [I.vf _ hr']; rfl)]; omega)) h4 fx ?_
    exact tup_same (kt6 ew5) ew6 (nT_atom ob).1 (nT_atom ob).2
  have e1 := (I.lp.mono kt7 (fun _ h => h)).erase k
  have e2 := (I.ll.mono kt7 (fun _ h => h)).erase k
  have le : (S.ps.eraseIdx k).length + 1 = S.ps.length := by rw [List.length_eraseIdx, if_pos hk]; omega
  have a5 := M.a5
  have b0 : ∀ z, bef S.bs L.to = .int z → z ∈ S.ks := fun z e => by
    have g := I.gc
    unfold bef at e
    cases e0 : valV S.bs (.inl L.to) with
    | none => rw [e0] at e; exact absurd e (fun h => nomatch h)
    | some v =>
      rw [e0] at e
      have e : v = .int z := e
      subst e
      obtain ⟨_, h2⟩ := g _ _ e0
      rcases h2 with h2 | ⟨x, mx, h2⟩
      · exact absurd h2 (fun h => nomatch h)
      · rw [V.int.inj h2]
        exact mx
  cases eA : hA L.to (bef S.bs L.to) L with
  | none =>
    rw [eA] at a5 a6
    refine fin (S.Ls.eraseIdx k) (by rw [a6]; exact e1) (by rw [a5]; exact e2) (by rw [a6]; omega) ?_
    unfold LsR
    rw [eA]
  | some ys =>
    rw [eA] at a5 a6
    obtain ⟨a, rfl, ea⟩ := a6
    obtain ⟨b, rfl, eb⟩ := a5
    obtain ⟨L', rfl, hL'⟩ := hA_let eA hL hr' b0
    refine fin (S.Ls.eraseIdx k ++ [L']) (e1.app ea hL') (e2.app (kt6 eb) hL') (by rw [List.length_append]; show _ + 1 ≤ _; omega) ?_
    unfold LsR
    rw [eA]
    exact ⟨L', rfl, rfl⟩
end
section
variable {CN t c : Addr} {A : Bd} {n : Int} {m : Nat} {S : WK} {H H' : Hp}
theorem NK.snap1 (I : NK CN t c A n m S H) {P : V → Hp → Prop} {E : XK} (q : ∀ ys p H7, ys.Perm S.ks → ys.Pairwise (· ≤ ·) → Same H H7 → Shot n (gV S.nx) (bef S.bs) ys H7 p S.ls → P (.ref p) H7) : sp_Net__snapshot CN [.ref A.h] H P E := by
  have l40 := I.lks
  refine ⟨A.h, A.dn, A.db, A.dl, n, S.nx, S.bf, S.ls, S.ks, gV S.nx, bef S.bs, rfl, I.net, I.gn.1, by omega, fun k hk => ?_, q⟩
  obtain ⟨x, _, e⟩ := I.gn.2 k hk
  exact ⟨by rw [gV_of e, e], I.vf k hk⟩
theorem NK.snap2 (I : NK CN t c A n m S H) (lm : m ≤ 900) {ys : List Int} {p : Addr} (perm : ys.Perm S.ks) (pw : ys.Pairwise (· ≤ ·)) (sh : Shot n (gV S.nx) (bef S.bs) ys H p S.ls) {P : V → Hp → Prop} {E : XK} (q : ∀ p2 H8, Same H H8 → Sm K 4 H8 (.ref p) (.ref p2) → P (.ref p2) H8) :
    sp__law_snapshot K [.int n, .ref A.dN, .ref A.dB, .ref A.pO] H P E := by
  have l40 := I.lks
  have l60 := I.lps
  refine ⟨A.dN, A.dB, A.pO, n, S.nx, S.bs, S.ps, S.ks, rfl, I.hN, I.hB, I.hP, by omega, I.gn, fun zs p2 H8 permz pwz s8 sh2 => ?_⟩
  have e : zs = ys := perm_sorted_eq (permz.trans perm.symm) pwz pw
  subst e
  have I8 := I.same s8
  have zlen := permz.length_eq
  refine q p2 H8 s8 ((sh.same s8).sm sh2 I8.ll.1 I8.lp.1 (fun y hy => ?_) (by rw [I8.ll.1.1, ← I8.lp.1.1]; omega) (by omega))
  obtain ⟨x, _, e⟩ := I.gn.2 y (permz.mem_iff.mp hy)
  exact ⟨by rw [gV_of e]; rfl, okB.atom (I.gc.ok y)⟩
end
/-- beside the tape too -/
def FrT (t : Addr) (A : Bd) (H H' : Hp) : Prop := ∀ a o, a ≠ t → a ≠ A.dn → a ≠ A.db → a ≠ A.dl → a ≠ A.dN → a ≠ A.dB → a ≠ A.pO → H a = some o → H' a = some o
theorem FrT.trans {t : Addr} {A : Bd} {H H' H'' : Hp} (f : FrT t A H H') (g : FrT t A H' H'') : FrT t A H H'' := fun a o n0 n1 n2 n3 n4 n5 n6 e => g a o n0 n1 n2 n3 n4 n5 n6 (f a o n0 n1 n2 n3 n4 n5 n6 e)
theorem FrA.t {t : Addr} {A : Bd} {H H' : Hp} (f : FrA A H H') : FrT t A H H' := fun a o _ n1 n2 n3 n4 n5 n6 e => f a o n1 n2 n3 n4 n5 n6 e
theorem FrT.of {t : Addr} {A : Bd} {H H' : Hp} (s : Same H H') : FrT t A H H' := fun a o _ _ _ _ _ _ _ e => s _ _ e
theorem FrT.kp {t : Addr} {A : Bd} {H H' : Hp} (s : Kp t H H') : FrT t A H H' := fun a o n _ _ _ _ _ _ e => s _ _ n e
section
variable {CN t c : Addr} {A : Bd} {n : Int} {m : Nat} {S : WK} {H H' : Hp}
theorem NK.ftl (I : NK CN t c A n m S H) (f : FrT t A H H') {a : Addr} {xs : List V} (n0 : a ≠ t) (n1 : a ≠ A.dl) (n2 : a ≠ A.pO) (e : H a = some (.lst xs)) : H' a = some (.lst xs) :=
  f a _ n0 (ne_kind e I.net.hn (fun z => nomatch z)) (ne_kind e I.net.hb (fun z => nomatch z)) n1 (ne_kind e I.hN (fun z => nomatch z)) (ne_kind e I.hB (fun z => nomatch z)) n2 e
theorem NK.ftt (I : NK CN t c A n m S H) (f : FrT t A H H') {a : Addr} {xs : List V} (e : H a = some (.tup xs)) : H' a = some (.tup xs) := by
  obtain ⟨⟨xt, et⟩, _⟩ := tape_at I.tape
  exact f a _ (ne_kind e et (fun z => nomatch z)) (ne_kind e I.net.hn (fun z => nomatch z)) (ne_kind e I.net.hb (fun z => nomatch z)) (ne_kind e I.net.hl (fun z => nomatch z)) (ne_kind e I.hN (fun z => nomatch z)) (ne_kind e I.hB (fun z => nomatch z)) (ne_kind e I.hP (fun z => nomatch z)) e
/-- net.set_before(y, v), behinds[y] = v -/
theorem NK.setb_ (I : NK CN t c A n m S H) {y : Int} {v : V} (hy : y ∈ S.ks) (hv : v = .non ∨ ∃ z ∈ S.ks, v = .int z) : NK CN t c A n (m + 1) ⟨S.ks, S.nx, putK S.bs (.inl y) v, putK S.bf (.inl y) v, S.ps, S.ls, S.Ls⟩ (upd (upd H A.db (.dK (putK S.bf (.inl y) v))) A.dB (.dK (putK S.bs (.inl y) v))) ∧
    FrA A H (upd (upd H A.db (.dK (putK S.bf (.inl y) v))) A.dB (.dK (putK S.bs (.inl y) v))) := by
  obtain ⟨dnb, dnN, dnB, dbN, dbB, dNB⟩ := I.ndd
  have N6 := I.net.setb (bf' := putK S.bf (.inl y) v) dnb.symm
  have k6 : ∀ a o, a ≠ A.db → H a = some o → upd H A.db (.dK (putK S.bf (.inl y) v)) a = some o := fun a o n1 e => (upd_ne n1).trans e
  generalize upd H A.db (.dK (putK S.bf (.inl y) v)) = H6 at N6 k6
  have eN6 := k6 _ _ dbN.symm I.hN
  have eB6 := k6 _ _ dbB.symm I.hB
  exact ⟨I.dic (ks := S.ks) (fun a o no e => (upd_ne (ne_kind e I.hB (no _))).trans (k6 _ _ (ne_kind e I.net.hb (no _)) e)) (N6.putd eB6 dnB dbB) ((upd_ne dNB).trans eN6) upd_same I.gn I.nd I.rng (I.gc.put hy hv) I.kb.put I.vf.put (fun _ h => h) I.lks (len_putK_le _ _ _), fun a o _ n2 _ _ n5 _ e => (upd_ne n5).trans (k6 _ _ n2 e)⟩
/-- the letters change -/
theorem NK.lts {ps ls : List V} {Ls : List Let} (I : NK CN t c A n m S H) (f : ∀ a o, a ≠ A.pO → a ≠ A.dl → H a = some o → H' a = some o) (N : NetAt CN H' A.h n A.dn A.db A.dl S.nx S.bf ls) (eP : H' A.pO = some (.lst ps))
    (g1 : Ltr S.ks H' S.ps S.Ls → Ltr S.ks H' ps Ls) (g2 : Ltr S.ks H' S.ls S.Ls → Ltr S.ks H' ls Ls) (g3 : ps.length ≤ S.ps.length + 1) : NK CN t c A n (m + 1) ⟨S.ks, S.nx, S.bs, S.bf, ps, ls, Ls⟩ H' ∧ FrA A H H' :=
  have kt : ∀ a xs, H a = some (.tup xs) → H' a = some (.tup xs) := fun a xs e => f _ _ (ne_kind e I.hP (fun z => nomatch z)) (ne_kind e I.net.hl (fun z => nomatch z)) e
  ⟨I.set (fun a xs e n1 n2 => f _ _ n2 n1 e) N (f _ _ (ne_kind I.hN I.hP (fun z => nomatch z)) (ne_kind I.hN I.net.hl (fun z => nomatch z)) I.hN) (f _ _ (ne_kind I.hB I.hP (fun z => nomatch z)) (ne_kind I.hB I.net.hl (fun z => nomatch z)) I.hB) eP I.gn I.nd I.rng I.gc I.kb I.vf (g1 (I.lp.mono kt (fun _ h => h))) (g2 (I.ll.mono kt (fun _ h => h))) I.lks g3 (Nat.le_succ _), fun a o _ _ n3 _ _ n6 e => f a o n6 n3 e⟩
end
--CUT
theorem for_it {J : It} {n : Nat} {G : Hp → Prop} {Y : Nat → Hp → V → Hp → Prop} (w : Walk J n G Y) {g : TG} {tb : TS} {D : Ends} {σ : L2.St} {H : Hp} (Pv : Nat → L2.St → Hp → Prop) (h0 : Pv 0 σ H) (hG : ∀ i σ H, i ≤ n → Pv i σ H → G H)
    (hs : ∀ i x σ H H', i < n → Pv i σ H → Y i H x H' → g x σ H' fun σ2 H2 => tb { D with nx := Pv (i + 1), ct := Pv (i + 1), bk := D.nx } σ2 H2) (hd : ∀ σ H, Pv n σ H → D.nx σ H) :
    ∃ W : Nat → Nat → L2.St → Hp → Prop, (∃ m, W 0 m σ H) ∧ ∀ i m σ H, W i m σ H →
      (J.stop i H ∧ D.nx σ H) ∨ (J.go i H ∧ ∃ N : L2.St → Hp → Prop, (∀ σ' H', N σ' H' → ∃ m', m' < m ∧ W (i + 1) m' σ' H') ∧ ∀ x H', J.yld i H x H' → g x σ H' fun σ2 H2 => tb { D with nx := N, ct := N, bk := D.nx } σ2 H2) := by
  refine ⟨fun i m σ H => i + m = n ∧ Pv i σ H, ⟨n, Nat.zero_add n, h0⟩, fun i m σ H hp => ?_⟩
  have q := hG i σ H (hp.1 ▸ Nat.le_add_right i m) hp.2
  cases m with
  | zero =>
    obtain ⟨rfl, p⟩ := hp
    exact .inl ⟨w.stops H q, hd σ H p⟩
  | succ m =>
    obtain ⟨e, p⟩ := hp
    have hi : i < n := by omega
    exact .inr ⟨w.goes i H hi q, Pv (i + 1), fun σ' H' p' => ⟨m, Nat.lt_succ_self m, by omega, p'⟩, fun x H' y => hs i x σ H H' hi p (w.yields i H x H' hi q y)⟩
/-! ### the program's ways -/
structure WN (ks : List Int) (nx : List (Key × V)) : Prop where
  gn : GN ks nx
  len : ks.length ≤ 1000
theorem WN.cl {ks : List Int} {nx : List (Key × V)} (w : WN ks nx) : ∀ k ∈ ks, iN nx k ∈ ks := fun k hk => let ⟨x, mx, e⟩ := w.gn.2 k hk; by rw [iN_of e]; exact mx
theorem WN.at_ {ks : List Int} {nx : List (Key × V)} (w : WN ks nx) {k : Int} (hk : k ∈ ks) : valV nx (.inl k) = some (.int (iN nx k)) := let ⟨x, mx, e⟩ := w.gn.2 k hk; by rw [iN_of e]; exact e
/-- the rows of a way: house and length -/
def wrows (n : Int) (f : Int → Int) (s : Int) (i : Nat) : List (Key × V) := (List.range i).map fun j => (Sum.inl (itr f s j), V.int (wl n f s j))
theorem wrows_succ {n s : Int} {f : Int → Int} (i : Nat) : wrows n f s (i + 1) = wrows n f s i ++ [(Sum.inl (itr f s i), V.int (wl n f s i))] := by
  unfold wrows
  rw [List.range_succ, List.map_append]
  rfl
theorem wrows_keys {n s : Int} {f : Int → Int} (i : Nat) : (wrows n f s i).map (·.1) = (met f s i).map Sum.inl := by
  unfold wrows met
  rw [List.map_map, List.map_map]
  rfl
theorem wrows_len {n s : Int} {f : Int → Int} (i : Nat) : (wrows n f s i).length = i := by unfold wrows; rw [List.length_map, List.length_range]
theorem wrows_val {n s : Int} {f : Int → Int} : ∀ {i j : Nat}, (met f s i).Nodup → j < i → valV (wrows n f s i) (.inl (itr f s j)) = some (.int (wl n f s j))
  | 0, _, _, h => absurd h (by omega)
  | i + 1, j, nd, h => by
    rw [met_succ] at nd
    obtain ⟨n1, _, n3⟩ := List.nodup_append.mp nd
    rw [wrows_succ]
    by_cases e : j = i
    · subst e
      rw [← putK_new (k := (Sum.inl (itr f s j) : Key)) (.int (wl n f s j)) (valV_none_keys (wrows_keys j) fun h => n3 _ h _ (List.mem_singleton.mpr rfl) rfl), valV_put, if_pos rfl]
    · have := wrows_val (n := n) n1 (show j < i by omega)
      rw [← putK_new (k := (Sum.inl (itr f s i) : Key)) (.int (wl n f s i)) (valV_none_keys (wrows_keys i) fun h => n3 _ h _ (List.mem_singleton.mpr rfl) rfl), valV_put, if_neg (fun z => ?_)]
      · exact this
      · have : itr f s j ∈ met f s i := met_mem.mpr ⟨j, by omega, rfl⟩
        rw [Sum.inl.inj z] at this
        exact n3 _ this _ (List.mem_singleton.mpr rfl) rfl
theorem wrows_no {n s x : Int} {f : Int → Int} {i : Nat} (h : x ∉ met f s i) : valV (wrows n f s i) (.inl x) = none := valV_none_keys (wrows_keys i) h
def sp__lengths_from (C : Addr) : Sp := fun vs H Q _ => ∃ (h dn db dl : Addr) (n s : Int) (nx bf : List (Key × V)) (ls : List V) (ks : List Int), vs = [.ref h, .int s] ∧ NetAt C H h n dn db dl nx bf ls ∧ WN ks nx ∧ s ∈ ks ∧ 0 < n ∧
  ∀ m H' d, Lasso (iN nx) s m → m ≤ ks.length → Same H H' → H d = none → H' d = some (.dK (wrows n (iN nx) s m)) → Q (.ref d) H'
theorem T0.ok__lengths_from (T : T0 K mg) : FnOk P w K mg base CX0 3 T.a__lengths_from T.fd__lengths_from ["net", "start"] (sp__lengths_from T.C_Net) := by
  refine T.F__lengths_from.ok sc__lengths_from (fun vs H Q E h => ?_) (fun cdv A outer s0 H vs Q E hr h => ?_)
  · obtain ⟨h, dn, db, dl, n, s, nx, bf, ls, ks, rfl, _⟩ := h
    rfl
  · obtain ⟨h, dn, db, dl, n, s, nx, bf, ls, ks, rfl, N0, W, hs, n0, q⟩ := h
    refine ⟨_, (pss_cons (ps_set (i := 2) sc__lengths_from.nd rfl (Or.inl rfl) pe_dnewK)
        (pss_cons (ps_set (i := 3) sc__lengths_from.nd rfl (Or.inl rfl) (pv 1))
        (pss_cons (ps_set (i := 4) sc__lengths_from.nd rfl (Or.inl rfl) pe_int)
        (pss_cons (ps_while PassesOwn.never (pt_cmp (pc_dnotin (un1 hr) (pv 3) (pv 2))) (pss_cons (ps_asg (pv 4) (pg_sub (pv 2) (pv 3) (set_dict (un1 hr))))
        (pss_cons (ps_set (i := 5) sc__lengths_from.nd rfl (Or.inl rfl) (pe_meth (pv 0) T.cl_Net T.me_Net__next_of T.ok_Net__next_of hr T.b_Net__next_of .nil pass0 (pa_cons (pv 3) pa_nil)))
        (pss_cons (ps_set (i := 4) sc__lengths_from.nd rfl (Or.inl rfl) (pe_op op_add (pv 4) (pe_call T.ok_far (hr.mono (by decide)) (by rfl) T.g_far T.k_far T.b_far .nil pass0 (pa_cons (show PE _ _ (tFld K _ _) from pe_fld (pv 0) rfl) (pa_cons (pv 3) (pa_cons (pv 5) pa_nil))))))
        (pss_one (ps_set (i := 3) sc__lengths_from.nd rfl (Or.inl rfl) (pv 5)))))))
        (pss_one (ps_ret (pv 2))))))), ?_⟩
    intro d nd
    refine ⟨_, rfl, fun m σ' H' => ∃ (i : Nat) (o5 : Option V), m = ks.length + 1 - i ∧ (met (iN nx) s i).Nodup ∧ σ' = [some (.ref h), some (.int s), some (.ref d), some (.int (itr (iN nx) s i)), some (.int (wl n (iN nx) s i)), o5] ∧ Same H H' ∧ H' d = some (.dK (wrows n (iN nx) s i)), ⟨_, 0, none, rfl, List.nodup_nil, rfl, same_upd nd, upd_same⟩, ?_⟩
    rintro m σ' H1 ⟨i, o5, rfl, ndi, rfl, s1, e1⟩
    refine ⟨_, rfl, _, rfl, d, _, rfl, DGet.k (k := Sum.inl (itr (iN nx) s i)) e1, _, rfl, ?_⟩
    have li := met_le W.cl hs ndi
    by_cases hm : itr (iN nx) s i ∈ met (iN nx) s i
    · obtain ⟨j, hj, ej⟩ := met_mem.mp hm
      refine iteF' (by rw [← ej, wrows_val ndi hj]; rfl) ?_
      exact ⟨_, rfl, q i H1 d (Lasso.of ndi hm) li s1 nd e1⟩
    · have ndi' : (met (iN nx) s (i + 1)).Nodup := by
        rw [met_succ]
        exact List.nodup_append.mpr ⟨ndi, by simp, fun a ha b hb e => hm (by rw [List.mem_singleton.mp hb] at e; rw [← e]; exact ha)⟩
      have li' := met_le W.cl hs ndi'
      refine iteT' (by rw [wrows_no hm]; rfl) ?_
      refine ⟨fun σ' H' => ∃ o5 : Option V, σ' = [some (.ref h), some (.int s), some (.ref d), some (.int (itr (iN nx) s (i + 1))), some (.int (wl n (iN nx) s (i + 1))), o5] ∧ Same H H' ∧ H' d = some (.dK (wrows n (iN nx) s (i + 1))), ?_, ?_⟩
      · rintro σ' H' ⟨o5, h1, h2, h3⟩
        exact ⟨_, by omega, i + 1, o5, rfl, ndi', h1, h2, h3⟩
      have mi := itr_mem W.cl hs i
      have N1 := N0.same s1
      refine ⟨_, rfl, _, rfl, _, rfl, d, _, rfl, DPut.k (k := Sum.inl (itr (iN nx) s i)) e1 (small1000' (by rw [wrows_len]; have := W.len; omega)), ?_⟩
      rw [putK_new _ (wrows_no hm), ← wrows_succ]
      have s2 : Same H (upd H1 d (.dK (wrows n (iN nx) s (i + 1)))) := fun a o e => (upd_ne (ne_of_none e nd)).trans (s1 _ _ e)
      have e2 : upd H1 d (.dK (wrows n (iN nx) s (i + 1))) d = some (.dK (wrows n (iN nx) s (i + 1))) := upd_same
      generalize upd H1 d (.dK (wrows n (iN nx) s (i + 1))) = H2 at s2 e2
      have N2 := N0.same s2
      obtain ⟨dx, hh⟩ := N2.me
      refine ⟨_, rfl, h, dx, _, rfl, hh, (by unfold nf; walk_at "lk"), _, rfl, h, dn, db, dl, n, itr (iN nx) s i, _, nx, bf, ls, rfl, N2, W.at_ mi, ?_⟩
      refine ⟨_, rfl, _, rfl, h, _, dx, _, _, rfl, hh, T.cl_Net, T.na_Net_size, nf_size, _, rfl, _, rfl, n, _, _, rfl, n0, ?_⟩
      exact ⟨_, _, rfl, rfl, _, rfl, _, rfl, s2, e2⟩
theorem met_take {f : Int → Int} {s : Int} {i m : Nat} (h : i ≤ m) : (met f s m).take i = met f s i := by
  unfold met
  rw [← List.map_take, List.take_range, Nat.min_eq_left h]
theorem wrows_list {n s : Int} {f : Int → Int} (i : Nat) : (wrows n f s i).map (fun kv => kV kv.1) = (met f s i).map V.int := by
  unfold wrows met
  rw [List.map_map, List.map_map]
  rfl
theorem inV_ints {x : Int} {l : List Int} : inV (.int x) (l.map V.int) = decide (x ∈ l) := by
  unfold inV
  rw [List.any_map]
  by_cases h : x ∈ l
  · rw [decide_eq_true h]
    exact List.any_eq_true.mpr ⟨x, h, beq_self_eq_true x⟩
  · rw [decide_eq_false h]
    exact List.any_eq_false.mpr fun y hy e => h (by rw [← (eq_of_beq e : y = x)]; exact hy)
theorem flat_ints {l : List Int} : (l.map V.int).all flatV = true := List.all_eq_true.mpr fun v hv => by
  obtain ⟨y, _, rfl⟩ := List.mem_map.mp hv
  rfl
theorem wl_up {n s : Int} {f : Int → Int} (h : 0 < n) : ∀ j : Nat, wl n f s j ≤ j * n
  | 0 => by show (0 : Int) ≤ 0 * n; omega
  | j + 1 => by
    have := wl_up (n := n) (s := s) (f := f) h j
    have := (far_range (itr f s j) (f (itr f s j)) h).2
    rw [Int.natCast_succ, Int.add_mul, Int.one_mul]
    show wl n f s j + farL n (itr f s j) (f (itr f s j)) ≤ _
    omega
theorem max_if {d : Int} : (if d > 0 then d else 0) = max 0 d := by
  by_cases h : d > 0
  · rw [if_pos h]; omega
  · rw [if_neg h]; omega
theorem WN.lenx {ks : List Int} {nx : List (Key × V)} (w : WN ks nx) : nx.length = ks.length := by
  have := congrArg List.length w.gn.1
  rw [List.length_map, List.length_map] at this
  exact this
theorem WN.no {ks : List Int} {nx : List (Key × V)} (w : WN ks nx) {p : Int} (h : p ∉ ks) : valV nx (.inl p) = none := valV_none_keys w.gn.1 h
/-- consecutive places cannot all be houses -/
theorem row_out {ks : List Int} {p : Int} (h : ∀ j : Nat, j < ks.length → p + j ∈ ks) : p + ks.length ∉ ks := fun z => by
  have e : ∀ j : Nat, itr (fun y => y + 1) p j = p + j := fun j => by
    induction j with
    | zero => show p = p + 0; omega
    | succ j ih =>
      show itr (fun y => y + 1) p j + 1 = p + ((j + 1 : Nat) : Int)
      rw [ih]
      omega
  have nd : (met (fun y => y + 1) p (ks.length + 1)).Nodup := met_nodup_of fun a b _ _ h => by
    rw [e, e] at h
    omega
  have := nodup_len (ks := ks) nd fun x hx => by
    obtain ⟨j, hj, ej⟩ := met_mem.mp hx
    rw [← ej, e]
    by_cases l : j < ks.length
    · exact h j l
    · have : j = ks.length := by omega
      rw [this]
      exact z
  rw [met_len] at this
  omega
/-! ### the law's ways -/
def sp__law_stranger (K : PySem.W.Frag) : Sp := fun vs H Q _ => ∃ (t c dN : Addr) (n : Int) (nx : List (Key × V)) (ks : List Int), vs = [.ref t, .int n, .ref dN] ∧ Tape H t c ∧ dN ≠ t ∧ H dN = some (.dK nx) ∧ WN ks nx ∧ 0 < n ∧ n ≤ 1000000000 ∧
  ∀ (p : Int) H', -1 ≤ p → p ∉ ks → Kp t H H' → Tape H' t c → Q (.int p) H'
def sp__law_length (K : PySem.W.Frag) : Sp := fun vs H Q _ => ∃ (dN : Addr) (n s e : Int) (nx : List (Key × V)) (ks : List Int), vs = [.int n, .ref dN, .int s, .int e] ∧ H dN = some (.dK nx) ∧ WN ks nx ∧ s ∈ ks ∧ 0 < n ∧
  (∀ j, j < ks.length → itr (iN nx) s j = e → (∀ i, i < j → itr (iN nx) s i ≠ e) → Q (.int (wl n (iN nx) s j)) H) ∧ ((∀ j, j < ks.length → itr (iN nx) s j ≠ e) → Q .non H)
def sp__law_way (K : PySem.W.Frag) : Sp := fun vs H Q _ => ∃ (dN : Addr) (s e : Int) (nx : List (Key × V)) (ks : List Int), vs = [.ref dN, .int s, .int e] ∧ H dN = some (.dK nx) ∧ WN ks nx ∧ s ∈ ks ∧
  ∀ H', Same H H' → ((∀ j, j < ks.length → itr (iN nx) s j = e → (∀ i, i < j → itr (iN nx) s i ≠ e) → ∀ l, H l = none → H' l = some (.lst ((met (iN nx) s (j + 1)).map V.int)) → Q (.ref l) H') ∧ ((∀ j, j < ks.length → itr (iN nx) s j ≠ e) → Q .non H'))
def sp__law_stop (K : PySem.W.Frag) : Sp := fun vs H Q _ => ∃ (dN : Addr) (n s x : Int) (nx : List (Key × V)) (ks : List Int), vs = [.int n, .ref dN, .int s, .int x] ∧ H dN = some (.dK nx) ∧ WN ks nx ∧ s ∈ ks ∧ 0 < n ∧ n ≤ 1000000000 ∧ x ≤ 400 * n ∧
  ∀ k H' p, FirstAt n (iN nx) s x k → Same H H' → H p = none → H' p = some (.tup [.int (itr (iN nx) s k), .int (wl n (iN nx) s k)]) → Q (.ref p) H'
--CUT
/-! ### rings -/
theorem Lasso.uniq {f : Int → Int} {s : Int} {m m' : Nat} (L : Lasso f s m) (L' : Lasso f s m') : m = m' := by
  obtain ⟨g, hg, eg⟩ := L.back
  obtain ⟨g', hg', eg'⟩ := L'.back
  rcases Nat.lt_trichotomy m m' with z | z | z
  · have := L'.dis m g z (by omega) eg
    omega
  · exact z
  · have := L.dis m' g' z (by omega) eg'
    omega
/-- where the way comes to its ring -/
def Gate (f : Int → Int) (s : Int) (m g : Nat) : Prop := Lasso f s m ∧ g < m ∧ itr f s m = itr f s g
theorem Lasso.gate {f : Int → Int} {s : Int} {m : Nat} (L : Lasso f s m) : ∃ g, Gate f s m g := let ⟨g, h1, h2⟩ := L.back; ⟨g, L, h1, h2⟩
theorem Gate.uniq {f : Int → Int} {s : Int} {m m' g g' : Nat} (a : Gate f s m g) (b : Gate f s m' g') : m = m' ∧ g = g' := by
  have e := a.1.uniq b.1
  subst e
  exact ⟨rfl, a.1.dis g g' a.2.1 b.2.1 (a.2.2.symm.trans b.2.2)⟩
/-- a list without doubles, turned so that its least comes first -/
def Turned (xs ys : List Int) : Prop := ∃ (k : Nat) (y : Int), xs[k]? = some y ∧ (∀ x ∈ xs, y ≤ x) ∧ (∀ (i : Nat) (x : Int), i < k → xs[i]? = some x → x ≠ y) ∧ ys = xs.drop k ++ xs.take k
theorem first_idx {y : Int} : ∀ {xs : List Int}, y ∈ xs → ∃ k, xs[k]? = some y ∧ ∀ (i : Nat) (x : Int), i < k → xs[i]? = some x → x ≠ y
  | [], h => nomatch h
  | a :: r, h => by
    by_cases e : a = y
    · exact ⟨0, by rw [e]; rfl, fun i x hi => absurd hi (by omega)⟩
    · obtain ⟨k, h1, h2⟩ := first_idx (xs := r) ((List.mem_cons.mp h).resolve_left (fun z => e z.symm))
      refine ⟨k + 1, h1, fun i x hi hx => ?_⟩
      match i, hi, hx with
      | 0, _, hx => cases hx; exact e
      | i + 1, hi, hx => exact h2 i x (by omega) hx
def sp_from_least (K : PySem.W.Frag) : Sp := fun vs H Q _ => ∃ (p : Addr) (xs : List Int), vs = [.ref p] ∧ H p = some (.lst (xs.map V.int)) ∧ 0 < xs.length ∧ xs.length ≤ 1000 ∧
  ∀ ys l H', Turned xs ys → Same H H' → H l = none → H' l = some (.lst (ys.map V.int)) → Q (.ref l) H'
theorem T0.ok_from_least (T : T0 K mg) : FnOk P w K mg base CX0 1 T.a_from_least T.fd_from_least ["order"] (sp_from_least K) := by
  refine T.F_from_least.ok sc_from_least (fun vs H Q E h => ?_) (fun cdv A outer s0 H vs Q E hr h => ?_)
  · obtain ⟨p, xs, rfl, _⟩ := h
    rfl
  · obtain ⟨p, xs, rfl, hp, l0, l1, q⟩ := h
    refine ⟨_, (pss_cons (ps_set (i := 1) sc_from_least.nd rfl (Or.inl rfl) (pe_bm PySem.F.plainAttrs_list PySem.F.slot_list_index PySem.F.type_list_index mt_index (pv 0) (pa_cons (pe_callB (cr_min rfl) (by rfl) T.m_min (by decide +kernel) (pa_cons (pv 0) pa_nil)) pa_nil)))
        (pss_one (ps_ret (pe_lst (StX.pa_star (pe_slice (sl_listK (K := K)) (pv 0) (po_some (pv 1)) po_none) (StX.pa_star (pe_slice (sl_listK (K := K)) (pv 0) po_none (po_some (pv 1))) pa_nil)))))), ?_⟩
    refine ⟨_, rfl, .inl ⟨rfl, _, SqL.of hp⟩, _, rfl, p, xs, rfl, SqL.of hp, l0, fun y hy hmin => ?_⟩
    obtain ⟨k, hk, hno⟩ := first_idx hy
    have gk : (xs.map V.int)[k]? = some (.int y) := by rw [List.getElem?_map, hk]; rfl
    refine ⟨p, _, .int y, k, .int y, rfl, rfl, SqL.of hp, rfl, flat_ints, gk, beq_self_eq_true y, fun i z hi hz => ?_, ?_⟩
    · rw [List.getElem?_map] at hz
      obtain ⟨x, hx, rfl⟩ := Option.map_eq_some_iff.mp hz
      exact beq_eq_false_iff_ne.mpr (hno i x hi hx)
    refine ⟨_, rfl, _, rfl, (k : Int), rfl, p, _, rfl, SqL.of hp, fun p1 np1 => ?_⟩
    rw [cut_hi (by omega), Int.toNat_natCast]
    have s1 := same_upd (o := .lst ((xs.drop k).map V.int)) np1
    have e1 : upd H p1 (.lst ((xs.drop k).map V.int)) p1 = some (.lst ((xs.drop k).map V.int)) := upd_same
    generalize upd H p1 (.lst ((xs.drop k).map V.int)) = H1 at s1 e1
    refine ⟨p1, _, rfl, .inr (SqL.of e1), ?_⟩
    refine ⟨_, rfl, _, rfl, (k : Int), rfl, p, _, rfl, SqL.of (s1 _ _ hp), fun p2 np2 => ?_⟩
    rw [cut_lo (by omega), Int.toNat_natCast]
    have s2 := same_upd (o := .lst ((xs.take k).map V.int)) np2
    have e2 : upd H1 p2 (.lst ((xs.take k).map V.int)) p2 = some (.lst ((xs.take k).map V.int)) := upd_same
    generalize upd H1 p2 (.lst ((xs.take k).map V.int)) = H2 at s2 e2
    have le : (xs.drop k).length + (xs.take k).length = xs.length := by rw [List.length_drop, List.length_take]; have := (List.getElem?_eq_some_iff.mp hk).1; omega
    refine ⟨p2, _, rfl, .inr (SqL.of e2), lenL ?_, fun l nl => ?_⟩
    · rw [List.append_nil, List.length_append, List.length_map, List.length_map]
      omega
    · refine q (xs.drop k ++ xs.take k) l _ ⟨k, y, hk, hmin, hno, rfl⟩ (Same.trans s1 (Same.trans s2 (same_upd nl))) (none_back (Same.trans s1 s2) nl) ?_
      rw [upd_same, List.append_nil, List.map_append]
def sp__gate_after (C : Addr) : Sp := fun vs H Q _ => ∃ (h dn db dl p : Addr) (n s : Int) (m : Nat) (nx bf : List (Key × V)) (ls : List V) (ks : List Int), vs = [.ref h, .ref p] ∧ NetAt C H h n dn db dl nx bf ls ∧ WN ks nx ∧ s ∈ ks ∧ H p = some (.lst ((met (iN nx) s (m + 1)).map V.int)) ∧ Q (.int (itr (iN nx) s (m + 1))) H
theorem T0.ok__gate_after (T : T0 K mg) : FnOk P w K mg base CX0 3 T.a__gate_after T.fd__gate_after ["net", "met"] (sp__gate_after T.C_Net) := by
  refine T.F__gate_after.ok sc__gate_after (fun vs H Q E h => ?_) (fun cdv A outer s0 H vs Q E hr h => ?_)
  · obtain ⟨h, dn, db, dl, p, n, s, m, nx, bf, ls, ks, rfl, _⟩ := h
    rfl
  · obtain ⟨h, dn, db, dl, p, n, s, m, nx, bf, ls, ks, rfl, N0, W, hs, hp, q⟩ := h
    refine ⟨_, (pss_one (ps_ret (pe_meth (pv 0) T.cl_Net T.me_Net__next_of T.ok_Net__next_of hr T.b_Net__next_of .nil pass0 (pa_cons (pe_ix (ix_listK (K := K)) (pv 1) (pe_un un_neg pe_int) (fun _ _ => rfl)) pa_nil)))), ?_⟩
    obtain ⟨dx, hh⟩ := N0.me
    refine ⟨_, rfl, h, dx, _, rfl, hh, (by unfold nf; walk_at "lk"), _, rfl, 1, rfl, p, _, -1, .int (itr (iN nx) s m), rfl, rfl, SqL.of hp, (by rw [met_succ, List.map_append]; exact atI_last _ _), ?_⟩
    exact ⟨h, dn, db, dl, n, itr (iN nx) s m, _, nx, bf, ls, rfl, N0, W.at_ (itr_mem W.cl hs m), q⟩
def sp_gate_of (C : Addr) : Sp := fun vs H Q _ => ∃ (h dn db dl : Addr) (n s : Int) (nx bf : List (Key × V)) (ls : List V) (ks : List Int), vs = [.ref h, .int s] ∧ NetAt C H h n dn db dl nx bf ls ∧ WN ks nx ∧ s ∈ ks ∧ 0 < n ∧
  ∀ m g H', Gate (iN nx) s m g → Same H H' → Q (.int (itr (iN nx) s g)) H'
def sp_ring_of (C : Addr) : Sp := fun vs H Q _ => ∃ (h dn db dl : Addr) (n s : Int) (nx bf : List (Key × V)) (ls : List V) (ks : List Int), vs = [.ref h, .int s] ∧ NetAt C H h n dn db dl nx bf ls ∧ WN ks nx ∧ s ∈ ks ∧ 0 < n ∧
  ∀ m g ys l H', Gate (iN nx) s m g → Turned ((met (iN nx) s m).drop g) ys → Same H H' → H l = none → H' l = some (.lst (ys.map V.int)) → Q (.ref l) H'
theorem T0.ok_ring_of (T : T0 K mg) : FnOk P w K mg base CX0 4 T.a_ring_of T.fd_ring_of ["net", "house"] (sp_ring_of T.C_Net) := by
  refine T.F_ring_of.ok sc_ring_of (fun vs H Q E h => ?_) (fun cdv A outer s0 H vs Q E hr h => ?_)
  · obtain ⟨h, dn, db, dl, n, s, nx, bf, ls, ks, rfl, _⟩ := h
    rfl
  · obtain ⟨h, dn, db, dl, n, s, nx, bf, ls, ks, rfl, N0, W, hs, n0, q⟩ := h
    refine ⟨_, (pss_cons (ps_set (i := 2) sc_ring_of.nd rfl (Or.inl rfl) (pe_callTy (call_list_dK rfl) (by rfl) T.m_list (by decide +kernel) (pa_cons (pe_call T.ok__lengths_from hr (by rfl) T.g__lengths_from T.k__lengths_from T.b__lengths_from .nil pass0 (pa_cons (pv 0) (pa_cons (pv 1) pa_nil))) pa_nil)))
        (pss_one (ps_ret (pe_call T.ok_from_least (hr.mono (by decide)) (by rfl) T.g_from_least T.k_from_least T.b_from_least .nil pass0 (pa_cons (pe_slice (sl_listK (K := K)) (pv 2) (po_some (pe_bm PySem.F.plainAttrs_list PySem.F.slot_list_index PySem.F.type_list_index mt_index (pv 2) (pa_cons (pe_call T.ok__gate_after hr (by rfl) T.g__gate_after T.k__gate_after T.b__gate_after .nil pass0 (pa_cons (pv 0) (pa_cons (pv 2) pa_nil))) pa_nil))) po_none) pa_nil))))), ?_⟩
    refine ⟨_, rfl, _, rfl, h, dn, db, dl, n, s, nx, bf, ls, ks, rfl, N0, W, hs, n0, fun m H1 d L lm s1 nd e1 => ?_⟩
    obtain ⟨g, G⟩ := L.gate
    obtain ⟨m, rfl⟩ : ∃ m', m = m' + 1 := ⟨m - 1, by have := L.pos; omega⟩
    have hg : g < m + 1 := G.2.1
    have lw := W.len
    refine ⟨d, _, rfl, e1, fun l nl => ?_⟩
    rw [wrows_list]
    have s2 := Same.trans s1 (same_upd (o := .lst ((met (iN nx) s (m + 1)).map V.int)) nl)
    have e2 : upd H1 l (.lst ((met (iN nx) s (m + 1)).map V.int)) l = some (.lst ((met (iN nx) s (m + 1)).map V.int)) := upd_same
    generalize upd H1 l (.lst ((met (iN nx) s (m + 1)).map V.int)) = H2 at s2 e2
    have gj : ((met (iN nx) s (m + 1)).map V.int)[g]? = some (.int (itr (iN nx) s (m + 1))) := by
      rw [List.getElem?_map, met_get hg, G.2.2]
      rfl
    refine ⟨_, rfl, _, rfl, .inl ⟨rfl, _, SqL.of e2⟩, _, rfl, _, rfl, h, dn, db, dl, l, n, s, m, nx, bf, ls, ks, rfl, N0.same s2, W, hs, e2, ?_⟩
    refine ⟨l, _, .int (itr (iN nx) s (m + 1)), g, _, rfl, rfl, SqL.of e2, rfl, flat_ints, gj, beq_self_eq_true (itr (iN nx) s (m + 1)), fun i z hi hz => ?_, ?_⟩
    · rw [List.getElem?_map, met_get (by omega : i < m + 1)] at hz
      cases hz
      refine beq_eq_false_iff_ne.mpr fun z => ?_
      have z : itr (iN nx) s i = itr (iN nx) s (m + 1) := z
      have := L.dis i g (by omega) hg (by rw [z, G.2.2])
      omega
    refine ⟨(g : Int), rfl, l, _, rfl, SqL.of e2, fun l2 nl2 => ?_⟩
    rw [cut_hi (by omega), Int.toNat_natCast]
    have s3 := Same.trans s2 (same_upd (o := .lst (((met (iN nx) s (m + 1)).drop g).map V.int)) nl2)
    refine ⟨l2, (met (iN nx) s (m + 1)).drop g, rfl, upd_same, by rw [List.length_drop, met_len]; omega, by rw [List.length_drop, met_len]; omega, fun ys l3 H3 tu s4 nl3 e3 => ?_⟩
    exact q (m + 1) g ys l3 H3 G tu (Same.trans s3 s4) (none_back s3 nl3) e3
def sp_on_ring (C : Addr) : Sp := fun vs H Q _ => ∃ (h dn db dl : Addr) (n s : Int) (nx bf : List (Key × V)) (ls : List V) (ks : List Int), vs = [.ref h, .int s] ∧ NetAt C H h n dn db dl nx bf ls ∧ WN ks nx ∧ s ∈ ks ∧ 0 < n ∧
  ∀ m g H', Gate (iN nx) s m g → Same H H' → Q (.bl (decide (itr (iN nx) s g = s))) H'
/-! ### a ring's list -/
/-- ys: the ring in which the way from s ends, from its least house on -/
def RingL (f : Int → Int) (s : Int) (ys : List Int) : Prop := ∃ (y : Int) (p : Nat), ys = met f y p ∧ Gate f y p 0 ∧ (∀ x ∈ ys, y ≤ x) ∧ ∃ i, itr f s i = y
theorem turned_ring {f : Int → Int} {s : Int} {m g : Nat} {ys : List Int} (G : Gate f s m g) (t : Turned ((met f s m).drop g) ys) : RingL f s ys := by
  obtain ⟨k, y, hk, hmin, _, rfl⟩ := t
  obtain ⟨L, hg, eg⟩ := G
  have lk : k < m - g := by
    have := (List.getElem?_eq_some_iff.mp hk).1
    rw [List.length_drop, met_len] at this
    exact this
  have ek : y = itr f s (g + k) := by
    rw [List.getElem?_drop, met_get (by omega)] at hk
    exact (Option.some.inj hk).symm
  obtain ⟨p, rfl⟩ : ∃ p, m = g + p := ⟨m - g, by omega⟩
  have pe : ∀ i, itr f y i = itr f s (g + (k + i)) := fun i => by rw [ek, ← itr_add, Nat.add_assoc]
  have wrap : ∀ i, itr f s (g + (p + i)) = itr f s (g + i) := fun i => by rw [← Nat.add_assoc]; exact lap_itr eg i
  have el : ((met f s (g + p)).drop g).drop k ++ ((met f s (g + p)).drop g).take k = met f y p := by
    refine List.ext_getElem? fun i => ?_
    by_cases hi : i < p
    · rw [met_get hi, pe]
      by_cases h1 : i < p - k
      · rw [List.getElem?_append_left (by rw [List.length_drop, List.length_drop, met_len]; omega), List.getElem?_drop, List.getElem?_drop, met_get (by omega)]
      · rw [List.getElem?_append_right (by rw [List.length_drop, List.length_drop, met_len]; omega), List.length_drop, List.length_drop, met_len, List.getElem?_take, if_pos (by omega), List.getElem?_drop, met_get (by omega), show k + i = p + (i - (g + p - g - k)) by omega, wrap]
    · have l1 : (((met f s (g + p)).drop g).drop k ++ ((met f s (g + p)).drop g).take k).length ≤ i := by
        rw [List.length_append, List.length_drop, List.length_take, List.length_drop, met_len]
        omega
      have l2 : (met f y p).length ≤ i := by
        rw [met_len]
        omega
      rw [List.getElem?_eq_none l1, List.getElem?_eq_none l2]
  refine ⟨y, p, el, ⟨⟨fun i j hi hj e => ?_, 0, by omega, ?_⟩, by omega, ?_⟩, fun x hx => ?_, g + k, ek.symm⟩
  · rw [pe, pe] at e
    have red : ∀ i, i < p → ∃ a, a < p ∧ itr f s (g + (k + i)) = itr f s (g + a) ∧ (a = k + i ∨ a + p = k + i) := fun i hi => by
      by_cases h : k + i < p
      · exact ⟨k + i, h, rfl, .inl rfl⟩
      · refine ⟨k + i - p, by omega, ?_, .inr (by omega)⟩
        rw [← wrap (k + i - p), show p + (k + i - p) = k + i by omega]
    obtain ⟨a, ha, e1, o1⟩ := red i hi
    obtain ⟨b, hb, e2, o2⟩ := red j hj
    rw [e1, e2] at e
    have := L.dis (g + a) (g + b) (by omega) (by omega) e
    omega
  · rw [pe, show k + p = p + k by omega, wrap, ek]
    rfl
  · rw [pe, show k + p = p + k by omega, wrap, ek]
    rfl
  · refine hmin x ?_
    rcases List.mem_append.mp hx with h | h
    · exact List.mem_of_mem_drop h
    · exact List.mem_of_mem_take h
/-- the ways of a and b meet -/
def SameP (f : Int → Int) (a b : Int) : Prop := ∃ i j, itr f a i = itr f b j
theorem ring_walk {f : Int → Int} {y : Int} {p : Nat} (G : Gate f y p 0) (i : Nat) : itr f y i ∈ met f y p := by
  obtain ⟨j, hj, e⟩ := G.1.all i
  exact met_mem.mpr ⟨j, hj, e.symm⟩
theorem RingL.eq {f : Int → Int} {a b : Int} {xs ys : List Int} (h : RingL f a xs) (k : RingL f b ys) : xs = ys ↔ SameP f a b := by
  obtain ⟨x, p, rfl, G, mx, i, ei⟩ := h
  obtain ⟨y, q, rfl, J, my, j, ej⟩ := k
  constructor
  · intro e
    have h0 : (met f x p)[0]? = some x := met_get G.1.pos
    have h1 : (met f y q)[0]? = some y := met_get J.1.pos
    rw [e, h1] at h0
    exact ⟨i, j, by rw [ei, ej, Option.some.inj h0]⟩
  · rintro ⟨u, v, e⟩
    -- both least houses lie on the other's ring
    have back : ∀ {z : Int} {r : Nat}, Gate f z r 0 → ∀ t, ∃ w, itr f z (t + w) = z := fun {z r} G t => by
      have lp : ∀ c : Nat, itr f z (c * r) = z := fun c => by
        have := laps_itr (f := f) (s := z) (g := 0) (p := r) (by rw [Nat.zero_add]; exact G.2.2) 0 c
        rw [Nat.zero_add, Nat.zero_add] at this
        exact this
      have rp := G.1.pos
      refine ⟨t * r - t, ?_⟩
      have : t ≤ t * r := Nat.le_mul_of_pos_right t rp
      rw [show t + (t * r - t) = t * r by omega]
      exact lp t
    have key : itr f x (u + j) = itr f y (v + i) := by
      have e1 : itr f x (u + j) = itr f a (i + (u + j)) := by rw [itr_add (s := a) i, ei]
      have e2 : itr f y (v + i) = itr f b (j + (v + i)) := by rw [itr_add (s := b) j, ej]
      rw [e1, e2, show i + (u + j) = u + (i + j) by omega, show j + (v + i) = v + (i + j) by omega, itr_add (s := a) u, e, ← itr_add]
    obtain ⟨w, hw⟩ := back G (u + j)
    obtain ⟨w', hw'⟩ := back J (v + i)
    have m1 : x ∈ met f y q := by
      have := ring_walk J (v + i + w)
      rw [itr_add, ← key, ← itr_add, hw] at this
      exact this
    have m2 : y ∈ met f x p := by
      have := ring_walk G (u + j + w')
      rw [itr_add, key, ← itr_add, hw'] at this
      exact this
    have h1 := my x m1
    have h2 := mx y m2
    have exy : x = y := by omega
    subst exy
    rw [(G.uniq J).1]
theorem RingL.mem {f : Int → Int} {s : Int} {ks ys : List Int} (cl : ∀ k ∈ ks, f k ∈ ks) (hs : s ∈ ks) (h : RingL f s ys) : (∀ x ∈ ys, x ∈ ks) ∧ 0 < ys.length ∧ ys.length ≤ ks.length := by
  obtain ⟨y, p, rfl, G, _, i, rfl⟩ := h
  have hy := itr_mem cl hs i
  refine ⟨fun x hx => ?_, by rw [met_len]; exact G.1.pos, by rw [met_len]; exact G.1.le cl hy⟩
  obtain ⟨j, _, rfl⟩ := met_mem.mp hx
  exact itr_mem cl hy j
theorem RingL.on {f : Int → Int} {s : Int} {m g : Nat} {ys : List Int} (G : Gate f s m g) (h : RingL f s ys) : itr f s g = s ↔ s ∈ ys := by
  obtain ⟨y, p, rfl, J, _, i, ei⟩ := h
  constructor
  · intro e
    have g0 : g = 0 := G.1.dis g 0 G.2.1 G.1.pos e
    subst g0
    have lp : itr f s (i * m) = s := by
      have := laps_itr (f := f) (s := s) (g := 0) (p := m) (by rw [Nat.zero_add]; exact G.2.2) 0 i
      rw [Nat.zero_add, Nat.zero_add] at this
      exact this
    have mp := G.1.pos
    have le : i ≤ i * m := Nat.le_mul_of_pos_right i mp
    have := ring_walk J (i * m - i)
    rw [← ei, ← itr_add, show i + (i * m - i) = i * m by omega, lp] at this
    rw [← ei]
    exact this
  · intro h
    obtain ⟨j, hj, ej⟩ := met_mem.mp h
    -- s lies on the ring: going round comes back
    have back : itr f s p = s := by
      have e := laps_itr (f := f) (s := y) (g := 0) (p := p) (by rw [Nat.zero_add]; exact J.2.2) j 1
      rw [Nat.zero_add, Nat.one_mul, itr_add, ej] at e
      exact e
    have pp := J.1.pos
    -- so s is met again first of all
    obtain ⟨q, hq, eq⟩ := G.1.all p
    rw [back] at eq
    by_cases hp : p < m
    · have := G.1.dis p 0 hp G.1.pos back
      omega
    · have lt : m ≤ p := by omega
      have e2 : itr f s (m + (p - m)) = itr f s (g + (p - m)) := lap_itr G.2.2 (p - m)
      rw [show m + (p - m) = p by omega, back] at e2
      by_cases g0 : g = 0
      · rw [g0]
        rfl
      · have hlt := G.2.1
        have dis : ∀ a b, a < p → b < p → itr f s a = itr f s b → a = b := fun a b ha hb e => by
          have ea : ∀ c, itr f s c = itr f y (j + c) := fun c => by rw [itr_add, ej]
          rw [ea, ea] at e
          have red : ∀ c, c < p → ∃ d, d < p ∧ itr f y (j + c) = itr f y d ∧ (d = j + c ∨ d + p = j + c) := fun c hc => by
            by_cases z : j + c < p
            · exact ⟨j + c, z, rfl, .inl rfl⟩
            · refine ⟨j + c - p, by omega, ?_, .inr (by omega)⟩
              have := lap_itr J.2.2 (j + c - p)
              rw [show p + (j + c - p) = j + c by omega, Nat.zero_add] at this
              exact this
          obtain ⟨d1, h1, e1, o1⟩ := red a ha
          obtain ⟨d2, h2, e2, o2⟩ := red b hb
          rw [e1, e2] at e
          have := J.1.dis d1 d2 h1 h2 e
          omega
        by_cases mp : m = p
        · have e3 := G.2.2
          rw [mp, back] at e3
          exact e3.symm
        · have := dis m g (by omega) (by omega) G.2.2
          omega
--CUT
/-! ### pieces -/
theorem op_eqDK {X : Cx} {K : PySem.W.Frag} {A : Around} (hu : A.units + 64 < cLine) (ha : X.A = A := by rfl) (h : X.K = K := by rfl) : OpR X (compareOp .Eq) (rEqD K) := by subst h; subst ha; exact op_eqD hu
theorem shaped_is (ns : List Int) : SeqAt.shaped (.list (ns.map PyData.int)) = true := PySem.W.ke_shaped_ints ns
theorem dpAll_ints {H : Hp} : ∀ ns : List Int, DpAll K H (ns.map V.int) (ns.map PyData.int)
  | [] => .nil
  | n :: ns => .cons (.int n) (dpAll_ints ns)
noncomputable def smp (f : Int → Int) (a b : Int) : Bool := @decide (SameP f a b) (Classical.propDecidable _)
theorem smp_iff {f : Int → Int} {a b : Int} : smp f a b = true ↔ SameP f a b := @decide_eq_true_iff (SameP f a b) (Classical.propDecidable _)
theorem eqvAll_ints : ∀ ns ms : List Int, PyData.eqvAll (ns.map PyData.int) (ms.map PyData.int) = decide (ns = ms)
  | [], [] => by rw [List.map_nil, PyData.eqvAll]; rfl
  | [], m :: ms => by rw [List.map_nil, List.map_cons, PyData.eqvAll]; rfl
  | n :: ns, [] => by rw [List.map_nil, List.map_cons, PyData.eqvAll]; rfl
  | n :: ns, m :: ms => by
    rw [List.map_cons, List.map_cons, PyData.eqvAll, eqvAll_ints ns ms, PyData.eqv]
    by_cases h1 : n = m <;> by_cases h2 : ns = ms <;> simp [h1, h2]
def sp_piece_of (C : Addr) : Sp := fun vs H Q _ => ∃ (h dn db dl : Addr) (n s : Int) (nx bf : List (Key × V)) (ls : List V) (ks : List Int), vs = [.ref h, .int s] ∧ NetAt C H h n dn db dl nx bf ls ∧ WN ks nx ∧ ks.length < 64 ∧ s ∈ ks ∧ 0 < n ∧
  ∀ (ys : List Int) l H', ys.Perm ks → ys.Pairwise (· ≤ ·) → Same H H' → H l = none → H' l = some (.lst ((ys.filter fun y => smp (iN nx) y s).map V.int)) → Q (.ref l) H'
theorem T0.ok_piece_of (T : T0 K mg) : FnOk P w K mg base CX0 5 T.a_piece_of T.fd_piece_of ["net", "house"] (sp_piece_of T.C_Net) := by
  refine T.F_piece_of.ok sc_piece_of (fun vs H Q E h => ?_) (fun cdv A outer s0 H vs Q E hr h => ?_)
  · obtain ⟨h, dn, db, dl, n, s, nx, bf, ls, ks, rfl, _⟩ := h
    rfl
  · obtain ⟨h, dn, db, dl, n, s, nx, bf, ls, ks, rfl, N0, W, l64, hs, n0, q⟩ := h
    refine ⟨_, (pss_cons (ps_set (i := 2) sc_piece_of.nd rfl (Or.inr rfl) (pe_call T.ok_ring_of hr (by rfl) T.g_ring_of T.k_ring_of T.b_ring_of .nil pass0 (pa_cons (pv 0) (pa_cons (pv 1) pa_nil))))
        (pss_one (ps_ret (pe_lc (own := [("other", 3)]) (g := gName 3) (by rfl) sc_piece_of.nd (pi_list (pe_meth0 (pv 0) T.cl_Net T.me_Net__houses T.ok_Net__houses (hr.mono (by decide)) T.b_Net__houses .nil pass0)) (blkOk_by (own := [("other", 3)]) (N := ["net", "house", "ring", "other"]) (sc := defScope s_piece_of) (by decide +kernel)) (fun _ _ _ _ _ => pg_name (i := 3) sc_piece_of.nd rfl (Or.inl rfl)) (fun _ _ _ _ _ => pts_one (pt_cmpR (op_eqDK (K := K) hr.units) (pe_call T.ok_ring_of hr (by rfl) T.g_ring_of T.k_ring_of T.b_ring_of .nil pass0 (pa_cons (pv 0) (pa_cons (pv 3) pa_nil))) (pv 2) (nomark _))) (fun _ _ _ _ _ => (pv 3)))))), ?_⟩
    refine ⟨_, rfl, _, rfl, h, dn, db, dl, n, s, nx, bf, ls, ks, rfl, N0, W, hs, n0, fun m g rs l H1 G tu s1 nl e1 => ?_⟩
    have R := turned_ring G tu
    have N1 := N0.same s1
    obtain ⟨dx, hh⟩ := N1.me
    refine ⟨_, rfl, h, dx, _, rfl, hh, (by unfold nf; walk_at "lk"), h, dn, db, dl, n, nx, bf, ls, ks, rfl, N1, W.gn.1, l64, fun ys z perm pw nz => ?_⟩
    have s2 := same_upd (o := .lst (ys.map V.int)) nz
    have e2 : upd H1 z (.lst (ys.map V.int)) z = some (.lst (ys.map V.int)) := upd_same
    generalize upd H1 z (.lst (ys.map V.int)) = H2 at s2 e2
    have s12 := Same.trans s1 s2
    have el := perm.length_eq
    refine ⟨z, rfl, ⟨_, SqL.of e2⟩, fun D hD => ?_⟩
    refine lc_list (K := K) (a := z) (xs := ys.map V.int) (fun i H' => Same H2 H' ∧ H' D = some (.lst (((ys.take i).filter fun y => smp (iN nx) y s).map V.int))) ⟨same_upd hD, upd_same⟩ (fun i H' _ p => SqL.of (p.1 _ _ e2)) (fun i x H3 hx pv => ?_) (fun H3 pv => ?_)
    · obtain ⟨s3, eD⟩ := pv
      have hx' : (ys.map V.int)[i]? = some x := hx
      rw [List.getElem?_map] at hx'
      obtain ⟨y, hyi, rfl⟩ := Option.map_eq_some_iff.mp hx'
      have hy := perm.mem_iff.mp (List.mem_of_getElem? hyi)
      have s03 := Same.trans s12 s3
      refine ⟨rfl, ?_⟩
      refine ⟨_, rfl, _, rfl, h, dn, db, dl, n, y, nx, bf, ls, ks, rfl, N0.same s03, W, hy, n0, fun m' g' rs' l' H4 G' tu' s4 nl' e4 => ?_⟩
      have R' := turned_ring G' tu'
      have eD4 := s4 _ _ eD
      have tk : ys.take (i + 1) = ys.take i ++ [y] := by rw [List.take_add_one, hyi]; rfl
      have lf : ((ys.take i).filter fun y => smp (iN nx) y s).length ≤ 64 := by
        have h1 := List.length_filter_le (fun y => smp (iN nx) y s) (ys.take i)
        rw [List.length_take] at h1
        omega
      refine ⟨_, rfl, _, _, .lst (SqL.of e4) (dpAll_ints rs'), .lst (SqL.of (s4 _ _ (s3 _ _ (s2 _ _ e1)))) (dpAll_ints rs), shaped_is _, shaped_is _, _, rfl, ?_⟩
      by_cases hq : rs' = rs
      · refine iteT' (by rw [PyData.eqv, eqvAll_ints, decide_eq_true hq]) ?_
        have sp : smp (iN nx) y s = true := smp_iff.mpr ((R'.eq R).mp hq)
        refine ⟨_, rfl, _, eD4, small1000' (by rw [List.length_map]; omega), fun a o e => (upd_ne (ne_of_none e hD)).trans (s4 _ _ (s3 _ _ e)), ?_⟩
        rw [upd_same, tk, List.filter_append, List.filter_cons_of_pos (p := fun y => smp (iN nx) y s) sp, List.map_append]
        rfl
      · refine iteF' (by rw [PyData.eqv, eqvAll_ints, decide_eq_false hq]) ?_
        have sp : ¬ smp (iN nx) y s = true := fun z => hq ((R'.eq R).mpr (smp_iff.mp z))
        refine ⟨Same.trans s3 s4, ?_⟩
        rw [tk, List.filter_append, List.filter_cons_of_neg (p := fun y => smp (iN nx) y s) sp]
        exact eD4.trans (by rw [List.filter_nil, List.append_nil])
    · obtain ⟨s3, eD⟩ := pv
      rw [List.length_map, List.take_length] at eD
      exact q ys D H3 perm pw (Same.trans s12 s3) (none_back s12 hD) eD
def sp_least_of (C : Addr) : Sp := fun vs H Q _ => ∃ (h dn db dl : Addr) (n s : Int) (nx bf : List (Key × V)) (ls : List V) (ks : List Int), vs = [.ref h, .int s] ∧ NetAt C H h n dn db dl nx bf ls ∧ WN ks nx ∧ ks.length < 64 ∧ s ∈ ks ∧ 0 < n ∧
  ∀ (y : Int) H', y ∈ ks → SameP (iN nx) y s → (∀ x ∈ ks, SameP (iN nx) x s → y ≤ x) → Same H H' → Q (.int y) H'
--CUT
/-! ### the root of a house: the least house of its ring (pure) -/
theorem tk_snoc {α : Type} {ys : List α} {i : Nat} {y : α} (h : ys[i]? = some y) : ys.take (i + 1) = ys.take i ++ [y] := by rw [List.take_add_one, h]; rfl
section
variable {f : Int → Int} {s : Int} {ks : List Int}
theorem lasso_ex (cl : ∀ k ∈ ks, f k ∈ ks) (hs : s ∈ ks) : ∃ m, Lasso f s m ∧ m ≤ ks.length := by
  have go : ∀ i, (met f s i).Nodup ∨ ∃ m, Lasso f s m := fun i => by
    induction i with
    | zero => exact .inl List.nodup_nil
    | succ i ih =>
      rcases ih with ih | ih
      · by_cases hm : itr f s i ∈ met f s i
        · exact .inr ⟨i, Lasso.of ih hm⟩
        · refine .inl ?_
          rw [met_succ]
          exact List.nodup_append.mpr ⟨ih, by simp, fun a ha b hb e => hm (by rw [List.mem_singleton.mp hb] at e; rw [← e]; exact ha)⟩
      · exact .inr ih
  rcases go (ks.length + 1) with h | ⟨m, L⟩
  · have := met_le cl hs h
    omega
  · exact ⟨m, L, L.le cl hs⟩
theorem least_mem : ∀ {xs : List Int}, xs ≠ [] → ∃ y ∈ xs, ∀ x ∈ xs, y ≤ x
  | [], h => absurd rfl h
  | [a], _ => ⟨a, List.mem_singleton.mpr rfl, fun x hx => by rw [List.mem_singleton.mp hx]; exact Int.le_refl _⟩
  | a :: b :: r, _ => by
    obtain ⟨y, hy, h⟩ := least_mem (xs := b :: r) (by simp)
    by_cases e : a ≤ y
    · exact ⟨a, List.mem_cons_self, fun x hx => (List.mem_cons.mp hx).elim (fun z => by rw [z]; exact Int.le_refl _) fun z => Int.le_trans e (h x z)⟩
    · exact ⟨y, List.mem_cons_of_mem _ hy, fun x hx => (List.mem_cons.mp hx).elim (fun z => by rw [z]; omega) fun z => h x z⟩
theorem turned_ex {xs : List Int} (h : xs ≠ []) : ∃ ys, Turned xs ys := by
  obtain ⟨y, hy, hm⟩ := least_mem h
  obtain ⟨k, h1, h2⟩ := first_idx hy
  exact ⟨_, k, y, h1, hm, h2, rfl⟩
theorem ring_ex (cl : ∀ k ∈ ks, f k ∈ ks) (hs : s ∈ ks) : ∃ y ys, RingL f s (y :: ys) := by
  obtain ⟨m, L, _⟩ := lasso_ex cl hs
  obtain ⟨g, G⟩ := L.gate
  obtain ⟨ys, t⟩ := turned_ex (xs := (met f s m).drop g) (fun z => by
    have := congrArg List.length z
    rw [List.length_drop, met_len, List.length_nil] at this
    have := G.2.1
    omega)
  have R := turned_ring G t
  match ys, (R.mem cl hs).2.1, R with
  | y :: r, _, R => exact ⟨y, r, R⟩
noncomputable def rootF (f : Int → Int) (s : Int) : Int := @Classical.epsilon Int ⟨0⟩ fun y => ∃ ys, RingL f s (y :: ys)
theorem root_of {y : Int} {r : List Int} (R : RingL f s (y :: r)) : rootF f s = y := by
  obtain ⟨ys, R2⟩ := @Classical.epsilon_spec Int (fun y => ∃ ys, RingL f s (y :: ys)) ⟨y, r, R⟩
  exact (List.cons.inj ((RingL.eq R2 R).mpr ⟨0, 0, rfl⟩)).1
theorem root_same {a b x y : Int} {xs ys : List Int} (Ra : RingL f a (x :: xs)) (Rb : RingL f b (y :: ys)) : rootF f a = rootF f b ↔ SameP f a b := by
  rw [root_of Ra, root_of Rb]
  constructor
  · intro e
    obtain ⟨u, p, h1, G, _, i, hi⟩ := id Ra
    obtain ⟨v, q, k1, J, _, j, hj⟩ := id Rb
    have e1 : u = x := by
      have h0 : (met f u p)[0]? = some u := met_get G.1.pos
      rw [← h1] at h0
      exact (Option.some.inj h0).symm
    have e2 : v = y := by
      have h0 : (met f v q)[0]? = some v := met_get J.1.pos
      rw [← k1] at h0
      exact (Option.some.inj h0).symm
    exact ⟨i, j, by rw [hi, hj, e1, e2, e]⟩
  · intro h
    exact (List.cons.inj ((RingL.eq Ra Rb).mpr h)).1
theorem smp_root (cl : ∀ k ∈ ks, f k ∈ ks) {a b : Int} (ha : a ∈ ks) (hb : b ∈ ks) : smp f a b = decide (rootF f a = rootF f b) := by
  obtain ⟨x, xs, Ra⟩ := ring_ex cl ha
  obtain ⟨y, ys, Rb⟩ := ring_ex cl hb
  have h := root_same Ra Rb
  by_cases e : rootF f a = rootF f b
  · rw [decide_eq_true e]
    exact smp_iff.mpr (h.mp e)
  · rw [decide_eq_false e]
    exact Bool.eq_false_iff.mpr fun z => e (h.mpr (smp_iff.mp z))
theorem ring_far {ys : List Int} {m k : Nat} (R : RingL f s ys) (L : Lasso f s m) (h : m ≤ k) : itr f s k ∈ ys := by
  obtain ⟨y, p, rfl, J, _, i, ei⟩ := R
  obtain ⟨j, hj, e⟩ := L.all i
  rw [show k = j + (k - j) by omega, itr_add, ← e, ei]
  exact ring_walk J _
theorem gate_mem {ys : List Int} {m g j : Nat} (G : Gate f s m g) (R : RingL f s ys) (h : j ≤ g) : itr f s j ∈ ys ↔ j = g := by
  have hg := G.2.1
  have L' : Lasso f (itr f s j) (m - j) := by
    refine ⟨fun a b ha hb e => ?_, g - j, by omega, ?_⟩
    · rw [← itr_add, ← itr_add] at e
      have := G.1.dis _ _ (by omega) (by omega) e
      omega
    · rw [← itr_add, ← itr_add, show j + (m - j) = m by omega, show j + (g - j) = g by omega]
      exact G.2.2
  have G' : Gate f (itr f s j) (m - j) (g - j) := by
    refine ⟨L', by omega, ?_⟩
    rw [← itr_add, ← itr_add, show j + (m - j) = m by omega, show j + (g - j) = g by omega]
    exact G.2.2
  have R' : RingL f (itr f s j) ys := by
    obtain ⟨y, p, e, J, mn, i, ei⟩ := R
    have pp := J.1.pos
    have lp : itr f y (j * p) = y := by
      have := laps_itr (f := f) (s := y) (g := 0) (p := p) (by rw [Nat.zero_add]; exact J.2.2) 0 j
      rw [Nat.zero_add, Nat.zero_add] at this
      exact this
    have le : j ≤ j * p := Nat.le_mul_of_pos_right j pp
    refine ⟨y, p, e, J, mn, i + j * p - j, ?_⟩
    rw [← itr_add, show j + (i + j * p - j) = i + j * p by omega, itr_add, ei, lp]
  have h1 := RingL.on G' R'
  rw [← itr_add, show j + (g - j) = g by omega] at h1
  rw [← h1]
  constructor
  · intro e
    exact (G.1.dis _ _ hg (by omega) e).symm
  · intro e
    rw [e]
end
--CUT
/-! ### the law's rings -/
theorem far_gate {f : Int → Int} {s : Int} {ks : List Int} (cl : ∀ k ∈ ks, f k ∈ ks) (hs : s ∈ ks) : ∃ p, Gate f (itr f s ks.length) p 0 ∧ p ≤ ks.length := by
  obtain ⟨m, L, lm⟩ := lasso_ex cl hs
  obtain ⟨y, ys, R⟩ := ring_ex cl hs
  have hc := ring_far R L lm
  have mc := itr_mem cl hs ks.length
  obtain ⟨p, L2, lp⟩ := lasso_ex cl mc
  obtain ⟨g, G⟩ := L2.gate
  obtain ⟨y2, ys2, R2⟩ := ring_ex cl mc
  have e := (RingL.eq R2 R).mpr ⟨0, ks.length, rfl⟩
  have h1 := (RingL.on G R2).mpr (by rw [e]; exact hc)
  have g0 := G.1.dis g 0 G.2.1 G.1.pos h1
  rw [g0] at G
  exact ⟨p, G, lp⟩
theorem turned_head {xs ys : List Int} {m : Int} (t : Turned xs ys) (hm : m ∈ xs) (h : ∀ y ∈ xs, m ≤ y) : ∃ r, ys = m :: r := by
  obtain ⟨k, y, h1, h2, _, rfl⟩ := t
  have e : y = m := by
    have a := h2 m hm
    have b := h y (List.mem_of_getElem? h1)
    omega
  obtain ⟨hk, e2⟩ := List.getElem?_eq_some_iff.mp h1
  rw [List.drop_eq_getElem_cons hk, e2, e]
  exact ⟨_, rfl⟩
theorem turned_of {xs : List Int} {k : Nat} {m : Int} (hk : xs[k]? = some m) (h : ∀ y ∈ xs, m ≤ y) (no : ∀ (i : Nat) (x : Int), i < k → xs[i]? = some x → x ≠ m) : Turned xs (xs.drop k ++ xs.take k) := ⟨k, m, hk, h, no, rfl⟩
theorem far_ring {f : Int → Int} {s c : Int} {p i : Nat} {ys : List Int} (e : itr f s i = c) (G : Gate f c p 0) (t : Turned (met f c p) ys) : RingL f s ys := by
  obtain ⟨y, q, h1, h2, h3, j, hj⟩ := turned_ring G (by rw [List.drop_zero]; exact t)
  exact ⟨y, q, h1, h2, h3, i + j, by rw [itr_add, e, hj]⟩
theorem root_min {f : Int → Int} {s c m : Int} {p i : Nat} (e : itr f s i = c) (G : Gate f c p 0) (hm : m ∈ met f c p) (h : ∀ y ∈ met f c p, m ≤ y) : rootF f s = m := by
  obtain ⟨ys, t⟩ := turned_ex (xs := met f c p) (fun z => by rw [z] at hm; nomatch hm)
  obtain ⟨r, rfl⟩ := turned_head t hm h
  exact root_of (far_ring e G t)
theorem WN.lenx' {ks : List Int} {nx : List (Key × V)} (W : WN ks nx) : nx.length = ks.length := by have := congrArg List.length W.gn.1; rw [List.length_map, List.length_map] at this; exact this
def sp__law_ring (K : PySem.W.Frag) : Sp := fun vs H Q _ => ∃ (dN : Addr) (s : Int) (nx : List (Key × V)) (ks : List Int), vs = [.ref dN, .int s] ∧ H dN = some (.dK nx) ∧ WN ks nx ∧ s ∈ ks ∧
  ∀ p l H', Gate (iN nx) (itr (iN nx) s ks.length) p 0 → p ≤ ks.length → Same H H' → H l = none → H' l = some (.lst ((met (iN nx) (itr (iN nx) s ks.length) p).map V.int)) → Q (.ref l) H'
theorem T0.ok__law_ring (T : T0 K mg) : FnOk P w K mg base CX0 1 T.a__law_ring T.fd__law_ring ["nexts", "house"] (sp__law_ring K) := by
  refine T.F__law_ring.ok sc__law_ring (fun vs H Q E h => ?_) (fun cdv A outer s0 H vs Q E hr h => ?_)
  · obtain ⟨dN, s, nx, ks, rfl, _⟩ := h
    rfl
  · obtain ⟨dN, s, nx, ks, rfl, hN, W, hs, q⟩ := h
    refine ⟨_, (C8.pss_cut (ps_for PassesOwn.never rfl (pi_range1 (by rfl) T.m_range (pa_cons (pe_callB call_lenD (by rfl) T.m_len PySem.boot_len (pa_cons (pv 0) pa_nil)) pa_nil)) (pg_name (i := 2) sc__law_ring.nd rfl (Or.inl rfl)) (pss_one (ps_set (i := 1) sc__law_ring.nd rfl (Or.inl rfl) (pe_dget (un1 hr) (pv 0) (pv 1) (fun _ _ => rfl)))))
        (pss_cons (ps_set (i := 3) sc__law_ring.nd rfl (Or.inl rfl) (pe_lst (pa_cons (pv 1) pa_nil)))
        (pss_cons (ps_set (i := 4) sc__law_ring.nd rfl (Or.inl rfl) (pe_dget (un1 hr) (pv 0) (pv 1) (fun _ _ => rfl)))
        (C8.pss_cut (ps_for PassesOwn.never rfl (pi_range1 (by rfl) T.m_range (pa_cons (pe_callB call_lenD (by rfl) T.m_len PySem.boot_len (pa_cons (pv 0) pa_nil)) pa_nil)) (pg_name (i := 2) sc__law_ring.nd rfl (Or.inl rfl)) (pss_cons (ps_if (pt_cmpR op_eq (pv 4) (pv 1) (nomark _)) (pss_one ps_break) pss_nil)
        (pss_cons (ps_expr (pe_bm PySem.F.plainAttrs_list PySem.F.slot_list_append PySem.F.type_list_append mt_append (pv 3) (pa_cons (pv 4) pa_nil)))
        (pss_one (ps_set (i := 4) sc__law_ring.nd rfl (Or.inl rfl) (pe_dget (un1 hr) (pv 0) (pv 4) (fun _ _ => rfl)))))))
        (pss_one (ps_ret (pv 3))))))), ?_⟩
    have ln := W.lenx'
    have wl' := W.len
    refine ⟨fun σ' H' => ∃ o2 : Option V, σ' = [some (.ref dN), some (.int (itr (iN nx) s ks.length)), o2, none, none] ∧ H = H', ?_, ?_⟩
    · refine ⟨_, rfl, dN, _, rfl, hN, (nx.length : Int), rfl, by omega, by omega, ?_⟩
      refine for_range (lo := 0) (n := ((nx.length : Nat) : Int).toNat) (fun i σ' H' => ∃ o2 : Option V, σ' = [some (.ref dN), some (.int (itr (iN nx) s i)), o2, none, none] ∧ H' = H) ⟨none, rfl, rfl⟩ (fun i σ' H' hi pv => ?_) (fun σ' H' pv => ?_)
      · obtain ⟨o2, rfl, rfl⟩ := pv
        exact ⟨_, rfl, _, rfl, dN, _, rfl, dget_of (k := Sum.inl _) hN (W.at_ (itr_mem W.cl hs i)), _, rfl, rfl⟩
      · obtain ⟨o2, rfl, rfl⟩ := pv
        refine ⟨o2, ?_, rfl⟩
        rw [Int.toNat_natCast, ln]
    rintro _ _ ⟨o2, rfl, rfl⟩
    obtain ⟨p, G, lp⟩ := far_gate W.cl hs
    have hc := itr_mem W.cl hs ks.length
    obtain ⟨c, ec⟩ : ∃ c, itr (iN nx) s ks.length = c := ⟨_, rfl⟩
    rw [ec] at G hc q
    simp only [ec]
    refine ⟨_, rfl, lenL (by show 1 ≤ 100000; decide), fun l nl => ?_⟩
    have s1 := same_upd (o := .lst [.int c]) nl
    have e1 : upd H l (.lst [.int c]) l = some (.lst [.int c]) := upd_same
    generalize upd H l (.lst [.int c]) = H1 at s1 e1
    refine ⟨_, rfl, _, rfl, dN, _, rfl, dget_of (k := Sum.inl _) (s1 _ _ hN) (W.at_ hc), ?_⟩
    refine ⟨fun σ' H' => ∃ o2 o4 : Option V, σ' = [some (.ref dN), some (.int c), o2, some (.ref l), o4] ∧ Same H H' ∧ H' l = some (.lst ((met (iN nx) c p).map V.int)), ?_, ?_⟩
    · refine ⟨_, rfl, dN, _, rfl, s1 _ _ hN, (nx.length : Int), rfl, by omega, by omega, ?_⟩
      refine for_range (lo := 0) (n := ((nx.length : Nat) : Int).toNat) (fun i σ' H' => ∃ o2 : Option V, σ' = [some (.ref dN), some (.int c), o2, some (.ref l), some (.int (itr (iN nx) c (i + 1)))] ∧ i < p ∧ Same H H' ∧ H' l = some (.lst ((met (iN nx) c (i + 1)).map V.int))) ⟨_, rfl, G.1.pos, s1, e1⟩ (fun i σ' H' hi pv => ?_) (fun σ' H' pv => ?_)
      · obtain ⟨o2, rfl, ip, s2, e2⟩ := pv
        refine ⟨_, rfl, _, rfl, rfl, _, rfl, ?_⟩
        rw [dec_int]
        by_cases e : itr (iN nx) c (i + 1) = c
        · refine iteT' (decide_eq_true e) ?_
          have ei : i + 1 = p := by
            by_cases z : i + 1 < p
            · have := G.1.dis (i + 1) 0 z G.1.pos e
              omega
            · omega
          rw [ei] at e2
          exact ⟨_, _, rfl, s2, e2⟩
        · refine iteF' (decide_eq_false e) ?_
          have ip2 : i + 1 < p := by
            by_cases z : i + 1 = p
            · exact absurd (by rw [z]; exact G.2.2) e
            · omega
          have mi := itr_mem W.cl hc (i + 1)
          refine ⟨_, rfl, .inl ⟨rfl, _, SqL.of e2⟩, _, rfl, l, _, _, rfl, rfl, e2, small1000' (by rw [List.length_map, met_len]; omega), ?_⟩
          have s3 : Same H (upd H' l (.lst ((met (iN nx) c (i + 1)).map V.int ++ [.int (itr (iN nx) c (i + 1))]))) := fun a o ea => (upd_ne (ne_of_none ea nl)).trans (s2 _ _ ea)
          refine ⟨_, rfl, _, rfl, dN, _, rfl, dget_of (k := Sum.inl _) (s3 _ _ hN) (W.at_ mi), _, rfl, ip2, s3, ?_⟩
          rw [upd_same, met_succ (i + 1), List.map_append]
          rfl
      · obtain ⟨o2, rfl, ip, s2, e2⟩ := pv
        rw [Int.toNat_natCast] at ip
        omega
    rintro _ H2 ⟨o2, o4, rfl, s2, e2⟩
    exact ⟨_, rfl, q p l H2 G lp s2 nl e2⟩
def sp__law_root (K : PySem.W.Frag) : Sp := fun vs H Q _ => ∃ (dN : Addr) (s : Int) (nx : List (Key × V)) (ks : List Int), vs = [.ref dN, .int s] ∧ H dN = some (.dK nx) ∧ WN ks nx ∧ s ∈ ks ∧ ∀ H', Same H H' → Q (.int (rootF (iN nx) s)) H'
theorem T0.ok__law_root (T : T0 K mg) : FnOk P w K mg base CX0 2 T.a__law_root T.fd__law_root ["nexts", "house"] (sp__law_root K) := by
  refine T.F__law_root.ok sc__law_root (fun vs H Q E h => ?_) (fun cdv A outer s0 H vs Q E hr h => ?_)
  · obtain ⟨dN, s, nx, ks, rfl, _⟩ := h
    rfl
  · obtain ⟨dN, s, nx, ks, rfl, hN, W, hs, q⟩ := h
    refine ⟨_, (pss_one (ps_ret (pe_callB (cr_min rfl) (by rfl) T.m_min (by decide +kernel) (pa_cons (pe_call T.ok__law_ring hr (by rfl) T.g__law_ring T.k__law_ring T.b__law_ring .nil pass0 (pa_cons (pv 0) (pa_cons (pv 1) pa_nil))) pa_nil)))), ?_⟩
    refine ⟨_, rfl, _, rfl, dN, s, nx, ks, rfl, hN, W, hs, fun p l H1 G lp s1 nl e1 => ?_⟩
    refine ⟨l, _, rfl, SqL.of e1, by rw [met_len]; exact G.1.pos, fun m hm hmin => ?_⟩
    have := q H1 s1
    rw [root_min rfl G hm hmin] at this
    exact this
def sp__law_roots (K : PySem.W.Frag) : Sp := fun vs H Q _ => ∃ (dN : Addr) (nx : List (Key × V)) (ks : List Int), vs = [.ref dN] ∧ H dN = some (.dK nx) ∧ WN ks nx ∧ ks.length < 64 ∧ ks.Nodup ∧
  ∀ (ys : List Int) d H', ys.Perm ks → ys.Pairwise (· ≤ ·) → Same H H' → H d = none → H' d = some (.dK (ys.map fun y => (.inl y, .int (rootF (iN nx) y)))) → Q (.ref d) H'
def sp__law_gate (K : PySem.W.Frag) : Sp := fun vs H Q _ => ∃ (dN l : Addr) (s : Int) (nx : List (Key × V)) (ks ys : List Int) (m g : Nat), vs = [.ref dN, .ref l, .int s] ∧ H dN = some (.dK nx) ∧ H l = some (.lst (ys.map V.int)) ∧ WN ks nx ∧ s ∈ ks ∧ RingL (iN nx) s ys ∧ Gate (iN nx) s m g ∧ Q (.int (itr (iN nx) s g)) H
noncomputable def rtD (nx : List (Key × V)) (ys : List Int) : List (Key × V) := ys.map fun y => (.inl y, .int (rootF (iN nx) y))
theorem rtD_at {nx : List (Key × V)} {ys : List Int} {k : Int} (h : k ∈ ys) : valV (rtD nx ys) (.inl k) = some (.int (rootF (iN nx) k)) := valV_map_mem (f := fun y => .int (rootF (iN nx) y)) h
--CUT
def sp_way (C : Addr) : Sp := fun vs H Q _ => ∃ (h dn db dl : Addr) (n s e : Int) (nx bf : List (Key × V)) (ls : List V) (ks : List Int), vs = [.ref h, .int s, .int e] ∧ NetAt C H h n dn db dl nx bf ls ∧ WN ks nx ∧ s ∈ ks ∧ e ∈ ks ∧ 0 < n ∧
  ∀ m H', Lasso (iN nx) s m → m ≤ ks.length → Same H H' → ((∀ j, j < m → itr (iN nx) s j = e → ∀ l, H l = none → H' l = some (.lst ((met (iN nx) s (j + 1)).map V.int)) → Q (.ref l) H') ∧ ((∀ j, j < m → itr (iN nx) s j ≠ e) → Q .non H'))
def sp_way_length (C : Addr) : Sp := fun vs H Q _ => ∃ (h dn db dl : Addr) (n s e : Int) (nx bf : List (Key × V)) (ls : List V) (ks : List Int), vs = [.ref h, .int s, .int e] ∧ NetAt C H h n dn db dl nx bf ls ∧ WN ks nx ∧ s ∈ ks ∧ e ∈ ks ∧ 0 < n ∧
  ∀ m H', Lasso (iN nx) s m → m ≤ ks.length → Same H H' → ((∀ j, j < m → itr (iN nx) s j = e → Q (.int (wl n (iN nx) s j)) H') ∧ ((∀ j, j < m → itr (iN nx) s j ≠ e) → Q .non H'))
theorem T0.ok_way_length (T : T0 K mg) : FnOk P w K mg base CX0 4 T.a_way_length T.fd_way_length ["net", "start", "end"] (sp_way_length T.C_Net) := by
  refine T.F_way_length.ok sc_way_length (fun vs H Q E h => ?_) (fun cdv A outer s0 H vs Q E hr h => ?_)
  · obtain ⟨h, dn, db, dl, n, s, e, nx, bf, ls, ks, rfl, _⟩ := h
    rfl
  · obtain ⟨h, dn, db, dl, n, s, e, nx, bf, ls, ks, rfl, N0, W, hs, he, n0, q⟩ := h
    refine ⟨_, (pss_cons (ps_set (i := 3) sc_way_length.nd rfl (Or.inl rfl) (pe_call T.ok__lengths_from hr (by rfl) T.g__lengths_from T.k__lengths_from T.b__lengths_from .nil pass0 (pa_cons (pv 0) (pa_cons (pv 1) pa_nil))))
        (pss_cons (ps_expr (pe_meth (pv 0) T.cl_Net T.me_Net__check_house T.ok_Net__check_house (hr.mono (by decide)) T.b_Net__check_house .nil pass0 (pa_cons (pv 2) pa_nil)))
        (pss_one (ps_ret (pe_dget1 (un1 hr) (pv 3) (pv 2) ⟨rfl, rfl, rfl, rfl⟩))))), ?_⟩
    refine ⟨_, rfl, _, rfl, h, dn, db, dl, n, s, nx, bf, ls, ks, rfl, N0, W, hs, n0, fun m H1 d L lm s1 nd e1 => ?_⟩
    have N1 := N0.same s1
    obtain ⟨dx, hh⟩ := N1.me
    refine ⟨_, rfl, h, dx, _, rfl, hh, (by unfold nf; walk_at "lk"), _, rfl, h, dn, db, dl, n, e, nx, bf, ls, rfl, N1, (by rw [W.at_ he]; rfl), ?_⟩
    obtain ⟨q1, q2⟩ := q m H1 L lm s1
    refine ⟨_, rfl, d, rfl, .inl ⟨_, .inl e1⟩, _, rfl, _, DGet.k (k := Sum.inl e) e1, ?_⟩
    by_cases hm : e ∈ met (iN nx) s m
    · obtain ⟨j, hj, ej⟩ := met_mem.mp hm
      rw [← ej, wrows_val L.nodup hj]
      exact q1 j hj ej
    · rw [wrows_no hm]
      exact q2 fun j hj ej => hm (met_mem.mpr ⟨j, hj, ej⟩)
def sp_house_at (C : Addr) : Sp := fun vs H Q _ => ∃ (h dn db dl : Addr) (n s x : Int) (nx bf : List (Key × V)) (ls : List V) (ks : List Int), vs = [.ref h, .int s, .int x] ∧ NetAt C H h n dn db dl nx bf ls ∧ WN ks nx ∧ s ∈ ks ∧ 0 < n ∧ n ≤ 1000000000 ∧
  ∀ k H' p, FirstAt n (iN nx) s x k → Same H H' → H' p = some (.tup [.int (itr (iN nx) s k), .int (wl n (iN nx) s k)]) → Q (.ref p) H'
theorem T0.ok_house_at (T : T0 K mg) : FnOk P w K mg base CX0 4 T.a_house_at T.fd_house_at ["net", "start", "distance"] (sp_house_at T.C_Net) := by
  refine T.F_house_at.ok sc_house_at (fun vs H Q E h => ?_) (fun cdv A outer s0 H vs Q E hr h => ?_)
  · obtain ⟨h, dn, db, dl, n, s, x, nx, bf, ls, ks, rfl, _⟩ := h
    rfl
  · obtain ⟨h, dn, db, dl, n, s, x, nx, bf, ls, ks, rfl, N0, W, hs, n0, n9, q⟩ := h
    refine ⟨_, (pss_cons (ps_set (i := 3) sc_house_at.nd rfl (Or.inl rfl) (pe_call T.ok__lengths_from hr (by rfl) T.g__lengths_from T.k__lengths_from T.b__lengths_from .nil pass0 (pa_cons (pv 0) (pa_cons (pv 1) pa_nil))))
        (pss_cons (ps_set (i := 4) sc_house_at.nd rfl (Or.inl rfl) (pe_ix (ix_listK (K := K)) (pe_callTy (call_list_dK rfl) (by rfl) T.m_list (by decide +kernel) (pa_cons (pv 3) pa_nil)) (pe_un un_neg pe_int) (fun _ _ => rfl)))
        (pss_cons (ps_set (i := 5) sc_house_at.nd rfl (Or.inl rfl) (pe_meth (pv 0) T.cl_Net T.me_Net__next_of T.ok_Net__next_of (hr.mono (by decide)) T.b_Net__next_of .nil pass0 (pa_cons (pv 4) pa_nil)))
        (pss_cons (ps_set (i := 6) sc_house_at.nd rfl (Or.inl rfl) (pe_op op_sub (pe_op op_add (pe_dget (un1 hr) (pv 3) (pv 4) (fun _ _ => rfl)) (pe_call T.ok_far (hr.mono (by decide)) (by rfl) T.g_far T.k_far T.b_far .nil pass0 (pa_cons (show PE _ _ (tFld K _ _) from pe_fld (pv 0) rfl) (pa_cons (pv 4) (pa_cons (pv 5) pa_nil))))) (pe_dget (un1 hr) (pv 3) (pv 5) (fun _ _ => rfl))))
        (pss_cons (ps_set (i := 7) sc_house_at.nd rfl (Or.inl rfl) (pe_op op_mul ((pe_op op_fdivW (pe_callB (call_max2 rfl) (by rfl) T.m_max (by decide +kernel) (pa_cons pe_int (pa_cons (pe_op op_sub (pv 2) (pe_dget (un1 hr) (pv 3) (pv 5) (fun _ _ => rfl))) pa_nil))) (pv 6))) (pv 6)))
        (pss_cons (show PS _ _ (L2.tLock _) from L2.ps_lock (ps_for PassesOwn.never rfl (pi_items (pv 3)) (pg_tup rfl (pgs_cons (pg_name (i := 8) sc_house_at.nd rfl (Or.inl rfl)) (pgs_cons (pg_name (i := 9) sc_house_at.nd rfl (Or.inl rfl)) pgs_nil))) (pss_one (ps_if (pt_cmpR op_ge (pe_op op_add (pv 9) (pv 7)) (pv 2) (nomark _)) (pss_one (ps_ret (pe_tup (pa_cons (pv 8) (pa_cons (pe_op op_add (pv 9) (pv 7)) pa_nil))))) pss_nil))))
        (pss_one (ps_ret (pe_tup (pa_cons (pv 5) (pa_cons (pe_op op_add (pe_op op_add (pe_dget (un1 hr) (pv 3) (pv 5) (fun _ _ => rfl)) (pv 6)) (pv 7)) pa_nil))))))))))), ?_⟩
    refine ⟨_, rfl, _, rfl, h, dn, db, dl, n, s, nx, bf, ls, ks, rfl, N0, W, hs, n0, fun m H1 d L lm s1 nd e1 => ?_⟩
    obtain ⟨m, rfl⟩ : ∃ m', m = m' + 1 := ⟨m - 1, by have := L.pos; omega⟩
    refine ⟨_, rfl, d, _, rfl, e1, fun l nl => ?_⟩
    rw [wrows_list]
    have s2 : Same H (upd H1 l (.lst ((met (iN nx) s (m + 1)).map V.int))) := Same.trans s1 (same_upd nl)
    have e12 : upd H1 l (.lst ((met (iN nx) s (m + 1)).map V.int)) d = some (.dK (wrows n (iN nx) s (m + 1))) := same_upd nl _ _ e1
    have e2 : upd H1 l (.lst ((met (iN nx) s (m + 1)).map V.int)) l = some (.lst ((met (iN nx) s (m + 1)).map V.int)) := upd_same
    generalize upd H1 l (.lst ((met (iN nx) s (m + 1)).map V.int)) = H2 at s2 e2 e12
    have N2 := N0.same s2
    obtain ⟨dx, hh⟩ := N2.me
    refine ⟨1, rfl, l, _, -1, .int (itr (iN nx) s m), rfl, rfl, SqL.of e2, (by rw [met_succ, List.map_append]; exact atI_last _ _), ?_⟩
    have mm := itr_mem W.cl hs m
    refine ⟨_, rfl, h, dx, _, rfl, hh, (by unfold nf; walk_at "lk"), _, rfl, h, dn, db, dl, n, itr (iN nx) s m, _, nx, bf, ls, rfl, N2, W.at_ mm, ?_⟩
    obtain ⟨g, hg, eg⟩ := L.back
    have eg : itr (iN nx) s (m + 1) = itr (iN nx) s g := eg
    have vm : valV (wrows n (iN nx) s (m + 1)) (.inl (itr (iN nx) s m)) = some (.int (wl n (iN nx) s m)) := wrows_val L.nodup (by omega)
    have vg : valV (wrows n (iN nx) s (m + 1)) (.inl (itr (iN nx) s (m + 1))) = some (.int (wl n (iN nx) s g)) := by rw [eg]; exact wrows_val L.nodup hg
    have lp := wl_lt (f := iN nx) (s := s) n0 hg
    have lu := wl_up (f := iN nx) (s := s) n0 (m + 1)
    have lu2 : ((m + 1 : Nat) : Int) * n ≤ 1000 * 1000000000 := Int.mul_le_mul (by have := W.len; omega) n9 (by omega) (by omega)
    have g0 := wl_pos (f := iN nx) (s := s) n0 g
    refine ⟨_, rfl, _, rfl, d, _, rfl, dget_of (k := Sum.inl _) e12 vm, _, rfl, h, _, dx, _, _, rfl, hh, T.cl_Net, T.na_Net_size, nf_size, _, rfl, _, rfl, n, _, _, rfl, n0, _, _, rfl, rfl, _, rfl, _, rfl, d, _, rfl, dget_of (k := Sum.inl _) e12 vg, _, _, rfl, rfl, ?_⟩
    have ew : wl n (iN nx) s m + farL n (itr (iN nx) s m) (iN nx (itr (iN nx) s m)) = wl n (iN nx) s (m + 1) := rfl
    rw [ew]
    refine ⟨_, rfl, _, rfl, _, rfl, d, _, rfl, dget_of (k := Sum.inl _) e12 vg, _, _, rfl, rfl, _, _, rfl, _, rfl, _, _, rfl, rfl, wide_div (b := 64) (by omega) (by omega) (by decide) (by decide), _, rfl, _, _, rfl, rfl, .inr ⟨by omega, by omega⟩, ?_⟩
    rw [max_if]
    obtain ⟨skip, ek⟩ : ∃ skip, max 0 (x - wl n (iN nx) s g) / (wl n (iN nx) s (m + 1) - wl n (iN nx) s g) * (wl n (iN nx) s (m + 1) - wl n (iN nx) s g) = skip := ⟨_, rfl⟩
    refine ⟨d, _, e12, trivial, fun od => ?_⟩
    refine ⟨_, rfl, d, od, _, rfl, upd_same, ?_⟩
    refine for_it walk_items (fun i σ' H' => ∃ o8 o9 : Option V, σ' = [some (.ref h), some (.int s), some (.int x), some (.ref d), some (.int (itr (iN nx) s m)), some (.int (itr (iN nx) s (m + 1))), some (.int (wl n (iN nx) s (m + 1) - wl n (iN nx) s g)), some (.int skip), o8, o9] ∧ (∀ j, j < i → wl n (iN nx) s j + skip < x) ∧ H' d = some (.frz od (.dK (wrows n (iN nx) s (m + 1)))) ∧ (∀ a o, a ≠ d → H2 a = some o → H' a = some o))
      ⟨none, none, (by rw [← ek]; rfl), fun _ z => absurd z (by omega), upd_same, fun a o na e => (upd_ne na).trans e⟩ (fun i σ' H' _ pv => by obtain ⟨_, _, _, _, e, _⟩ := pv; exact e) (fun i y σ' H3 H4 hi pv hy => ?_) (fun σ' H3 pv => ?_)
    · obtain ⟨o8, o9, rfl, lo, e3, f3⟩ := pv
      obtain ⟨t, yk, yv, rfl, nt, rfl, hk, hv⟩ := hy
      have hi : i < m + 1 := by rw [wrows_len] at hi; exact hi
      have gi : (wrows n (iN nx) s (m + 1))[i]? = some (Sum.inl (itr (iN nx) s i), V.int (wl n (iN nx) s i)) := by
        unfold wrows
        rw [List.getElem?_map, List.getElem?_range hi]
        rfl
      have hk : ((wrows n (iN nx) s (m + 1))[i]?).map (fun kv => kV kv.1) = some yk := hk
      have hv : ((wrows n (iN nx) s (m + 1))[i]?).map Prod.snd = some yv := hv
      rw [gi] at hk hv
      cases hk
      cases hv
      have dt : d ≠ t := ne_of_none e3 nt
      refine ⟨t, _, rfl, SqT.of upd_same, rfl, ?_⟩
      have e4 := (upd_ne (o := .tup [kV (Sum.inl (itr (iN nx) s i)), V.int (wl n (iN nx) s i)]) dt).trans e3
      have f4 : ∀ a o, a ≠ d → H2 a = some o → upd H3 t (.tup [kV (Sum.inl (itr (iN nx) s i)), V.int (wl n (iN nx) s i)]) a = some o := fun a o na e => (upd_ne (ne_of_none (f3 _ _ na e) nt)).trans (f3 _ _ na e)
      generalize upd H3 t (.tup [kV (Sum.inl (itr (iN nx) s i)), V.int (wl n (iN nx) s i)]) = H4 at e4 f4
      refine ⟨_, _, rfl, _, _, rfl, rfl, ?_⟩
      refine ⟨_, rfl, _, rfl, _, _, rfl, rfl, _, rfl, _, _, rfl, rfl, _, rfl, ite2 (fun c => ?_) (fun c => ?_)⟩
      · have c : x ≤ wl n (iN nx) s i + skip := of_decide_eq_true c
        obtain ⟨k, fa, e5, e6⟩ := laps_first (f := iN nx) (s := s) (d := x) n0 hg eg (j := i) (by omega) (fun j hj => by rw [ek]; exact lo j hj) (fun _ => by rw [ek]; exact c)
        rw [ek] at e6
        refine ⟨_, rfl, _, rfl, _, rfl, _, _, rfl, rfl, lenL (by show 2 ≤ 100000; decide), fun p np => ?_⟩
        have dp : d ≠ p := ne_of_none e4 np
        refine ⟨(upd_ne dp).trans e4, q k _ p fa (fun a o e => ?_) ?_⟩
        · by_cases ad : a = d
          · rw [ad, nd] at e
            cases e
          · rw [upd_ne ad, upd_ne (ne_of_none (f4 _ _ ad (s2 _ _ e)) np)]
            exact f4 _ _ ad (s2 _ _ e)
        · rw [upd_ne dp.symm, upd_same, e5, e6]
          rfl
      · have c : ¬ x ≤ wl n (iN nx) s i + skip := fun z => c (decide_eq_true z)
        refine ⟨_, _, rfl, fun j hj => ?_, e4, f4⟩
        by_cases ej : j = i
        · rw [ej]; omega
        · exact lo j (by omega)
    · obtain ⟨o8, o9, rfl, lo, e3, f3⟩ := pv
      rw [wrows_len] at lo
      refine ⟨e3, ?_⟩
      have e4 : upd H3 d (.dK (wrows n (iN nx) s (m + 1))) d = some (.dK (wrows n (iN nx) s (m + 1))) := upd_same
      have s4 : Same H (upd H3 d (.dK (wrows n (iN nx) s (m + 1)))) := fun a o e => by
        by_cases ad : a = d
        · rw [ad, nd] at e
          cases e
        · rw [upd_ne ad]
          exact f3 _ _ ad (s2 _ _ e)
      generalize upd H3 d (.dK (wrows n (iN nx) s (m + 1))) = H4 at e4 s4
      refine ⟨_, rfl, _, rfl, _, rfl, d, _, rfl, dget_of (k := Sum.inl _) e4 vg, _, rfl, _, _, rfl, rfl, _, rfl, _, _, rfl, rfl, lenL (by show 2 ≤ 100000; decide), fun p np => ?_⟩
      obtain ⟨k, fa, e5, e6⟩ := laps_first (f := iN nx) (s := s) (d := x) n0 hg eg (j := m + 1) (by omega) (fun j hj => by rw [ek]; exact lo j hj) (fun z => absurd z (by omega))
      rw [ek] at e6
      refine q k _ p fa (Same.trans s4 (same_upd np)) ?_
      have e7 : wl n (iN nx) s g + (wl n (iN nx) s (m + 1) - wl n (iN nx) s g) + skip = wl n (iN nx) s (m + 1) + skip := by omega
      rw [upd_same, e5, e6, ← e7]
theorem eqv_pair (a b c d : Int) : PyData.eqv (.tuple [.int a, .int b]) (.tuple [.int c, .int d]) = decide (a = c ∧ b = d) := by
  rw [PyData.eqv, PyData.eqvAll, PyData.eqvAll, PyData.eqvAll, PyData.eqv, PyData.eqv, Bool.and_true]
  by_cases h1 : a = c <;> by_cases h2 : b = d <;> simp [h1, h2]
/-! ### holds_true, is_faithful -/
def sp_holds_true (K : PySem.W.Frag) (C : Addr) : Sp := fun vs H Q _ => ∃ (h dn db dl p : Addr) (n s e x : Int) (nx bf : List (Key × V)) (ls : List V) (ks : List Int), vs = [.ref h, .ref p] ∧ H p = some (.tup [.int s, .int e, .int x]) ∧ NetAt C H h n dn db dl nx bf ls ∧ WN ks nx ∧ s ∈ ks ∧ 0 < n ∧ n ≤ 1000000000 ∧ 1 ≤ x ∧
  ∀ k H', FirstAt n (iN nx) s x k → Same H H' → Q (.bl (decide (itr (iN nx) s k = e ∧ wl n (iN nx) s k = x))) H'
theorem T0.ok_holds_true (T : T0 K mg) : FnOk P w K mg base CX0 5 T.a_holds_true T.fd_holds_true ["net", "saying"] (sp_holds_true K T.C_Net) := by
  refine T.F_holds_true.ok sc_holds_true (fun vs H Q E h => ?_) (fun cdv A outer s0 H vs Q E hr h => ?_)
  · obtain ⟨h, dn, db, dl, p, n, s, e, x, nx, bf, ls, ks, rfl, _⟩ := h
    rfl
  · obtain ⟨h, dn, db, dl, p, n, s, e, x, nx, bf, ls, ks, rfl, hp, N0, W, hs, n0, n9, x1, q⟩ := h
    refine ⟨_, (pss_cons (ps_asg (pv 1) (pg_tup rfl (pgs_cons (pg_name (i := 2) sc_holds_true.nd rfl (Or.inl rfl)) (pgs_cons (pg_name (i := 3) sc_holds_true.nd rfl (Or.inl rfl)) (pgs_cons (pg_name (i := 4) sc_holds_true.nd rfl (Or.inl rfl)) pgs_nil)))))
        (pss_one (ps_ret (pe_and (pe_cmpR op_ge (pv 4) pe_int (nomark _)) (pe_one (pe_cmpR (op_eqD hr.units) (pe_call T.ok_house_at hr (by rfl) T.g_house_at T.k_house_at T.b_house_at .nil pass0 (pa_cons (pv 0) (pa_cons (pv 2) (pa_cons (pv 4) pa_nil)))) (pe_tup (pa_cons (pv 3) (pa_cons (pv 4) pa_nil))) (nomark _))))))), ?_⟩
    refine ⟨_, rfl, p, _, rfl, SqT.of hp, rfl, _, _, rfl, _, _, rfl, _, _, rfl, rfl, ?_⟩
    refine ⟨_, rfl, _, _, rfl, rfl, _, rfl, iteT' (decide_eq_true x1) ?_⟩
    refine ⟨_, rfl, _, rfl, _, rfl, h, dn, db, dl, n, s, x, nx, bf, ls, ks, rfl, N0, W, hs, n0, n9, fun k H1 p1 F s1 e1 => ?_⟩
    refine ⟨_, rfl, _, rfl, lenL (by show 2 ≤ 100000; decide), fun p2 np2 => ?_⟩
    have s2 := same_upd (o := .tup [.int e, .int x]) np2
    refine ⟨_, _, .tup (SqT.of (s2 _ _ e1)) (.cons (.int _) (.cons (.int _) .nil)), .tup (SqT.of upd_same) (.cons (.int _) (.cons (.int _) .nil)), rfl, rfl, ?_⟩
    rw [eqv_pair]
    exact q k _ F (Same.trans s1 s2)
--CUT
/-! ### a saying that holds (pure) -/
def Tru (n : Int) (f : Int → Int) (s e x : Int) : Prop := ∃ k, wl n f s k = x ∧ itr f s k = e
theorem Tru.first {n : Int} {f : Int → Int} {s e x : Int} {k : Nat} (h : 0 < n) (F : FirstAt n f s x k) : Tru n f s e x ↔ itr f s k = e ∧ wl n f s k = x := by
  constructor
  · rintro ⟨j, h1, h2⟩
    have e : j = k := FirstAt.uniq h ⟨by omega, fun i hi => by have := wl_lt (f := f) (s := s) h hi; omega⟩ F
    rw [← e]
    exact ⟨h2, h1⟩
  · rintro ⟨h1, h2⟩
    exact ⟨k, h2, h1⟩
noncomputable def tru (n : Int) (f : Int → Int) (s e x : Int) : Bool := @decide (Tru n f s e x) (Classical.propDecidable _)
theorem tru_iff {n : Int} {f : Int → Int} {s e x : Int} : tru n f s e x = true ↔ Tru n f s e x := @decide_eq_true_iff (Tru n f s e x) (Classical.propDecidable _)
theorem tru_dec {n : Int} {f : Int → Int} {s e x : Int} {p : Prop} [Decidable p] (h : Tru n f s e x ↔ p) : decide p = tru n f s e x := by
  by_cases c : p
  · rw [decide_eq_true c]
    exact (tru_iff.mpr (h.mpr c)).symm
  · rw [decide_eq_false c]
    exact (Bool.eq_false_iff.mpr fun z => c (h.mp (tru_iff.mp z))).symm
/-- of a pair, at its distance -/
noncomputable def trP (n : Int) (f : Int → Int) (q : Int × Int) : Bool := tru n f q.1 q.2 (farL n q.1 q.2)
theorem prs_mem {nx bs : List (Key × V)} {ks ys : List Int} {Ls : List Let} (gn : GN ks nx) (perm : ys.Perm ks) (gc : GC ks bs) (hL : ∀ L ∈ Ls, ∀ k ∈ L.ns, k ∈ ks) : ∀ q ∈ Prs nx bs ys Ls, q.1 ∈ ks ∧ q.2 ∈ ks := fun q hq => by
  unfold Prs at hq
  rcases List.mem_append.mp hq with hq | hq
  · rcases List.mem_append.mp hq with hq | hq
    · obtain ⟨y, my, rfl⟩ := List.mem_map.mp hq
      have my := perm.mem_iff.mp my
      obtain ⟨x, mx, e⟩ := gn.2 y my
      refine ⟨my, ?_⟩
      show iN nx y ∈ ks
      rw [iN_of e]
      exact mx
    · obtain ⟨y, my, rfl⟩ := List.mem_map.mp hq
      obtain ⟨my, hb⟩ := List.mem_filter.mp my
      have hb := of_decide_eq_true hb
      have my := perm.mem_iff.mp my
      refine ⟨?_, my⟩
      show zO (bef bs y) ∈ ks
      unfold bef at hb ⊢
      cases e : valV bs (.inl y) with
      | none => rw [e] at hb; exact absurd rfl hb
      | some v =>
        rw [e] at hb
        rcases (gc y v e).2 with h | ⟨x, mx, h⟩
        · exact absurd h hb
        · rw [h]
          exact mx
  · obtain ⟨L, mL, hq⟩ := List.mem_flatMap.mp hq
    have h := hL L mL
    cases L with
    | tell r u =>
      have hq : q ∈ [(u, r)] := hq
      rw [List.mem_singleton.mp hq]
      exact ⟨h u (by simp [Let.ns]), h r (by simp [Let.ns])⟩
    | ask r u => nomatch (show q ∈ [] from hq)
    | answer r u m =>
      have hq : q ∈ [(m, u)] := hq
      rw [List.mem_singleton.mp hq]
      exact ⟨h m (by simp [Let.ns]), h u (by simp [Let.ns])⟩
--CUT
/-! ### what a net says, asked one by one -/
theorem LAt.len {α : Type} {f : α → List V} {H : Hp} {vs : List V} {qs : List α} (h : LAt f H vs qs) : vs.length = qs.length := h.1
/-- what a word over a net's sayings needs -/
structure Sy (C : Addr) (H : Hp) (h : Addr) (n : Int) (dn db dl : Addr) (nx bf bs : List (Key × V)) (ls : List V) (ks : List Int) (Ls : List Let) : Prop where
  net : NetAt C H h n dn db dl nx bf ls
  w : WN ks nx
  l64 : ks.length < 64
  nd : ks.Nodup
  n0 : 0 < n
  n9 : n ≤ 1000000000
  vf : VF ks bf bs
  gc : GC ks bs
  la : LAt Let.vals H ls Ls
  ns : ∀ L ∈ Ls, ∀ k ∈ L.ns, k ∈ ks
  ll : ls.length ≤ 1000
theorem Sy.same {C h dn db dl : Addr} {H H' : Hp} {n : Int} {nx bf bs : List (Key × V)} {ls : List V} {ks : List Int} {Ls : List Let} (S : Sy C H h n dn db dl nx bf bs ls ks Ls) (s : Same H H') : Sy C H' h n dn db dl nx bf bs ls ks Ls := { S with net := S.net.same s, la := S.la.same s }
def sp_first_untrue (C : Addr) : Sp := fun vs H Q _ => ∃ (h dn db dl : Addr) (n : Int) (nx bf bs : List (Key × V)) (ls : List V) (ks : List Int) (Ls : List Let), vs = [.ref h] ∧ Sy C H h n dn db dl nx bf bs ls ks Ls ∧
  ∀ (ys : List Int) H', ys.Perm ks → ys.Pairwise (· ≤ ·) → Same H H' → ((∀ q ∈ Prs nx bs ys Ls, trP n (iN nx) q = true) → Q .non H') ∧ (∀ (i : Nat) q a, (Prs nx bs ys Ls)[i]? = some q → (∀ q' ∈ (Prs nx bs ys Ls).take i, trP n (iN nx) q' = true) → trP n (iN nx) q = false → H' a = some (.tup (sV n q)) → Q (.ref a) H')
theorem T0.ok_first_untrue (T : T0 K mg) : FnOk P w K mg base CX0 6 T.a_first_untrue T.fd_first_untrue ["net"] (sp_first_untrue T.C_Net) := by
  refine T.F_first_untrue.ok sc_first_untrue (fun vs H Q E h => ?_) (fun cdv A outer s0 H vs Q E hr h => ?_)
  · obtain ⟨h, dn, db, dl, n, nx, bf, bs, ls, ks, Ls, rfl, _⟩ := h
    rfl
  · obtain ⟨h, dn, db, dl, n, nx, bf, bs, ls, ks, Ls, rfl, S, q⟩ := h
    refine ⟨_, (pss_cons (ps_for PassesOwn.never rfl (pi_list (pe_call T.ok_sayings (hr.mono (by decide)) (by rfl) T.g_sayings T.k_sayings T.b_sayings .nil pass0 (pa_cons (pv 0) pa_nil))) (pg_name (i := 1) sc_first_untrue.nd rfl (Or.inl rfl)) (pss_one (ps_if (pt_not (pt_val (pe_call T.ok_holds_true hr (by rfl) T.g_holds_true T.k_holds_true T.b_holds_true .nil pass0 (pa_cons (pv 0) (pa_cons (pv 1) pa_nil))))) (pss_one (ps_ret (pv 1))) pss_nil)))
        (pss_one (ps_ret pe_non))), ?_⟩
    refine ⟨_, rfl, h, dn, db, dl, n, nx, bf, bs, ls, ks, Ls, rfl, S.net, S.n0, S.l64, S.nd, S.w.gn, S.vf, (fun k _ => S.gc.ok k), S.ll, S.la, fun ys p us H1 perm pw s1 np e1 lu l2 => ?_⟩
    have mem := prs_mem S.w.gn perm S.gc S.ns (Ls := Ls) (bs := bs)
    have n0 := S.n0
    have q' := q ys
    generalize Prs nx bs ys Ls = P at lu q' mem
    refine ⟨p, rfl, ⟨_, SqL.of e1⟩, ?_⟩
    refine for_list (K := K) (a := p) (xs := us) (fun i σ' H' => ∃ o1 : Option V, σ' = [some (.ref h), o1] ∧ Same H1 H' ∧ ∀ q' ∈ P.take i, trP n (iN nx) q' = true) ⟨none, rfl, (fun _ _ e => e), fun _ h => by rw [List.take_zero] at h; nomatch h⟩ (fun i σ' H' _ pv => by obtain ⟨_, _, s, _⟩ := pv; exact SqL.of (s _ _ e1)) (fun i v σ' H2 hv pv => ?_) (fun σ' H2 pv => ?_)
    · obtain ⟨o1, rfl, s2, all⟩ := pv
      obtain ⟨a, c, hc, rfl, ea⟩ := lu.at hv
      obtain ⟨m1, m2⟩ := mem c (List.mem_of_getElem? hc)
      have s02 := Same.trans s1 s2
      have ea2 := s2 _ _ ea
      refine ⟨_, rfl, _, rfl, h, dn, db, dl, a, n, c.1, c.2, farL n c.1 c.2, nx, bf, ls, ks, rfl, ea2, S.net.same s02, S.w, m1, n0, S.n9, (far_range _ _ n0).1, fun k H3 F s3 => ?_⟩
      rw [tru_dec (Tru.first n0 F)]
      refine ⟨_, rfl, ?_⟩
      by_cases e : trP n (iN nx) c = true
      · have e2 : tru n (iN nx) c.1 c.2 (farL n c.1 c.2) = true := e
        rw [e2]
        refine iteF ⟨_, rfl, Same.trans s2 s3, fun q' hq' => ?_⟩
        rw [List.take_add_one, hc] at hq'
        rcases List.mem_append.mp hq' with h | h
        · exact all q' h
        · rw [List.mem_singleton.mp h]
          exact e
      · have e := Bool.eq_false_iff.mpr e
        have e2 : tru n (iN nx) c.1 c.2 (farL n c.1 c.2) = false := e
        rw [e2]
        exact iteT ⟨_, rfl, (q' H3 perm pw (Same.trans s02 s3)).2 i c a hc all e (s3 _ _ ea2)⟩
    · obtain ⟨o1, rfl, s2, all⟩ := pv
      rw [lu.1, List.take_length] at all
      exact (q' H2 perm pw (Same.trans s1 s2)).1 all
noncomputable def nearP (f : Int → Int) (s : Int) (q : Int × Int) : Bool := smp f q.1 s || smp f q.2 s
def sp_untrue_of_piece (C : Addr) : Sp := fun vs H Q _ => ∃ (h dn db dl : Addr) (n s : Int) (nx bf bs : List (Key × V)) (ls : List V) (ks : List Int) (Ls : List Let), vs = [.ref h, .int s] ∧ Sy C H h n dn db dl nx bf bs ls ks Ls ∧ s ∈ ks ∧
  ∀ (ys : List Int) p us H', ys.Perm ks → ys.Pairwise (· ≤ ·) → Same H H' → H p = none → H' p = some (.lst us) → LAt (sV n) H' us (((Prs nx bs ys Ls).filter (nearP (iN nx) s)).filter fun q => !trP n (iN nx) q) → us.length ≤ 2000 → Q (.ref p) H'
def sp_piece_is_true (C : Addr) : Sp := fun vs H Q _ => ∃ (h dn db dl : Addr) (n s : Int) (nx bf bs : List (Key × V)) (ls : List V) (ks : List Int) (Ls : List Let), vs = [.ref h, .int s] ∧ Sy C H h n dn db dl nx bf bs ls ks Ls ∧ s ∈ ks ∧
  ∀ (ys : List Int) H', ys.Perm ks → ys.Pairwise (· ≤ ·) → Same H H' → Q (.bl ((Prs nx bs ys Ls).all fun q => !nearP (iN nx) s q || trP n (iN nx) q)) H'
/-! ### the law's word for it -/
def sp__law_holds (K : PySem.W.Frag) : Sp := fun vs H Q _ => ∃ (dN p : Addr) (n s e x : Int) (nx : List (Key × V)) (ks : List Int), vs = [.int n, .ref dN, .ref p] ∧ H dN = some (.dK nx) ∧ H p = some (.tup [.int s, .int e, .int x]) ∧ WN ks nx ∧ s ∈ ks ∧ 0 < n ∧ n ≤ 1000000000 ∧ 1 ≤ x ∧ x ≤ 400 * n ∧
  Q (.bl (tru n (iN nx) s e x)) H
theorem T0.ok__law_holds (T : T0 K mg) : FnOk P w K mg base CX0 2 T.a__law_holds T.fd__law_holds ["size", "nexts", "saying"] (sp__law_holds K) := by
  refine T.F__law_holds.ok sc__law_holds (fun vs H Q E h => ?_) (fun cdv A outer s0 H vs Q E hr h => ?_)
  · obtain ⟨dN, p, n, s, e, x, nx, ks, rfl, _⟩ := h
    rfl
  · obtain ⟨dN, p, n, s, e, x, nx, ks, rfl, hN, hp, W, hs, n0, n9, x1, x9, q⟩ := h
    refine ⟨_, (pss_cons (ps_set (i := 3) sc__law_holds.nd rfl (Or.inl rfl) (pe_ix (ix_tupK (K := K)) (pv 2) pe_int (fun _ _ => rfl)))
        (pss_cons (ps_set (i := 4) sc__law_holds.nd rfl (Or.inl rfl) pe_int)
        (C8.pss_cut (ps_for PassesOwn.never rfl (pi_range1 (by rfl) T.m_range (pa_cons (pe_op op_mul (pe_callB call_lenD (by rfl) T.m_len PySem.boot_len (pa_cons (pv 1) pa_nil)) (pe_op op_add (pe_op op_fdivN (pe_ix (ix_tupK (K := K)) (pv 2) pe_int (fun _ _ => rfl)) (pv 0)) pe_int)) pa_nil)) (pg_name (i := 5) sc__law_holds.nd rfl (Or.inl rfl)) (pss_cons (ps_if (pt_cmpR op_ge (pv 4) (pe_ix (ix_tupK (K := K)) (pv 2) pe_int (fun _ _ => rfl)) (nomark _)) (pss_one ps_break) pss_nil)
        (pss_cons (ps_set (i := 4) sc__law_holds.nd rfl (Or.inl rfl) (pe_op op_add (pv 4) (pe_call T.ok__law_far hr (by rfl) T.g__law_far T.k__law_far T.b__law_far .nil pass0 (pa_cons (pv 0) (pa_cons (pv 3) (pa_cons (pe_dget (un1 hr) (pv 1) (pv 3) (fun _ _ => rfl)) pa_nil))))))
        (pss_one (ps_set (i := 3) sc__law_holds.nd rfl (Or.inl rfl) (pe_dget (un1 hr) (pv 1) (pv 3) (fun _ _ => rfl)))))))
        (pss_one (ps_ret (pe_and (pe_cmpR op_eq (pv 4) (pe_ix (ix_tupK (K := K)) (pv 2) pe_int (fun _ _ => rfl)) (nomark _)) (pe_one (pe_cmpR op_eq (pv 3) (pe_ix (ix_tupK (K := K)) (pv 2) pe_int (fun _ _ => rfl)) (nomark _))))))))), ?_⟩
    have ln := W.lenx'
    have wl' := W.len
    have d0 : 0 ≤ x / n := Int.ediv_nonneg (by omega) (by omega)
    have d1 : x / n ≤ 400 := by
      have : x / n ≤ 400 * n / n := Int.ediv_le_ediv n0 (by omega)
      rw [Int.mul_ediv_cancel _ (by omega)] at this
      exact this
    have d2 : x < n * (x / n + 1) := by
      have h1 := Int.emod_add_mul_ediv x n
      have h2 := Int.emod_lt_of_pos x n0
      rw [Int.mul_add, Int.mul_one]
      omega
    obtain ⟨r, hr'⟩ : ∃ r : Nat, x / n = r := ⟨(x / n).toNat, by omega⟩
    have wr := wl_rounds (f := iN nx) n0 W.cl hs (r + 1)
    rw [hr'] at d1 d2
    have hB : ks.length * (r + 1) ≤ 1000 * 401 := Nat.mul_le_mul wl' (by omega)
    have e3 : ((r + 1 : Nat) : Int) = r + 1 := rfl
    rw [e3] at wr
    refine ⟨_, rfl, p, _, 0, .int s, rfl, rfl, SqT.of hp, rfl, ?_⟩
    refine ⟨fun σ' H' => ∃ (k : Nat) (o5 : Option V), σ' = [some (.int n), some (.ref dN), some (.ref p), some (.int (itr (iN nx) s k)), some (.int (wl n (iN nx) s k)), o5] ∧ FirstAt n (iN nx) s x k ∧ H = H', ?_, ?_⟩
    · refine ⟨_, rfl, dN, _, rfl, hN, _, rfl, p, _, 2, .int x, rfl, rfl, SqT.of hp, rfl, _, rfl, _, _, rfl, rfl, cdivn _ n0 (by omega), _, _, rfl, rfl, _, _, rfl, rfl, .inl ⟨by omega, by omega⟩, ((ks.length * (r + 1) : Nat) : Int), congrArg (fun z => [V.int z]) ?_, by omega, by omega, ?_⟩
      · show ((nx.length : Int) * (x.fdiv n + 1)) = ((ks.length * (r + 1) : Nat) : Int)
        rw [Int.fdiv_eq_ediv_of_nonneg _ (by omega), hr', ln, Int.natCast_mul]
        rfl
      refine for_range (lo := 0) (n := ((ks.length * (r + 1) : Nat) : Int).toNat) (fun i σ' H' => ∃ (o5 : Option V), σ' = [some (.int n), some (.ref dN), some (.ref p), some (.int (itr (iN nx) s i)), some (.int (wl n (iN nx) s i)), o5] ∧ (∀ j, j < i → wl n (iN nx) s j < x) ∧ H = H') ⟨none, rfl, (fun _ h => absurd h (by omega)), rfl⟩ (fun i σ' H' hi pv => ?_) (fun σ' H' pv => ?_)
      · obtain ⟨o5, rfl, pv, rfl⟩ := pv
        have mi := itr_mem W.cl hs i
        refine ⟨_, rfl, _, rfl, p, _, 2, .int x, rfl, rfl, SqT.of hp, rfl, _, _, rfl, rfl, _, rfl, ite2 (fun c => ?_) (fun c => ?_)⟩
        · have c : x ≤ wl n (iN nx) s i := of_decide_eq_true c
          exact ⟨i, _, rfl, ⟨c, pv⟩, rfl⟩
        · have c : ¬ x ≤ wl n (iN nx) s i := fun z => c (decide_eq_true z)
          refine ⟨_, rfl, _, rfl, _, rfl, _, rfl, _, rfl, dN, _, rfl, dget_of (k := Sum.inl _) hN (W.at_ mi), n, _, _, rfl, n0, _, _, rfl, rfl, ?_⟩
          refine ⟨_, rfl, _, rfl, dN, _, rfl, dget_of (k := Sum.inl _) hN (W.at_ mi), _, rfl, fun j hj => ?_, rfl⟩
          by_cases g : j = i
          · rw [g]; omega
          · exact pv j (by omega)
      · obtain ⟨o5, rfl, pv, rfl⟩ := pv
        rw [Int.toNat_natCast] at pv
        refine ⟨_, _, rfl, ⟨?_, pv⟩, rfl⟩
        show x ≤ wl n (iN nx) s ((ks.length * (r + 1) : Nat) : Int).toNat
        rw [Int.toNat_natCast]
        omega
    rintro _ _ ⟨k, o5, rfl, F, rfl⟩
    have ev := tru_dec (e := e) (Tru.first n0 F)
    rw [← ev] at q
    refine ⟨_, rfl, _, rfl, p, _, 2, .int x, rfl, rfl, SqT.of hp, rfl, rfl, _, rfl, ?_⟩
    rw [dec_int]
    by_cases c : wl n (iN nx) s k = x
    · refine iteT' (decide_eq_true c) ⟨_, rfl, _, rfl, p, _, 1, .int e, rfl, rfl, SqT.of hp, rfl, rfl, ?_⟩
      rw [dec_int]
      have e2 : decide (itr (iN nx) s k = e ∧ wl n (iN nx) s k = x) = decide (itr (iN nx) s k = e) := decide_eq_decide.mpr ⟨fun h => h.1, fun h => ⟨h, c⟩⟩
      rw [e2] at q
      exact q
    · refine iteF' (decide_eq_false c) ?_
      have e2 : decide (itr (iN nx) s k = e ∧ wl n (iN nx) s k = x) = false := decide_eq_false fun h => c h.2
      rw [e2] at q
      exact q
--CUT
/-! ### changes that keep all truths -/
theorem far_lin' (a b : Int) {n : Int} (hn : 0 < n) (a0 : 0 ≤ a) (a1 : a < n) (b0 : 0 ≤ b) (b1 : b < n) : (a < b ∧ farL n a b = b - a) ∨ (b ≤ a ∧ farL n a b = b - a + n) := by
  unfold farL
  by_cases h : a < b
  · left
    refine ⟨h, ?_⟩
    rw [Int.fmod_eq_emod_of_nonneg _ (by omega), Int.emod_eq_of_lt (by omega) (by omega)]
    omega
  · right
    refine ⟨by omega, ?_⟩
    rw [Int.fmod_eq_emod_of_nonneg _ (by omega), show b - a - 1 = (b - a - 1 + n) + n * (-1) by omega, Int.add_mul_emod_self_left, Int.emod_eq_of_lt (by omega) (by omega)]
    omega
/-- b lies between a and y -/
def Btw (n a b y : Int) : Prop := farL n a b < farL n a y
theorem Btw.sum {n a b y : Int} (h : Btw n a b y) (hn : 0 < n) (a0 : 0 ≤ a) (a1 : a < n) (b0 : 0 ≤ b) (b1 : b < n) (y0 : 0 ≤ y) (y1 : y < n) : farL n a y = farL n a b + farL n b y ∧ b ≠ y := by
  unfold Btw at h
  have h1 := far_lin' a b hn a0 a1 b0 b1
  have h2 := far_lin' b y hn b0 b1 y0 y1
  have h3 := far_lin' a y hn a0 a1 y0 y1
  omega
/-- f, but b behind a -/
def chg (f : Int → Int) (a b : Int) : Int → Int := fun k => if k = a then b else f k
theorem chg_at {f : Int → Int} {a b : Int} : chg f a b a = b := if_pos rfl
theorem chg_ne {f : Int → Int} {a b k : Int} (h : k ≠ a) : chg f a b k = f k := if_neg h
theorem agree {n a s : Int} {f g : Int → Int} (off : ∀ k, k ≠ a → g k = f k) : ∀ {K : Nat}, (∀ i, i < K → itr f s i ≠ a) → itr g s K = itr f s K ∧ wl n g s K = wl n f s K
  | 0, _ => ⟨rfl, rfl⟩
  | K + 1, h => by
    obtain ⟨h1, h2⟩ := agree (n := n) off (K := K) fun i hi => h i (by omega)
    have h3 := off _ (h K (by omega))
    refine ⟨?_, ?_⟩
    · show g (itr g s K) = f (itr f s K)
      rw [h1, h3]
    · show wl n g s K + farL n (itr g s K) (g (itr g s K)) = wl n f s K + farL n (itr f s K) (f (itr f s K))
      rw [h2, h1, h3]
/-- the way from b comes to the next of a with just their distance -/
def Fa (n : Int) (f : Int → Int) (a b : Int) : Prop := ∃ K, itr f b K = f a ∧ wl n f b K = farL n b (f a)
structure FaC (n : Int) (f : Int → Int) (a b : Int) : Prop where
  n0 : 0 < n
  sum : farL n a (f a) = farL n a b + farL n b (f a)
  ne : b ≠ f a
theorem FaC.path {n a b : Int} {f : Int → Int} (c : FaC n f a b) (h : Fa n f a b) : ∃ J, 0 < J ∧ itr (chg f a b) a J = f a ∧ wl n (chg f a b) a J = farL n a (f a) := by
  obtain ⟨K, h1, h2⟩ := h
  have off : ∀ k, k ≠ a → chg f a b k = f k := fun k hk => chg_ne hk
  have no : ∀ i, i < K → itr f b i ≠ a := fun i hi e => by
    have w := wl_le (f := f) (s := b) c.n0 (show i + 1 ≤ K by omega)
    have e1 : wl n f b (i + 1) = wl n f b i + farL n a (f a) := by
      show wl n f b i + farL n (itr f b i) (f (itr f b i)) = _
      rw [e]
    have p := wl_pos (f := f) (s := b) c.n0 i
    have := (far_range a b c.n0).1
    have := c.sum
    omega
  obtain ⟨g1, g2⟩ := agree (n := n) off no
  have e1 : itr (chg f a b) a 1 = b := chg_at
  refine ⟨1 + K, by omega, ?_, ?_⟩
  · rw [itr_add, e1, g1, h1]
  · rw [wl_add, e1, g2, h2, c.sum]
    show 0 + farL n a (chg f a b a) + _ = _
    rw [chg_at]
    omega
theorem FaC.back {n a b : Int} {f : Int → Int} (c : FaC n f a b) {J : Nat} (h1 : itr (chg f a b) a J = f a) (h2 : wl n (chg f a b) a J = farL n a (f a)) : Fa n f a b := by
  have e1 : itr (chg f a b) a 1 = b := chg_at
  have f1 := (far_range a (f a) c.n0).1
  have f2 := (far_range b (f a) c.n0).2
  match J, h1, h2 with
  | 0, h1, h2 =>
    have : (0 : Int) = farL n a (f a) := h2
    omega
  | K + 1, h1, h2 =>
    rw [Nat.add_comm, itr_add, e1] at h1
    rw [Nat.add_comm, wl_add, e1, c.sum] at h2
    have h2 : 0 + farL n a (chg f a b a) + wl n (chg f a b) b K = farL n a b + farL n b (f a) := h2
    rw [chg_at] at h2
    have h2 : wl n (chg f a b) b K = farL n b (f a) := by omega
    have no : ∀ i, i < K → itr (chg f a b) b i ≠ a := fun i hi e => by
      have eb : itr (chg f a b) b (i + 1) = b := by
        show chg f a b (itr (chg f a b) b i) = b
        rw [e, chg_at]
      obtain ⟨q, eq⟩ := wl_dvd (f := chg f a b) (s := b) c.n0 (i + 1)
      have p := wl_pos (f := chg f a b) (s := b) c.n0 (i + 1)
      have w := wl_le (f := chg f a b) (s := b) c.n0 (show i + 1 ≤ K by omega)
      rw [eb] at eq
      have eq : wl n (chg f a b) b (i + 1) = n * q := by omega
      have q1 : 1 ≤ q := by
        refine Classical.byContradiction fun z => ?_
        have : n * q ≤ 0 := Int.mul_nonpos_of_nonneg_of_nonpos (by have := c.n0; omega) (by omega)
        omega
      have q2 : n * 1 ≤ n * q := Int.mul_le_mul_of_nonneg_left q1 (by have := c.n0; omega)
      by_cases z : i + 1 = K
      · rw [z, h1] at eb
        exact c.ne eb.symm
      · have := wl_lt (f := chg f a b) (s := b) c.n0 (show i + 1 < K by omega)
        omega
    obtain ⟨g1, g2⟩ := agree (n := n) (f := chg f a b) (g := f) (fun k hk => (chg_ne hk).symm) no
    exact ⟨K, by rw [g1, h1], by rw [g2, h2]⟩
/-- each old step is a way of as much length -/
theorem FaC.step {n a b : Int} {f : Int → Int} (c : FaC n f a b) (h : Fa n f a b) (k : Int) : ∃ J, itr (chg f a b) k J = f k ∧ wl n (chg f a b) k J = farL n k (f k) := by
  by_cases e : k = a
  · obtain ⟨J, _, h1, h2⟩ := c.path h
    rw [e]
    exact ⟨J, h1, h2⟩
  · refine ⟨1, chg_ne e, ?_⟩
    show 0 + farL n k (chg f a b k) = _
    rw [chg_ne e]
    omega
theorem Fa.first {n a b : Int} {f : Int → Int} (h0 : 0 < n) {K : Nat} (F : FirstAt n f b (farL n b (f a)) K) : Fa n f a b ↔ (itr f b K = f a ∧ wl n f b K = farL n b (f a)) := by
  refine ⟨fun ⟨J, h1, h2⟩ => ?_, fun ⟨h1, h2⟩ => ⟨K, h1, h2⟩⟩
  have : FirstAt n f b (farL n b (f a)) J := ⟨by omega, fun k hk => by rw [← h2]; exact wl_lt h0 hk⟩
  rw [F.uniq h0 this]
  exact ⟨h1, h2⟩
/-- where no house is the next of two, nothing is faithful -/
theorem Fa.no {n a b : Int} {f : Int → Int} (c : FaC n f a b) (cl : ∀ k, itr f b k = a → True) (inj : ∀ i, f (itr f b i) = f a → itr f b i = a) : ¬ Fa n f a b := fun ⟨K, h1, h2⟩ => by
  match K, h1, h2 with
  | 0, h1, _ => exact c.ne h1
  | K + 1, h1, h2 =>
    have e := inj K h1
    have e1 : wl n f b (K + 1) = wl n f b K + farL n a (f a) := by
      show wl n f b K + farL n (itr f b K) (f (itr f b K)) = _
      rw [e]
    have p := wl_pos (f := f) (s := b) c.n0 K
    have := (far_range a b c.n0).1
    have := c.sum
    omega
/-- where two houses have one next, the one farther from it may take the other -/
theorem Fa.yes {n a b : Int} {f : Int → Int} (e : f b = f a) : Fa n f a b := ⟨1, e, by
  show 0 + farL n b (f b) = _
  rw [e]
  omega⟩
/-! ### a walk -/
def wf (n : Int) (t : Addr) : List (Str × V) := [("size", .int n), ("places", .ref t)]
theorem wf_size {n : Int} {t : Addr} : (wf n t).lookup ("size" : Str) = some (.int n) := by unfold wf; walk_at "lk"
theorem wf_places {n : Int} {t : Addr} : (wf n t).lookup ("places" : Str) = some (.ref t) := by unfold wf; walk_at "lk"
structure WalkAt (C : Addr) (H : Hp) (a : Addr) (n : Int) (t : Addr) (ps : List Int) : Prop where
  me : ∃ dx, H a = some (.ins C dx (wf n t))
  row : H t = some (.tup (ps.map V.int))
theorem WalkAt.same {C a t : Addr} {H H' : Hp} {n : Int} {ps : List Int} (h : WalkAt C H a n t ps) (s : Same H H') : WalkAt C H' a n t ps := ⟨let ⟨dx, e⟩ := h.me; ⟨dx, s _ _ e⟩, s _ _ h.row⟩
def sp_Walk__init (C : Addr) : Sp := fun vs H Q _ => ∃ (h dx l : Addr) (n : Int) (ps : List Int), vs = [.ref h, .int n, .ref l] ∧ H h = some (.ins C dx []) ∧ H l = some (.lst (ps.map V.int)) ∧ h ≠ l ∧ ∀ H' t, WalkAt C H' h n t ps → Kp h H H' → H t = none → Q .non H'
theorem T0.ok_Walk__init (T : T0 K mg) : FnOk P w K mg base CX0 1 T.a_Walk__init T.fd_Walk__init ["self", "size", "places"] (sp_Walk__init T.C_Walk) := by
  refine T.F_Walk__init.ok sc_Walk__init (fun vs H Q E h => ?_) (fun cdv A outer s H vs Q E hr h => ?_)
  · obtain ⟨h, dx, l, n, ps, rfl, _⟩ := h
    rfl
  · obtain ⟨h, dx, l, n, ps, rfl, hh, hl, ne, q⟩ := h
    refine ⟨_, (pss_cons (ps_fld (pv 0) (pv 1) rfl)
        (pss_one (ps_fld (pv 0) (pe_callTy (call_tuple_ofK (K := K)) (by rfl) T.m_tuple (by decide +kernel) (pa_cons (pv 2) pa_nil)) rfl))), ?_⟩
    refine ⟨_, rfl, _, rfl, h, _, dx, [], rfl, hh, T.cl_Walk, T.na_Walk_size, (by show 0 < 1000; decide), ?_⟩
    refine ⟨_, rfl, l, _, rfl, .inl ⟨SqL.of ((upd_ne ne.symm).trans hl), fun t nt => ?_⟩⟩
    have nth : t ≠ h := fun e => by rw [e, upd_same] at nt; cases nt
    have nt0 : H t = none := by rw [upd_ne nth] at nt; exact nt
    refine ⟨_, rfl, h, _, dx, _, rfl, (upd_ne nth.symm).trans upd_same, T.cl_Walk, T.na_Walk_places, (by show 1 < 1000; decide), ?_⟩
    refine q _ t ⟨⟨dx, ?_⟩, ?_⟩ (fun b' o ne' e => ?_) nt0
    · rw [upd_same]
      have e : putF "places" (.ref t) (putF "size" (.int n) []) = wf n t := by
        walk_at "pf"
        rfl
      exact congrArg (fun z => some (HO.ins _ _ z)) e
    · rw [upd_ne nth, upd_same]
    · rw [upd_ne ne', upd_ne (ne_of_none e nt0), upd_ne ne']
      exact e
/-- the steps of a walk -/
def steps (ps : List Int) : List (Int × Int) := ps.zip (ps.drop 1)
structure StepsAt (H : Hp) (l : Addr) (ts : List Addr) (ps : List Int) : Prop where
  len : ts.length = (steps ps).length
  at_ : ∀ (j : Nat) (t : Addr), ts[j]? = some t → ∃ q, (steps ps)[j]? = some q ∧ H t = some (.tup [.int q.1, .int q.2])
theorem StepsAt.same {H H' : Hp} {l : Addr} {ts : List Addr} {ps : List Int} (h : StepsAt H l ts ps) (s : Same H H') : StepsAt H' l ts ps := ⟨h.len, fun j t e => let ⟨q, a, b⟩ := h.at_ j t e; ⟨q, a, s _ _ b⟩⟩
def sp_Walk__steps (C : Addr) : Sp := fun vs H Q _ => ∃ (h t : Addr) (n : Int) (ps : List Int), vs = [.ref h] ∧ WalkAt C H h n t ps ∧ 2 ≤ ps.length ∧ ps.length ≤ 100000 ∧ ∀ H' l ts, Same H H' → H l = none → H' l = some (.lst (ts.map V.ref)) → StepsAt H' l ts ps → Q (.ref l) H'
theorem T0.ok_Walk__steps (T : T0 K mg) : FnOk P w K mg base CX0 1 T.a_Walk__steps T.fd_Walk__steps ["self"] (sp_Walk__steps T.C_Walk) := by
  refine T.F_Walk__steps.ok sc_Walk__steps (fun vs H Q E h => ?_) (fun cdv A outer s H vs Q E hr h => ?_)
  · obtain ⟨h, t, n, ps, rfl, _⟩ := h
    rfl
  · obtain ⟨h, t, n, ps, rfl, hW, hp, hz, q⟩ := h
    obtain ⟨dx, hh⟩ := hW.me
    refine ⟨_, (pss_one (ps_ret (show PE _ _ (tZipL K _) from pe_listZip (by rfl) T.m_list (by decide +kernel) (by rfl) T.m_zip (pa_cons (show PE _ _ (tFld K _ _) from pe_fld (pv 0) rfl) (pa_cons (pe_slice (sl_tupK (K := K)) (show PE _ _ (tFld K _ _) from pe_fld (pv 0) rfl) (po_some pe_int) po_none) pa_nil))))), ?_⟩
    refine ⟨_, rfl, h, _, dx, _, _, rfl, hh, T.cl_Walk, T.na_Walk_places, wf_places, ?_⟩
    refine ⟨_, rfl, h, _, dx, _, _, rfl, hh, T.cl_Walk, T.na_Walk_places, wf_places, ?_⟩
    have i1 : HT.sIx (ps.map V.int).length 0 (some (1 : Int)) = 1 := by rw [show (1 : Int) = ((1 : Nat) : Int) from rfl, HT.sIx_nat, List.length_map]; omega
    refine ⟨_, rfl, t, _, rfl, SqT.of hW.row, (fun z => by rw [i1] at z; exact absurd z.1 (by decide)), fun u nu => ?_⟩
    have cut : cutV (ps.map V.int) (some 1) none = (ps.drop 1).map V.int := by
      unfold cutV
      rw [i1, HT.sIx_none, List.take_of_length_le (by rw [List.length_drop]; exact Nat.le_refl _), List.map_drop]
    rw [cut]
    refine ⟨t, u, _, _, rfl, SqT.of ((upd_ne (ne_of_none hW.row nu)).trans hW.row), SqT.of upd_same, fun H' l ts sm nl _ _ hl len at_ => ?_⟩
    have z : (ps.map V.int).zip ((ps.drop 1).map V.int) = (steps ps).map fun q => (V.int q.1, V.int q.2) := by
      unfold steps
      rw [List.zip_map]
      rfl
    rw [z] at len at_
    refine q H' l ts (fun b o e => sm b o (same_upd nu b o e)) ?_ hl ⟨by rw [len, List.length_map], fun j a e => ?_⟩
    · by_cases e : l = u
      · rw [e]; exact nu
      · rw [upd_ne e] at nl
        exact nl
    · obtain ⟨r, e1, e2⟩ := at_ j a e
      rw [List.getElem?_map] at e1
      obtain ⟨r', e3, rfl⟩ := Option.map_eq_some_iff.mp e1
      exact ⟨r', e3, e2⟩
theorem steps_len (ps : List Int) : (steps ps).length = ps.length - 1 := by
  unfold steps
  rw [List.length_zip, List.length_drop]
  omega
/-- the length of a walk; the steps that cover p -/
def fars (n : Int) (qs : List (Int × Int)) : List Int := qs.map fun q => farL n q.1 q.2
def covs (n p : Int) (qs : List (Int × Int)) : List (Int × Int) := qs.filter fun q => decide (farL n q.1 p ≤ farL n q.1 q.2)
def sp_Walk__total (C : Addr) : Sp := fun vs H Q _ => ∃ (h t : Addr) (n : Int) (ps : List Int), vs = [.ref h] ∧ WalkAt C H h n t ps ∧ 0 < n ∧ 2 ≤ ps.length ∧ ps.length ≤ 1000 ∧ ∀ H', Same H H' → Q (.int (fars n (steps ps)).sum) H'
theorem T0.ok_Walk__total (T : T0 K mg) : FnOk P w K mg base CX0 2 T.a_Walk__total T.fd_Walk__total ["self"] (sp_Walk__total T.C_Walk) := by
  refine T.F_Walk__total.ok sc_Walk__total (fun vs H Q E h => ?_) (fun cdv A outer s H vs Q E hr h => ?_)
  · obtain ⟨h, t, n, ps, rfl, _⟩ := h
    rfl
  · obtain ⟨h, t, n, ps, rfl, hW, hn, hp, hz, q⟩ := h
    refine ⟨_, (pss_one (ps_ret (pe_callB (call_sumK (K := K)) (by rfl) T.m_sum (by decide +kernel) (pa_cons (pe_lc (own := [("start", 1), ("end", 2)]) (g := gTup K 2 (gCons (gName 1) (gCons (gName 2) gNil))) (by rfl) sc_Walk__total.nd (pi_list (pe_meth0 (pv 0) T.cl_Walk T.me_Walk__steps T.ok_Walk__steps hr T.b_Walk__steps .nil pass0)) (blkOk_by (own := [("start", 1), ("end", 2)]) (N := ["self", "start", "end"]) (sc := defScope s_Walk__total) (by decide +kernel)) (fun _ _ _ _ _ => pg_tup rfl (pgs_cons (pg_name (i := 1) sc_Walk__total.nd rfl (Or.inl rfl)) (pgs_cons (pg_name (i := 2) sc_Walk__total.nd rfl (Or.inl rfl)) pgs_nil))) (fun _ _ _ _ _ => pts_nil) (fun _ _ _ _ _ => (pe_call T.ok_far hr (by rfl) T.g_far T.k_far T.b_far .nil pass0 (pa_cons (show PE _ _ (tFld K _ _) from pe_fld (pv 0) rfl) (pa_cons (pv 1) (pa_cons (pv 2) pa_nil)))))) pa_nil)))), ?_⟩
    obtain ⟨dx, hh⟩ := hW.me
    have sl := steps_len ps
    refine ⟨_, rfl, h, dx, _, rfl, hh, (by unfold wf; walk_at "lk"), h, t, n, ps, rfl, hW, hp, by omega, fun H1 l ts sm nl hl hS => ?_⟩
    refine ⟨l, rfl, ⟨_, SqL.of hl⟩, fun D hD => ?_⟩
    have hW1 := (hW.same sm).same (same_upd hD (o := .lst []))
    refine lc_list (K := K) (a := l) (xs := ts.map V.ref) (fun i H' => Same H1 H' ∧ H' D = some (.lst (((fars n (steps ps)).take i).map V.int))) ⟨same_upd hD, upd_same⟩ (fun i H' _ p => SqL.of (p.1 _ _ hl)) (fun i x H' hx p => ?_) (fun H2 p => ?_)
    · obtain ⟨sm2, e2⟩ := p
      rw [List.getElem?_map] at hx
      obtain ⟨a, ha, rfl⟩ := Option.map_eq_some_iff.mp hx
      obtain ⟨r, e3, e4⟩ := hS.at_ i a ha
      obtain ⟨dx, hh⟩ := ((hW.same sm).same sm2).me
      refine ⟨a, _, rfl, SqT.of (sm2 _ _ e4), rfl, _, _, rfl, ?_⟩
      refine ⟨_, _, rfl, rfl, rfl, ?_⟩
      refine lc_yes ?_
      refine ⟨_, rfl, h, _, dx, _, _, rfl, hh, T.cl_Walk, T.na_Walk_size, wf_size, ?_⟩
      have e5 : (fars n (steps ps))[i]? = some (farL n r.1 r.2) := by
        unfold fars
        rw [List.getElem?_map, e3]
        rfl
      refine ⟨_, rfl, _, rfl, n, r.1, r.2, rfl, hn, _, e2, ?_, ?_, ?_⟩
      · rw [List.length_map, List.length_take]
        exact small1000' (by unfold fars; rw [List.length_map]; omega)
      · exact fun b o e => by rw [upd_ne (ne_of_none e hD)]; exact sm2 b o e
      · rw [upd_same, take_map_succ e5]
    · obtain ⟨sm2, e2⟩ := p
      have e : (ts.map V.ref).length = (fars n (steps ps)).length := by
        unfold fars
        rw [List.length_map, List.length_map]
        exact hS.len
      rw [e, List.take_length] at e2
      exact ⟨D, _, rfl, SqL.of e2, q H2 (fun b o u => sm2 b o (sm b o u))⟩
theorem covs_succ {n p : Int} {qs : List (Int × Int)} {i : Nat} {r : Int × Int} (h : qs[i]? = some r) : covs n p (qs.take (i + 1)) = if farL n r.1 p ≤ farL n r.1 r.2 then covs n p (qs.take i) ++ [r] else covs n p (qs.take i) := by
  unfold covs
  rw [List.take_add_one, h, List.filter_append]
  show _ ++ List.filter _ [r] = _
  by_cases e : farL n r.1 p ≤ farL n r.1 r.2
  · rw [if_pos e]
    simp only [List.filter_cons, List.filter_nil, decide_eq_true e, if_true]
  · rw [if_neg e]
    simp only [List.filter_cons, List.filter_nil, decide_eq_false e, Bool.false_eq_true, if_false, List.append_nil]
def sp_Walk__crossings (C : Addr) : Sp := fun vs H Q _ => ∃ (h t : Addr) (n p : Int) (ps : List Int), vs = [.ref h, .int p] ∧ WalkAt C H h n t ps ∧ 0 < n ∧ 2 ≤ ps.length ∧ ps.length ≤ 1000 ∧ ∀ H', Same H H' → Q (.int (covs n p (steps ps)).length) H'
def sp_Walk__is_closed (C : Addr) : Sp := fun vs H Q _ => ∃ (h t : Addr) (n x : Int) (rs : List Int), vs = [.ref h] ∧ WalkAt C H h n t (rs ++ [x]) ∧ rs[0]? = some x ∧ Q (.bl true) H
theorem T0.ok_Walk__is_closed (T : T0 K mg) : FnOk P w K mg base CX0 1 T.a_Walk__is_closed T.fd_Walk__is_closed ["self"] (sp_Walk__is_closed T.C_Walk) := by
  refine T.F_Walk__is_closed.ok sc_Walk__is_closed (fun vs H Q E h => ?_) (fun cdv A outer s H vs Q E hr h => ?_)
  · obtain ⟨h, t, n, x, rs, rfl, _⟩ := h
    rfl
  · obtain ⟨h, t, n, x, rs, rfl, hW, h0, q⟩ := h
    refine ⟨_, (pss_one (ps_ret (pe_cmpR op_eq (pe_ix (ix_tupK (K := K)) (show PE _ _ (tFld K _ _) from pe_fld (pv 0) rfl) pe_int (fun _ _ => rfl)) (pe_ix (ix_tupK (K := K)) (show PE _ _ (tFld K _ _) from pe_fld (pv 0) rfl) (pe_un un_neg pe_int) (fun _ _ => rfl)) (nomark _)))), ?_⟩
    obtain ⟨dx, hh⟩ := hW.me
    have h1 : (rs ++ [x])[0]? = some x := by rw [List.getElem?_append_left (List.getElem?_eq_some_iff.mp h0).1]; exact h0
    have a0 : atI ((rs ++ [x]).map V.int) (0 : Int) = some (.int x) := by
      refine atI_nat (j := 0) ?_
      rw [List.getElem?_map, h1]
      rfl
    have a1 : atI ((rs ++ [x]).map V.int) (-1 : Int) = some (.int x) := by
      rw [List.map_append]
      exact atI_last _ _
    refine ⟨_, rfl, h, _, dx, _, _, rfl, hh, T.cl_Walk, T.na_Walk_places, wf_places, ?_⟩
    refine ⟨t, _, 0, .int x, rfl, rfl, SqT.of hW.row, a0, ?_⟩
    refine ⟨_, rfl, h, _, dx, _, _, rfl, hh, T.cl_Walk, T.na_Walk_places, wf_places, ?_⟩
    refine ⟨1, rfl, t, _, -1, .int x, rfl, rfl, SqT.of hW.row, a1, rfl, ?_⟩
    rw [decide_eq_true rfl]
    exact q
def sp_Walk__turns (C : Addr) : Sp := fun vs H Q _ => ∃ (h t : Addr) (n x : Int) (rs : List Int), vs = [.ref h] ∧ WalkAt C H h n t (rs ++ [x]) ∧ rs[0]? = some x ∧ 0 < n ∧ n ≤ 1000000001 ∧ rs.length ≤ 900 ∧ ∀ H', Same H H' → Q (.int ((fars n (steps (rs ++ [x]))).sum.fdiv n)) H'
theorem T0.ok_Walk__turns (T : T0 K mg) : FnOk P w K mg base CX0 3 T.a_Walk__turns T.fd_Walk__turns ["self"] (sp_Walk__turns T.C_Walk) := by
  refine T.F_Walk__turns.ok sc_Walk__turns (fun vs H Q E h => ?_) (fun cdv A outer s H vs Q E hr h => ?_)
  · obtain ⟨h, t, n, x, rs, rfl, _⟩ := h
    rfl
  · obtain ⟨h, t, n, x, rs, rfl, hW, h0, hn, hn2, hz, q⟩ := h
    refine ⟨_, (pss_cons (ps_if (pt_not (pt_val (pe_meth0 (pv 0) T.cl_Walk T.me_Walk__is_closed T.ok_Walk__is_closed (hr.mono (by decide)) T.b_Walk__is_closed .nil pass0))) (pss_one (ps_never)) pss_nil)
        (pss_one (ps_ret (pe_op op_fdivN (pe_meth0 (pv 0) T.cl_Walk T.me_Walk__total T.ok_Walk__total hr T.b_Walk__total .nil pass0) (show PE _ _ (tFld K _ _) from pe_fld (pv 0) rfl))))), ?_⟩
    obtain ⟨dx, hh⟩ := hW.me
    have l0 : 0 < rs.length := (List.getElem?_eq_some_iff.mp h0).1
    refine ⟨_, rfl, h, dx, _, rfl, hh, (by unfold wf; walk_at "lk"), h, t, n, x, rs, rfl, hW, h0, ?_⟩
    refine ⟨true, rfl, iteF ?_⟩
    refine ⟨_, rfl, h, dx, _, rfl, hh, (by unfold wf; walk_at "lk"), h, t, n, rs ++ [x], rfl, hW, hn, ?_, ?_, fun H1 sm => ?_⟩
    · rw [List.length_append, List.length_singleton]; omega
    · rw [List.length_append, List.length_singleton]; omega
    obtain ⟨dx, hh⟩ := (hW.same sm).me
    refine ⟨_, rfl, h, _, dx, _, _, rfl, hh, T.cl_Walk, T.na_Walk_size, wf_size, _, _, rfl, rfl, cdivn _ hn hn2, q H1 sm⟩
/-- a step that covers p comes past it once -/
theorem step_cov (a b p : Int) {n : Int} (hn : 0 < n) : farL n b p = farL n a p - farL n a b + (if farL n a p ≤ farL n a b then n else 0) := by
  rw [far_emod a b hn, far_emod a p hn, far_emod b p hn]
  have e1 := Int.emod_add_mul_ediv (b - a - 1) n
  have e2 := Int.emod_add_mul_ediv (p - a - 1) n
  have a0 := Int.emod_nonneg (b - a - 1) (by omega : n ≠ 0)
  have a1 := Int.emod_lt_of_pos (b - a - 1) hn
  have p0 := Int.emod_nonneg (p - a - 1) (by omega : n ≠ 0)
  have p1 := Int.emod_lt_of_pos (p - a - 1) hn
  revert e1 e2 a0 a1 p0 p1
  generalize (b - a - 1) % n = A
  generalize (p - a - 1) % n = P
  generalize (b - a - 1) / n = k1
  generalize (p - a - 1) / n = k2
  intro e1 e2 a0 a1 p0 p1
  by_cases e : P + 1 ≤ A + 1
  · rw [if_pos e, show p - b - 1 = (P - A - 1 + n) + n * (k2 - k1 - 1) by rw [Int.mul_sub, Int.mul_sub]; omega, Int.add_mul_emod_self_left, Int.emod_eq_of_lt (by omega) (by omega)]
    omega
  · rw [if_neg e, show p - b - 1 = (P - A - 1) + n * (k2 - k1) by rw [Int.mul_sub]; omega, Int.add_mul_emod_self_left, Int.emod_eq_of_lt (by omega) (by omega)]
    omega
theorem steps_cons (x y : Int) (l : List Int) : steps (x :: y :: l) = (x, y) :: steps (y :: l) := rfl
theorem covs_sum {n p : Int} (hn : 0 < n) : ∀ (l : List Int) (x z : Int), n * ((covs n p (steps (x :: (l ++ [z])))).length : Int) = (fars n (steps (x :: (l ++ [z])))).sum + farL n z p - farL n x p
  | [], x, z => by
    have e := step_cov x z p hn
    show n * ((covs n p [(x, z)]).length : Int) = (fars n [(x, z)]).sum + farL n z p - farL n x p
    unfold covs fars
    simp only [List.filter_cons, List.filter_nil, List.map_cons, List.map_nil, List.sum_cons, List.sum_nil]
    by_cases h : farL n x p ≤ farL n x z
    · rw [if_pos h] at e
      rw [if_pos (decide_eq_true h)]
      show n * ((0 + 1 : Nat) : Int) = _
      omega
    · rw [if_neg h] at e
      rw [if_neg (fun z => h (of_decide_eq_true z))]
      show n * ((0 : Nat) : Int) = _
      omega
  | y :: l, x, z => by
    have ih := covs_sum (p := p) hn l y z
    have e := step_cov x y p hn
    rw [show x :: ((y :: l) ++ [z]) = x :: y :: (l ++ [z]) from rfl, steps_cons]
    have f1 : (fars n ((x, y) :: steps (y :: (l ++ [z])))).sum = farL n x y + (fars n (steps (y :: (l ++ [z])))).sum := by
      unfold fars
      rw [List.map_cons, List.sum_cons]
    rw [f1]
    by_cases h : farL n x p ≤ farL n x y
    · rw [if_pos h] at e
      have f2 : covs n p ((x, y) :: steps (y :: (l ++ [z]))) = (x, y) :: covs n p (steps (y :: (l ++ [z]))) := by
        unfold covs
        rw [List.filter_cons, if_pos (decide_eq_true h)]
      rw [f2, List.length_cons, Int.natCast_add, Int.mul_add, ih]
      omega
    · rw [if_neg h] at e
      have f2 : covs n p ((x, y) :: steps (y :: (l ++ [z]))) = covs n p (steps (y :: (l ++ [z]))) := by
        unfold covs
        rw [List.filter_cons, if_neg (fun z => h (of_decide_eq_true z))]
      rw [f2, ih]
      omega
/-- a closed walk covers each place as often as it turns -/
theorem covs_turns {n p x : Int} {rs : List Int} (hn : 0 < n) (h0 : rs[0]? = some x) : ((covs n p (steps (rs ++ [x]))).length : Int) = (fars n (steps (rs ++ [x]))).sum.fdiv n := by
  cases rs with
  | nil => cases h0
  | cons y l =>
    have e : y = x := by simpa using h0
    subst e
    have z := covs_sum (p := p) hn l y y
    rw [show (y :: l) ++ [y] = y :: (l ++ [y]) from rfl]
    have z2 : (fars n (steps (y :: (l ++ [y])))).sum = n * ((covs n p (steps (y :: (l ++ [y])))).length : Int) := by omega
    rw [z2, Int.mul_fdiv_cancel_left _ (by omega)]
/-! ### the turns of a ring -/
theorem steps_snoc : ∀ (l : List Int) (a b : Int), steps (l ++ [a] ++ [b]) = steps (l ++ [a]) ++ [(a, b)]
  | [], _, _ => rfl
  | [_], _, _ => rfl
  | x :: y :: l, a, b => by
    show steps (x :: y :: (l ++ [a] ++ [b])) = steps (x :: y :: (l ++ [a])) ++ [(a, b)]
    rw [steps_cons, steps_cons, List.cons_append]
    exact congrArg _ (steps_snoc (y :: l) a b)
theorem steps_met {f : Int → Int} {y : Int} : ∀ p : Nat, steps (met f y (p + 1)) = (met f y p).map fun a => (a, f a)
  | 0 => rfl
  | p + 1 => by
    have e := met_succ (f := f) (s := y) p
    rw [met_succ (p + 1), e, steps_snoc, ← e, steps_met p, e, List.map_append]
    rfl
theorem sum_perm {xs ys : List Int} (h : xs.Perm ys) : xs.sum = ys.sum := by
  induction h with
  | nil => rfl
  | cons a _ ih => rw [List.sum_cons, List.sum_cons, ih]
  | swap a b l => simp only [List.sum_cons]; omega
  | trans _ _ i1 i2 => rw [i1, i2]
/-- the length of the ring, how often it turns, the arrows over a place -/
def ringS (n : Int) (f : Int → Int) (ys : List Int) : Int := (ys.map fun a => farL n a (f a)).sum
def overB (n : Int) (f : Int → Int) (p : Int) (a : Int) : Bool := decide (farL n a p ≤ farL n a (f a))
section
variable {f : Int → Int} {s y : Int} {p : Nat} {ys zs : List Int} {n : Int}
theorem gate_steps (G : Gate f y p 0) : (met f y p)[0]? = some y ∧ steps (met f y p ++ [y]) = (met f y p).map fun a => (a, f a) := by
  have e : itr f y p = y := G.2.2
  refine ⟨met_get G.2.1, ?_⟩
  rw [← steps_met, met_succ, e]
theorem fars_ring : fars n ((ys.map fun a => (a, f a))) = ys.map fun a => farL n a (f a) := by
  unfold fars
  rw [List.map_map]
  rfl
theorem covs_ring {q : Int} : (covs n q (ys.map fun a => (a, f a))).length = (ys.filter (overB n f q)).length := by
  unfold covs
  rw [List.filter_map, List.length_map]
  rfl
theorem over_turns {q : Int} (n0 : 0 < n) (R : RingL f s ys) : ((ys.filter (overB n f q)).length : Int) = (ringS n f ys).fdiv n := by
  obtain ⟨y, p, rfl, G, _⟩ := R
  obtain ⟨h0, e⟩ := gate_steps G
  have h := covs_turns (p := q) n0 h0
  rw [e, fars_ring, covs_ring] at h
  exact h
theorem turns_pos (n0 : 0 < n) (R : RingL f s ys) : 1 ≤ (ringS n f ys).fdiv n := by
  obtain ⟨y, p, e, G, _⟩ := id R
  have m : y ∈ ys := by
    rw [e]
    exact List.mem_of_getElem? (gate_steps G).1
  rw [← over_turns (q := f y) n0 R]
  have : y ∈ ys.filter (overB n f (f y)) := List.mem_filter.mpr ⟨m, decide_eq_true (Int.le_refl _)⟩
  have := List.length_pos_of_mem this
  omega
theorem RingL.uniq (h : RingL f s ys) (k : RingL f s zs) : ys = zs := (RingL.eq h k).mpr ⟨0, 0, rfl⟩
theorem Turned.perm {xs ys : List Int} (t : Turned xs ys) : ys.Perm xs := by
  obtain ⟨k, y, _, _, _, rfl⟩ := t
  exact List.perm_append_comm.trans (List.Perm.of_eq (List.take_append_drop k xs))
theorem ringS_perm (h : ys.Perm zs) : ringS n f ys = ringS n f zs := sum_perm (h.map _)
/-- the law's ring is the program's, turned -/
theorem far_perm {c : Int} {i : Nat} (e : itr f s i = c) (G : Gate f c p 0) (R : RingL f s ys) : ys.Perm (met f c p) := by
  obtain ⟨zs, t⟩ := turned_ex (xs := met f c p) (fun z => by
    have := congrArg List.length z
    rw [met_len, List.length_nil] at this
    have := G.2.1
    omega)
  rw [R.uniq (far_ring e G t)]
  exact t.perm
end
def sp_order_turns (K : PySem.W.Frag) : Sp := fun vs H Q _ => ∃ (n y : Int) (l : Addr) (ys : List Int), vs = [.int n, .ref l] ∧ H l = some (.lst (ys.map V.int)) ∧ ys[0]? = some y ∧ ys.length ≤ 900 ∧ 0 < n ∧ n ≤ 1000000001 ∧ ∀ H', Same H H' → Q (.int ((fars n (steps (ys ++ [y]))).sum.fdiv n)) H'
theorem T0.ok_order_turns (T : T0 K mg) : FnOk P w K mg base CX0 4 T.a_order_turns T.fd_order_turns ["size", "order"] (sp_order_turns K) := by
  refine T.F_order_turns.ok sc_order_turns (fun vs H Q E h => ?_) (fun cdv A outer s H vs Q E hr h => ?_)
  · obtain ⟨n, y, l, ys, rfl, _⟩ := h
    rfl
  · obtain ⟨n, y, l, ys, rfl, hl, h0, l9, n0, n9, q⟩ := h
    refine ⟨_, (pss_one (ps_ret (pe_meth0 (pe_make T.mk_Walk T.ok_Walk__init (hr.mono (by decide)) (by rfl) T.mc_Walk T.b_Walk__init .nil pass0 (pa_cons (pv 0) (pa_cons (pe_lst (StX.pa_star (pv 1) (pa_cons (pe_ix (ix_listK (K := K)) (pv 1) pe_int (fun _ _ => rfl)) pa_nil))) pa_nil))) T.cl_Walk T.me_Walk__turns T.ok_Walk__turns hr T.b_Walk__turns .nil pass0))), ?_⟩
    refine ⟨_, rfl, _, rfl, l, _, rfl, .inr (SqL.of hl), _, rfl, l, _, 0, .int y, rfl, rfl, SqL.of hl, (show atI (ys.map V.int) ((0 : Nat) : Int) = some (.int y) from atI_nat (by rw [List.getElem?_map, h0]; rfl)), lenL (by rw [List.length_append, List.length_map]; show _ + 1 ≤ _; omega), fun l2 nl2 h dx nh ndx ne => ?_⟩
    rw [show ys.map V.int ++ [V.int y] = (ys ++ [y]).map V.int by rw [List.map_append]; rfl] at nh ndx ⊢
    have s1 := same_upd (o := .lst ((ys ++ [y]).map V.int)) nl2
    have e1 : upd H l2 (.lst ((ys ++ [y]).map V.int)) l2 = some (.lst ((ys ++ [y]).map V.int)) := upd_same
    generalize upd H l2 (.lst ((ys ++ [y]).map V.int)) = H1 at s1 e1 nh ndx
    have s2 : Same H1 (upd (upd H1 dx (.own h)) h (.ins T.C_Walk dx [])) := fun b o e => (upd_ne (ne_of_none e nh)).trans ((upd_ne (ne_of_none e ndx)).trans e)
    have e2 : upd (upd H1 dx (.own h)) h (.ins T.C_Walk dx []) h = some (.ins T.C_Walk dx []) := upd_same
    generalize upd (upd H1 dx (.own h)) h (.ins T.C_Walk dx []) = H2 at s2 e2
    refine ⟨h, dx, l2, n, ys ++ [y], rfl, e2, s2 _ _ e1, (ne_of_none e1 nh).symm, fun H3 wt hW k3 nt => ⟨rfl, ?_⟩⟩
    have s3 : Same H1 H3 := fun b o e => k3 _ _ (ne_of_none e nh) (s2 _ _ e)
    obtain ⟨dx3, hh3⟩ := hW.me
    refine ⟨h, dx3, _, rfl, hh3, (by unfold wf; walk_at "lk"), h, wt, n, y, ys, rfl, hW, h0, n0, n9, l9, fun H4 s4 => q H4 (Same.trans s1 (Same.trans s3 s4))⟩
/-! ### the turns of a piece -/
def sp_turns_of (C : Addr) : Sp := fun vs H Q _ => ∃ (h dn db dl : Addr) (n s : Int) (nx bf : List (Key × V)) (ls : List V) (ks : List Int), vs = [.ref h, .int s] ∧ NetAt C H h n dn db dl nx bf ls ∧ WN ks nx ∧ ks.length ≤ 900 ∧ s ∈ ks ∧ 0 < n ∧ n ≤ 1000000001 ∧
  ∀ ys H', RingL (iN nx) s ys → Same H H' → Q (.int ((ringS n (iN nx) ys).fdiv n)) H'
theorem T0.ok_turns_of (T : T0 K mg) : FnOk P w K mg base CX0 5 T.a_turns_of T.fd_turns_of ["net", "house"] (sp_turns_of T.C_Net) := by
  refine T.F_turns_of.ok sc_turns_of (fun vs H Q E h => ?_) (fun cdv A outer s0 H vs Q E hr h => ?_)
  · obtain ⟨h, dn, db, dl, n, s, nx, bf, ls, ks, rfl, _⟩ := h
    rfl
  · obtain ⟨h, dn, db, dl, n, s, nx, bf, ls, ks, rfl, N0, W, l9, hs, n0, n9, q⟩ := h
    refine ⟨_, (pss_one (ps_ret (pe_call T.ok_order_turns hr (by rfl) T.g_order_turns T.k_order_turns T.b_order_turns .nil pass0 (pa_cons (show PE _ _ (tFld K _ _) from pe_fld (pv 0) rfl) (pa_cons (pe_call T.ok_ring_of hr (by rfl) T.g_ring_of T.k_ring_of T.b_ring_of .nil pass0 (pa_cons (pv 0) (pa_cons (pv 1) pa_nil))) pa_nil))))), ?_⟩
    obtain ⟨dx, hh⟩ := N0.me
    refine ⟨_, rfl, h, _, dx, _, _, rfl, hh, T.cl_Net, T.na_Net_size, nf_size, _, rfl, _, rfl, h, dn, db, dl, n, s, nx, bf, ls, ks, rfl, N0, W, hs, n0, fun m g ys l H1 G t s1 nl el => ?_⟩
    have R := turned_ring G t
    obtain ⟨mem, l0, le⟩ := R.mem W.cl hs
    have q' := q ys
    obtain ⟨y, p, e, G2, _⟩ := id R
    obtain ⟨h0, st⟩ := gate_steps G2
    rw [← e] at h0 st
    refine ⟨n, y, l, ys, rfl, el, h0, by omega, n0, n9, fun H2 s2 => ?_⟩
    have := q' H2 R (Same.trans s1 s2)
    rw [st, fars_ring]
    exact this
def sp_arrows_over (C : Addr) : Sp := fun vs H Q _ => ∃ (h dn db dl : Addr) (n s p : Int) (nx bf : List (Key × V)) (ls : List V) (ks : List Int), vs = [.ref h, .int s, .int p] ∧ NetAt C H h n dn db dl nx bf ls ∧ WN ks nx ∧ ks.length < 64 ∧ s ∈ ks ∧ 0 < n ∧
  ∀ (ys zs : List Int) l H', RingL (iN nx) s ys → zs.Perm (ys.filter (overB n (iN nx) p)) → zs.Pairwise (· ≤ ·) → Same H H' → H l = none → H' l = some (.lst (zs.map V.int)) → Q (.ref l) H'
--CUT
/-! ### the law's reckoning -/
def sp__law_turns (K : PySem.W.Frag) : Sp := fun vs H Q _ => ∃ (dN : Addr) (n s : Int) (nx : List (Key × V)) (ks : List Int), vs = [.int n, .ref dN, .int s] ∧ H dN = some (.dK nx) ∧ WN ks nx ∧ ks.length ≤ 900 ∧ s ∈ ks ∧ 0 < n ∧ n ≤ 1000000000 ∧
  ∀ ys H', RingL (iN nx) s ys → Same H H' → Q (.int ((ringS n (iN nx) ys).fdiv n)) H'
theorem T0.ok__law_turns (T : T0 K mg) : FnOk P w K mg base CX0 2 T.a__law_turns T.fd__law_turns ["size", "nexts", "house"] (sp__law_turns K) := by
  refine T.F__law_turns.ok sc__law_turns (fun vs H Q E h => ?_) (fun cdv A outer s0 H vs Q E hr h => ?_)
  · obtain ⟨dN, n, s, nx, ks, rfl, _⟩ := h
    rfl
  · obtain ⟨dN, n, s, nx, ks, rfl, hN, W, l9, hs, n0, n9, q⟩ := h
    refine ⟨_, (pss_cons (ps_set (i := 3) sc__law_turns.nd rfl (Or.inl rfl) (pe_callB (call_sumK (K := K)) (by rfl) T.m_sum (by decide +kernel) (pa_cons (pe_lc (own := [("one", 4)]) (g := gName 4) (by rfl) sc__law_turns.nd (pi_list (pe_call T.ok__law_ring hr (by rfl) T.g__law_ring T.k__law_ring T.b__law_ring .nil pass0 (pa_cons (pv 1) (pa_cons (pv 2) pa_nil)))) (blkOk_by (own := [("one", 4)]) (N := ["size", "nexts", "house", "total", "one"]) (sc := defScope s__law_turns) (by decide +kernel)) (fun _ _ _ _ _ => pg_name (i := 4) sc__law_turns.nd rfl (Or.inl rfl)) (fun _ _ _ _ _ => pts_nil) (fun _ _ _ _ _ => (pe_call T.ok__law_far hr (by rfl) T.g__law_far T.k__law_far T.b__law_far .nil pass0 (pa_cons (pv 0) (pa_cons (pv 4) (pa_cons (pe_dget (un1 hr) (pv 1) (pv 4) (fun _ _ => rfl)) pa_nil)))))) pa_nil)))
        (pss_one (ps_ret (pe_op op_fdivN (pv 3) (pv 0))))), ?_⟩
    refine ⟨_, rfl, _, rfl, dN, s, nx, ks, rfl, hN, W, hs, fun p l H1 G lp s1 nl el => ?_⟩
    have mem : ∀ a ∈ met (iN nx) (itr (iN nx) s ks.length) p, a ∈ ks := fun a ha => by
      obtain ⟨j, _, rfl⟩ := met_mem.mp ha
      exact itr_mem W.cl (itr_mem W.cl hs _) _
    have len : (met (iN nx) (itr (iN nx) s ks.length) p).length ≤ ks.length := by rw [met_len]; exact lp
    have pm := fun ys R => far_perm (ys := ys) rfl G R
    generalize met (iN nx) (itr (iN nx) s ks.length) p = rs at el mem len pm
    refine ⟨l, rfl, ⟨_, SqL.of el⟩, fun D hD => ?_⟩
    refine lc_list (K := K) (a := l) (xs := rs.map V.int) (fun i H' => Same H1 H' ∧ H' D = some (.lst (((rs.take i).map fun a => farL n a (iN nx a)).map V.int))) ⟨same_upd hD, upd_same⟩ (fun i H' _ p => SqL.of (p.1 _ _ el)) (fun i x H2 hx pv => ?_) (fun H2 pv => ?_)
    · obtain ⟨s2, e2⟩ := pv
      rw [List.getElem?_map] at hx
      obtain ⟨a, ha, rfl⟩ := Option.map_eq_some_iff.mp hx
      have ma := mem a (List.mem_of_getElem? ha)
      have hN2 := s2 _ _ (s1 _ _ hN)
      have hi : i < rs.length := (List.getElem?_eq_some_iff.mp ha).1
      refine ⟨rfl, lc_yes ?_⟩
      refine ⟨_, rfl, _, rfl, _, rfl, _, rfl, dN, _, rfl, dget_of (k := Sum.inl a) hN2 (W.at_ ma), n, a, iN nx a, rfl, n0, _, e2, ?_, ?_, ?_⟩
      · rw [List.length_map, List.length_map, List.length_take]
        exact small1000' (by omega)
      · exact fun b o eo => (upd_ne (ne_of_none eo hD)).trans (s2 _ _ eo)
      · rw [upd_same, tk_snoc ha, List.map_append, List.map_append]
        rfl
    · obtain ⟨s2, e2⟩ := pv
      rw [List.length_map, List.take_length] at e2
      refine ⟨D, _, rfl, SqL.of e2, _, rfl, _, rfl, _, _, rfl, rfl, cdivn _ n0 (by omega), ?_⟩
      obtain ⟨y, ys, R⟩ := ring_ex W.cl hs
      have := q _ H2 R (Same.trans s1 s2)
      rw [ringS_perm (pm _ R)] at this
      exact this
--CUT
/-! ### d.update(e), two dicts -/
def mergeK (kvs : List (Key × V)) : List (Key × V) → List (Key × V)
  | [] => kvs
  | p :: r => mergeK (putK kvs p.1 p.2) r
theorem mergeK_len (es : List (Key × V)) : ∀ kvs : List (Key × V), (mergeK kvs es).length ≤ kvs.length + es.length := by
  induction es with
  | nil => exact fun kvs => Nat.le_refl _
  | cons p r ih =>
    intro kvs
    have h1 := ih (putK kvs p.1 p.2)
    have h2 := length_putK kvs p.1 p.2
    show (mergeK (putK kvs p.1 p.2) r).length ≤ _
    rw [List.length_cons]
    omega
theorem kv_merge {es : List (Key × V)} {us : List (Key × Value)} (h : KV es us) : ∀ {kvs : List (Key × V)} {vs : List (Key × Value)}, KV kvs vs → KV (mergeK kvs es) (merged vs us) := by
  induction h with
  | nil => exact fun r => r
  | cons e _ ih =>
    intro kvs vs r
    obtain ⟨e1, e2⟩ := e
    show KV (mergeK (putK kvs _ _) _) (merged (stored vs _ _) _)
    rw [e1]
    exact ih (r.put _ e2)
def rDUpd : V → List V → Hp → VK → Prop := fun x vs H Q => ∃ (a b : Addr) (kvs es : List (Key × V)), x = .ref a ∧ vs = [.ref b] ∧ a ≠ b ∧ H a = some (.dK kvs) ∧ H b = some (.dK es) ∧ kvs.length + es.length ≤ sizeLine ∧ Q .non (upd H a (.dK (mergeK kvs es)))
theorem mtd_update {X : Cx} : MtR X "dict.update" rDUpd := by
  intro pins s σ H x vs v us Q I rx rv h
  obtain ⟨a, b, kvs, es, rfl, rfl, ne, ea, eb, hz, q⟩ := h
  obtain rfl : v = Value.ref a := rx
  obtain ⟨u, rfl, ru⟩ := vals1 rv
  obtain rfl : u = Value.ref b := ru
  obtain ⟨z, hd, ws, rel, dd⟩ := dk_of I.hok ea
  obtain ⟨z2, hd2, ts, rel2, dd2⟩ := dk_of I.hok eb
  have hl := mergeK_len es kvs
  refine call_meetsIn PySem.F.slot_dict_update dd.typeIs PySem.F.entry_dict_update (PySem.F.args_dict_update_2 _ _) (meets_dict_update (mixKind X.prog X.w) a b ne hd2) ⟨ws, ts, dd, dd2, by rw [← rel.length, ← rel2.length]; exact hz, fun h' dd' _ hs => ⟨.non, _, ?_, rfl, q⟩⟩
  have he : ∃ q, h'.get? a = some q := let ⟨q, _, _, hq, _⟩ := dd'; ⟨q, hq⟩
  exact d_write (t' := s.toks) I (by rw [ea]; exact True.intro) hs he (dk_new (Nat.le_trans hl hz) hd (kv_merge rel2 rel) dd')
/-! ### dict(zip(xs, ys)) of two lists, whole numbers as keys -/
section
open Sem (wp)
theorem kv_zip : ∀ {xs : List Int} {ys : List V} {us : List Value}, Vals ys us → KV ((xs.zip ys).map fun q => ((Sum.inl q.1 : Key), q.2)) ((xs.zip us).map fun q => ((Sum.inl q.1 : Key), q.2))
  | [], _, _, _ => .nil
  | _ :: _, _, _, .nil => .nil
  | _ :: _, _, _, .cons r rr => .cons ⟨rfl, r⟩ (kv_zip rr)
def zipK (xs : List Int) (ys : List V) : List (Key × V) := (xs.zip ys).map fun q => ((Sum.inl q.1 : Key), q.2)
def rDZip (K : PySem.W.Frag) : List V → Hp → VK → Prop := fun vs H Q => ∃ (a b : Addr) (xs : List Int) (ys : List V), vs = [.ref a, .ref b] ∧ SqL K H a (xs.map V.int) ∧ SqL K H b ys ∧ ∀ p, H p = none → Q (.ref p) (upd H p (.dK (mergeK [] (zipK xs ys))))
def tDZip (K : PySem.W.Frag) (ta : TA) : TE := fun σ H Q => ta σ H fun vs H1 => rDZip K vs H1 Q
theorem vals_int : ∀ {xs : List Int} {us : List Value}, Vals (xs.map V.int) us → ∀ (i : Nat) (x : Int), xs[i]? = some x → ∃ t, us[i]? = some (Value.int x t)
  | [], _, _, i, x, h => by simp at h
  | y :: r, _, .cons (a := _) r1 rr, 0, x, h => by
    have e : y = x := by simpa using h
    subst e
    obtain ⟨t, rfl⟩ := (show ∃ t, _ = Value.int y t from r1)
    exact ⟨t, rfl⟩
  | y :: r, _, .cons r1 rr, i + 1, x, h => by
    obtain ⟨t, e⟩ := vals_int rr i x (by simpa using h)
    exact ⟨t, by simpa using e⟩
variable {X : Cx}
theorem pe_dictZip {e e2 : Expr} {ta : TA} {p zp zpos pos : Pos} (hgl : Gl X "dict") (hml : X.mg "dict" = none) (hv : bootBuiltins "dict" = some (.type "dict")) (hg : Gl X "zip") (hm : X.mg "zip" = none) (ha : PA X [e, e2] ta) (hc : X.calm = true := by rfl)
    (hs1 : starEach [.Call (.Name "zip" zp) [e, e2] [] zpos] X.env = (false, eval (.Call (.Name "zip" zp) [e, e2] [] zpos) X.env) :: starEach [] X.env := by rfl)
    (hs : starEach [e, e2] X.env = (false, eval e X.env) :: starEach [e2] X.env := by rfl) (hpl : (backTo zpos (starEach [e2] X.env)).any (·.1) = false := by rfl) :
    PE X (.Call (.Name "dict" p) [.Call (.Name "zip" zp) [e, e2] [] zpos] [] pos) (tDZip X.K ta) := by
  refine ⟨fun pins s σ H Q I h => ?_⟩
  refine wpAny_Call_Name_kw (ld_blt I hgl hml hv ?_)
  refine PyProof.Rows.callWith_type1 ?_ hs1 rfl
  rw [hs1]
  show wpAny _ _ (spliced ((false, eval (.Call (.Name "zip" zp) [e, e2] [] zpos) X.env) :: backTo pos (starEach [] X.env))) _ _ s
  refine Calls.spliced_cons ?_
  refine Call_ (ld_blt I hg hm PyProof.Rows.boot_zip (PyProof.Rows.callWith_type1 (thn (ha.run zpos pins s σ H _ I h) fun us s1 ⟨vs, H1, I1, r1, q1⟩ => ?_) hs hpl))
  obtain ⟨a, b, xs, ys, ex, sx, sy, q1⟩ := q1
  subst ex
  cases r1 with
  | cons r rr =>
    cases rr with
    | cons r' rr =>
      cases rr
      cases r
      cases r'
      obtain ⟨its, rv, p1, z1⟩ := I1.list sx
      obtain ⟨its2, rv2, p2, z2⟩ := I1.list sy
      obtain ⟨o1, _, ho1, _⟩ := id p1
      obtain ⟨o2, _, ho2, _⟩ := id p2
      refine call_zip_2 p1.isList p2.isList fun h' hz hTI hTO h1 h2 hsz hk => ?_
      refine Calls.spliced_nil ?_
      have lv := rv.length
      have lv2 := rv2.length
      rw [List.length_map] at lv
      have sz : h'.objs.size = s1.heap.objs.size + 5 := hsz
      have lt5 : ∀ {q : Addr} {o : Obj} {n : Nat}, s1.heap.get? q = some o → q ≠ s1.heap.objs.size + n := fun e => Nat.ne_of_lt (Nat.lt_of_lt_of_le (Heap.lt_size e) (Nat.le_add_right _ _))
      refine call_dict_pairs (knd := mixKind X.prog X.w) (kvs := (xs.zip its2).map fun q => ((Sum.inl q.1 : Key), q.2)) (s := { s1 with heap := h' })
        (PairArg.zip _ _ _ _ _ a b (zipApart_new (Heap.lt_size ho1) (Heap.lt_size ho2)) its.toArray its2.toArray) (I1.ok.hd hc)
        ⟨hz, hTI, ⟨_, _, hTO⟩, h1, h2, p1.isList.at fun o e => hk _ o e, p2.isList.at fun o e => hk _ o e⟩ ⟨?_, fun i k v ⟨f1, f2⟩ => ?_⟩ ?_ fun h2' tk dd kk => ?_
      · rw [List.length_map, List.length_zip, List.size_toArray, List.size_toArray, lv]
      · rw [List.getElem?_toArray] at f1 f2
        have hi : i < xs.length := by rw [lv]; exact (List.getElem?_eq_some_iff.mp f1).1
        obtain ⟨t, e⟩ := vals_int rv i _ (List.getElem?_eq_getElem hi)
        rw [e] at f1
        cases f1
        refine ⟨.inl xs[i], ?_, mixKind_int _ _ _ _⟩
        rw [List.getElem?_map, (List.getElem?_zip_eq_some (z := (xs[i], v))).mpr ⟨List.getElem?_eq_getElem hi, f2⟩]
        rfl
      · rw [List.size_toArray, List.size_toArray]
        omega
      · have up : s1.heap.objs.size ≤ h'.objs.size := by rw [sz]; exact Nat.le_add_right _ _
        have hm : (h'.objs.size == sysModules) = false := beq_eq_false_iff_ne.mpr (Nat.ne_of_gt (Nat.lt_of_lt_of_le I1.big up))
        have rel : KV (mergeK [] (zipK xs ys)) (merged [] ((xs.zip its2).map fun q => ((Sum.inl q.1 : Key), q.2))) := kv_merge (kv_zip rv2) .nil
        have zl : (mergeK [] (zipK xs ys)).length ≤ sizeLine := by
          have h := mergeK_len (zipK xs ys) []
          unfold zipK at h ⊢
          rw [List.length_map, List.length_zip, List.length_nil] at h
          omega
        refine ⟨.ref h'.objs.size, upd H1 h'.objs.size (.dK (mergeK [] (zipK xs ys))), I1.laid (t' := tk) (fun b u e => kk b u (fun z => ?_) (hk b u e)) up (show ObjOk X.prog X.w _ _ _ (.dK _) from ⟨zl, hm, _, rel, dd⟩), rfl, q1 _ (I1.hok.fresh up)⟩
        simp only [List.mem_cons, List.not_mem_nil, or_false] at z
        rcases z with z | z | z | z
        · exact lt5 e z
        · exact lt5 e z
        · exact Nat.ne_of_lt (Heap.lt_size e) z
        · exact lt5 e z
end
/-! ### two tables of ints: == and != -/
def eqD (ks ls : List (Key × V)) : Bool := decide (ks.length = ls.length) && ks.all fun p => decide (valV ls p.1 = some p.2)
def intsD (ks : List (Key × V)) : Prop := ∀ p ∈ ks, ∃ i, p.2 = .int i
section
variable {X : Cx}
theorem intsD.val {ks : List (Key × V)} (h : intsD ks) {k : Key} {v : V} (e : valV ks k = some v) : ∃ i, v = .int i := by
  unfold valV at e
  obtain ⟨p, hp, rfl⟩ := Option.map_eq_some_iff.mp e
  exact h p (List.mem_of_find?_eq_some hp)
theorem hits_eqD {A : Around} {s : Shared} {kvs : List (Key × V)} {vb : List (Key × Value)} (rb : KV kvs vb) (hb : intsD kvs) {ks : List (Key × V)} {va : List (Key × Value)} (ra : KV ks va) :
    intsD ks → PySem.W.KeqHits A s vb va (ks.all fun p => decide (valV kvs p.1 = some p.2)) := by
  unfold KV at ra
  induction ra with
  | nil => intro _; exact .nil
  | @cons p q ps qs h t ih =>
    intro hp
    obtain ⟨h1, h2⟩ := h
    obtain ⟨i, ei⟩ := hp p List.mem_cons_self
    have hr := ih fun p' hm => hp p' (List.mem_cons_of_mem _ hm)
    have rr := rb.val p.1
    obtain ⟨k, v⟩ := q
    have h1' : p.1 = k := h1
    have h2 : RelV p.2 v := h2
    rw [ei] at h2
    obtain ⟨t1, rfl⟩ := (show ∃ t, v = Value.int i t from h2)
    rw [List.all_cons]
    cases hv : valV kvs p.1 with
    | none =>
      rw [hv, h1'] at rr
      have e0 : valueAt vb k = none := RelO.none_of rr
      rw [decide_eq_false (by rw [ei]; exact fun z => nomatch z), Bool.false_and]
      exact .miss e0
    | some u =>
      obtain ⟨j, rfl⟩ := hb.val hv
      rw [hv, h1'] at rr
      obtain ⟨y, hy, ry⟩ := rr.some_of
      obtain ⟨t2, rfl⟩ := (show ∃ t, y = Value.int j t from ry)
      have g := PySem.W.KeqHits.hit hy (SeqAt.EqAt.int_int (A := A) (s := s) i t1 j t2) hr
      have e : decide (some (V.int j) = some p.2) = (i == j) := by
        rw [ei]
        by_cases z : i = j
        · rw [z, decide_eq_true rfl, beq_self_eq_true]
        · rw [decide_eq_false (fun c => z (V.int.inj (Option.some.inj c)).symm), beq_eq_false_iff_ne.mpr z]
      rw [e]
      exact g
def rEqD : R2 := fun x y H Q => ∃ a b ks ls, x = .ref a ∧ y = .ref b ∧ H a = some (.dK ks) ∧ H b = some (.dK ls) ∧ intsD ks ∧ intsD ls ∧ Q (.bl (eqD ks ls)) H
def rNeD : R2 := fun x y H Q => ∃ a b ks ls, x = .ref a ∧ y = .ref b ∧ H a = some (.dK ks) ∧ H b = some (.dK ls) ∧ intsD ks ∧ intsD ls ∧ Q (.bl (!eqD ks ls)) H
theorem op_eqDI (hu : X.A.units + 1 < cLine) : OpR X (compareOp .Eq) rEqD := by
  intro pins s σ H x y v u Q I rx ry h
  obtain ⟨a, b, ks, ls, rfl, rfl, ea, eb, hl, hp, q⟩ := h
  obtain rfl : v = Value.ref a := rx
  obtain rfl : u = Value.ref b := ry
  obtain ⟨_, ya, va, ra, da⟩ := (show ObjOk X.prog X.w H s.heap a (.dK ks) from I.hok a _ ea)
  obtain ⟨_, yb, vb, rb, db⟩ := (show ObjOk X.prog X.w H s.heap b (.dK ls) from I.hok b _ eb)
  have lv : (va.length == vb.length) = decide (ks.length = ls.length) := by
    rw [← KV.length ra, ← KV.length rb]
    by_cases z : ks.length = ls.length
    · rw [decide_eq_true z, z, beq_self_eq_true]
    · rw [decide_eq_false z, beq_eq_false_iff_ne.mpr z]
  exact PySem.W.keq_eq (knd := mixKind X.prog X.w) (r := ks.all fun p => decide (valV ls p.1 = some p.2)) ya yb da db (by omega) (fun _ => hits_eqD (A := X.A.in1) (s := s) rb hp ra hl) (fin_bl I q (by rw [lv]; rfl))
theorem op_neDI (hu : X.A.units + 1 < cLine) : OpR X (compareOp .NotEq) rNeD := by
  intro pins s σ H x y v u Q I rx ry h
  obtain ⟨a, b, ks, ls, rfl, rfl, ea, eb, hl, hp, q⟩ := h
  obtain rfl : v = Value.ref a := rx
  obtain rfl : u = Value.ref b := ry
  obtain ⟨_, ya, va, ra, da⟩ := (show ObjOk X.prog X.w H s.heap a (.dK ks) from I.hok a _ ea)
  obtain ⟨_, yb, vb, rb, db⟩ := (show ObjOk X.prog X.w H s.heap b (.dK ls) from I.hok b _ eb)
  have lv : (va.length == vb.length) = decide (ks.length = ls.length) := by
    rw [← KV.length ra, ← KV.length rb]
    by_cases z : ks.length = ls.length
    · rw [decide_eq_true z, z, beq_self_eq_true]
    · rw [decide_eq_false z, beq_eq_false_iff_ne.mpr z]
  exact PySem.W.keq_ne (knd := mixKind X.prog X.w) (r := ks.all fun p => decide (valV ls p.1 = some p.2)) ya yb da db (by omega) (fun _ => hits_eqD (A := X.A.in1) (s := s) rb hp ra hl) (fin_bl I q (by rw [lv]; rfl))
end
--CUT
/-! ### what a faithful change keeps (the first part of k57m) -/
/-- each way of f is a way of g, as long -/
def Keeps (n : Int) (ks : List Int) (f g : Int → Int) : Prop := ∀ s ∈ ks, ∀ k : Nat, ∃ J, itr g s J = itr f s k ∧ wl n g s J = wl n f s k
section
variable {n : Int} {f g : Int → Int} {r x s : Int} {ks ys zs : List Int}
theorem Keeps.of_step (cl : ∀ k ∈ ks, f k ∈ ks) (h : ∀ k ∈ ks, ∃ J, itr g k J = f k ∧ wl n g k J = farL n k (f k)) : Keeps n ks f g := fun s hs k => by
  induction k with
  | zero => exact ⟨0, rfl, rfl⟩
  | succ k ih =>
    obtain ⟨J, h1, h2⟩ := ih
    obtain ⟨J', h3, h4⟩ := h (itr f s k) (itr_mem cl hs k)
    refine ⟨J + J', ?_, ?_⟩
    · rw [itr_add, h1, h3]
      rfl
    · rw [wl_add, h1, h2, h4]
      rfl
theorem Keeps.refl : Keeps n ks f f := fun _ _ k => ⟨k, rfl, rfl⟩
theorem Keeps.trans {h : Int → Int} {ks' : List Int} (a : Keeps n ks f g) (b : Keeps n ks' g h) (i : ∀ k ∈ ks, k ∈ ks') : Keeps n ks f h := fun s hs k => by
  obtain ⟨J, h1, h2⟩ := a s hs k
  obtain ⟨J', h3, h4⟩ := b s (i s hs) J
  exact ⟨J', by rw [h3, h1], by rw [h4, h2]⟩
theorem Keeps.tru (a : Keeps n ks f g) (hs : s ∈ ks) {e d : Int} (h : Tru n f s e d) : Tru n g s e d := by
  obtain ⟨k, h1, h2⟩ := h
  obtain ⟨J, h3, h4⟩ := a s hs k
  exact ⟨J, by rw [h4, h1], by rw [h3, h2]⟩
theorem FaC.keeps (c : FaC n f r x) (h : Fa n f r x) (cl : ∀ k ∈ ks, f k ∈ ks) : Keeps n ks f (chg f r x) := .of_step cl fun k _ => c.step h k
theorem SameP.refl {a : Int} : SameP f a a := ⟨0, 0, rfl⟩
/-! ### rings and turns -/
theorem onr_gate {z : Int} {j : Nat} (h : itr f z j = z) (j0 : 0 < j) : ∃ p, Gate f z p 0 ∧ ∀ i, 0 < i → itr f z i = z → p ≤ i := by
  obtain ⟨p, ⟨p0, hp⟩, mn⟩ : ∃ p, (0 < p ∧ itr f z p = z) ∧ ∀ i, (0 < i ∧ itr f z i = z) → p ≤ i := by
    have : ∀ m : Nat, (∃ i, i ≤ m ∧ 0 < i ∧ itr f z i = z) → ∃ p, (0 < p ∧ itr f z p = z) ∧ ∀ i, (0 < i ∧ itr f z i = z) → p ≤ i := fun m => by
      induction m with
      | zero =>
        rintro ⟨i, h1, h2, _⟩
        omega
      | succ m ih =>
        intro _
        by_cases e : ∃ i, i ≤ m ∧ 0 < i ∧ itr f z i = z
        · exact ih e
        · rename_i w
          obtain ⟨i, h1, h2, h3⟩ := w
          refine ⟨i, ⟨h2, h3⟩, fun k hk => ?_⟩
          refine Classical.byContradiction fun q => e ⟨k, by omega, hk.1, hk.2⟩
    exact this j ⟨j, Nat.le_refl _, j0, h⟩
  have lt : ∀ a b : Nat, a < b → b < p → itr f z a = itr f z b → False := fun a b l1 l2 e => by
    have e1 : itr f z (a + (p - b)) = z := by
      rw [itr_add, e, ← itr_add, show b + (p - b) = p by omega, hp]
    have := mn (a + (p - b)) ⟨by omega, e1⟩
    omega
  refine ⟨p, ⟨⟨fun a b ha hb e => ?_, 0, p0, hp⟩, p0, hp⟩, fun i i0 e => mn i ⟨i0, e⟩⟩
  rcases Nat.lt_trichotomy a b with l | l | l
  · exact (lt a b l hb e).elim
  · exact l
  · exact (lt b a l ha e.symm).elim
theorem ringS_wl {y : Int} : ∀ p : Nat, ringS n f (met f y p) = wl n f y p
  | 0 => rfl
  | p + 1 => by
    unfold ringS
    rw [met_succ, List.map_append, List.sum_append]
    have := ringS_wl (y := y) p
    unfold ringS at this
    rw [this]
    show _ + (farL n (itr f y p) (f (itr f y p)) + 0) = wl n f y p + farL n (itr f y p) (f (itr f y p))
    omega
theorem ring_turns {z : Int} {p i : Nat} (R : RingL f s ys) (e : itr f s i = z) (G : Gate f z p 0) : ringS n f ys = wl n f z p := by
  rw [ringS_perm (far_perm e G R), ringS_wl]
end
/-! ### marks: the maths -/
open Classical in
/-- how far o is from g along the nexts -/
noncomputable def dist (n : Int) (f : Int → Int) (o g : Int) : Int := if h : ∃ j, itr f o j = g ∧ ∀ i, i < j → itr f o i ≠ g then wl n f o (Classical.choose h) else 0
theorem dist_at {n : Int} {f : Int → Int} {o g : Int} {j : Nat} (h1 : itr f o j = g) (h2 : ∀ i, i < j → itr f o i ≠ g) : dist n f o g = wl n f o j := by
  unfold dist
  have h : ∃ j, itr f o j = g ∧ ∀ i, i < j → itr f o i ≠ g := ⟨j, h1, h2⟩
  rw [dif_pos h]
  obtain ⟨c1, c2⟩ := Classical.choose_spec h
  generalize Classical.choose h = k at c1 c2
  rcases Nat.lt_trichotomy k j with l | l | l
  · exact (h2 k l c1).elim
  · rw [l]
  · exact (c2 j l h1).elim
theorem first_at {f : Int → Int} {o g : Int} : ∀ {j : Nat}, itr f o j = g → ∃ k, k ≤ j ∧ itr f o k = g ∧ ∀ i, i < k → itr f o i ≠ g := fun {j} => by
  induction j using Nat.strongRecOn with
  | _ j ih =>
    intro h
    by_cases hx : ∃ i, i < j ∧ itr f o i = g
    · obtain ⟨i, hi, e⟩ := hx
      obtain ⟨k, k1, k2⟩ := ih i hi e
      exact ⟨k, by omega, k2⟩
    · exact ⟨j, Nat.le_refl _, h, fun i hi e => hx ⟨i, hi, e⟩⟩
theorem dist_self {n : Int} {f : Int → Int} {g : Int} : dist n f g g = 0 := dist_at (j := 0) rfl fun _ h => absurd h (Nat.not_lt_zero _)
theorem itr_one {f : Int → Int} {o : Int} (j : Nat) : itr f o (1 + j) = itr f (f o) j := by rw [itr_add]; rfl
theorem wl_one {n : Int} {f : Int → Int} {o : Int} (j : Nat) : wl n f o (1 + j) = farL n o (f o) + wl n f (f o) j := by
  rw [wl_add]
  show 0 + farL n o (f o) + wl n f (f o) j = _
  omega
theorem dist_step {n : Int} {f : Int → Int} {o g : Int} {j : Nat} (ne : o ≠ g) (h : itr f o j = g) : dist n f o g = farL n o (f o) + dist n f (f o) g := by
  obtain ⟨k, _, k1, k2⟩ := first_at h
  cases k with
  | zero => exact (ne k1).elim
  | succ k =>
    rw [Nat.add_comm] at k1 k2
    rw [dist_at k1 k2, wl_one, dist_at (o := f o) (j := k) (by rw [← itr_one]; exact k1) fun i hi e => k2 (1 + i) (by omega) (by rw [itr_one]; exact e)]
theorem dist_dvd {n : Int} {f : Int → Int} {o g : Int} {j : Nat} (n0 : 0 < n) (h : itr f o j = g) : ∃ q, dist n f o g = g - o + n * q := by
  obtain ⟨k, _, k1, k2⟩ := first_at h
  obtain ⟨q, e⟩ := wl_dvd (n := n) (f := f) (s := o) n0 k
  exact ⟨q, by rw [dist_at k1 k2, e, k1]⟩
/-- the ring's length is the way round -/
theorem gate_len {n : Int} {f : Int → Int} {g : Int} {p : Nat} (n0 : 0 < n) (G : Gate f g p 0) : (∃ q, wl n f g p = n * q ∧ 0 < q) ∧ dist n f (f g) g = wl n f g p - farL n g (f g) := by
  obtain ⟨L, p0, hp⟩ := G
  have hp : itr f g p = g := hp
  refine ⟨?_, ?_⟩
  · obtain ⟨q, e⟩ := wl_dvd (n := n) (f := f) (s := g) n0 p
    rw [hp] at e
    have := wl_pos (f := f) (s := g) n0 p
    refine ⟨q, by omega, ?_⟩
    have e2 : wl n f g p = n * q := by omega
    have : 0 < n * q := by omega
    rcases Int.lt_or_le 0 q with h | h
    · exact h
    · have := Int.mul_le_mul_of_nonneg_left h (show (0 : Int) ≤ n by omega)
      rw [Int.mul_zero] at this
      omega
  · obtain ⟨k, rfl⟩ : ∃ k, p = 1 + k := ⟨p - 1, by omega⟩
    rw [wl_one, dist_at (o := f g) (j := k) (by rw [← itr_one]; exact hp) fun i hi e => ?_]
    · omega
    · have := L.dis (1 + i) 0 (by omega) (by omega) (by rw [itr_one]; exact e)
      omega
def fmodD (x y L : Int) : Prop := ∃ q, x = y + L * q
theorem fmod_eq_of {x y L : Int} (L0 : 0 < L) (h : fmodD x y L) : x.fmod L = y.fmod L := by
  obtain ⟨q, rfl⟩ := h
  rw [Int.fmod_eq_emod_of_nonneg _ (by omega), Int.fmod_eq_emod_of_nonneg _ (by omega), Int.add_mul_emod_self_left]
theorem fmod_is {x L : Int} (L0 : 0 < L) : fmodD (x.fmod L) x L := ⟨-(x / L), by
  rw [Int.fmod_eq_emod_of_nonneg _ (by omega)]
  have := Int.emod_add_mul_ediv x L
  rw [Int.mul_neg]
  omega⟩
theorem fmod_small {x L : Int} (h0 : 0 ≤ x) (h1 : x < L) : x.fmod L = x := by
  rw [Int.fmod_eq_emod_of_nonneg _ (by omega), Int.emod_eq_of_lt h0 h1]
/-- the mark of o: L the ring's length, g the ring's least house, l the piece's -/
noncomputable def markF (n : Int) (f : Int → Int) (L g l o : Int) : Int := (l + dist n f l g - dist n f o g).fmod L
/-- what marks are -/
structure MarksOk (n : Int) (f : Int → Int) (L l : Int) (zs : List Int) (M : Int → Int) : Prop where
  rng : ∀ o ∈ zs, 0 ≤ M o ∧ M o < L
  at_ : ∀ o ∈ zs, (M o).fmod n = o
  step : ∀ o ∈ zs, (M (f o) - M o).fmod L = (farL n o (f o)).fmod L
  low : M l = l
theorem marks_ok {n : Int} {f : Int → Int} {g l : Int} {p : Nat} {zs : List Int} (n0 : 0 < n) (G : Gate f g p 0) (hz : ∀ o ∈ zs, (0 ≤ o ∧ o < n) ∧ ∃ j, itr f o j = g) (hl : l ∈ zs) : MarksOk n f (wl n f g p) l zs (markF n f (wl n f g p) g l) := by
  obtain ⟨⟨q, eL, q0⟩, hd⟩ := gate_len n0 G
  have nL : n ≤ wl n f g p := by
    rw [eL]
    have := Int.mul_le_mul_of_nonneg_left (show (1 : Int) ≤ q by omega) (show (0 : Int) ≤ n by omega)
    omega
  generalize wl n f g p = L at eL hd nL
  have L0 : 0 < L := by omega
  have cong : ∀ o, fmodD (markF n f L g l o) (l + dist n f l g - dist n f o g) L := fun o => fmod_is L0
  refine ⟨fun o _ => fmod_range _ L0, fun o ho => ?_, fun o ho => ?_, ?_⟩
  · obtain ⟨⟨o0, o1⟩, j, hj⟩ := hz o ho
    obtain ⟨_, i, hi⟩ := hz l hl
    obtain ⟨c, ec⟩ := cong o
    obtain ⟨q1, e1⟩ := dist_dvd n0 hi
    obtain ⟨q2, e2⟩ := dist_dvd n0 hj
    rw [← fmod_small o0 o1]
    refine fmod_eq_of n0 ⟨q1 - q2 + q * c, ?_⟩
    rw [fmod_small o0 o1, ec, e1, e2, eL, Int.mul_add, Int.mul_sub, Int.mul_assoc]
    omega
  · obtain ⟨_, j, hj⟩ := hz o ho
    obtain ⟨c1, e1⟩ := cong o
    obtain ⟨c2, e2⟩ := cong (f o)
    by_cases e : o = g
    · subst e
      rw [dist_self] at e1
      rw [hd] at e2
      refine fmod_eq_of L0 ⟨c2 - c1 - 1, ?_⟩
      rw [e1, e2, Int.mul_sub, Int.mul_sub]
      omega
    · have ds := dist_step (n := n) e hj
      refine fmod_eq_of L0 ⟨c2 - c1, ?_⟩
      rw [e1, e2, ds, Int.mul_sub]
      omega
  · obtain ⟨⟨l0, l1⟩, _⟩ := hz l hl
    unfold markF
    rw [show l + dist n f l g - dist n f l g = l by omega]
    exact fmod_small l0 (by omega)
/-- marks of one piece differ from house to house -/
theorem MarksOk.inj {n : Int} {f : Int → Int} {L l : Int} {zs : List Int} {M : Int → Int} (h : MarksOk n f L l zs M) {a b : Int} (ha : a ∈ zs) (hb : b ∈ zs) (e : M a = M b) : a = b := by
  rw [← h.at_ a ha, ← h.at_ b hb, e]
/-! ### all but the tables stay -/
theorem ExtN.of_same {H H' : Hp} (s : Same H H') : LamX.ExtN H H' := fun b o e _ => s b o e
theorem sqL_extN {K : PySem.W.Frag} {H H' : Hp} {a : Addr} {xs : List V} (e : LamX.ExtN H H') (h : SqL K H a xs) : SqL K H' a xs := by
  rcases h with (h | ⟨o, h⟩) | h
  · exact .inl (.inl (e _ _ h fun ps z => nomatch z))
  · exact .inl (.inr ⟨o, e _ _ h fun ps z => nomatch z⟩)
  · exact .inr h
theorem extN_lst {H H' : Hp} {a : Addr} {xs : List V} (e : LamX.ExtN H H') (h : H a = some (.lst xs)) : H' a = some (.lst xs) := e _ _ h fun ps z => nomatch z
/-- a list is written: the tables stand -/
theorem tabs_off {T : List (Addr × Str)} {t : Addr} {xs : List V} {H H' : Hp} (h : LamX.Tabs T H) (ht : H t = some (.lst xs)) (k : Kp t H H') : LamX.Tabs T H' := fun p hp => by
  obtain ⟨ps, h1, h2, h3⟩ := h p hp
  refine ⟨ps, k _ _ (fun z => ?_) h1, h2, fun pos cv hc => ?_⟩
  · rw [z, ht] at h1
    cases h1
  · obtain ⟨c, e1, e2⟩ := h3 pos cv hc
    refine ⟨c, e1, k _ _ (fun z => ?_) e2⟩
    rw [z, ht] at e2
    unfold LamX.CodeO at e2
    cases e2
section
variable {H H' : Hp}
/-- an address that nothing known stands at -/
def Off (H : Hp) (q : Addr) : Prop := ∀ b o, H b = some o → (∀ ps, o ≠ .tbl ps) → b ≠ q
theorem Off.of_none {q : Addr} (h : H q = none) : Off H q := fun b o e _ => ne_of_none e h
theorem Off.back {q : Addr} (e : LamX.ExtN H H') (h : Off H' q) : Off H q := fun b o g n => h b o (e b o g n) n
theorem Off.lst {q a : Addr} {ys : List V} (h : Off H q) (e : H a = some (.lst ys)) : a ≠ q := h _ _ e fun ps z => nomatch z
theorem ExtN.put {q : Addr} {o : HO} (e : LamX.ExtN H H') (f : Off H q) : LamX.ExtN H (upd H' q o) := fun b u hb n => (upd_ne (f b u hb n)).trans (e b u hb n)
theorem tabs_upd {T : List (Addr × Str)} {q : Addr} {o u : HO} (h : LamX.Tabs T H) (e : H q = some u) (n1 : ∀ ps, u ≠ .tbl ps) (n2 : ∀ c s, u ≠ LamX.CodeO c s) : LamX.Tabs T (upd H q o) := fun p hp => by
  obtain ⟨ps, h1, h2, h3⟩ := h p hp
  refine ⟨ps, (upd_ne fun z => ?_).trans h1, h2, fun pos cv hc => ?_⟩
  · rw [z, e] at h1
    exact n1 ps (Option.some.inj h1)
  · obtain ⟨c, e1, e2⟩ := h3 pos cv hc
    refine ⟨c, e1, (upd_ne fun z => ?_).trans e2⟩
    rw [z, e] at e2
    exact n2 _ _ (Option.some.inj e2)
theorem dK_extN {a : Addr} {kvs : List (Key × V)} (e : LamX.ExtN H H') (h : H a = some (.dK kvs)) : H' a = some (.dK kvs) := e _ _ h fun ps z => nomatch z
theorem Off.dK {q a : Addr} {kvs : List (Key × V)} (h : Off H q) (e : H a = some (.dK kvs)) : a ≠ q := h _ _ e fun ps z => nomatch z
theorem dK_code (kvs : List (Key × V)) : ∀ c s, HO.dK kvs ≠ LamX.CodeO c s := fun c s z => by unfold LamX.CodeO at z; cases z
theorem lst_code (xs : List V) : ∀ c s, HO.lst xs ≠ LamX.CodeO c s := fun c s z => by unfold LamX.CodeO at z; cases z
theorem Tape.extN {t c : Addr} (h : Tape H t c) (e : LamX.ExtN H H') : Tape H' t c := by
  obtain ⟨cs, a, b, k, r, h1, h2, h3, h4⟩ := h
  exact ⟨cs, a, b, k, r, extN_lst e h1, extN_lst e h2, h3, h4⟩
end
def keyF (n s x : Int) : Int := (x - s).fmod n
theorem keyF_inj {n s x y : Int} (hx : 0 ≤ x ∧ x < n) (hy : 0 ≤ y ∧ y < n) (e : keyF n s x = keyF n s y) : x = y := by
  unfold keyF at e
  rw [Int.fmod_eq_emod_of_nonneg _ (by omega), Int.fmod_eq_emod_of_nonneg _ (by omega)] at e
  have e1 := Int.emod_add_mul_ediv (x - s) n
  have e2 := Int.emod_add_mul_ediv (y - s) n
  rw [e] at e1
  have d : x - y = n * ((x - s) / n - (y - s) / n) := by rw [Int.mul_sub]; omega
  have hd : (x - s) / n - (y - s) / n = 0 := by
    rcases Int.lt_trichotomy ((x - s) / n - (y - s) / n) 0 with h | h | h
    · have : n * ((x - s) / n - (y - s) / n) ≤ n * (-1) := Int.mul_le_mul_of_nonneg_left (by omega) (by omega)
      omega
    · exact h
    · have : n * 1 ≤ n * ((x - s) / n - (y - s) / n) := Int.mul_le_mul_of_nonneg_left (by omega) (by omega)
      omega
  rw [hd, Int.mul_zero] at d
  omega
/-! ### places met going up -/
/-- the places as they are met going up from s -/
def metL (n s : Int) (xs : List Int) : List Int := xs.mergeSort fun a b => decide (keyF n s a ≤ keyF n s b)
theorem metL_perm (n s : Int) (xs : List Int) : (metL n s xs).Perm xs := List.mergeSort_perm _ _
theorem metL_sorted (n s : Int) (xs : List Int) : (metL n s xs).Pairwise fun a b => keyF n s a ≤ keyF n s b := by
  have h := List.pairwise_mergeSort (le := fun a b => decide (keyF n s a ≤ keyF n s b)) (fun a b c h1 h2 => by simp only [decide_eq_true_eq] at *; omega) (fun a b => by simp only [Bool.or_eq_true, decide_eq_true_eq]; omega) xs
  exact h.imp fun h => of_decide_eq_true h
theorem byKey_met (n s : Int) (xs : List Int) : byKey (xs.map V.int) (xs.map (keyF n s)) = (metL n s xs).map V.int := by
  have e : (xs.map V.int).zip (xs.map (keyF n s)) = xs.map fun x => (V.int x, keyF n s x) := by
    rw [List.zip_map']
  unfold byKey metL
  rw [e, ← List.map_mergeSort (r := fun a b => decide (keyF n s a ≤ keyF n s b)) (fun a _ b _ => rfl), List.map_map]
  rfl
theorem far_inj {n s x y : Int} (hn : 0 < n) (hx : 0 ≤ x ∧ x < n) (hy : 0 ≤ y ∧ y < n) (e : farL n s x = farL n s y) : x = y := by
  refine keyF_inj (n := n) (s := s + 1) hx hy ?_
  unfold farL at e
  unfold keyF
  rw [show x - (s + 1) = x - s - 1 by omega, show y - (s + 1) = y - s - 1 by omega]
  omega
theorem farB_inj {n s x y : Int} (hn : 0 < n) (hx : 0 ≤ x ∧ x < n) (hy : 0 ≤ y ∧ y < n) (e : farL n x s = farL n y s) : x = y := by
  unfold farL at e
  have e : (s - x - 1).fmod n = (s - y - 1).fmod n := by omega
  have h := keyF_inj (n := n) (s := 0) (x := n - 1 - x) (y := n - 1 - y) (by omega) (by omega) ?_
  · omega
  · unfold keyF
    rw [Int.fmod_eq_emod_of_nonneg _ (by omega), Int.fmod_eq_emod_of_nonneg _ (by omega)] at e ⊢
    have a1 : n - 1 - x - 0 = (s - x - 1) + (n - s) := by omega
    have a2 : n - 1 - y - 0 = (s - y - 1) + (n - s) := by omega
    rw [a1, a2, Int.add_emod, e, ← Int.add_emod]
/-- a list sorted by a key without two alike: there is but one -/
theorem sorted_one {f : Int → Int} : ∀ {xs ys : List Int}, xs.Perm ys → (∀ a ∈ xs, ∀ b ∈ xs, f a = f b → a = b) → xs.Pairwise (fun a b => f a ≤ f b) → ys.Pairwise (fun a b => f a ≤ f b) → xs = ys
  | [], ys, p, _, _, _ => by rw [List.nil_perm.mp p]
  | a :: r, [], p, _, _, _ => by have := p.length_eq; cases this
  | a :: r, b :: s, p, hi, h1, h2 => by
    have ha : a ∈ b :: s := p.mem_iff.mp List.mem_cons_self
    have hb : b ∈ a :: r := p.mem_iff.mpr List.mem_cons_self
    obtain ⟨h3, h4⟩ := List.pairwise_cons.mp h1
    obtain ⟨h5, h6⟩ := List.pairwise_cons.mp h2
    have e : a = b := by
      rcases List.mem_cons.mp ha with e | e
      · exact e
      · rcases List.mem_cons.mp hb with g | g
        · exact g.symm
        · have q1 := h5 a e
          have q2 := h3 b g
          exact hi a List.mem_cons_self b hb (by omega)
    subst e
    rw [sorted_one (List.Perm.cons_inv p) (fun x hx y hy => hi x (List.mem_cons_of_mem _ hx) y (List.mem_cons_of_mem _ hy)) h4 h6]
/-- the least by a key -/
def LeastBy (f : Int → Int) (xs : List Int) (v : V) : Prop := (xs = [] ∧ v = .non) ∨ ∃ x ∈ xs, v = .int x ∧ ∀ y ∈ xs, f x ≤ f y
theorem LeastBy.one {f : Int → Int} {xs : List Int} {u v : V} (hi : ∀ a ∈ xs, ∀ b ∈ xs, f a = f b → a = b) (h1 : LeastBy f xs u) (h2 : LeastBy f xs v) : u = v := by
  rcases h1 with ⟨e, rfl⟩ | ⟨x, hx, rfl, h1⟩
  · rcases h2 with ⟨_, rfl⟩ | ⟨y, hy, _, _⟩
    · rfl
    · rw [e] at hy; cases hy
  · rcases h2 with ⟨e, _⟩ | ⟨y, hy, rfl, h2⟩
    · rw [e] at hx; cases hx
    · have a := h1 y hy
      have b := h2 x hx
      rw [hi x hx y hy (by omega)]
theorem argMin_ok {f : Int → Int} {xs : List Int} (h : xs ≠ []) : ∃ x, xs[argMin (xs.map f)]? = some x ∧ x ∈ xs ∧ ∀ y ∈ xs, f x ≤ f y := by
  have hl : 0 < xs.length := List.length_pos_iff.mpr h
  have k := argBest_lt (fun i => (xs.map f).getD i 0) ((xs.map f).length - 1)
  unfold argMin
  generalize argBest (fun i j => decide ((xs.map f).getD i 0 < (xs.map f).getD j 0)) ((xs.map f).length - 1) = m at k ⊢
  obtain ⟨k1, k2⟩ := k
  rw [List.length_map] at k1 k2
  have hm : m < xs.length := by omega
  refine ⟨xs[m], List.getElem?_eq_getElem hm, List.getElem_mem hm, fun y hy => ?_⟩
  obtain ⟨j, hj, rfl⟩ := List.mem_iff_getElem.mp hy
  have e : ∀ i (hi : i < xs.length), (xs.map f).getD i 0 = f xs[i] := fun i hi => by
    rw [List.getD_eq_getElem?_getD, List.getElem?_map, List.getElem?_eq_getElem hi]
    rfl
  have q := k2 j (by omega)
  rw [e m hm, e j hj] at q
  exact q
--CUT
/-! ### marks: the program -/
theorem reach_ring {f : Int → Int} {s g o : Int} {p i : Nat} (G : Gate f g p 0) (e : itr f s i = g) (h : SameP f o s) : ∃ j, itr f o j = g := by
  obtain ⟨a, b, hab⟩ := h
  obtain ⟨_, p0, hp⟩ := G
  have hp : itr f g p = g := hp
  have e1 : itr f s (i + p) = itr f s i := by rw [itr_add, e, hp]
  have e2 := laps_itr e1 0 b
  have le : b ≤ i + 0 + b * p := by
    have := Nat.le_mul_of_pos_right b p0
    omega
  refine ⟨a + (i + 0 + b * p - b), ?_⟩
  rw [itr_add, hab, ← itr_add, Nat.add_sub_cancel' le, e2]
  exact e
/-- the marks of the piece zs that s is of; L its ring's length -/
def MarkAt (n : Int) (f : Int → Int) (s : Int) (zs : List Int) (L : Int) (M : Int → Int) : Prop := ∃ (g l : Int) (p i : Nat), Gate f g p 0 ∧ (∀ x ∈ met f g p, g ≤ x) ∧ itr f s i = g ∧ zs[0]? = some l ∧ L = wl n f g p ∧ M = markF n f L g l
theorem MarkAt.ring {n : Int} {f : Int → Int} {s : Int} {zs ys : List Int} {L : Int} {M : Int → Int} (h : MarkAt n f s zs L M) (R : RingL f s ys) : ringS n f ys = L := by
  obtain ⟨g, l, p, i, G, mn, e, _, rfl, _⟩ := h
  have R2 : RingL f s (met f g p) := ⟨g, p, rfl, G, mn, i, e⟩
  rw [(R.eq R2).mpr (SameP.refl), ringS_wl]
theorem MarkAt.uniq {n : Int} {f : Int → Int} {s : Int} {zs : List Int} {L L' : Int} {M M' : Int → Int} (h : MarkAt n f s zs L M) (h' : MarkAt n f s zs L' M') : L = L' ∧ M = M' := by
  obtain ⟨g, l, p, i, G, mn, e, e0, rfl, rfl⟩ := h
  obtain ⟨g', l', p', i', G', mn', e', e0', rfl, rfl⟩ := h'
  have R : RingL f s (met f g p) := ⟨g, p, rfl, G, mn, i, e⟩
  have R' : RingL f s (met f g' p') := ⟨g', p', rfl, G', mn', i', e'⟩
  have hl : l = l' := Option.some.inj (e0.symm.trans e0')
  have hm := (R.eq R').mpr (SameP.refl)
  have hp : p = p' := by
    have := congrArg List.length hm
    rw [met_len, met_len] at this
    exact this
  have hg : g = g' := by
    have h0 : (met f g p)[0]? = some g := met_get G.1.pos
    have h1 : (met f g' p')[0]? = some g' := met_get G'.1.pos
    rw [hm, h1] at h0
    exact (Option.some.inj h0).symm
  subst hl hp hg
  exact ⟨rfl, rfl⟩
theorem MarkAt.ok {n : Int} {f : Int → Int} {s : Int} {zs : List Int} {L : Int} {M : Int → Int} (n0 : 0 < n) (h : MarkAt n f s zs L M) (hz : ∀ o ∈ zs, (0 ≤ o ∧ o < n) ∧ SameP f o s) : ∃ l, zs[0]? = some l ∧ MarksOk n f L l zs M := by
  obtain ⟨g, l, p, i, G, mn, e, e0, rfl, rfl⟩ := h
  exact ⟨l, e0, marks_ok n0 G (fun o ho => ⟨(hz o ho).1, reach_ring G e (hz o ho).2⟩) (List.mem_of_getElem? e0)⟩
def sp__lap_of (C : Addr) : Sp := fun vs H Q _ => ∃ (h dn db dl : Addr) (n s : Int) (nx bf : List (Key × V)) (ls : List V) (ks : List Int), vs = [.ref h, .int s] ∧ NetAt C H h n dn db dl nx bf ls ∧ WN ks nx ∧ ks.length ≤ 900 ∧ s ∈ ks ∧ 0 < n ∧ n ≤ 1000000001 ∧
  ∀ ys H', RingL (iN nx) s ys → Same H H' → Q (.int (ringS n (iN nx) ys)) H'
theorem ring_mul {n : Int} {f : Int → Int} {s : Int} {ys : List Int} (n0 : 0 < n) (R : RingL f s ys) : (ringS n f ys).fdiv n * n = ringS n f ys := by
  obtain ⟨y, p, rfl, G, _, _, _⟩ := R
  rw [ringS_wl]
  obtain ⟨⟨q, e, _⟩, _⟩ := gate_len n0 G
  rw [e, Int.mul_fdiv_cancel_left q (by omega), Int.mul_comm]
theorem T0.ok__lap_of (T : T0 K mg) : FnOk P w K mg base CX0 6 T.a__lap_of T.fd__lap_of ["net", "house"] (sp__lap_of T.C_Net) := by
  refine T.F__lap_of.ok sc__lap_of (fun vs H Q E h => ?_) (fun cdv A outer s0 H vs Q E hr h => ?_)
  · obtain ⟨h, dn, db, dl, n, s, nx, bf, ls, ks, rfl, _⟩ := h
    rfl
  · obtain ⟨h, dn, db, dl, n, s, nx, bf, ls, ks, rfl, N0, W, l9, hs, n0, n9, q⟩ := h
    refine ⟨_, (pss_one (ps_ret (pe_op op_mul (pe_call T.ok_turns_of hr (by rfl) T.g_turns_of T.k_turns_of T.b_turns_of .nil pass0 (pa_cons (pv 0) (pa_cons (pv 1) pa_nil))) (show PE _ _ (tFld K _ _) from pe_fld (pv 0) rfl)))), ?_⟩
    refine ⟨_, rfl, _, rfl, h, dn, db, dl, n, s, nx, bf, ls, ks, rfl, N0, W, l9, hs, n0, n9, fun ys H1 R s1 => ?_⟩
    obtain ⟨dx, hh⟩ := (N0.same s1).me
    refine ⟨_, rfl, h, _, dx, _, _, rfl, hh, T.cl_Net, T.na_Net_size, nf_size, _, _, rfl, rfl, .inr ⟨by omega, by omega⟩, ?_⟩
    show Q (.int ((ringS n (iN nx) ys).fdiv n * n)) H1
    rw [ring_mul n0 R]
    exact q ys H1 R s1
def sp_marks_of (C : Addr) : Sp := fun vs H Q _ => ∃ (h dn db dl : Addr) (n s : Int) (nx bf : List (Key × V)) (ls : List V) (ks : List Int), vs = [.ref h, .int s] ∧ NetAt C H h n dn db dl nx bf ls ∧ WN ks nx ∧ ks.length < 64 ∧ ks.Nodup ∧ s ∈ ks ∧ 0 < n ∧ n ≤ 1000000001 ∧
  ∀ (ys zs : List Int) (L : Int) (M : Int → Int) d H', ys.Perm ks → ys.Pairwise (· ≤ ·) → (zs = ys.filter fun y => smp (iN nx) y s) → MarkAt n (iN nx) s zs L M → Same H H' → H d = none → H' d = some (.dK (zs.map fun o => ((Sum.inl o : Key), V.int (M o)))) → Q (.ref d) H'
theorem smp_self {f : Int → Int} {s : Int} : smp f s s = true := smp_iff.mpr SameP.refl
theorem T0.ok_marks_of (T : T0 K mg) : FnOk P w K mg base CX0 7 T.a_marks_of T.fd_marks_of ["net", "house"] (sp_marks_of T.C_Net) := by
  refine T.F_marks_of.ok sc_marks_of (fun vs H Q E h => ?_) (fun cdv A outer s0 H vs Q E hr h => ?_)
  · obtain ⟨h, dn, db, dl, n, s, nx, bf, ls, ks, rfl, _⟩ := h
    rfl
  · obtain ⟨h, dn, db, dl, n, s, nx, bf, ls, ks, rfl, N0, W, l64, knd, hs, n0, n9, q⟩ := h
    refine ⟨_, (pss_cons (ps_set (i := 2) sc_marks_of.nd rfl (Or.inl rfl) (pe_call T.ok_piece_of (hr.mono (by decide)) (by rfl) T.g_piece_of T.k_piece_of T.b_piece_of .nil pass0 (pa_cons (pv 0) (pa_cons (pv 1) pa_nil))))
        (pss_cons (ps_set (i := 3) sc_marks_of.nd rfl (Or.inr rfl) (pe_ix (ix_listK (K := K)) (pe_call T.ok_ring_of (hr.mono (by decide)) (by rfl) T.g_ring_of T.k_ring_of T.b_ring_of .nil pass0 (pa_cons (pv 0) (pa_cons (pv 1) pa_nil))) pe_int (fun _ _ => rfl)))
        (pss_cons (ps_set (i := 4) sc_marks_of.nd rfl (Or.inl rfl) (pe_ix (ix_listK (K := K)) (pv 2) pe_int (fun _ _ => rfl)))
        (pss_cons (ps_set (i := 5) sc_marks_of.nd rfl (Or.inr rfl) (pe_op op_add (pv 4) (pe_call T.ok_way_length (hr.mono (by decide)) (by rfl) T.g_way_length T.k_way_length T.b_way_length .nil pass0 (pa_cons (pv 0) (pa_cons (pv 4) (pa_cons (pv 3) pa_nil))))))
        (pss_cons (ps_set (i := 6) sc_marks_of.nd rfl (Or.inr rfl) (pe_call T.ok__lap_of hr (by rfl) T.g__lap_of T.k__lap_of T.b__lap_of .nil pass0 (pa_cons (pv 0) (pa_cons (pv 1) pa_nil))))
        (pss_one (ps_ret (pe_dc (own := [("other", 7)]) (g := gName 7) (by rfl) sc_marks_of.nd (pi_list (pv 2)) (blkOk_by (own := [("other", 7)]) (N := ["net", "house", "piece", "goal", "least", "goal_mark", "lap", "other"]) (sc := defScope s_marks_of) (by decide +kernel)) (fun _ _ _ _ _ => pg_name (i := 7) sc_marks_of.nd rfl (Or.inl rfl)) (fun _ _ _ _ _ => pts_nil) (fun _ _ _ _ _ => (pv 7)) (fun _ _ _ _ _ => (pe_op op_modN (pe_op op_sub (pv 5) (pe_call T.ok_way_length (hr.mono (by decide)) (by rfl) T.g_way_length T.k_way_length T.b_way_length .nil pass0 (pa_cons (pv 0) (pa_cons (pv 7) (pa_cons (pv 3) pa_nil))))) (pv 6))))))))))), ?_⟩
    refine ⟨_, rfl, _, rfl, h, dn, db, dl, n, s, nx, bf, ls, ks, rfl, N0, W, l64, hs, n0, fun ys l H1 perm pw s1 nl el => ?_⟩
    obtain ⟨zs, hzs⟩ : ∃ zs, zs = ys.filter fun y => smp (iN nx) y s := ⟨_, rfl⟩
    rw [← hzs] at el
    have ylen := perm.length_eq
    have zlen : zs.length ≤ ys.length := by rw [hzs]; exact List.length_filter_le _ _
    have znd : zs.Nodup := by rw [hzs]; exact (perm.nodup_iff.mpr knd).filter _
    have zk : ∀ y ∈ zs, y ∈ ks ∧ SameP (iN nx) y s := fun y hy => by
      rw [hzs] at hy
      obtain ⟨h1, h2⟩ := List.mem_filter.mp hy
      exact ⟨perm.mem_iff.mp h1, smp_iff.mp h2⟩
    have zs0 : s ∈ zs := by rw [hzs]; exact List.mem_filter.mpr ⟨perm.mem_iff.mpr hs, smp_self⟩
    obtain ⟨l0, hl0⟩ : ∃ l0, zs[0]? = some l0 := ⟨_, List.getElem?_eq_getElem (List.length_pos_of_mem zs0)⟩
    have l0z := List.mem_of_getElem? hl0
    have N1 := N0.same s1
    refine ⟨_, rfl, _, rfl, h, dn, db, dl, n, s, nx, bf, ls, ks, rfl, N1, W, hs, n0, fun m g rs l2 H2 G tu s2 nl2 e2 => ?_⟩
    have R := turned_ring G tu
    obtain ⟨y, p, er, G2, mn, i, ei⟩ := id R
    have hy : y ∈ ks := by rw [← ei]; exact itr_mem W.cl hs i
    have r0 : rs[0]? = some y := by rw [er]; exact met_get G2.1.pos
    have s12 := Same.trans s1 s2
    refine ⟨l2, _, 0, .int y, rfl, rfl, SqL.of e2, (show atI (rs.map V.int) ((0 : Nat) : Int) = some (.int y) from atI_nat (by rw [List.getElem?_map, r0]; rfl)), ?_⟩
    refine ⟨_, rfl, l, _, 0, .int l0, rfl, rfl, SqL.of (s2 _ _ el), (show atI (zs.map V.int) ((0 : Nat) : Int) = some (.int l0) from atI_nat (by rw [List.getElem?_map, hl0]; rfl)), ?_⟩
    have rch : ∀ o ∈ zs, ∃ j, itr (iN nx) o j = y := fun o ho => reach_ring G2 ei (zk o ho).2
    have firstL : ∀ {o : Int} {m3 j : Nat}, Lasso (iN nx) o m3 → j < m3 → itr (iN nx) o j = y → dist n (iN nx) o y = wl n (iN nx) o j := fun {o m3 j} L3 hj ej => dist_at ej fun a ha e => by
      have := L3.dis a j (by omega) hj (e.trans ej.symm)
      omega
    have never : ∀ {o : Int} {m3 : Nat}, o ∈ zs → Lasso (iN nx) o m3 → ¬ ∀ j, j < m3 → itr (iN nx) o j ≠ y := fun {o m3} ho L3 hn => by
      obtain ⟨j, ej⟩ := rch o ho
      obtain ⟨a, ha, e⟩ := L3.all j
      exact hn a ha (e.symm.trans ej)
    refine ⟨_, rfl, _, rfl, _, rfl, _, rfl, h, dn, db, dl, n, l0, y, nx, bf, ls, ks, rfl, N0.same s12, W, (zk l0 l0z).1, hy, n0, fun m3 H3 L3 lm3 s3 => ⟨fun j hj ej => ?_, fun hn => (never l0z L3 hn).elim⟩⟩
    rw [← firstL L3 hj ej]
    have s13 := Same.trans s12 s3
    refine ⟨_, _, rfl, rfl, ?_⟩
    refine ⟨_, rfl, _, rfl, h, dn, db, dl, n, s, nx, bf, ls, ks, rfl, N0.same s13, W, by omega, hs, n0, n9, fun ys2 H4 R2 s4 => ?_⟩
    have eL : ringS n (iN nx) ys2 = wl n (iN nx) y p := by rw [(R2.eq R).mpr SameP.refl, er, ringS_wl]
    rw [eL]
    have MA : MarkAt n (iN nx) s zs (wl n (iN nx) y p) (markF n (iN nx) (wl n (iN nx) y p) y l0) := ⟨y, l0, p, i, G2, (by rw [← er]; exact mn), ei, hl0, rfl, rfl⟩
    have L0 : wl n (iN nx) y p ≠ 0 := by
      have := wl_pos (f := iN nx) (s := y) n0 p
      have := G2.1.pos
      omega
    have s14 := Same.trans s13 s4
    have el4 : H4 l = some (.lst (zs.map V.int)) := s4 _ _ (s3 _ _ (s2 _ _ el))
    refine ⟨_, rfl, l, rfl, ⟨_, SqL.of el4⟩, fun D hD => ?_⟩
    have MAok := fun H' s' (nD : H D = none) e => q ys zs _ _ D H' perm pw hzs MA s' nD e
    generalize hM : markF n (iN nx) (wl n (iN nx) y p) y l0 = M at MA MAok
    have vM : ∀ o, (l0 + dist n (iN nx) l0 y - dist n (iN nx) o y).fmod (wl n (iN nx) y p) = M o := fun o => by rw [← hM]; rfl
    refine dc_list (K := K) (a := l) (xs := zs.map V.int) (fun i H' => Same H4 H' ∧ H' D = some (.dK ((zs.take i).map fun o => ((Sum.inl o : Key), V.int (M o))))) ⟨same_upd hD, upd_same⟩ (fun i H' _ p => SqL.of (p.1 _ _ el4)) (fun i x H5 hx pv => ?_) (fun H5 pv => ?_)
    · obtain ⟨s5, e5⟩ := pv
      rw [List.getElem?_map] at hx
      obtain ⟨o, ho, rfl⟩ := Option.map_eq_some_iff.mp hx
      have mo := List.mem_of_getElem? ho
      refine ⟨rfl, lc_yes ?_⟩
      refine ⟨_, rfl, _, rfl, _, rfl, _, rfl, _, rfl, h, dn, db, dl, n, o, y, nx, bf, ls, ks, rfl, N0.same (Same.trans s14 s5), W, (zk o mo).1, hy, n0, fun m6 H6 L6 lm6 s6 => ⟨fun j hj ej => ?_, fun hn => (never mo L6 hn).elim⟩⟩
      rw [← firstL L6 hj ej]
      refine ⟨_, _, rfl, rfl, _, rfl, _, _, rfl, rfl, L0, ?_⟩
      dsimp only
      rw [vM o]
      refine ⟨_, Sum.inl o, rfl, s6 _ _ e5, small1000' (by rw [List.length_map, List.length_take]; omega), fun b u e => (upd_ne (ne_of_none e hD)).trans (s6 _ _ (s5 _ _ e)), ?_⟩
      rw [upd_same, putK_new _ (valV_none_of (f := fun o => V.int (M o)) (not_in_take znd ho)), tk_snoc ho, List.map_append]
      rfl
    · obtain ⟨s5, e5⟩ := pv
      rw [List.length_map, List.take_length] at e5
      exact MAok H5 (Same.trans s14 s5) (none_back s14 hD) e5
/-- the houses of a piece by their marks, from the one marked m0 -/
def rowF (M : Int → Int) (L m0 : Int) (o : Int) : Int := (M o - m0).fmod L
def rowM (M : Int → Int) (L m0 : Int) (zs : List Int) : List Int := zs.mergeSort fun a b => decide (rowF M L m0 a ≤ rowF M L m0 b)
theorem byKey_row {M : Int → Int} {L m0 : Int} (zs : List Int) : byKey (zs.map V.int) (zs.map (rowF M L m0)) = (rowM M L m0 zs).map V.int := by
  have e : (zs.map V.int).zip (zs.map (rowF M L m0)) = zs.map fun x => (V.int x, rowF M L m0 x) := by rw [List.zip_map']
  unfold byKey rowM
  rw [e, ← List.map_mergeSort (r := fun a b => decide (rowF M L m0 a ≤ rowF M L m0 b)) (fun a _ b _ => rfl), List.map_map]
  rfl
def sp_mark_row (K : PySem.W.Frag) (C : Addr) : Sp := fun vs H Q _ => ∃ (h dn db dl : Addr) (n s : Int) (nx bf : List (Key × V)) (ls : List V) (ks : List Int), vs = [.ref h, .int s] ∧ NetAt C H h n dn db dl nx bf ls ∧ WN ks nx ∧ ks.length < 64 ∧ ks.Nodup ∧ s ∈ ks ∧ 0 < n ∧ n ≤ 1000000001 ∧ LamX.Tabs (LT K) H ∧
  ∀ (ys zs : List Int) (L : Int) (M : Int → Int) (l : Int) p H', ys.Perm ks → ys.Pairwise (· ≤ ·) → (zs = ys.filter fun y => smp (iN nx) y s) → MarkAt n (iN nx) s zs L M → zs[0]? = some l → LamX.ExtN H H' → LamX.Tabs (LT K) H' → (∀ b o, H b = some o → (∀ ps, o ≠ .tbl ps) → b ≠ p) → H' p = some (.lst ((rowM M L (M l) zs).map V.int)) → Q (.ref p) H'
theorem T0.ok_mark_row (T : T0 K mg) : FnOk P w K mg base CX0 8 T.a_mark_row T.fd_mark_row ["net", "house"] (sp_mark_row K T.C_Net) := by
  refine fun_okC T.F_mark_row sc_mark_row (fun vs H Q E h => ?_) (fun cdv A outer s0 H vs Q E hcd hr h => ?_)
  · obtain ⟨h, dn, db, dl, n, s, nx, bf, ls, ks, rfl, _⟩ := h
    rfl
  · obtain ⟨h, dn, db, dl, n, s, nx, bf, ls, ks, rfl, N0, W, l64, knd, hs, n0, n9, hT, q⟩ := h
    refine ⟨_, (pss_cons (ps_set (i := 4) sc_mark_row.nd rfl (Or.inr rfl) (pe_call T.ok_marks_of hr (by rfl) T.g_marks_of T.k_marks_of T.b_marks_of .nil pass0 (pa_cons (pv 0) (pa_cons (pv 1) pa_nil))))
        (pss_cons (ps_set (i := 2) sc_mark_row.nd rfl (Or.inr rfl) (pe_call T.ok__lap_of (hr.mono (by decide)) (by rfl) T.g__lap_of T.k__lap_of T.b__lap_of .nil pass0 (pa_cons (pv 0) (pa_cons (pv 1) pa_nil))))
        (pss_cons (ps_set (i := 3) sc_mark_row.nd rfl (Or.inr rfl) (pe_callB (cr_minK rfl) (by rfl) T.m_min (by decide +kernel) (pa_cons (pv 4) pa_nil)))
        (pss_one (ps_ret (pe_sortLamD (N := ["other", "lap", "least", "marks"]) (ps := ["other"]) (fr := ["lap", "least", "marks"]) (js := [2, 3, 4]) (k := 4) (T := LT K) rfl (show NdefX.ndefB (defScope s_mark_row) _ ["lap", "least", "marks"] = true from by decide +kernel) rfl rfl hr (by rfl) T.m_sorted (pv 4) (LamT.tb_mark_row (K := K) (mg := mg)) (hcd.trans T.cd_mark_row) (.tail _ (.head _)) T.lt_mark_row rfl (show NdefX.nscB ["other", "lap", "least", "marks"] ["other"] ["lap", "least", "marks"] _ = true from by decide +kernel) (fun _ _ _ us hl => match us, hl with | [_], _ => rfl) (fun _ _ _ _ _ _ _ hr => (pe_op op_modN (pe_op op_sub (pe_dget (un1 hr) (pv 3) (pv 0) (fun _ _ => rfl)) (pe_dget (un1 hr) (pv 3) (pv 2) (fun _ _ => rfl))) (pv 1))))))))), ?_⟩
    refine ⟨_, rfl, _, rfl, h, dn, db, dl, n, s, nx, bf, ls, ks, rfl, N0, W, l64, knd, hs, n0, n9, fun ys zs L M d H1 perm pw hzs MA s1 nd ed => ?_⟩
    refine ⟨_, rfl, _, rfl, h, dn, db, dl, n, s, nx, bf, ls, ks, rfl, N0.same s1, W, by omega, hs, n0, n9, fun ys2 H2 R2 s2 => ?_⟩
    rw [MA.ring R2]
    have ed2 := s2 _ _ ed
    have s12 := Same.trans s1 s2
    obtain ⟨l, hl⟩ : ∃ l, zs[0]? = some l := by
      obtain ⟨_, l, _, _, _, _, _, hl, _⟩ := MA
      exact ⟨l, hl⟩
    have lz := List.mem_of_getElem? hl
    have znd : zs.Nodup := by rw [hzs]; exact (perm.nodup_iff.mpr knd).filter _
    have zpw : zs.Pairwise (· ≤ ·) := by rw [hzs]; exact pw.filter _
    have zlen : zs.length < 64 := by
      have := List.length_filter_le (fun y => smp (iN nx) y s) ys
      rw [← hzs, perm.length_eq] at this
      omega
    have keys : (zs.map fun o => ((Sum.inl o : Key), V.int (M o))).map (·.1) = zs.map Sum.inl := by rw [List.map_map]; rfl
    refine ⟨_, rfl, d, _, zs, rfl, ed2, keys, List.ne_nil_of_mem lz, fun m mm ml => ?_⟩
    obtain rfl : m = l := by
      have a := ml l lz
      cases hz : zs with
      | nil => rw [hz] at lz; cases lz
      | cons b r =>
        rw [hz] at hl mm zpw
        cases hl
        rcases List.mem_cons.mp mm with e | e
        · exact e
        · have := (List.pairwise_cons.mp zpw).1 m e
          omega
    have L0 : L ≠ 0 := by
      obtain ⟨g, _, p, _, G, _, _, _, e, _⟩ := MA
      have := wl_pos (f := iN nx) (s := g) n0 p
      have := G.1.pos
      omega
    have hT2 := hT.ext s12
    refine ⟨_, rfl, hT2, fun f c' H3 e3 t3 f3 c3 => ⟨d, f, c', _, zs, zs.map (rowF M L (M m)), rfl, rfl, f3, c3, e3 _ _ ed2 (fun ps z => nomatch z), keys, zlen, by rw [List.length_map], fun i x k hx hk => ?_, fun p hp => ?_⟩⟩
    · have ed3 := e3 _ _ ed2 (fun ps z => nomatch z)
      rw [List.getElem?_map] at hk
      rw [hx] at hk
      cases hk
      exact ⟨_, rfl, _, rfl, d, _, rfl, dget_of (k := Sum.inl x) ed3 (valV_map_mem (f := fun o => V.int (M o)) (List.mem_of_getElem? hx)), _, rfl, _, rfl, d, _, rfl, dget_of (k := Sum.inl m) ed3 (valV_map_mem (f := fun o => V.int (M o)) lz), _, _, rfl, rfl, _, rfl, _, _, rfl, rfl, L0, rfl, rfl⟩
    · rw [byKey_row]
      exact q ys zs L M m p _ perm pw hzs MA hl ((ExtN.of_same s12).trans (e3.trans (ExtN.of_same (same_upd hp)))) (t3.ext (same_upd hp)) (fun b o e n => ne_of_none (e3 _ _ (s12 _ _ e) n) hp) upd_same
--CUT
/-! ### list(d.values()) -/
def tListVals (td : TE) : TE := fun σ H Q => td σ H fun x H1 => ∃ (a : Addr) (kvs : List (Key × V)), x = V.ref a ∧ H1 a = some (.dK kvs) ∧ ∀ p : Addr, H1 p = none → Q (.ref p) (upd H1 p (.lst (kvs.map (·.2))))
theorem vals_eachL {vs : List (Key × Value)} {kvs : List (Key × V)} (rel : KV kvs vs) {out : List Value} (hl : out.length = vs.length) (h : ∀ (j : Nat) (v : Value), out[j]? = some v → ∃ k : Key, vs[j]? = some (k, v)) : Vals (kvs.map (·.2)) out := by
  rw [PySem.W.kdl_vals_eq out hl h]
  unfold KV at rel
  clear h hl
  induction rel with
  | nil => exact .nil
  | cons r t ih => exact .cons r.2 ih
theorem pe_listVals {X : Cx} {o : Expr} {p pos apos mpos : Pos} {td : TE} (hc : X.calm = true) (hg : Gl X "list") (hm : X.mg "list" = none) (hv : bootBuiltins "list" = some (.type "list")) (hd : PE X o td) (hbase : attributeBase o "values" X.env (eval o X.env) = eval o X.env := by rfl) (hline : (apos.endLine == mpos.line) = true := by rfl)
    (hs : starEach [.Call (.Attribute o "values" apos) [] [] mpos] X.env = (false, eval (.Call (.Attribute o "values" apos) [] [] mpos) X.env) :: starEach [] X.env := by rfl) :
    PE X (.Call (.Name "list" p) [.Call (.Attribute o "values" apos) [] [] mpos] [] pos) (tListVals td) := by
  refine ⟨fun pins s σ H Q I hq => ?_⟩
  refine wpAny_Call_Name_kw (ld_blt I hg hm hv ?_)
  refine PyProof.Rows.callWith_type1 ?_ hs rfl
  rw [hs]
  show wpAny _ _ (spliced ((false, eval (.Call (.Attribute o "values" apos) [] [] mpos) X.env) :: backTo pos (starEach [] X.env))) _ _ s
  refine Calls.spliced_cons ?_
  refine wpAny_Call_method (T := "dict") (id := "dict.values") hbase rfl hline F.plainAttrs_dict F.slot_dict_values F.type_dict_values (thn (hd.run pins s σ H _ I hq) fun u s1 ⟨x, H1, I1, rx, d, kvs, ex, hd, q⟩ => ?_)
  subst ex
  obtain rfl : u = Value.ref d := rx
  obtain ⟨hz, hs0, vs, kv, hdo⟩ := I1.hok d _ hd
  obtain ⟨ep, hat⟩ := hdo.dictAt
  have lk : kvs.length = vs.length := Paired.length kv
  have k1 : ∀ b u, s1.heap.get? b = some u → (s1.heap.push { cls := .type "dict_values", data := .fields #[.ref d] }).get? b = some u := fun b u e => Heap.get?_push_of_some _ e
  have I2 : Inv X pins σ H1 { s1 with heap := s1.heap.push { cls := .type "dict_values", data := .fields #[.ref d] } } := I1.kept (t' := s1.toks) k1
  refine ⟨hdo.typeIs, hdo.mapOf.noDict, ?_⟩
  show wpAny _ _ (callWith mpos (.builtin "dict.values") [.ref d] [] []) _ X.xe s1
  refine method_meetsIn F.slot_dict_values F.entry_dict_values rfl (PySem.evalArgs_none ⟨rfl, hdo.typeIs, F.args_dict_values_1 _, _, meets_dict_values (mixKind X.prog X.w) d hs0, ⟨vs, hdo⟩, ?_⟩)
  refine Calls.spliced_nil ?_
  refine PySem.W.kdl_call (PySem.W.kdl_values (knd := mixKind X.prog X.w) (r := s1.heap.objs.size) (d := d) (kvs := vs) (ep := ep)) (I1.ok.hd hc) ⟨⟨_, Heap.get?_push_size _ rfl, rfl, rfl⟩, hat.keep k1⟩ (by omega) fun h' tk acc c hk hS hacc => ?_
  have al : acc.toList.length = vs.length := by rw [Array.length_toList, hacc.1]
  have V' : Vals (kvs.map (·.2)) acc.toList := vals_eachL kv al (fun j v e => hacc.2 j v (by rw [← Array.getElem?_toList]; exact e))
  exact ⟨.ref _, upd H1 _ (.lst (kvs.map (·.2))), I2.laid (t' := tk) hk (Nat.le_refl _) (show ObjOk X.prog X.w _ _ _ (.lst (kvs.map (·.2))) from ⟨by rw [List.length_map]; exact hz, acc.toList, c, V', by rw [Array.toArray_toList]; exact hS⟩), rfl, q _ (I2.hok.fresh (Nat.le_refl _))⟩
/-! ### pieces -/
def leadsN (rt : Int → Int) (ys : List Int) : Nat → List Int
  | 0 => []
  | i + 1 => match ys[i]? with
    | none => leadsN rt ys i
    | some y => if ((ys.take i).any fun z => decide (rt z = rt y)) = true then leadsN rt ys i else leadsN rt ys i ++ [y]
def gp (rt : Int → Int) (ys : List Int) (i : Nat) (y : Int) : List Int := (ys.take i).filter fun z => decide (rt z = rt y)
section
variable {rt : Int → Int} {ys : List Int} {i : Nat} {y : Int}
theorem leads_old (h : ys[i]? = some y) (e : ((ys.take i).any fun z => decide (rt z = rt y)) = true) : leadsN rt ys (i + 1) = leadsN rt ys i := by
  show (match ys[i]? with | none => _ | some y => _) = _
  rw [h]
  exact if_pos e
theorem leads_new (h : ys[i]? = some y) (e : ¬ ((ys.take i).any fun z => decide (rt z = rt y)) = true) : leadsN rt ys (i + 1) = leadsN rt ys i ++ [y] := by
  show (match ys[i]? with | none => _ | some y => _) = _
  rw [h]
  exact if_neg e
theorem take_snoc (h : ys[i]? = some y) : ys.take (i + 1) = ys.take i ++ [y] := by rw [List.take_add_one, h]; rfl
theorem leads_mem : ∀ {i : Nat} {y : Int}, y ∈ leadsN rt ys i → y ∈ ys.take i
  | 0, y, h => nomatch h
  | i + 1, y, h => by
    cases e : ys[i]? with
    | none =>
      have h2 : leadsN rt ys (i + 1) = leadsN rt ys i := by
        show (match ys[i]? with | none => _ | some y => _) = _
        rw [e]
      rw [h2] at h
      have := leads_mem h
      rw [List.take_add_one, e, Option.toList_none, List.append_nil]
      exact this
    | some z =>
      rw [take_snoc e]
      by_cases c : ((ys.take i).any fun w => decide (rt w = rt z)) = true
      · rw [leads_old e c] at h
        exact List.mem_append_left _ (leads_mem h)
      · rw [leads_new e c] at h
        rcases List.mem_append.mp h with h | h
        · exact List.mem_append_left _ (leads_mem h)
        · exact List.mem_append_right _ h
theorem leads_has : ∀ {i : Nat} {z : Int}, z ∈ ys.take i → ∃ w ∈ leadsN rt ys i, rt w = rt z
  | 0, z, h => by rw [List.take_zero] at h; nomatch h
  | i + 1, z, h => by
    cases e : ys[i]? with
    | none =>
      rw [List.take_add_one, e, Option.toList_none, List.append_nil] at h
      have h2 : leadsN rt ys (i + 1) = leadsN rt ys i := by
        show (match ys[i]? with | none => _ | some y => _) = _
        rw [e]
      rw [h2]
      exact leads_has h
    | some y =>
      rw [take_snoc e] at h
      by_cases c : ((ys.take i).any fun w => decide (rt w = rt y)) = true
      · rw [leads_old e c]
        rcases List.mem_append.mp h with h | h
        · exact leads_has h
        · rw [List.mem_singleton.mp h]
          obtain ⟨w, hw, ew⟩ := List.any_eq_true.mp c
          obtain ⟨u, hu, eu⟩ := leads_has hw
          exact ⟨u, hu, eu.trans (of_decide_eq_true ew)⟩
      · rw [leads_new e c]
        rcases List.mem_append.mp h with h | h
        · obtain ⟨u, hu, eu⟩ := leads_has h
          exact ⟨u, List.mem_append_left _ hu, eu⟩
        · rw [List.mem_singleton.mp h]
          exact ⟨y, List.mem_append_right _ (List.mem_singleton.mpr rfl), rfl⟩
theorem leads_nd : ∀ i : Nat, ((leadsN rt ys i).map rt).Nodup
  | 0 => List.nodup_nil
  | i + 1 => by
    cases e : ys[i]? with
    | none =>
      have h2 : leadsN rt ys (i + 1) = leadsN rt ys i := by
        show (match ys[i]? with | none => _ | some y => _) = _
        rw [e]
      rw [h2]
      exact leads_nd i
    | some y =>
      by_cases c : ((ys.take i).any fun w => decide (rt w = rt y)) = true
      · rw [leads_old e c]
        exact leads_nd i
      · rw [leads_new e c, List.map_append]
        refine List.nodup_append.mpr ⟨leads_nd i, by simp, fun a ha b hb z => c ?_⟩
        rw [List.map_cons, List.map_nil, List.mem_singleton] at hb
        obtain ⟨w, hw, rfl⟩ := List.mem_map.mp ha
        exact List.any_eq_true.mpr ⟨w, leads_mem hw, decide_eq_true (z.trans hb)⟩
theorem gp_yes {w : Int} (h : ys[i]? = some y) (e : rt y = rt w) : gp rt ys (i + 1) w = gp rt ys i w ++ [y] := by
  unfold gp
  rw [take_snoc h, List.filter_append, List.filter_cons_of_pos (by rw [decide_eq_true e])]
  rfl
theorem gp_no {w : Int} (h : ys[i]? = some y) (e : ¬ rt y = rt w) : gp rt ys (i + 1) w = gp rt ys i w := by
  unfold gp
  rw [take_snoc h, List.filter_append, List.filter_cons_of_neg (by rw [decide_eq_false e]; decide), List.filter_nil, List.append_nil]
theorem gp_nil (e : ¬ ((ys.take i).any fun z => decide (rt z = rt y)) = true) : gp rt ys i y = [] := by
  unfold gp
  refine List.filter_eq_nil_iff.mpr fun z hz c => e (List.any_eq_true.mpr ⟨z, hz, c⟩)
/-- the piece's first house leads it -/
theorem gp_head (nd : ys.Nodup) (h : ys[i]? = some y) : (∃ r, gp rt ys ys.length y = y :: r) ↔ ¬ ((ys.take i).any fun z => decide (rt z = rt y)) = true := by
  obtain ⟨hi, e⟩ := List.getElem?_eq_some_iff.mp h
  have sp : ys = ys.take i ++ y :: ys.drop (i + 1) := by rw [← e, ← List.drop_eq_getElem_cons hi, List.take_append_drop]
  have g0 : gp rt ys ys.length y = gp rt ys i y ++ y :: (ys.drop (i + 1)).filter fun z => decide (rt z = rt y) := by
    unfold gp
    rw [List.take_length]
    conv => lhs; rw [sp]
    rw [List.filter_append, List.filter_cons_of_pos (by rw [decide_eq_true rfl])]
  constructor
  · rintro ⟨r, hr⟩ c
    obtain ⟨w, hw, ew⟩ := List.any_eq_true.mp c
    have mw : w ∈ gp rt ys i y := List.mem_filter.mpr ⟨hw, ew⟩
    rw [g0] at hr
    cases eg : gp rt ys i y with
    | nil => rw [eg] at mw; nomatch mw
    | cons u us =>
      rw [eg] at hr
      have hu : u = y := (List.cons.inj hr).1
      have : y ∈ ys.take i := by
        have : u ∈ gp rt ys i y := by rw [eg]; exact List.mem_cons_self
        rw [← hu]
        exact (List.mem_filter.mp this).1
      exact not_in_take nd h this
  · intro c
    rw [g0, gp_nil c]
    exact ⟨_, rfl⟩
end
theorem inj_nd {α β : Type} {f : α → β} {a b : α} : ∀ {l : List α}, (l.map f).Nodup → a ∈ l → b ∈ l → f a = f b → a = b
  | [], _, h, _, _ => nomatch h
  | c :: r, nd, ha, hb, e => by
    obtain ⟨n1, n2⟩ := List.nodup_cons.mp nd
    rcases List.mem_cons.mp ha with e1 | ha'
    · rcases List.mem_cons.mp hb with e2 | hb'
      · rw [e1, e2]
      · exact absurd (List.mem_map.mpr ⟨b, hb', by rw [← e, e1]⟩ : f c ∈ r.map f) n1
    · rcases List.mem_cons.mp hb with e2 | hb'
      · exact absurd (List.mem_map.mpr ⟨a, ha', by rw [e, e2]⟩ : f c ∈ r.map f) n1
      · exact inj_nd n2 ha' hb' e
def Pcs (H0 H' : Hp) (l : Addr) (as : List Addr) (xss : List (List Int)) : Prop := H' l = some (.lst (as.map V.ref)) ∧ as.length = xss.length ∧ (∀ (i : Nat) a xs, as[i]? = some a → xss[i]? = some xs → H' a = some (.lst (xs.map V.int))) ∧ (∀ a ∈ as, H0 a = none) ∧ as.Nodup
def sp_pieces (C : Addr) : Sp := fun vs H Q _ => ∃ (h dn db dl : Addr) (n : Int) (nx bf : List (Key × V)) (ls : List V) (ks : List Int), vs = [.ref h] ∧ NetAt C H h n dn db dl nx bf ls ∧ WN ks nx ∧ ks.length < 64 ∧ ks.Nodup ∧ 0 < n ∧
  ∀ (ys : List Int) l as H', ys.Perm ks → ys.Pairwise (· ≤ ·) → Same H H' → H l = none → Pcs H H' l as ((leadsN (rootF (iN nx)) ys ys.length).map (gp (rootF (iN nx)) ys ys.length)) → Q (.ref l) H'
theorem valV_ents {rt : Int → Int} {es : List (Int × Addr)} {r : Int} {v : V} (h : valV (es.map fun e => ((Sum.inl (rt e.1) : Key), V.ref e.2)) (.inl r) = some v) : ∃ e ∈ es, rt e.1 = r ∧ v = .ref e.2 := by
  induction es with
  | nil => cases h
  | cons e t ih =>
    rw [List.map_cons] at h
    by_cases c : rt e.1 = r
    · rw [valV_pos (by rw [c])] at h
      exact ⟨e, List.mem_cons_self, c, (Option.some.inj h).symm⟩
    · rw [valV_neg (fun z => c (Sum.inl.inj z))] at h
      obtain ⟨e', m, h1, h2⟩ := ih h
      exact ⟨e', List.mem_cons_of_mem _ m, h1, h2⟩
theorem valV_ents_none {rt : Int → Int} {es : List (Int × Addr)} {r : Int} (h : valV (es.map fun e => ((Sum.inl (rt e.1) : Key), V.ref e.2)) (.inl r) = none) : ∀ e ∈ es, ¬ rt e.1 = r := by
  induction es with
  | nil => exact fun _ h => nomatch h
  | cons e t ih =>
    rw [List.map_cons] at h
    by_cases c : rt e.1 = r
    · rw [valV_pos (by rw [c])] at h
      cases h
    · rw [valV_neg (fun z => c (Sum.inl.inj z))] at h
      exact fun e' m => (List.mem_cons.mp m).elim (fun z => by rw [z]; exact c) fun z => ih h e' z
theorem T0.ok_pieces (T : T0 K mg) : FnOk P w K mg base CX0 5 T.a_pieces T.fd_pieces ["net"] (sp_pieces T.C_Net) := by
  refine T.F_pieces.ok sc_pieces (fun vs H Q E h => ?_) (fun cdv A outer s0 H vs Q E hr h => ?_)
  · obtain ⟨h, dn, db, dl, n, nx, bf, ls, ks, rfl, _⟩ := h
    rfl
  · obtain ⟨h, dn, db, dl, n, nx, bf, ls, ks, rfl, N0, W, l64, knd, n0, q⟩ := h
    refine ⟨_, (pss_cons (ps_set (i := 1) sc_pieces.nd rfl (Or.inl rfl) pe_dnewK)
        (pss_cons (ps_for PassesOwn.never rfl (pi_list (pe_meth0 (pv 0) T.cl_Net T.me_Net__houses T.ok_Net__houses (hr.mono (by decide)) T.b_Net__houses .nil pass0)) (pg_name (i := 2) sc_pieces.nd rfl (Or.inl rfl)) (pss_one (ps_expr (pe_bm PySem.F.plainAttrs_list PySem.F.slot_list_append PySem.F.type_list_append mt_append (pe_dsetd (pv 1) (pe_ix (ix_listK (K := K)) (pe_call T.ok_ring_of hr (by rfl) T.g_ring_of T.k_ring_of T.b_ring_of .nil pass0 (pa_cons (pv 0) (pa_cons (pv 2) pa_nil))) pe_int (fun _ _ => rfl)) (pe_lst pa_nil) ⟨rfl, rfl, rfl, rfl⟩) (pa_cons (pv 2) pa_nil)))))
        (pss_one (ps_ret (pe_listVals rfl (by rfl) T.m_list (by decide +kernel) (pv 1)))))), ?_⟩
    intro F nF
    have s1 := same_upd (o := .dK []) nF
    have e1 : upd H F (.dK []) F = some (.dK []) := upd_same
    generalize upd H F (.dK []) = H1 at s1 e1
    have N1 := N0.same s1
    obtain ⟨dx, hh⟩ := N1.me
    refine ⟨_, rfl, h, dx, _, rfl, hh, (by unfold nf; walk_at "lk"), h, dn, db, dl, n, nx, bf, ls, ks, rfl, N1, W.gn.1, l64, fun ys z perm pw nz => ?_⟩
    have zF : z ≠ F := fun c => by rw [c, e1] at nz; cases nz
    have s2 := Same.trans s1 (same_upd (o := .lst (ys.map V.int)) nz)
    have e2 : upd H1 z (.lst (ys.map V.int)) z = some (.lst (ys.map V.int)) := upd_same
    have eF2 := (upd_ne (o := .lst (ys.map V.int)) zF.symm).trans e1
    generalize upd H1 z (.lst (ys.map V.int)) = H2 at s2 e2 eF2
    have el := perm.length_eq
    have ynd : ys.Nodup := perm.nodup_iff.mpr knd
    obtain ⟨rt, ert⟩ : ∃ rt, rootF (iN nx) = rt := ⟨_, rfl⟩
    rw [ert] at q
    refine ⟨z, rfl, ⟨_, SqL.of e2⟩, ?_⟩
    refine for_list (K := K) (a := z) (xs := ys.map V.int) (fun i σ' H' => ∃ (o2 : Option V) (es : List (Int × Addr)), σ' = [some (.ref h), some (.ref F), o2] ∧ es.map (·.1) = leadsN rt ys i ∧ H' F = some (.dK (es.map fun e => (Sum.inl (rt e.1), V.ref e.2))) ∧ (∀ e ∈ es, H' e.2 = some (.lst ((gp rt ys i e.1).map V.int)) ∧ H2 e.2 = none) ∧ (es.map (·.2)).Nodup ∧ (∀ a o, a ≠ F → H2 a = some o → H' a = some o))
      ⟨none, [], rfl, rfl, eF2, (fun _ h => nomatch h), List.nodup_nil, fun _ _ _ e => e⟩ (fun i σ' H' _ pv => by obtain ⟨_, _, _, _, _, _, _, h⟩ := pv; exact SqL.of (h _ _ zF e2)) (fun i v σ' H3 hv pv => ?_) (fun σ' H3 pv => ?_)
    · obtain ⟨o2, es, rfl, em, eF, ee, end', f3⟩ := pv
      rw [List.getElem?_map] at hv
      obtain ⟨y, hyi, rfl⟩ := Option.map_eq_some_iff.mp hv
      have my := perm.mem_iff.mp (List.mem_of_getElem? hyi)
      have hi : i < ys.length := (List.getElem?_eq_some_iff.mp hyi).1
      have nFh : ∀ {a : Addr} {o : HO}, H a = some o → H3 a = some o := fun e => f3 _ _ (ne_of_none e nF) (s2 _ _ e)
      have s3 : Same H H3 := fun a o e => nFh e
      have N3 := N0.same s3
      refine ⟨_, rfl, F, rfl, .inl ⟨_, .inl eF⟩, _, rfl, _, rfl, h, dn, db, dl, n, y, nx, bf, ls, ks, rfl, N3, W, my, n0, fun m g rs l H4 G tu s4 nl4 e4 => ?_⟩
      have R := turned_ring G tu
      obtain ⟨r0, rr, rfl⟩ : ∃ r0 rr, rs = r0 :: rr := by
        match rs, (R.mem W.cl my).2.1 with
        | r0 :: rr, _ => exact ⟨r0, rr, rfl⟩
      have er : r0 = rt y := by rw [← ert, root_of R]
      refine ⟨l, _, 0, .int r0, rfl, rfl, SqL.of e4, (show atI (List.map V.int (r0 :: rr)) ((0 : Nat) : Int) = some (.int r0) from atI_nat rfl), Nat.zero_le _, fun p np => ?_⟩
      rw [er]
      have eF4 := s4 _ _ eF
      have pF : p ≠ F := fun c => by rw [c, eF4] at np; cases np
      have np3 := none_back s4 np
      have np2 : H2 p = none := by
        cases c : H2 p with
        | none => rfl
        | some o => rw [f3 p o pF c] at np3; cases np3
      have e5p : upd H4 p (.lst []) p = some (.lst []) := upd_same
      have f5 : ∀ a o, H3 a = some o → upd H4 p (.lst []) a = some o := fun a o e => (upd_ne (ne_of_none (s4 _ _ e) np)).trans (s4 _ _ e)
      generalize upd H4 p (.lst []) = H5 at e5p f5
      have les : es.length ≤ 64 := by
        have h1 := congrArg List.length em
        rw [List.length_map] at h1
        have h2 : (leadsN rt ys i).Nodup := List.Pairwise.imp (fun h e => h (congrArg rt e)) (List.pairwise_map.mp (leads_nd (rt := rt) (ys := ys) i))
        have h3 := nodup_sub_len h2 (fun a ha => leads_mem ha)
        rw [List.length_take] at h3
        omega
      refine ⟨_, .inl (rt y), f5 _ _ eF, rfl, small1000' (by rw [List.length_map]; omega), fun v hv => ?_, fun hn => ?_⟩
      · obtain ⟨e, me, re, rfl⟩ := valV_ents hv
        obtain ⟨ge, he⟩ := ee e me
        have c : ((ys.take i).any fun z => decide (rt z = rt y)) = true := by
          refine List.any_eq_true.mpr ⟨e.1, leads_mem (rt := rt) ?_, decide_eq_true re⟩
          rw [← em]
          exact List.mem_map.mpr ⟨e, me, rfl⟩
        have ge5 := f5 _ _ ge
        refine ⟨.inl ⟨rfl, _, SqL.of ge5⟩, _, rfl, e.2, _, _, rfl, rfl, ge5, small1000' (by rw [List.length_map]; unfold gp; have := List.length_filter_le (fun z => decide (rt z = rt e.1)) (ys.take i); rw [List.length_take] at this; omega), ?_⟩
        refine ⟨_, es, rfl, by rw [em, leads_old hyi c], (upd_ne (fun z => by rw [← z, f5 _ _ eF] at ge5; cases ge5)).trans (f5 _ _ eF), fun e' me' => ?_, end', fun a o na ea => (upd_ne (ne_of_none ea he)).trans (f5 _ _ (f3 _ _ na ea))⟩
        obtain ⟨ge', he'⟩ := ee e' me'
        refine ⟨?_, he'⟩
        by_cases c2 : rt e'.1 = rt y
        · have same1 : e' = e := by
            have nd1 := leads_nd (rt := rt) (ys := ys) i
            rw [← em, List.map_map] at nd1
            exact inj_nd nd1 me' me (c2.trans re.symm)
          rw [same1, upd_same, gp_yes hyi re.symm, List.map_append]
          rfl
        · have ne2 : e'.2 ≠ e.2 := fun z => by
            have := inj_nd end' me' me z
            exact c2 (by rw [this]; exact re)
          rw [upd_ne ne2, gp_no hyi (fun z => c2 z.symm)]
          exact f5 _ _ ge'
      · have no := valV_ents_none hn
        have c : ¬ ((ys.take i).any fun z => decide (rt z = rt y)) = true := fun c => by
          obtain ⟨w, hw, ew⟩ := List.any_eq_true.mp c
          obtain ⟨u, hu, eu⟩ := leads_has (rt := rt) hw
          rw [← em] at hu
          obtain ⟨e, me, rfl⟩ := List.mem_map.mp hu
          exact no e me (eu.trans (of_decide_eq_true ew))
        rw [putK_new _ hn]
        have e6p := (upd_ne (o := .dK ((es.map fun e => ((Sum.inl (rt e.1) : Key), V.ref e.2)) ++ [(Sum.inl (rt y), V.ref p)])) pF).trans e5p
        have f6 : ∀ a o, a ≠ F → H3 a = some o → upd H5 F (.dK ((es.map fun e => ((Sum.inl (rt e.1) : Key), V.ref e.2)) ++ [(Sum.inl (rt y), V.ref p)])) a = some o := fun a o na e => (upd_ne na).trans (f5 _ _ e)
        have eF6 : upd H5 F (.dK ((es.map fun e => ((Sum.inl (rt e.1) : Key), V.ref e.2)) ++ [(Sum.inl (rt y), V.ref p)])) F = _ := upd_same
        generalize upd H5 F (.dK ((es.map fun e => ((Sum.inl (rt e.1) : Key), V.ref e.2)) ++ [(Sum.inl (rt y), V.ref p)])) = H6 at e6p f6 eF6
        refine ⟨.inl ⟨rfl, _, SqL.of e6p⟩, _, rfl, p, _, _, rfl, rfl, e6p, small1000' (Nat.zero_le _), ?_⟩
        refine ⟨_, es ++ [(y, p)], rfl, by rw [List.map_append, em, leads_new hyi c]; rfl, (upd_ne pF.symm).trans (eF6.trans (by rw [List.map_append]; rfl)), fun e' me' => ?_, ?_, fun a o na ea => (upd_ne (ne_of_none ea np2)).trans (f6 _ _ na (f3 _ _ na ea))⟩
        · rcases List.mem_append.mp me' with me' | me'
          · obtain ⟨ge', he'⟩ := ee e' me'
            have ne2 : e'.2 ≠ p := fun z => by rw [z] at ge'; rw [ge'] at np3; cases np3
            have ne3 : e'.2 ≠ F := fun z => by rw [z, eF] at ge'; cases ge'
            rw [upd_ne ne2, gp_no hyi (fun z => no e' me' z.symm)]
            exact ⟨f6 _ _ ne3 ge', he'⟩
          · rw [List.mem_singleton.mp me']
            refine ⟨?_, np2⟩
            show upd H6 p _ p = _
            rw [upd_same, gp_yes hyi rfl, gp_nil c]
            rfl
        · rw [List.map_append]
          refine List.nodup_append.mpr ⟨end', by simp, fun a ha b hb z => ?_⟩
          rw [List.map_cons, List.map_nil, List.mem_singleton] at hb
          obtain ⟨e', me', rfl⟩ := List.mem_map.mp ha
          have ge' := (ee e' me').1
          rw [z, hb] at ge'
          rw [ge'] at np3
          cases np3
    · obtain ⟨o2, es, rfl, em, eF, ee, end', f3⟩ := pv
      rw [List.length_map] at em ee
      refine ⟨_, rfl, F, _, rfl, eF, fun p np => ?_⟩
      have s3 : Same H H3 := fun a o e => f3 _ _ (ne_of_none e nF) (s2 _ _ e)
      refine q ys p (es.map (·.2)) _ perm pw (Same.trans s3 (same_upd np)) (none_back s3 np) ⟨?_, ?_, fun i a xs ha hx => ?_, fun a ha => ?_, end'⟩
      · rw [upd_same, List.map_map, List.map_map]
        rfl
      · rw [List.length_map, List.length_map, ← em, List.length_map]
      · rw [← em, List.map_map, List.getElem?_map] at hx
        rw [List.getElem?_map] at ha
        obtain ⟨e, he, rfl⟩ := Option.map_eq_some_iff.mp ha
        rw [he] at hx
        obtain rfl := Option.some.inj hx
        have ge := (ee e (List.mem_of_getElem? he)).1
        exact (upd_ne (ne_of_none ge np)).trans ge
      · obtain ⟨e, me, rfl⟩ := List.mem_map.mp ha
        exact none_back s2 (ee e me).2
/-! ### healing: the law's reckoning is the program's (pure) -/
section
variable {rt : Int → Int} {ys : List Int}
theorem lead_head : ∀ {i : Nat} {y : Int}, y ∈ leadsN rt ys i → ∃ pre post, ys.take i = pre ++ y :: post ∧ ∀ z ∈ pre, rt z ≠ rt y
  | 0, y, h => nomatch h
  | i + 1, y, h => by
    cases e : ys[i]? with
    | none =>
      have h2 : leadsN rt ys (i + 1) = leadsN rt ys i := by
        show (match ys[i]? with | none => _ | some y => _) = _
        rw [e]
      rw [h2] at h
      obtain ⟨pre, post, e1, e2⟩ := lead_head h
      refine ⟨pre, post, ?_, e2⟩
      rw [List.take_add_one, e, Option.toList_none, List.append_nil, e1]
    | some w =>
      by_cases c : ((ys.take i).any fun z => decide (rt z = rt w)) = true
      · rw [leads_old e c] at h
        obtain ⟨pre, post, e1, e2⟩ := lead_head h
        exact ⟨pre, post ++ [w], by rw [take_snoc e, e1, List.append_assoc]; rfl, e2⟩
      · rw [leads_new e c] at h
        rcases List.mem_append.mp h with h | h
        · obtain ⟨pre, post, e1, e2⟩ := lead_head h
          exact ⟨pre, post ++ [w], by rw [take_snoc e, e1, List.append_assoc]; rfl, e2⟩
        · rw [List.mem_singleton.mp h]
          refine ⟨ys.take i, [], take_snoc e, fun z hz k => c (List.any_eq_true.mpr ⟨z, hz, decide_eq_true k⟩)⟩
theorem gp_headE {y : Int} (h : y ∈ leadsN rt ys ys.length) : ∃ r, gp rt ys ys.length y = y :: r := by
  obtain ⟨pre, post, e1, e2⟩ := lead_head h
  refine ⟨post.filter fun z => decide (rt z = rt y), ?_⟩
  unfold gp
  rw [e1, List.filter_append, List.filter_eq_nil_iff.mpr fun z hz k => e2 z hz (of_decide_eq_true k), List.nil_append]
  exact List.filter_cons_of_pos (p := fun z => decide (rt z = rt y)) (decide_eq_true (rfl : rt y = rt y))
theorem leads_pre {i : Nat} : ∀ {j : Nat}, i ≤ j → ∃ r, leadsN rt ys j = leadsN rt ys i ++ r
  | j, h => by
    induction j with
    | zero =>
      obtain rfl : i = 0 := by omega
      exact ⟨[], rfl⟩
    | succ j ih =>
      by_cases c : i = j + 1
      · exact ⟨[], by rw [c, List.append_nil]⟩
      · obtain ⟨r, e⟩ := ih (by omega)
        cases k : ys[j]? with
        | none =>
          have h2 : leadsN rt ys (j + 1) = leadsN rt ys j := by
            show (match ys[j]? with | none => _ | some y => _) = _
            rw [k]
          exact ⟨r, by rw [h2, e]⟩
        | some w =>
          by_cases c : ((ys.take j).any fun z => decide (rt z = rt w)) = true
          · exact ⟨r, by rw [leads_old k c, e]⟩
          · exact ⟨r ++ [w], by rw [leads_new k c, e, List.append_assoc]⟩
end
--CUT
def sp_places_from (K : PySem.W.Frag) : Sp := fun vs H Q _ => ∃ (n s : Int) (a : Addr) (xs : List Int), vs = [.int n, .int s, .ref a] ∧ 0 < n ∧ n ≤ 1000000000 ∧ SqL K H a (xs.map V.int) ∧ LamX.Tabs (LT K) H ∧
  ∀ p H', LamX.ExtN H H' → LamX.Tabs (LT K) H' → (∀ b o, H b = some o → (∀ ps, o ≠ .tbl ps) → b ≠ p) → H' p = some (.lst ((metL n s xs).map V.int)) → Q (.ref p) H'
def sp_nearest (K : PySem.W.Frag) (f : Int → Int → Int → Int) : Sp := fun vs H Q _ => ∃ (n s : Int) (a : Addr) (xs : List Int), vs = [.int n, .int s, .ref a] ∧ 0 < n ∧ SqL K H a (xs.map V.int) ∧ LamX.Tabs (LT K) H ∧
  ∀ v H', LamX.ExtN H H' → LamX.Tabs (LT K) H' → LeastBy (f n s) xs v → Q v H'
theorem near_end {f : Int → Int} {xs : List Int} {Q : VK} {H : Hp} (q : ∀ v, LeastBy f xs v → Q v H) : (xs.map V.int = [] → Q .non H) ∧ ∀ x, (xs.map V.int)[argMin (xs.map f)]? = some x → Q x H := by
  refine ⟨fun e => q _ (.inl ⟨List.map_eq_nil_iff.mp e, rfl⟩), fun x hx => ?_⟩
  have hne : xs ≠ [] := fun z => by rw [z] at hx; simp at hx
  obtain ⟨y, h1, h2, h3⟩ := argMin_ok (f := f) hne
  rw [List.getElem?_map, h1] at hx
  cases hx
  exact q _ (.inr ⟨y, h2, rfl, h3⟩)
theorem T0.ok_nearest_ahead (T : T0 K mg) : FnOk P w K mg base CX0 6 T.a_nearest_ahead T.fd_nearest_ahead ["size", "start", "places"] (sp_nearest K fun n s x => farL n s x) := by
  refine fun_okC T.F_nearest_ahead sc_nearest_ahead (fun vs H Q E h => ?_) (fun cdv A outer s H vs Q E hcd hr h => ?_)
  · obtain ⟨n, s, a, xs, rfl, _⟩ := h
    rfl
  · obtain ⟨n, st, a, xs, rfl, hn, ha, hT, q⟩ := h
    refine ⟨_, (pss_one (ps_ret (pe_minLam (N := ["place", "size", "start"]) (ps := ["place"]) (fr := ["size", "start"]) (js := [0, 1]) (k := 2) (T := LT K) rfl (show NdefX.ndefB (defScope s_nearest_ahead) _ ["size", "start"] = true from by decide +kernel) rfl rfl hr (by rfl) T.m_min (pv 2) (LamT.tb_nearest_ahead (K := K) (mg := mg)) (hcd.trans T.cd_nearest_ahead) (.head _) T.lt_nearest_ahead rfl (show NdefX.nscB ["place", "size", "start"] ["place"] ["size", "start"] _ = true from by decide +kernel) (fun _ _ _ us hl => match us, hl with | [_], _ => rfl) (fun _ _ _ _ _ _ _ hr => (pe_call T.ok_far (hr.mono (by decide)) (by rfl) T.g_far T.k_far T.b_far .nil pass0 (pa_cons (pv 1) (pa_cons (pv 2) (pa_cons (pv 0) pa_nil)))))))), ?_⟩
    refine ⟨_, rfl, hT, fun f c' H1 e1 t1 f1 c1 => ⟨a, f, c', xs.map V.int, xs.map fun x => farL n st x, rfl, rfl, f1, c1, sqL_extN e1 ha, by rw [List.length_map, List.length_map], fun i x k hx hk => ?_, near_end fun v l => q v H1 e1 t1 l⟩⟩
    rw [List.getElem?_map] at hx hk
    cases hi : xs[i]? with
    | none => rw [hi] at hx; cases hx
    | some y =>
      rw [hi] at hx hk
      cases hx
      cases hk
      exact ⟨_, rfl, _, rfl, _, rfl, n, st, y, rfl, hn, rfl, rfl⟩
def inL (n s e : Int) (xs : List Int) : List Int := xs.filter fun y => decide (farL n s y < farL n s e)
def sp_inside (K : PySem.W.Frag) : Sp := fun vs H Q _ => ∃ (n s e : Int) (a : Addr) (xs : List Int), vs = [.int n, .int s, .int e, .ref a] ∧ 0 < n ∧ n ≤ 1000000000 ∧ xs.length ≤ 60 ∧ SqL K H a (xs.map V.int) ∧ LamX.Tabs (LT K) H ∧
  ∀ p H', LamX.ExtN H H' → LamX.Tabs (LT K) H' → (∀ b o, H b = some o → (∀ ps, o ≠ .tbl ps) → b ≠ p) → H' p = some (.lst ((inL n s e (metL n s xs)).map V.int)) → Q (.ref p) H'
/-! ### a piece, a start of any kind -/
def sp__law_piece (K : PySem.W.Frag) : Sp := fun vs H Q _ => ∃ (dN : Addr) (s : Int) (nx : List (Key × V)) (ks : List Int), vs = [.ref dN, .int s] ∧ H dN = some (.dK nx) ∧ WN ks nx ∧ ks.length < 64 ∧ s ∈ ks ∧
  ∀ (ys : List Int) l H', ys.Perm ks → ys.Pairwise (· ≤ ·) → Same H H' → H l = none → H' l = some (.lst ((ys.filter fun y => smp (iN nx) y s).map V.int)) → Q (.ref l) H'
theorem T0.ok__law_piece (T : T0 K mg) : FnOk P w K mg base CX0 3 T.a__law_piece T.fd__law_piece ["nexts", "house"] (sp__law_piece K) := by
  refine T.F__law_piece.ok sc__law_piece (fun vs H Q E h => ?_) (fun cdv A outer s0 H vs Q E hr h => ?_)
  · obtain ⟨dN, s, nx, ks, rfl, _⟩ := h
    rfl
  · obtain ⟨dN, s, nx, ks, rfl, hN, W, l64, hs, q⟩ := h
    refine ⟨_, (pss_cons (ps_set (i := 2) sc__law_piece.nd rfl (Or.inr rfl) (pe_call T.ok__law_root hr (by rfl) T.g__law_root T.k__law_root T.b__law_root .nil pass0 (pa_cons (pv 0) (pa_cons (pv 1) pa_nil))))
        (pss_one (ps_ret (pe_lc (own := [("other", 3)]) (g := gName 3) (by rfl) sc__law_piece.nd (pi_list (pe_callB (call_sortedDI rfl) (by rfl) T.m_sorted (by decide +kernel) (pa_cons (pv 0) pa_nil))) (blkOk_by (own := [("other", 3)]) (N := ["nexts", "house", "root", "other"]) (sc := defScope s__law_piece) (by decide +kernel)) (fun _ _ _ _ _ => pg_name (i := 3) sc__law_piece.nd rfl (Or.inl rfl)) (fun _ _ _ _ _ => pts_one (pt_cmpR op_eq (pe_call T.ok__law_root hr (by rfl) T.g__law_root T.k__law_root T.b__law_root .nil pass0 (pa_cons (pv 0) (pa_cons (pv 3) pa_nil))) (pv 2) (nomark _))) (fun _ _ _ _ _ => (pv 3)))))), ?_⟩
    refine ⟨_, rfl, _, rfl, dN, s, nx, ks, rfl, hN, W, hs, fun H1 s1 => ?_⟩
    refine ⟨_, rfl, dN, nx, ks, rfl, .inl (s1 _ _ hN), W.gn.1, l64, fun ys l perm pw nl => ?_⟩
    have ylen := perm.length_eq
    have s2 := same_upd (o := .lst (ys.map V.int)) nl
    have e2 : upd H1 l (.lst (ys.map V.int)) l = some (.lst (ys.map V.int)) := upd_same
    generalize upd H1 l (.lst (ys.map V.int)) = H2 at s2 e2
    have s02 := Same.trans s1 s2
    refine ⟨l, rfl, ⟨_, SqL.of e2⟩, fun D hD => ?_⟩
    refine lc_list (K := K) (a := l) (xs := ys.map V.int) (fun i H' => Same H2 H' ∧ H' D = some (.lst (((ys.take i).filter fun y => smp (iN nx) y s).map V.int))) ⟨same_upd hD, upd_same⟩ (fun i H' _ p => SqL.of (p.1 _ _ e2)) (fun i x H3 hx pv => ?_) (fun H3 pv => ?_)
    · obtain ⟨s3, e3⟩ := pv
      rw [List.getElem?_map] at hx
      obtain ⟨y, hy, rfl⟩ := Option.map_eq_some_iff.mp hx
      have my := perm.mem_iff.mp (List.mem_of_getElem? hy)
      have il : i < ys.length := (List.getElem?_eq_some_iff.mp hy).1
      have lf := List.length_filter_le (fun y => smp (iN nx) y s) (ys.take i)
      rw [List.length_take] at lf
      refine ⟨rfl, _, rfl, _, rfl, dN, y, nx, ks, rfl, s3 _ _ (s02 _ _ hN), W, my, fun H4 s4 => ⟨_, rfl, rfl, _, rfl, ?_⟩⟩
      rw [dec_int, ← smp_root W.cl my hs]
      have e4 := s4 _ _ e3
      by_cases e : smp (iN nx) y s = true
      · refine iteT' e ⟨_, rfl, _, e4, small1000' (by rw [List.length_map]; omega), fun b o eo => (upd_ne (ne_of_none eo hD)).trans (s4 _ _ (s3 _ _ eo)), ?_⟩
        rw [upd_same, tk_snoc hy, List.filter_append, List.filter_cons_of_pos (p := fun y => smp (iN nx) y s) (a := y) e, List.map_append]
        rfl
      · refine iteF' (Bool.eq_false_iff.mpr e) ⟨Same.trans s3 s4, ?_⟩
        rw [tk_snoc hy, List.filter_append, List.filter_cons_of_neg (p := fun y => smp (iN nx) y s) (a := y) e, List.filter_nil, List.append_nil]
        exact e4
    · obtain ⟨s3, e3⟩ := pv
      rw [List.length_map, List.take_length] at e3
      exact q ys D H3 perm pw (Same.trans s02 s3) (none_back s02 hD) e3
def sp__law_spoil (K : PySem.W.Frag) : Sp := fun vs H Q _ => ∃ (t c dN pl dB pO : Addr) (nx : List (Key × V)) (ks : List Int), vs = [.ref t, .ref dN, .ref pl, .ref dB, .ref pO] ∧ Tape H t c ∧ H dN = some (.dK nx) ∧ H dB = some (.dK []) ∧ H pO = some (.lst []) ∧ H pl = some (.lst (ks.map V.int)) ∧ dN ≠ dB ∧ pO ≠ t ∧ pO ≠ c ∧ pl ≠ t ∧ pl ≠ pO ∧ WN ks nx ∧ ks.Nodup ∧ ks.length ≤ 40 ∧
  ∀ bs ps Ls H', Tape H' t c → (∀ a o, a ≠ t → a ≠ dB → a ≠ pO → H a = some o → H' a = some o) → H' dB = some (.dK bs) → H' pO = some (.lst ps) → GB ks bs → KB bs → Ltr ks H' ps Ls → ps.length ≤ 60 → Q .non H'
--CUT
/-! ### told ends: the maths -/
/-- the one behind x in a row, round -/
def cyc (row : List Int) (x : Int) : Int := row.getD ((row.idxOf x + 1) % row.length) 0
theorem idx_at : ∀ {row : List Int} {i : Nat} {x : Int}, row.Nodup → row[i]? = some x → row.idxOf x = i
  | [], i, x, _, h => by simp at h
  | a :: r, 0, x, _, h => by
    have e : a = x := by simpa using h
    rw [e, List.idxOf_cons_self]
  | a :: r, i + 1, x, nd, h => by
    have h : r[i]? = some x := by simpa using h
    obtain ⟨n1, n2⟩ := List.nodup_cons.mp nd
    have ne : a ≠ x := fun e => n1 (by rw [e]; exact List.mem_of_getElem? h)
    rw [List.idxOf_cons, beq_eq_false_iff_ne.mpr ne]
    show r.idxOf x + 1 = i + 1
    rw [idx_at n2 h]
theorem cyc_at {row : List Int} {i : Nat} {x y : Int} (nd : row.Nodup) (h : row[i]? = some x) (g : row[(i + 1) % row.length]? = some y) : cyc row x = y := by
  unfold cyc
  rw [idx_at nd h, List.getD_eq_getElem?_getD, g]
  rfl
theorem cyc_mem {row : List Int} {x : Int} (h : x ∈ row) : cyc row x ∈ row := by
  have l := List.length_pos_of_mem h
  have m := Nat.mod_lt (row.idxOf x + 1) l
  unfold cyc
  rw [List.getD_eq_getElem?_getD, List.getElem?_eq_getElem m]
  exact List.getElem_mem m
theorem zipK_rot {xs : List Int} {x0 : Int} (nd : xs.Nodup) (h0 : xs[0]? = some x0) : zipK xs ((xs.drop 1 ++ [x0]).map V.int) = xs.map fun x => ((Sum.inl x : Key), V.int (cyc xs x)) := by
  have l0 : 0 < xs.length := (List.getElem?_eq_some_iff.mp h0).1
  have lr : (xs.drop 1 ++ [x0]).length = xs.length := by rw [List.length_append, List.length_drop]; show xs.length - 1 + 1 = _; omega
  unfold zipK
  refine List.ext_getElem (by rw [List.length_map, List.length_zip, List.length_map, List.length_map, lr]; omega) fun i h1 h2 => ?_
  have hi : i < xs.length := by rw [List.length_map] at h2; exact h2
  have hr : i < (xs.drop 1 ++ [x0]).length := by omega
  have e : cyc xs xs[i] = (xs.drop 1 ++ [x0])[i] := by
    refine cyc_at nd (List.getElem?_eq_getElem hi) ?_
    rw [← List.getElem?_eq_getElem hr]
    by_cases c : i + 1 < xs.length
    · rw [Nat.mod_eq_of_lt c, List.getElem?_append_left (by rw [List.length_drop]; omega), List.getElem?_drop, Nat.add_comm]
    · have e : i + 1 = xs.length := by omega
      rw [e, Nat.mod_self, h0, List.getElem?_append_right (by rw [List.length_drop]; omega), List.length_drop, show i - (xs.length - 1) = 0 by omega]
      rfl
  rw [List.getElem_map, List.getElem_map, List.getElem_zip]
  show ((Sum.inl xs[i] : Key), ((xs.drop 1 ++ [x0]).map V.int)[i]'(by rw [List.length_map]; exact hr)) = _
  rw [List.getElem_map, e]
theorem mergeK_new {f : Int → V} : ∀ {zs js : List Int} {kvs : List (Key × V)}, kvs.map (·.1) = js.map Sum.inl → zs.Nodup → (∀ z ∈ zs, z ∉ js) → mergeK kvs (zs.map fun z => ((Sum.inl z : Key), f z)) = kvs ++ zs.map fun z => ((Sum.inl z : Key), f z)
  | [], js, kvs, _, _, _ => by rw [List.map_nil, List.append_nil]; rfl
  | z :: r, js, kvs, hk, nd, dj => by
    obtain ⟨n1, n2⟩ := List.nodup_cons.mp nd
    show mergeK (putK kvs (Sum.inl z) (f z)) (r.map fun z => ((Sum.inl z : Key), f z)) = _
    rw [putK_new _ (valV_none_keys hk (dj z List.mem_cons_self)), mergeK_new (js := js ++ [z]) (by rw [List.map_append, List.map_append, hk]; rfl) n2 (fun y hy hj => ?_), List.append_assoc]
    · rfl
    · rcases List.mem_append.mp hj with hj | hj
      · exact dj y (List.mem_cons_of_mem _ hy) hj
      · rw [List.mem_singleton.mp hj] at hy
        exact n1 hy
theorem sameP_sy {f : Int → Int} {a b : Int} (h : SameP f a b) : SameP f b a := let ⟨i, j, e⟩ := h; ⟨j, i, e.symm⟩
theorem sameP_tr {f : Int → Int} {a b c : Int} (h : SameP f a b) (k : SameP f b c) : SameP f a c := by
  obtain ⟨i, j, e⟩ := h
  obtain ⟨u, v, d⟩ := k
  exact ⟨i + u, v + j, by rw [itr_add, e, ← itr_add, Nat.add_comm j u, itr_add, d, ← itr_add]⟩
theorem smp_tr {f : Int → Int} {a b c : Int} (h : smp f b c = true) : smp f a b = smp f a c := by
  rw [Bool.eq_iff_iff, smp_iff, smp_iff]
  exact ⟨fun k => sameP_tr k (smp_iff.mp h), fun k => sameP_tr k (sameP_sy (smp_iff.mp h))⟩
theorem MarkAt.move {n : Int} {f : Int → Int} {s x : Int} {zs : List Int} {L : Int} {M : Int → Int} (h : MarkAt n f s zs L M) (e : SameP f x s) : MarkAt n f x zs L M := by
  obtain ⟨g, l, p, i, G, mn, e1, e0, eL, eM⟩ := h
  obtain ⟨j, hj⟩ := reach_ring G e1 e
  exact ⟨g, l, p, j, G, mn, hj, e0, eL, eM⟩
/-- the piece of x -/
noncomputable def pcZ (f : Int → Int) (ys : List Int) (x : Int) : List Int := ys.filter fun y => smp f y x
theorem pcZ_eq {f : Int → Int} {ys : List Int} {x s : Int} (h : smp f x s = true) : pcZ f ys x = pcZ f ys s := by
  unfold pcZ
  exact List.filter_congr fun y _ => smp_tr h
open Classical in
/-- what the net comes to rest with, told by the marks -/
noncomputable def endF (n : Int) (f : Int → Int) (ys : List Int) (x : Int) : Int :=
  if h : ∃ r : Int × (Int → Int) × Int, MarkAt n f x (pcZ f ys x) r.1 r.2.1 ∧ (pcZ f ys x)[0]? = some r.2.2 then
    cyc (rowM (Classical.choose h).2.1 (Classical.choose h).1 ((Classical.choose h).2.1 (Classical.choose h).2.2) (pcZ f ys x)) x
  else 0
theorem endF_at {n : Int} {f : Int → Int} {ys zs : List Int} {s l x L : Int} {M : Int → Int} (ez : zs = pcZ f ys s) (hM : MarkAt n f s zs L M) (h0 : zs[0]? = some l) (hx : smp f x s = true) : endF n f ys x = cyc (rowM M L (M l) zs) x := by
  have hM' := hM.move (smp_iff.mp hx)
  rw [ez, ← pcZ_eq (ys := ys) hx] at hM' h0
  have h : ∃ r : Int × (Int → Int) × Int, MarkAt n f x (pcZ f ys x) r.1 r.2.1 ∧ (pcZ f ys x)[0]? = some r.2.2 := ⟨(L, M, l), hM', h0⟩
  unfold endF
  rw [dif_pos h]
  obtain ⟨c1, c2⟩ := Classical.choose_spec h
  generalize Classical.choose h = r at c1 c2
  obtain ⟨e1, e2⟩ := c1.uniq hM'
  have e3 : r.2.2 = l := Option.some.inj (c2.symm.trans h0)
  rw [e1, e2, e3, ez, pcZ_eq hx]
theorem rowM_perm (M : Int → Int) (L m0 : Int) (zs : List Int) : (rowM M L m0 zs).Perm zs := List.mergeSort_perm _ _
theorem rowM_sorted (M : Int → Int) (L m0 : Int) (zs : List Int) : (rowM M L m0 zs).Pairwise fun a b => rowF M L m0 a ≤ rowF M L m0 b := by
  have h := List.pairwise_mergeSort (le := fun a b => decide (rowF M L m0 a ≤ rowF M L m0 b)) (fun a b c h1 h2 => by simp only [decide_eq_true_eq] at *; omega) (fun a b => by simp only [Bool.or_eq_true, decide_eq_true_eq]; omega) zs
  exact h.imp fun h => of_decide_eq_true h
/-- sorted places -/
theorem pw_lt {ys : List Int} (nd : ys.Nodup) (pw : ys.Pairwise (· ≤ ·)) : ys.Pairwise (· < ·) := (pw.and nd).imp fun ⟨h1, h2⟩ => by omega
theorem pw_get {ys : List Int} (pw : ys.Pairwise (· < ·)) {i j : Nat} {a b : Int} (h : i < j) (ha : ys[i]? = some a) (hb : ys[j]? = some b) : a < b := by
  obtain ⟨li, rfl⟩ := List.getElem?_eq_some_iff.mp ha
  obtain ⟨lj, rfl⟩ := List.getElem?_eq_some_iff.mp hb
  exact List.pairwise_iff_getElem.mp pw i j li lj h
/-- the nearest place ahead is the next one, round -/
theorem near_cyc {n y : Int} {ys : List Int} {v : V} (n0 : 0 < n) (nd : ys.Nodup) (pw : ys.Pairwise (· ≤ ·)) (rng : ∀ k ∈ ys, 0 ≤ k ∧ k < n) (hy : y ∈ ys) (h : LeastBy (fun x => farL n y x) ys v) : v = .int (cyc ys y) := by
  refine LeastBy.one (fun a ha b hb e => far_inj n0 (rng a ha) (rng b hb) e) h (.inr ⟨_, cyc_mem hy, rfl, fun z hz => ?_⟩)
  have pl := pw_lt nd pw
  obtain ⟨i, hi⟩ := List.mem_iff_getElem?.mp hy
  obtain ⟨j, hj⟩ := List.mem_iff_getElem?.mp hz
  have li := (List.getElem?_eq_some_iff.mp hi).1
  have lj := (List.getElem?_eq_some_iff.mp hj).1
  have lm := Nat.mod_lt (i + 1) (show 0 < ys.length by omega)
  obtain ⟨w, hw⟩ : ∃ w, ys[(i + 1) % ys.length]? = some w := ⟨_, List.getElem?_eq_getElem lm⟩
  rw [cyc_at nd hi hw]
  show farL n y w ≤ farL n y z
  have rw_ := rng w (List.mem_of_getElem? hw)
  have rz := rng z hz
  have ry := rng y hy
  have f1 := far_lin' y w n0 ry.1 ry.2 rw_.1 rw_.2
  have f2 := far_lin' y z n0 ry.1 ry.2 rz.1 rz.2
  by_cases c : i + 1 < ys.length
  · rw [Nat.mod_eq_of_lt c] at hw
    have yw := pw_get pl (Nat.lt_succ_self i) hi hw
    rcases Nat.lt_or_ge i j with h1 | h1
    · rcases Nat.lt_or_ge (i + 1) j with h2 | h2
      · have := pw_get pl h2 hw hj
        omega
      · have e : i + 1 = j := by omega
        rw [← e, hw] at hj
        rw [Option.some.inj hj]
        exact Int.le_refl _
    · rcases Nat.lt_or_ge j i with h2 | h2
      · have := pw_get pl h2 hj hi
        omega
      · have e : i = j := by omega
        rw [← e, hi] at hj
        have := Option.some.inj hj
        omega
  · have e : i + 1 = ys.length := by omega
    rw [e, Nat.mod_self] at hw
    have wz : w ≤ z := by
      rcases Nat.eq_zero_or_pos j with h | h
      · rw [h, hw] at hj
        exact Int.le_of_eq (Option.some.inj hj)
      · have := pw_get pl h hw hj
        omega
    have zy : z ≤ y := by
      rcases Nat.lt_or_ge j i with h2 | h2
      · have := pw_get pl h2 hj hi
        omega
      · have e : i = j := by omega
        rw [← e, hi] at hj
        exact Int.le_of_eq (Option.some.inj hj).symm
    omega
/-- a ring leaves no stretch of the size out -/
theorem ring_window {n : Int} {f : Int → Int} {g : Int} (n0 : 0 < n) : ∀ {p : Nat} {t : Int}, 0 ≤ t → t < wl n f g p → ∃ j, j < p ∧ wl n f g j ≤ t ∧ t < wl n f g j + n
  | 0, t, h0, h1 => by
    have h1 : t < 0 := h1
    omega
  | p + 1, t, h0, h1 => by
    have st : wl n f g (p + 1) = wl n f g p + farL n (itr f g p) (f (itr f g p)) := rfl
    have r := far_range (itr f g p) (f (itr f g p)) n0
    by_cases c : t < wl n f g p
    · obtain ⟨j, j1, j2⟩ := ring_window n0 h0 c
      exact ⟨j, by omega, j2⟩
    · exact ⟨p, by omega, by omega, by omega⟩
section
variable {n : Int} {f : Int → Int} {L l : Int} {zs : List Int} {M : Int → Int}
theorem mark_walk (L0 : 0 < L) (K : MarksOk n f L l zs M) (cl : ∀ k ∈ zs, f k ∈ zs) {g : Int} (hg : g ∈ zs) : ∀ j : Nat, fmodD (M (itr f g j)) (M g + wl n f g j) L
  | 0 => ⟨0, by show M g = M g + 0 + L * 0; omega⟩
  | j + 1 => by
    obtain ⟨q, e⟩ := mark_walk L0 K cl hg j
    have mj := itr_mem cl hg j
    have st := K.step _ mj
    obtain ⟨q1, e1⟩ := fmod_is (x := M (f (itr f g j)) - M (itr f g j)) L0
    obtain ⟨q2, e2⟩ := fmod_is (x := farL n (itr f g j) (f (itr f g j))) L0
    rw [st, e2] at e1
    refine ⟨q2 - q1 + q, ?_⟩
    show M (f (itr f g j)) = M g + (wl n f g j + farL n (itr f g j) (f (itr f g j))) + L * (q2 - q1 + q)
    rw [Int.mul_add, Int.mul_sub]
    omega
theorem rowF_rng (L0 : 0 < L) (m0 o : Int) : 0 ≤ rowF M L m0 o ∧ rowF M L m0 o < L := fmod_range _ L0
theorem rowF_inj (K : MarksOk n f L l zs M) (L0 : 0 < L) {m0 a b : Int} (ha : a ∈ zs) (hb : b ∈ zs) (e : rowF M L m0 a = rowF M L m0 b) : a = b := by
  refine K.inj ha hb ?_
  have r1 := K.rng a ha
  have r2 := K.rng b hb
  unfold rowF at e
  obtain ⟨q1, e1⟩ := fmod_is (x := M a - m0) L0
  obtain ⟨q2, e2⟩ := fmod_is (x := M b - m0) L0
  have d : M a - M b = L * (q2 - q1) := by rw [Int.mul_sub]; omega
  have hd : q2 - q1 = 0 := by
    rcases Int.lt_trichotomy (q2 - q1) 0 with h | h | h
    · have : L * (q2 - q1) ≤ L * (-1) := Int.mul_le_mul_of_nonneg_left (by omega) (by omega)
      omega
    · exact h
    · have : L * 1 ≤ L * (q2 - q1) := Int.mul_le_mul_of_nonneg_left (by omega) (by omega)
      omega
  rw [hd, Int.mul_zero] at d
  omega
theorem rowF_self (L0 : 0 < L) (x : Int) : rowF M L (M x) x = 0 := by
  unfold rowF
  rw [Int.sub_self]
  exact Int.zero_fmod L
/-- the row begins with the least house -/
theorem row_head (K : MarksOk n f L l zs M) (L0 : 0 < L) (hl : l ∈ zs) : (rowM M L (M l) zs)[0]? = some l := by
  have pm := rowM_perm M L (M l) zs
  have st := rowM_sorted M L (M l) zs
  cases e : rowM M L (M l) zs with
  | nil => rw [e, List.nil_perm] at pm; rw [pm] at hl; cases hl
  | cons a r =>
    rw [e] at pm st
    have ma : a ∈ zs := pm.mem_iff.mp List.mem_cons_self
    have ml : l ∈ a :: r := pm.mem_iff.mpr hl
    rcases List.mem_cons.mp ml with h | h
    · rw [h]; rfl
    · have h1 := (List.pairwise_cons.mp st).1 l h
      rw [rowF_self L0] at h1
      have h2 := (rowF_rng (M := M) L0 (M l) a).1
      have h3 : rowF M L (M l) a = rowF M L (M l) l := by rw [rowF_self L0]; omega
      rw [rowF_inj K L0 ma hl h3]
      rfl
/-- one turn: the marks are the places -/
theorem end_one (K : MarksOk n f n l zs M) (n0 : 0 < n) (nd : zs.Nodup) (pw : zs.Pairwise (· ≤ ·)) (h0 : zs[0]? = some l) : rowM M n (M l) zs = zs := by
  have hM : ∀ o ∈ zs, M o = o := fun o ho => by
    have r := K.rng o ho
    have a := K.at_ o ho
    rw [fmod_small r.1 r.2] at a
    exact a
  have hl := List.mem_of_getElem? h0
  have rl := K.rng l hl
  have eF : ∀ o ∈ zs, rowF M n (M l) o = o - l := fun o ho => by
    have r := K.rng o ho
    unfold rowF
    rw [hM o ho, hM l hl] at *
    have lo : l ≤ o := by
      obtain ⟨i, hi⟩ := List.mem_iff_getElem?.mp ho
      rcases Nat.eq_zero_or_pos i with h | h
      · rw [h, h0] at hi
        exact Int.le_of_eq (Option.some.inj hi)
      · have := pw_get (pw_lt nd pw) h h0 hi
        omega
    exact fmod_small (by omega) (by omega)
  have pm := rowM_perm M n (M l) zs
  refine sorted_one pm (fun a ha b hb e => rowF_inj K n0 (pm.mem_iff.mp ha) (pm.mem_iff.mp hb) e) (rowM_sorted M n (M l) zs) ?_
  refine (List.Pairwise.and_mem.mp pw).imp fun ⟨ha, hb, h⟩ => ?_
  rw [eF _ ha, eF _ hb]
  omega
/-- told as the places stand: but one turn -/
theorem one_end (n0 : 0 < n) (q : Int) (hq : L = n * q) (q0 : 0 < q) (K : MarksOk n f L l zs M) (nd : zs.Nodup) (pw : zs.Pairwise (· ≤ ·)) (rng : ∀ k ∈ zs, 0 ≤ k ∧ k < n) (h0 : zs[0]? = some l) (cl : ∀ k ∈ zs, f k ∈ zs) {g : Int} {p : Nat} (hg : g ∈ zs) (eL : L = wl n f g p)
    (h : ∀ y ∈ zs, cyc (rowM M L (M l) zs) y = cyc zs y) : L = n := by
  have nL : n ≤ L := by
    rw [hq]
    have := Int.mul_le_mul_of_nonneg_left (show (1 : Int) ≤ q by omega) (show (0 : Int) ≤ n by omega)
    omega
  have L0 : 0 < L := by omega
  have hl := List.mem_of_getElem? h0
  have pm := rowM_perm M L (M l) zs
  have rnd : (rowM M L (M l) zs).Nodup := pm.nodup_iff.mpr nd
  have rh := row_head K L0 hl
  have rs := rowM_sorted M L (M l) zs
  have rl := pm.length_eq
  have rr := fun o => rowF_rng (M := M) L0 (M l) o
  have ri := fun {a b : Int} (ha : a ∈ zs) (hb : b ∈ zs) e => rowF_inj K L0 (m0 := M l) ha hb e
  have r0 := rowF_self (M := M) L0 l
  have eq : ∀ (i : Nat) (x : Int), zs[i]? = some x → (rowM M L (M l) zs)[i]? = some x := fun i => by
    induction i with
    | zero => intro x hx; rw [h0] at hx; rw [rh]; exact hx
    | succ i ih =>
      intro x hx
      have li := (List.getElem?_eq_some_iff.mp hx).1
      obtain ⟨y, hy⟩ : ∃ y, zs[i]? = some y := ⟨_, List.getElem?_eq_getElem (by omega)⟩
      have e1 := ih y hy
      have e2 : cyc zs y = x := cyc_at nd hy (by rw [Nat.mod_eq_of_lt li]; exact hx)
      obtain ⟨z, hz⟩ : ∃ z, (rowM M L (M l) zs)[i + 1]? = some z := ⟨_, List.getElem?_eq_getElem (by omega)⟩
      have e3 : cyc (rowM M L (M l) zs) y = z := cyc_at rnd e1 (by rw [rl, Nat.mod_eq_of_lt li]; exact hz)
      rw [hz, ← e3, h y (List.mem_of_getElem? hy), e2]
  -- keys go up with the places
  have up : ∀ {i j : Nat} {a b : Int}, i < j → zs[i]? = some a → zs[j]? = some b → rowF M L (M l) a < rowF M L (M l) b := fun {i j a b} hij ha hb => by
    obtain ⟨li, ea⟩ := List.getElem?_eq_some_iff.mp (eq i a ha)
    obtain ⟨lj, eb⟩ := List.getElem?_eq_some_iff.mp (eq j b hb)
    have h1 := List.pairwise_iff_getElem.mp rs i j li lj hij
    rw [ea, eb] at h1
    have h2 : rowF M L (M l) a ≠ rowF M L (M l) b := fun e => by
      have := ri (List.mem_of_getElem? ha) (List.mem_of_getElem? hb) e
      have := pw_get (pw_lt nd pw) hij ha hb
      omega
    omega
  have cong : ∀ o ∈ zs, ∃ c, rowF M L (M l) o = o - l + n * c := fun o ho => by
    obtain ⟨c1, e1⟩ := fmod_is (x := M o - M l) L0
    obtain ⟨c2, e2⟩ := fmod_is (x := M o) n0
    have a2 := K.at_ o ho
    refine ⟨q * c1 - c2, ?_⟩
    show (M o - M l).fmod L = _
    rw [e1, K.low, hq, Int.mul_sub, Int.mul_assoc]
    omega
  -- some house within each stretch
  have win : ∀ t, n - 1 ≤ t → t < L → ∃ x ∈ zs, t - n < rowF M L (M l) x ∧ rowF M L (M l) x ≤ t := fun t t0 t1 => by
    have r1 := fmod_range (t - rowF M L (M l) g) L0
    obtain ⟨c1, e1⟩ := fmod_is (x := t - rowF M L (M l) g) L0
    obtain ⟨j, _, j1, j2⟩ := ring_window (n := n) (f := f) (g := g) (p := p) n0 r1.1 (by rw [← eL]; exact r1.2)
    obtain ⟨c2, e2⟩ := mark_walk L0 K cl hg j
    have mx := itr_mem cl hg j
    obtain ⟨c3, e3⟩ := fmod_is (x := M (itr f g j) - M l) L0
    obtain ⟨c4, e4⟩ := fmod_is (x := M g - M l) L0
    have e3' : rowF M L (M l) (itr f g j) = M (itr f g j) - M l + L * c3 := e3
    have e4' : rowF M L (M l) g = M g - M l + L * c4 := e4
    refine ⟨itr f g j, mx, ?_⟩
    have rx := rr (itr f g j)
    have d : t - rowF M L (M l) (itr f g j) = ((t - rowF M L (M l) g).fmod L - wl n f g j) + L * (c4 - c1 - c2 - c3) := by
      rw [Int.mul_sub, Int.mul_sub, Int.mul_sub]
      omega
    have rA : 0 ≤ (t - rowF M L (M l) g).fmod L - wl n f g j ∧ (t - rowF M L (M l) g).fmod L - wl n f g j < n := ⟨by omega, by omega⟩
    generalize (t - rowF M L (M l) g).fmod L - wl n f g j = r at d rA
    have hc : c4 - c1 - c2 - c3 = 0 := by
      rcases Int.lt_trichotomy (c4 - c1 - c2 - c3) 0 with h | h | h
      · have : L * (c4 - c1 - c2 - c3) ≤ L * (-1) := Int.mul_le_mul_of_nonneg_left (by omega) (by omega)
        omega
      · exact h
      · have : L * 1 ≤ L * (c4 - c1 - c2 - c3) := Int.mul_le_mul_of_nonneg_left (by omega) (by omega)
        omega
    rw [hc, Int.mul_zero] at d
    omega
  have plain : ∀ (i : Nat) (x : Int), zs[i]? = some x → rowF M L (M l) x = x - l := fun i => by
    induction i with
    | zero =>
      intro x hx
      rw [h0] at hx
      rw [← Option.some.inj hx, r0]
      omega
    | succ i ih =>
      intro x hx
      have li := (List.getElem?_eq_some_iff.mp hx).1
      obtain ⟨y, hy⟩ : ∃ y, zs[i]? = some y := ⟨_, List.getElem?_eq_getElem (by omega)⟩
      have e1 := ih y hy
      have u1 := up (Nat.lt_succ_self i) hy hx
      have pl := pw_get (pw_lt nd pw) (Nat.lt_succ_self i) hy hx
      obtain ⟨c, ec⟩ := cong x (List.mem_of_getElem? hx)
      have rx := rr x
      have ry := rr y
      have gx := rng x (List.mem_of_getElem? hx)
      have gl := rng l hl
      have ly : l ≤ y := by omega
      rcases Int.lt_trichotomy c 0 with h | h | h
      · have : n * c ≤ n * (-1) := Int.mul_le_mul_of_nonneg_left (by omega) (by omega)
        omega
      · rw [ec, h, Int.mul_zero, Int.add_zero]
      · exfalso
        have h3 : n * 1 ≤ n * c := Int.mul_le_mul_of_nonneg_left (by omega) (by omega)
        obtain ⟨z, hz, z1, z2⟩ := win (rowF M L (M l) y + n) (by omega) (by omega)
        obtain ⟨j, hj⟩ := List.mem_iff_getElem?.mp hz
        rcases Nat.lt_or_ge i j with h4 | h4
        · rcases Nat.lt_or_ge (i + 1) j with h5 | h5
          · have := up h5 hx hj
            omega
          · obtain rfl : i + 1 = j := by omega
            rw [hx] at hj
            rw [← Option.some.inj hj] at z2
            omega
        · rcases Nat.lt_or_ge j i with h5 | h5
          · have := up h5 hj hy
            omega
          · obtain rfl : i = j := by omega
            rw [hy] at hj
            rw [← Option.some.inj hj] at z1
            omega
  by_cases c : q = 1
  · rw [hq, c, Int.mul_one]
  · exfalso
    have h2 : n * 2 ≤ n * q := Int.mul_le_mul_of_nonneg_left (by omega) (by omega)
    obtain ⟨x, hx, x1, _⟩ := win (L - 1) (by omega) (by omega)
    obtain ⟨j, hj⟩ := List.mem_iff_getElem?.mp hx
    have e := plain j x hj
    have gx := rng x hx
    have gl := rng l hl
    omega
end
/-- the net's told end is the plain one just where all houses are of one piece of one turn -/
theorem ends_plain_iff {n : Int} {f : Int → Int} {ys zs : List Int} {l L : Int} {M : Int → Int} (n0 : 0 < n) (nd : ys.Nodup) (pw : ys.Pairwise (· ≤ ·)) (rng : ∀ k ∈ ys, 0 ≤ k ∧ k < n) (cl : ∀ k ∈ ys, f k ∈ ys) (h0 : ys[0]? = some l) (ez : zs = pcZ f ys l) (hM : MarkAt n f l zs L M) :
    (∀ y ∈ ys, endF n f ys y = cyc ys y) ↔ zs.length = ys.length ∧ L = n := by
  have hl := List.mem_of_getElem? h0
  have sl : smp f l l = true := smp_iff.mpr SameP.refl
  have z0 : zs[0]? = some l := by
    rw [ez]
    cases ys with
    | nil => cases h0
    | cons a r =>
      have e : a = l := by simpa using h0
      subst e
      unfold pcZ
      rw [List.filter_cons_of_pos (p := fun y => smp f y a) sl]
      rfl
  obtain ⟨l', e', K⟩ := hM.ok n0 fun o ho => by
    rw [ez] at ho
    obtain ⟨h1, h2⟩ := List.mem_filter.mp ho
    exact ⟨rng o h1, smp_iff.mp h2⟩
  obtain rfl : l = l' := Option.some.inj (z0.symm.trans e')
  have all : zs.length = ys.length → zs = ys := fun e => by
    rw [ez] at e ⊢
    exact List.filter_eq_self.mpr fun y hy => (List.length_filter_eq_length_iff.mp e) y hy
  obtain ⟨g, _, p, i, G, _, eg, _, eL, _⟩ := id hM
  obtain ⟨⟨q, eq, q0⟩, _⟩ := gate_len (n := n) n0 G
  constructor
  · intro h
    have cz : ∀ y ∈ ys, smp f y l = true := fun y hy => by
      have : ∀ (i : Nat) (y : Int), ys[i]? = some y → smp f y l = true := fun i => by
        induction i with
        | zero => intro y hy; rw [h0] at hy; rw [← Option.some.inj hy]; exact sl
        | succ i ih =>
          intro x hx
          have li := (List.getElem?_eq_some_iff.mp hx).1
          obtain ⟨y, hy⟩ : ∃ y, ys[i]? = some y := ⟨_, List.getElem?_eq_getElem (by omega)⟩
          have e1 := ih y hy
          have my := List.mem_of_getElem? hy
          have e2 : cyc ys y = x := cyc_at nd hy (by rw [Nat.mod_eq_of_lt li]; exact hx)
          have e3 := endF_at (ys := ys) ez hM z0 e1
          rw [h y my, e2] at e3
          have mz : y ∈ zs := by rw [ez]; exact List.mem_filter.mpr ⟨my, e1⟩
          have mr : x ∈ rowM M L (M l) zs := by rw [e3]; exact cyc_mem ((rowM_perm M L (M l) zs).mem_iff.mpr mz)
          have := (rowM_perm M L (M l) zs).mem_iff.mp mr
          rw [ez] at this
          exact (List.mem_filter.mp this).2
      obtain ⟨i, hi⟩ := List.mem_iff_getElem?.mp hy
      exact this i y hi
    have e : zs = ys := by rw [ez]; exact List.filter_eq_self.mpr fun y hy => cz y hy
    refine ⟨by rw [e], ?_⟩
    have hc : ∀ y ∈ ys, cyc (rowM M L (M l) zs) y = cyc ys y := fun y hy => by rw [← endF_at (ys := ys) ez hM z0 (cz y hy), h y hy]
    rw [e] at K hc z0
    have hg : g ∈ ys := by rw [← eg]; exact itr_mem cl hl i
    exact one_end n0 q (by rw [eL, eq]) q0 K nd pw rng z0 cl hg eL hc
  · rintro ⟨e, e2⟩ y hy
    have e := all e
    have cz : smp f y l = true := by
      rw [← e, ez] at hy
      exact (List.mem_filter.mp hy).2
    rw [endF_at (ys := ys) ez hM z0 cz]
    subst e2
    rw [e] at K z0 ⊢
    rw [end_one K n0 nd pw z0]
theorem mark_ring {n : Int} {f : Int → Int} {s l : Int} {zs rs : List Int} (R : RingL f s rs) (h0 : zs[0]? = some l) : ∃ M, MarkAt n f s zs (ringS n f rs) M := by
  obtain ⟨y, p, rfl, G, mn, i, e⟩ := R
  exact ⟨_, y, l, p, i, G, mn, e, h0, ringS_wl p, rfl⟩
theorem pcZ_head {f : Int → Int} {ys : List Int} {l : Int} (h0 : ys[0]? = some l) : (pcZ f ys l)[0]? = some l := by
  cases ys with
  | nil => cases h0
  | cons a r =>
    have e : a = l := by simpa using h0
    subst e
    unfold pcZ
    rw [List.filter_cons_of_pos (p := fun y => smp f y a) (smp_iff.mpr SameP.refl)]
    rfl
theorem ring_turns1 {n : Int} {f : Int → Int} {s : Int} {rs : List Int} (n0 : 0 < n) (R : RingL f s rs) : (ringS n f rs).fdiv n = 1 ↔ ringS n f rs = n := by
  obtain ⟨y, p, rfl, G, _, _, _⟩ := R
  rw [ringS_wl]
  obtain ⟨⟨q, e, _⟩, _⟩ := gate_len n0 G
  rw [e, Int.mul_fdiv_cancel_left q (by omega)]
  constructor
  · intro h; rw [h, Int.mul_one]
  · intro h
    have : n * q = n * 1 := by omega
    exact Int.eq_of_mul_eq_mul_left (by omega) this
--CUT
/-! ### told ends: the program -/
theorem NetAt.extN {C a dn db dl : Addr} {H H' : Hp} {n : Int} {nx bf : List (Key × V)} {ls : List V} (N : NetAt C H a n dn db dl nx bf ls) (e : LamX.ExtN H H') : NetAt C H' a n dn db dl nx bf ls :=
  ⟨let ⟨dx, me⟩ := N.me; ⟨dx, e _ _ me (fun ps z => nomatch z)⟩, e _ _ N.hn (fun ps z => nomatch z), e _ _ N.hb (fun ps z => nomatch z), e _ _ N.hl (fun ps z => nomatch z)⟩
theorem Sy.extN {C h dn db dl : Addr} {H H' : Hp} {n : Int} {nx bf bs : List (Key × V)} {ls : List V} {ks : List Int} {Ls : List Let} (S : Sy C H h n dn db dl nx bf bs ls ks Ls) (e : LamX.ExtN H H') : Sy C H' h n dn db dl nx bf bs ls ks Ls :=
  { S with net := S.net.extN e, la := S.la.mono fun a xs h => e _ _ h (fun ps z => nomatch z) }
def sp_order_nexts (K : PySem.W.Frag) : Sp := fun vs H Q _ => ∃ (l : Addr) (row : List Int), vs = [.ref l] ∧ H l = some (.lst (row.map V.int)) ∧ row.Nodup ∧ 0 < row.length ∧ row.length < 64 ∧
  ∀ (us : List Int) p H', us.Perm row → us.Pairwise (· ≤ ·) → Same H H' → H p = none → H' p = some (.dK (us.map fun x => ((Sum.inl x : Key), V.int (cyc row x)))) → Q (.ref p) H'
theorem T0.ok_order_nexts (T : T0 K mg) : FnOk P w K mg base CX0 1 T.a_order_nexts T.fd_order_nexts ["order"] (sp_order_nexts K) := by
  refine T.F_order_nexts.ok sc_order_nexts (fun vs H Q E h => ?_) (fun cdv A outer s0 H vs Q E hr h => ?_)
  · obtain ⟨l, row, rfl, _⟩ := h
    rfl
  · obtain ⟨l, row, rfl, hl, nd, l0, l64, q⟩ := h
    refine ⟨_, (pss_cons (ps_set (i := 1) sc_order_nexts.nd rfl (Or.inr rfl) (show PE _ _ (tDZip K _) from pe_dictZip (by rfl) T.m_dict (by decide +kernel) (by rfl) T.m_zip (pa_cons (pv 0) (pa_cons (pe_lst (StX.pa_star (pe_slice (sl_listK (K := K)) (pv 0) (po_some pe_int) po_none) (pa_cons (pe_ix (ix_listK (K := K)) (pv 0) pe_int (fun _ _ => rfl)) pa_nil))) pa_nil))))
        (pss_one (ps_ret (pe_dc (own := [("place", 2)]) (g := gName 2) (by rfl) sc_order_nexts.nd (pi_list (pe_callB (cr_sortedK (K := K)) (by rfl) T.m_sorted (by decide +kernel) (pa_cons (pv 0) pa_nil))) (blkOk_by (own := [("place", 2)]) (N := ["order", "followers", "place"]) (sc := defScope s_order_nexts) (by decide +kernel)) (fun _ _ _ _ _ => pg_name (i := 2) sc_order_nexts.nd rfl (Or.inl rfl)) (fun _ _ _ _ _ => pts_nil) (fun _ _ _ _ _ => (pv 2)) (fun _ _ _ _ _ => (pe_dget (un1 hr) (pv 1) (pv 2) (fun _ _ => rfl))))))), ?_⟩
    obtain ⟨x0, h0⟩ : ∃ x0, row[0]? = some x0 := ⟨_, List.getElem?_eq_getElem l0⟩
    refine ⟨_, rfl, _, rfl, 1, rfl, l, _, rfl, SqL.of hl, fun p1 np1 => ?_⟩
    rw [cut_hi (by omega)]
    have s1 := same_upd (o := .lst ((row.drop 1).map V.int)) np1
    have e1 : upd H p1 (.lst ((row.drop 1).map V.int)) p1 = some (.lst ((row.drop 1).map V.int)) := upd_same
    rw [show (1 : Int).toNat = 1 from rfl]
    generalize upd H p1 (.lst ((row.drop 1).map V.int)) = H1 at s1 e1
    refine ⟨p1, _, rfl, .inr (SqL.of e1), ?_⟩
    have ld : ((row.drop 1).map V.int).length = row.length - 1 := by rw [List.length_map, List.length_drop]
    refine ⟨_, rfl, l, _, 0, .int x0, rfl, rfl, SqL.of (s1 _ _ hl), (show atI (row.map V.int) ((0 : Nat) : Int) = some (.int x0) from atI_nat (by rw [List.getElem?_map, h0]; rfl)), lenL (by rw [List.length_append, ld]; show row.length - 1 + 1 ≤ 100000; omega), fun p2 np2 => ?_⟩
    have s2 := Same.trans s1 (same_upd (o := .lst ((row.drop 1).map V.int ++ [.int x0])) np2)
    have e2 : upd H1 p2 (.lst ((row.drop 1).map V.int ++ [.int x0])) p2 = some (.lst ((row.drop 1 ++ [x0]).map V.int)) := by rw [upd_same, List.map_append]; rfl
    generalize upd H1 p2 (.lst ((row.drop 1).map V.int ++ [.int x0])) = H2 at s2 e2
    refine ⟨l, p2, row, _, rfl, SqL.of (s2 _ _ hl), SqL.of e2, fun d ndd => ?_⟩
    have s3 := Same.trans s2 (same_upd (o := .dK (mergeK [] (zipK row ((row.drop 1 ++ [x0]).map V.int)))) ndd)
    have e3 : upd H2 d (.dK (mergeK [] (zipK row ((row.drop 1 ++ [x0]).map V.int)))) d = some (.dK (row.map fun x => ((Sum.inl x : Key), V.int (cyc row x)))) := by
      rw [upd_same, zipK_rot nd h0, mergeK_new (js := []) rfl nd (fun _ _ h => nomatch h), List.nil_append]
    generalize upd H2 d (.dK (mergeK [] (zipK row ((row.drop 1 ++ [x0]).map V.int)))) = H3 at s3 e3
    refine ⟨_, rfl, l, row, rfl, SqL.of (s3 _ _ hl), by omega, fun us p perm pw np => ?_⟩
    have ulen := perm.length_eq
    have und := perm.nodup_iff.mpr nd
    have s4 := same_upd (o := .lst (us.map V.int)) np
    have e4 : upd H3 p (.lst (us.map V.int)) p = some (.lst (us.map V.int)) := upd_same
    generalize upd H3 p (.lst (us.map V.int)) = H4 at s4 e4
    have ed4 := s4 _ _ e3
    have s04 := Same.trans s3 s4
    refine ⟨p, rfl, ⟨_, SqL.of e4⟩, fun D hD => ?_⟩
    refine dc_list (K := K) (a := p) (xs := us.map V.int) (fun i H' => Same H4 H' ∧ H' D = some (.dK ((us.take i).map fun x => ((Sum.inl x : Key), V.int (cyc row x))))) ⟨same_upd hD, upd_same⟩ (fun i H' _ p => SqL.of (p.1 _ _ e4)) (fun i x H5 hx pv => ?_) (fun H5 pv => ?_)
    · obtain ⟨s5, e5⟩ := pv
      rw [List.getElem?_map] at hx
      obtain ⟨y, hy, rfl⟩ := Option.map_eq_some_iff.mp hx
      have my := perm.mem_iff.mp (List.mem_of_getElem? hy)
      refine ⟨rfl, lc_yes ?_⟩
      refine ⟨_, rfl, _, rfl, _, rfl, d, _, rfl, dget_of (k := Sum.inl y) (s5 _ _ ed4) (valV_map_mem (f := fun x => V.int (cyc row x)) my), _, Sum.inl y, rfl, e5, small1000' (by rw [List.length_map, List.length_take]; omega), fun b u e => (upd_ne (ne_of_none e hD)).trans (s5 _ _ e), ?_⟩
      rw [upd_same, putK_new _ (valV_none_of (f := fun x => V.int (cyc row x)) (not_in_take und hy)), tk_snoc hy, List.map_append]
      rfl
    · obtain ⟨s5, e5⟩ := pv
      rw [List.length_map, List.take_length] at e5
      exact q us D H5 perm pw (Same.trans s04 s5) (none_back s04 hD) e5
/-- a table in the order of its keys -/
def sp__ascending (K : PySem.W.Frag) : Sp := fun vs H Q _ => ∃ (d : Addr) (js : List Int) (f : Int → V), vs = [.ref d] ∧ H d = some (.dK (js.map fun k => ((Sum.inl k : Key), f k))) ∧ js.Nodup ∧ js.length < 64 ∧
  ∀ (us : List Int) p H', us.Perm js → us.Pairwise (· ≤ ·) → Same H H' → H p = none → H' p = some (.dK (us.map fun k => ((Sum.inl k : Key), f k))) → Q (.ref p) H'
theorem T0.ok__ascending (T : T0 K mg) : FnOk P w K mg base CX0 1 T.a__ascending T.fd__ascending ["table"] (sp__ascending K) := by
  refine T.F__ascending.ok sc__ascending (fun vs H Q E h => ?_) (fun cdv A outer s0 H vs Q E hr h => ?_)
  · obtain ⟨d, js, f, rfl, _⟩ := h
    rfl
  · obtain ⟨d, js, f, rfl, hd, nd, l64, q⟩ := h
    refine ⟨_, (pss_one (ps_ret (pe_dc (own := [("house", 1)]) (g := gName 1) (by rfl) sc__ascending.nd (pi_list (pe_callB (call_sortedDI rfl) (by rfl) T.m_sorted (by decide +kernel) (pa_cons (pv 0) pa_nil))) (blkOk_by (own := [("house", 1)]) (N := ["table", "house"]) (sc := defScope s__ascending) (by decide +kernel)) (fun _ _ _ _ _ => pg_name (i := 1) sc__ascending.nd rfl (Or.inl rfl)) (fun _ _ _ _ _ => pts_nil) (fun _ _ _ _ _ => (pv 1)) (fun _ _ _ _ _ => (pe_dget (un1 hr) (pv 0) (pv 1) (fun _ _ => rfl)))))), ?_⟩
    refine ⟨_, rfl, d, _, js, rfl, .inl hd, by rw [List.map_map]; rfl, l64, fun us p perm pw np => ?_⟩
    have ulen := perm.length_eq
    have und := perm.nodup_iff.mpr nd
    have s4 := same_upd (o := .lst (us.map V.int)) np
    have e4 : upd H p (.lst (us.map V.int)) p = some (.lst (us.map V.int)) := upd_same
    generalize upd H p (.lst (us.map V.int)) = H4 at s4 e4
    have ed4 := s4 _ _ hd
    refine ⟨p, rfl, ⟨_, SqL.of e4⟩, fun D hD => ?_⟩
    refine dc_list (K := K) (a := p) (xs := us.map V.int) (fun i H' => Same H4 H' ∧ H' D = some (.dK ((us.take i).map fun k => ((Sum.inl k : Key), f k)))) ⟨same_upd hD, upd_same⟩ (fun i H' _ p => SqL.of (p.1 _ _ e4)) (fun i x H5 hx pv => ?_) (fun H5 pv => ?_)
    · obtain ⟨s5, e5⟩ := pv
      rw [List.getElem?_map] at hx
      obtain ⟨y, hy, rfl⟩ := Option.map_eq_some_iff.mp hx
      have my := perm.mem_iff.mp (List.mem_of_getElem? hy)
      refine ⟨rfl, lc_yes ?_⟩
      refine ⟨_, rfl, _, rfl, _, rfl, d, _, rfl, dget_of (k := Sum.inl y) (s5 _ _ ed4) (valV_map_mem (f := f) my), _, Sum.inl y, rfl, e5, small1000' (by rw [List.length_map, List.length_take]; omega), fun b u e => (upd_ne (ne_of_none e hD)).trans (s5 _ _ e), ?_⟩
      rw [upd_same, putK_new _ (valV_none_of (f := f) (not_in_take und hy)), tk_snoc hy, List.map_append]
      rfl
    · obtain ⟨s5, e5⟩ := pv
      rw [List.length_map, List.take_length] at e5
      exact q us D H5 perm pw (Same.trans s4 s5) (none_back s4 hD) e5
def AllTrue (n : Int) (nx bs : List (Key × V)) (ks : List Int) (Ls : List Let) : Prop := ∀ ys : List Int, ys.Perm ks → ys.Pairwise (· ≤ ·) → ∀ q ∈ Prs nx bs ys Ls, trP n (iN nx) q = true
theorem first_false {α : Type} {p : α → Bool} : ∀ {xs : List α} {i : Nat} {x : α}, xs[i]? = some x → p x = false → ∃ j y, j ≤ i ∧ xs[j]? = some y ∧ p y = false ∧ ∀ z ∈ xs.take j, p z = true
  | [], i, x, h, _ => by simp at h
  | a :: r, i, x, h, hp => by
    cases e : p a with
    | false => exact ⟨0, a, Nat.zero_le _, rfl, e, fun z hz => by rw [List.take_zero] at hz; cases hz⟩
    | true =>
      cases i with
      | zero =>
        have : a = x := by simpa using h
        rw [this, hp] at e
        cases e
      | succ i =>
        obtain ⟨j, y, h1, h2, h3, h4⟩ := first_false (p := p) (xs := r) (i := i) (by simpa using h) hp
        refine ⟨j + 1, y, by omega, by simpa using h2, h3, fun z hz => ?_⟩
        rw [List.take_succ_cons] at hz
        rcases List.mem_cons.mp hz with rfl | hz
        · exact e
        · exact h4 z hz
def sp__check_true (C : Addr) : Sp := fun vs H Q _ => ∃ (h dn db dl : Addr) (n : Int) (nx bf bs : List (Key × V)) (ls : List V) (ks : List Int) (Ls : List Let), vs = [.ref h] ∧ Sy C H h n dn db dl nx bf bs ls ks Ls ∧ AllTrue n nx bs ks Ls ∧ ∀ H', Same H H' → Q .non H'
theorem T0.ok__check_true (T : T0 K mg) : FnOk P w K mg base CX0 7 T.a__check_true T.fd__check_true ["net"] (sp__check_true T.C_Net) := by
  refine T.F__check_true.ok sc__check_true (fun vs H Q E h => ?_) (fun cdv A outer s0 H vs Q E hr h => ?_)
  · obtain ⟨h, dn, db, dl, n, nx, bf, bs, ls, ks, Ls, rfl, _⟩ := h
    rfl
  · obtain ⟨h, dn, db, dl, n, nx, bf, bs, ls, ks, Ls, rfl, S, tr, q⟩ := h
    refine ⟨_, (pss_cons (ps_set (i := 1) sc__check_true.nd rfl (Or.inl rfl) (pe_call T.ok_first_untrue hr (by rfl) T.g_first_untrue T.k_first_untrue T.b_first_untrue .nil pass0 (pa_cons (pv 0) pa_nil)))
        (pss_one (ps_if (pt_cmpR op_notN (pv 1) pe_non (nomark _)) (pss_one (ps_never)) pss_nil))), ?_⟩
    refine ⟨_, rfl, h, dn, db, dl, n, nx, bf, bs, ls, ks, Ls, rfl, S, fun ys H1 perm pw s1 => ⟨fun _ => ?_, fun i c a hc _ hf _ => ?_⟩⟩
    · exact ⟨_, rfl, rfl, _, rfl, iteF' rfl (q H1 s1)⟩
    · have := tr ys perm pw c (List.mem_of_getElem? hc)
      rw [hf] at this
      cases this
def sp_told_end (K : PySem.W.Frag) (C : Addr) : Sp := fun vs H Q _ => ∃ (h dn db dl : Addr) (n : Int) (nx bf bs : List (Key × V)) (ls : List V) (ks : List Int) (Ls : List Let), vs = [.ref h] ∧ Sy C H h n dn db dl nx bf bs ls ks Ls ∧ AllTrue n nx bs ks Ls ∧ LamX.Tabs (LT K) H ∧
  ∀ (ys : List Int) d H', ys.Perm ks → ys.Pairwise (· ≤ ·) → LamX.ExtN H H' → LamX.Tabs (LT K) H' → Off H d → H' d = some (.dK (ys.map fun y => ((Sum.inl y : Key), V.int (endF n (iN nx) ys y)))) → Q (.ref d) H'
theorem T0.ok_told_end (T : T0 K mg) : FnOk P w K mg base CX0 10 T.a_told_end T.fd_told_end ["net"] (sp_told_end K T.C_Net) := by
  refine T.F_told_end.ok sc_told_end (fun vs H Q E h => ?_) (fun cdv A outer s0 H vs Q E hr h => ?_)
  · obtain ⟨h, dn, db, dl, n, nx, bf, bs, ls, ks, Ls, rfl, _⟩ := h
    rfl
  · obtain ⟨h, dn, db, dl, n, nx, bf, bs, ls, ks, Ls, rfl, S, tr, tb0, q⟩ := h
    refine ⟨_, (pss_cons (ps_expr (pe_call T.ok__check_true (hr.mono (by decide)) (by rfl) T.g__check_true T.k__check_true T.b__check_true .nil pass0 (pa_cons (pv 0) pa_nil)))
        (pss_cons (ps_set (i := 1) sc_told_end.nd rfl (Or.inl rfl) pe_dnewK)
        (pss_cons (ps_for PassesOwn.never rfl (pi_list (pe_call T.ok_pieces (hr.mono (by decide)) (by rfl) T.g_pieces T.k_pieces T.b_pieces .nil pass0 (pa_cons (pv 0) pa_nil))) (pg_name (i := 2) sc_told_end.nd rfl (Or.inl rfl)) (pss_one (ps_expr (pe_bm PySem.F.plainAttrs_dict PySem.F.slot_dict_update PySem.F.type_dict_update mtd_update (pv 1) (pa_cons (pe_call T.ok_order_nexts (hr.mono (by decide)) (by rfl) T.g_order_nexts T.k_order_nexts T.b_order_nexts .nil pass0 (pa_cons (pe_call T.ok_mark_row (hr.mono (by decide)) (by rfl) T.g_mark_row T.k_mark_row T.b_mark_row .nil pass0 (pa_cons (pv 0) (pa_cons (pe_ix (ix_listK (K := K)) (pv 2) pe_int (fun _ _ => rfl)) pa_nil))) pa_nil)) pa_nil)))))
        (pss_one (ps_ret (pe_call T.ok__ascending (hr.mono (by decide)) (by rfl) T.g__ascending T.k__ascending T.b__ascending .nil pass0 (pa_cons (pv 1) pa_nil))))))), ?_⟩
    have n0 := S.n0
    have n9 := S.n9
    have l64 := S.l64
    refine ⟨_, rfl, h, dn, db, dl, n, nx, bf, bs, ls, ks, Ls, rfl, S, tr, fun H1 s1 dE ndE => ?_⟩
    have s2 := same_upd (o := .dK []) ndE
    have e2 : upd H1 dE (.dK []) dE = some (.dK []) := upd_same
    generalize upd H1 dE (.dK []) = H2 at s2 e2
    have s02 := Same.trans s1 s2
    have S2 := S.same s02
    refine ⟨_, rfl, h, dn, db, dl, n, nx, bf, ls, ks, rfl, S2.net, S.w, l64, S.nd, n0, fun ys l as H3 perm pw s3 nl PC => ?_⟩
    have ynd : ys.Nodup := perm.nodup_iff.mpr S.nd
    have ylen := perm.length_eq
    obtain ⟨hl, las, hpc, nas, _⟩ := PC
    have s03 := Same.trans s02 s3
    have ndE0 := none_back s1 ndE
    have lE : l ≠ dE := fun z => by rw [z, e2] at nl; cases nl
    have tb3 := tb0.ext s03
    have eE3 := s3 _ _ e2
    have cl := S.w.cl
    have rt_smp : ∀ {a b : Int}, a ∈ ys → b ∈ ys → (smp (iN nx) a b = true ↔ rootF (iN nx) a = rootF (iN nx) b) := fun {a b} ha hb => by
      rw [smp_root cl (perm.mem_iff.mp ha) (perm.mem_iff.mp hb), decide_eq_true_eq]
    refine ⟨l, rfl, ⟨_, SqL.of hl⟩, ?_⟩
    refine for_list (K := K) (a := l) (xs := as.map V.ref) (fun i σ' H' => ∃ (o2 : Option V) (js : List Int), σ' = [some (.ref h), some (.ref dE), o2] ∧ (∀ b o, b ≠ dE → (∀ ps, o ≠ .tbl ps) → H3 b = some o → H' b = some o) ∧ LamX.Tabs (LT K) H' ∧ H' dE = some (.dK (js.map fun k => ((Sum.inl k : Key), V.int (endF n (iN nx) ys k)))) ∧ js.Nodup ∧ (∀ k, k ∈ js ↔ k ∈ ys ∧ ∃ w ∈ (leadsN (rootF (iN nx)) ys ys.length).take i, rootF (iN nx) k = rootF (iN nx) w))
      ⟨none, [], rfl, fun _ _ _ _ e => e, tb3, eE3, List.nodup_nil, fun k => ⟨(fun z => nomatch z), fun ⟨_, w, hw, _⟩ => by rw [List.take_zero] at hw; cases hw⟩⟩ (fun i σ' H' _ pv => by obtain ⟨_, _, _, f, _⟩ := pv; exact SqL.of (f _ _ lE (fun ps z => nomatch z) hl)) (fun i v σ' H4 hv pv => ?_) (fun σ' H4 pv => ?_)
    · obtain ⟨o2, js, rfl, f4, tb4, eE4, jnd, hj⟩ := pv
      have hv' : (as.map V.ref)[i]? = some v := hv
      rw [List.getElem?_map] at hv'
      obtain ⟨a, ha, rfl⟩ := Option.map_eq_some_iff.mp hv'
      have li : i < as.length := (List.getElem?_eq_some_iff.mp ha).1
      rw [List.length_map] at las
      obtain ⟨y, hy⟩ : ∃ y, (leadsN (rootF (iN nx)) ys ys.length)[i]? = some y := ⟨_, List.getElem?_eq_getElem (by omega)⟩
      have my0 := leads_mem (List.mem_of_getElem? hy)
      have my : y ∈ ys := List.mem_of_mem_take my0
      have myk := perm.mem_iff.mp my
      obtain ⟨r, er⟩ := gp_headE (List.mem_of_getElem? hy)
      have ea : H3 a = some (.lst ((gp (rootF (iN nx)) ys ys.length y).map V.int)) := hpc i a _ ha (by rw [List.getElem?_map, hy]; rfl)
      have aE : a ≠ dE := fun z => by rw [z] at ha; have := nas dE (List.mem_of_getElem? ha); rw [e2] at this; exact absurd this (fun z => nomatch z)
      have ea4 := f4 a (.lst ((gp (rootF (iN nx)) ys ys.length y).map V.int)) aE (fun ps z => nomatch z) ea
      have ext4 : LamX.ExtN H H4 := fun b o e nt => f4 b o (ne_of_none e ndE0) nt (s03 _ _ e)
      refine ⟨_, rfl, .inr (.inr (.inl ⟨rfl, .inl ⟨_, eE4⟩⟩)), _, rfl, _, rfl, a, _, 0, .int y, rfl, rfl, SqL.of ea4, (show atI (List.map V.int (gp (rootF (iN nx)) ys ys.length y)) ((0 : Nat) : Int) = some (.int y) from atI_nat (by rw [er]; rfl)), ?_⟩
      refine ⟨h, dn, db, dl, n, y, nx, bf, ls, ks, rfl, S.net.extN ext4, S.w, l64, S.nd, myk, n0, by omega, tb4, fun ys2 zs L M l0 p H5 perm2 pw2 hzs MA h0 e5 tb5 off5 ep => ?_⟩
      obtain rfl : ys = ys2 := perm_sorted_eq (perm.trans perm2.symm) pw pw2
      have rpm := rowM_perm M L (M l0) zs
      have znd : zs.Nodup := by rw [hzs]; exact ynd.filter _
      have zl : zs.length ≤ ys.length := by rw [hzs]; exact List.length_filter_le _ _
      have zpos : 0 < zs.length := (List.getElem?_eq_some_iff.mp h0).1
      have zpw : zs.Pairwise (· ≤ ·) := by rw [hzs]; exact pw.filter _
      have rlen := rpm.length_eq
      refine ⟨p, _, rfl, ep, rpm.nodup_iff.mpr znd, by omega, by omega, fun us d2 H6 permu pwu s6 nd6 ed6 => ?_⟩
      obtain rfl : us = zs := perm_sorted_eq (permu.trans rpm) pwu zpw
      have eE5 := e5 _ _ eE4 (fun ps z => nomatch z)
      have eE6 := s6 _ _ eE5
      have E2 : dE ≠ d2 := fun z => by rw [← z, eE5] at nd6; cases nd6
      have memz : ∀ k, k ∈ us ↔ k ∈ ys ∧ rootF (iN nx) k = rootF (iN nx) y := fun k => by
        rw [hzs, List.mem_filter]
        exact ⟨fun ⟨h1, h2⟩ => ⟨h1, (rt_smp h1 my).mp h2⟩, fun ⟨h1, h2⟩ => ⟨h1, (rt_smp h1 my).mpr h2⟩⟩
      have lnd := leads_nd (rt := rootF (iN nx)) (ys := ys) ys.length
      have dj : ∀ k ∈ us, k ∉ js := fun k hk hkj => by
        obtain ⟨_, w, hw, ew⟩ := (hj k).mp hkj
        obtain ⟨j, hj2⟩ := List.mem_iff_getElem?.mp hw
        have lj : j < i := by have := (List.getElem?_eq_some_iff.mp hj2).1; rw [List.length_take] at this; omega
        rw [List.getElem?_take_of_lt lj] at hj2
        have e3 := ((memz k).mp hk).2
        have g1 : ((leadsN (rootF (iN nx)) ys ys.length).map (rootF (iN nx)))[j]? = some (rootF (iN nx) k) := by rw [List.getElem?_map, hj2]; exact congrArg some ew.symm
        have g2 : ((leadsN (rootF (iN nx)) ys ys.length).map (rootF (iN nx)))[i]? = some (rootF (iN nx) k) := by rw [List.getElem?_map, hy]; exact congrArg some e3.symm
        obtain ⟨l1, g1⟩ := List.getElem?_eq_some_iff.mp g1
        obtain ⟨l2, g2⟩ := List.getElem?_eq_some_iff.mp g2
        have := (List.getElem_inj lnd).mp (g1.trans g2.symm)
        omega
      have jl : (js ++ us).length ≤ ys.length := nodup_sub_len (List.nodup_append.mpr ⟨jnd, znd, fun a ha b hb e => dj b hb (e ▸ ha)⟩) fun k hk => by
        rcases List.mem_append.mp hk with hk | hk
        · exact ((hj k).mp hk).1
        · exact ((memz k).mp hk).1
      rw [List.length_append] at jl
      refine ⟨dE, d2, _, _, rfl, rfl, E2, eE6, ed6, lenL (by rw [List.length_map, List.length_map]; omega), ?_⟩
      have eF : (us.map fun x => ((Sum.inl x : Key), V.int (cyc (rowM M L (M l0) us) x))) = us.map fun x => ((Sum.inl x : Key), V.int (endF n (iN nx) ys x)) := List.map_congr_left fun x hx => by
        rw [endF_at (ys := ys) hzs MA h0 ((rt_smp ((memz x).mp hx).1 my).mpr ((memz x).mp hx).2)]
      rw [eF, mergeK_new (js := js) (by rw [List.map_map]; rfl) znd dj, ← List.map_append]
      refine ⟨_, js ++ us, rfl, fun b o nb nt e => (upd_ne nb).trans (s6 _ _ (e5 _ _ (f4 _ _ nb nt e) nt)), tabs_upd (tb5.ext s6) eE6 (fun ps z => nomatch z) (dK_code _), upd_same, List.nodup_append.mpr ⟨jnd, znd, fun a ha b hb e => dj b hb (e ▸ ha)⟩, fun k => ?_⟩
      rw [tk_snoc hy, List.mem_append, hj k, memz k]
      constructor
      · rintro (⟨h1, w, hw, ew⟩ | ⟨h1, h2⟩)
        · exact ⟨h1, w, List.mem_append_left _ hw, ew⟩
        · exact ⟨h1, y, List.mem_append_right _ (List.mem_singleton.mpr rfl), h2⟩
      · rintro ⟨h1, w, hw, ew⟩
        rcases List.mem_append.mp hw with hw | hw
        · exact .inl ⟨h1, w, hw, ew⟩
        · rw [List.mem_singleton.mp hw] at ew
          exact .inr ⟨h1, ew⟩
    · obtain ⟨o2, js, rfl, f4, tb4, eE4, jnd, hj⟩ := pv
      rw [List.length_map] at hj las
      rw [las, List.take_length] at hj
      have jm : ∀ k, k ∈ js ↔ k ∈ ys := fun k => (hj k).trans ⟨fun h => h.1, fun hk => ⟨hk, let ⟨w, hw, e⟩ := leads_has (rt := rootF (iN nx)) (i := ys.length) (by rw [List.take_length]; exact hk); ⟨w, hw, e.symm⟩⟩⟩
      have jp : js.Perm ys := (List.perm_ext_iff_of_nodup jnd ynd).mpr jm
      have jlen := jp.length_eq
      refine ⟨_, rfl, dE, js, _, rfl, eE4, jnd, by omega, fun us p H5 permu pwu s5 np ep => ?_⟩
      obtain rfl : ys = us := perm_sorted_eq ((permu.trans jp).symm) pw pwu
      have ext4 : LamX.ExtN H H4 := fun b o e nt => f4 b o (ne_of_none e ndE0) nt (s03 _ _ e)
      exact q ys p H5 perm pw (ext4.trans (ExtN.of_same s5)) (tb4.ext s5) (fun b o e nt => ne_of_none (ext4 b o e nt) np) ep
--CUT
/-! ### plain ends -/
theorem valV_inI : ∀ {kvs : List (Key × V)} {js : List Int} {p : Key × V}, kvs.map (·.1) = js.map Sum.inl → js.Nodup → p ∈ kvs → ∃ k : Int, k ∈ js ∧ p.1 = .inl k ∧ valV kvs (.inl k) = some p.2
  | [], _, p, _, _, h => absurd h List.not_mem_nil
  | kv :: r, [], p, e, _, _ => by cases e
  | kv :: r, j :: js, p, e, nd, h => by
    obtain ⟨e1, e2⟩ := List.cons.inj e
    have e1 : kv.1 = .inl j := e1
    rcases List.mem_cons.mp h with rfl | h
    · exact ⟨j, List.mem_cons_self, e1, valV_pos e1⟩
    · obtain ⟨k, hk, h1, h2⟩ := valV_inI e2 (List.nodup_cons.mp nd).2 h
      refine ⟨k, List.mem_cons_of_mem _ hk, h1, (valV_neg fun z => ?_).trans h2⟩
      rw [e1] at z
      exact (List.nodup_cons.mp nd).1 (Sum.inl.inj z ▸ hk)
theorem intsD_of {kvs : List (Key × V)} {ks : List Int} {a : Int → Int} (hk : kvs.map (·.1) = ks.map Sum.inl) (nd : ks.Nodup) (hv : ∀ k ∈ ks, valV kvs (.inl k) = some (.int (a k))) : intsD kvs := fun p hp => by
  obtain ⟨k, mk, _, e⟩ := valV_inI hk nd hp
  rw [hv k mk] at e
  exact ⟨a k, (Option.some.inj e).symm⟩
theorem intsD_map {ys : List Int} {a : Int → Int} : intsD (ys.map fun y => ((Sum.inl y : Key), V.int (a y))) := fun p hp => by
  obtain ⟨y, _, rfl⟩ := List.mem_map.mp hp
  exact ⟨_, rfl⟩
theorem eqD_gen {kvs : List (Key × V)} {ks ys : List Int} {a b : Int → Int} (hk : kvs.map (·.1) = ks.map Sum.inl) (nd : ks.Nodup) (hv : ∀ k ∈ ks, valV kvs (.inl k) = some (.int (a k))) (perm : ys.Perm ks) : eqD kvs (ys.map fun y => ((Sum.inl y : Key), V.int (b y))) = ys.all fun y => decide (a y = b y) := by
  have l : kvs.length = (ys.map fun y => ((Sum.inl y : Key), V.int (b y))).length := by
    have := congrArg List.length hk
    rw [List.length_map, List.length_map] at this
    rw [List.length_map, perm.length_eq]
    exact this
  unfold eqD
  rw [decide_eq_true l, Bool.true_and, Bool.eq_iff_iff, List.all_eq_true, List.all_eq_true]
  constructor
  · intro h y hy
    have mk := perm.mem_iff.mp hy
    have m : (Sum.inl y : Key) ∈ kvs.map (·.1) := by rw [hk]; exact List.mem_map.mpr ⟨y, mk, rfl⟩
    obtain ⟨p, hp, ep⟩ := List.mem_map.mp m
    have h1 := of_decide_eq_true (h p hp)
    obtain ⟨k, _, e1, e2⟩ := valV_inI hk nd hp
    have ek : k = y := Sum.inl.inj (e1.symm.trans ep)
    rw [ek, hv y mk] at e2
    have ep : p.1 = .inl y := ep
    rw [ep, valV_map_mem (f := fun y => V.int (b y)) hy, ← e2] at h1
    exact decide_eq_true (V.int.inj (Option.some.inj h1)).symm
  · intro h p hp
    obtain ⟨k, mk, e1, e2⟩ := valV_inI hk nd hp
    have my := perm.mem_iff.mpr mk
    have h1 := of_decide_eq_true (h k my)
    rw [hv k mk] at e2
    rw [e1, valV_map_mem (f := fun y => V.int (b y)) my, ← e2, h1]
    exact decide_eq_true rfl
theorem eqD_map {ys : List Int} {a b : Int → Int} (nd : ys.Nodup) : eqD (ys.map fun y => ((Sum.inl y : Key), V.int (a y))) (ys.map fun y => ((Sum.inl y : Key), V.int (b y))) = ys.all fun y => decide (a y = b y) :=
  eqD_gen (by rw [List.map_map]; rfl) nd (fun k hk => valV_map_mem (f := fun y => V.int (a y)) hk) (List.Perm.refl _)
def plB (f : Int → Int) (ys : List Int) : Bool := ys.all fun y => decide (f y = cyc ys y)
def sp__plain_nexts (K : PySem.W.Frag) (C : Addr) : Sp := fun vs H Q _ => ∃ (h dn db dl : Addr) (n : Int) (nx bf : List (Key × V)) (ls : List V) (ks : List Int), vs = [.ref h] ∧ NetAt C H h n dn db dl nx bf ls ∧ WN ks nx ∧ ks.length < 64 ∧ ks.Nodup ∧ 0 < n ∧ (∀ k ∈ ks, 0 ≤ k ∧ k < n) ∧ LamX.Tabs (LT K) H ∧
  ∀ (ys : List Int) d H', ys.Perm ks → ys.Pairwise (· ≤ ·) → LamX.ExtN H H' → LamX.Tabs (LT K) H' → H d = none → H' d = some (.dK (ys.map fun y => ((Sum.inl y : Key), V.int (cyc ys y)))) → Q (.ref d) H'
theorem T0.ok__plain_nexts (T : T0 K mg) : FnOk P w K mg base CX0 7 T.a__plain_nexts T.fd__plain_nexts ["net"] (sp__plain_nexts K T.C_Net) := by
  refine T.F__plain_nexts.ok sc__plain_nexts (fun vs H Q E h => ?_) (fun cdv A outer s0 H vs Q E hr h => ?_)
  · obtain ⟨h, dn, db, dl, n, nx, bf, ls, ks, rfl, _⟩ := h
    rfl
  · obtain ⟨h, dn, db, dl, n, nx, bf, ls, ks, rfl, N, W, l64, nd, n0, rng, tb0, q⟩ := h
    refine ⟨_, (pss_cons (ps_set (i := 1) sc__plain_nexts.nd rfl (Or.inr rfl) (pe_meth0 (pv 0) T.cl_Net T.me_Net__houses T.ok_Net__houses (hr.mono (by decide)) T.b_Net__houses .nil pass0))
        (pss_one (ps_ret (pe_dc (own := [("house", 2)]) (g := gName 2) (by rfl) sc__plain_nexts.nd (pi_list (pv 1)) (blkOk_by (own := [("house", 2)]) (N := ["net", "houses", "house"]) (sc := defScope s__plain_nexts) (by decide +kernel)) (fun _ _ _ _ _ => pg_name (i := 2) sc__plain_nexts.nd rfl (Or.inl rfl)) (fun _ _ _ _ _ => pts_nil) (fun _ _ _ _ _ => (pv 2)) (fun _ _ _ _ _ => (pe_call T.ok_nearest_ahead hr (by rfl) T.g_nearest_ahead T.k_nearest_ahead T.b_nearest_ahead .nil pass0 (pa_cons (show PE _ _ (tFld K _ _) from pe_fld (pv 0) rfl) (pa_cons (pv 2) (pa_cons (pv 1) pa_nil))))))))), ?_⟩
    obtain ⟨dx, hh⟩ := N.me
    refine ⟨_, rfl, h, dx, _, rfl, hh, (by unfold nf; walk_at "lk"), h, dn, db, dl, n, nx, bf, ls, ks, rfl, N, W.gn.1, l64, fun ys l perm pw nl => ?_⟩
    have ylen := perm.length_eq
    have ynd := perm.nodup_iff.mpr nd
    have s1 := same_upd (o := .lst (ys.map V.int)) nl
    have e1 : upd H l (.lst (ys.map V.int)) l = some (.lst (ys.map V.int)) := upd_same
    generalize upd H l (.lst (ys.map V.int)) = H1 at s1 e1
    refine ⟨_, rfl, l, rfl, ⟨_, SqL.of e1⟩, fun D hD => ?_⟩
    have s2 := same_upd (o := .dK []) hD
    refine dc_list (K := K) (a := l) (xs := ys.map V.int) (fun i H' => LamX.ExtN H1 H' ∧ LamX.Tabs (LT K) H' ∧ H' D = some (.dK ((ys.take i).map fun y => ((Sum.inl y : Key), V.int (cyc ys y))))) ⟨ExtN.of_same s2, (tb0.ext s1).ext s2, upd_same⟩ (fun i H' _ p => SqL.of (extN_lst p.1 e1)) (fun i x H2 hx pv => ?_) (fun H2 pv => ?_)
    · obtain ⟨x2, tb2, eD⟩ := pv
      rw [List.getElem?_map] at hx
      obtain ⟨y, hy, rfl⟩ := Option.map_eq_some_iff.mp hx
      have my := List.mem_of_getElem? hy
      have N2 := (N.same s1).extN x2
      obtain ⟨dx2, hh2⟩ := N2.me
      refine ⟨rfl, lc_yes ?_⟩
      refine ⟨_, rfl, _, rfl, h, _, dx2, _, _, rfl, hh2, T.cl_Net, T.na_Net_size, nf_size, _, rfl, _, rfl, n, y, l, ys, rfl, n0, SqL.of (extN_lst x2 e1), tb2, fun v H3 x3 tb3 lb => ?_⟩
      rw [near_cyc n0 ynd pw (fun k hk => rng k (perm.mem_iff.mp hk)) my lb]
      have eD3 := x3 _ _ eD (fun ps z => nomatch z)
      refine ⟨_, Sum.inl y, rfl, eD3, small1000' (by rw [List.length_map, List.length_take]; omega), fun b u e nt => (upd_ne (ne_of_none e hD)).trans (x3 _ _ (x2 _ _ e nt) nt), tabs_upd tb3 eD3 (fun ps z => nomatch z) (dK_code _), ?_⟩
      rw [upd_same, putK_new _ (valV_none_of (f := fun y => V.int (cyc ys y)) (not_in_take ynd hy)), tk_snoc hy, List.map_append]
      rfl
    · obtain ⟨x2, tb2, eD⟩ := pv
      rw [List.length_map, List.take_length] at eD
      exact q ys D H2 perm pw ((ExtN.of_same s1).trans x2) tb2 (none_back s1 hD) eD
def sp_is_plain (K : PySem.W.Frag) (C : Addr) : Sp := fun vs H Q _ => ∃ (h dn db dl : Addr) (n : Int) (nx bf : List (Key × V)) (ls : List V) (ks : List Int), vs = [.ref h] ∧ NetAt C H h n dn db dl nx bf ls ∧ WN ks nx ∧ ks.length < 64 ∧ ks.Nodup ∧ 0 < n ∧ (∀ k ∈ ks, 0 ≤ k ∧ k < n) ∧ LamX.Tabs (LT K) H ∧
  ∀ (ys : List Int) H', ys.Perm ks → ys.Pairwise (· ≤ ·) → LamX.ExtN H H' → LamX.Tabs (LT K) H' → Q (.bl (plB (iN nx) ys)) H'
theorem T0.ok_is_plain (T : T0 K mg) : FnOk P w K mg base CX0 9 T.a_is_plain T.fd_is_plain ["net"] (sp_is_plain K T.C_Net) := by
  refine T.F_is_plain.ok sc_is_plain (fun vs H Q E h => ?_) (fun cdv A outer s0 H vs Q E hr h => ?_)
  · obtain ⟨h, dn, db, dl, n, nx, bf, ls, ks, rfl, _⟩ := h
    rfl
  · obtain ⟨h, dn, db, dl, n, nx, bf, ls, ks, rfl, N, W, l64, nd, n0, rng, tb0, q⟩ := h
    refine ⟨_, (pss_one (ps_ret (pe_cmpR (op_eqDI (un1 hr)) (pe_meth0 (pv 0) T.cl_Net T.me_Net__nexts T.ok_Net__nexts (hr.mono (by decide)) T.b_Net__nexts .nil pass0) (pe_call T.ok__plain_nexts (hr.mono (by decide)) (by rfl) T.g__plain_nexts T.k__plain_nexts T.b__plain_nexts .nil pass0 (pa_cons (pv 0) pa_nil)) (nomark _)))), ?_⟩
    obtain ⟨dx, hh⟩ := N.me
    refine ⟨_, rfl, h, dx, _, rfl, hh, (by unfold nf; walk_at "lk"), h, dn, db, dl, n, nx, bf, ls, ks, (fun k => .int (iN nx k)), rfl, N, W.gn.1, l64, nd, (fun k hk => W.at_ hk), fun ys p H1 perm pw s1 np ep => ?_⟩
    refine ⟨_, rfl, h, dn, db, dl, n, nx, bf, ls, ks, rfl, N.same s1, W, l64, nd, n0, rng, tb0.ext s1, fun ys2 d H2 perm2 pw2 x2 tb2 _ ed => ?_⟩
    obtain rfl : ys = ys2 := perm_sorted_eq (perm.trans perm2.symm) pw pw2
    refine ⟨p, d, _, _, rfl, rfl, x2 _ _ ep (fun ps z => nomatch z), ed, intsD_map, intsD_map, ?_⟩
    rw [eqD_map (perm.nodup_iff.mpr nd)]
    exact q ys H2 perm pw ((ExtN.of_same s1).trans x2) tb2
noncomputable def allB (n : Int) (nx bs : List (Key × V)) (ys : List Int) (Ls : List Let) : Bool := (Prs nx bs ys Ls).all (trP n (iN nx))
theorem allB_true {n : Int} {nx bs : List (Key × V)} {ys ks : List Int} {Ls : List Let} (perm : ys.Perm ks) (pw : ys.Pairwise (· ≤ ·)) (h : ∀ q ∈ Prs nx bs ys Ls, trP n (iN nx) q = true) : AllTrue n nx bs ks Ls := fun us pu wu => by
  obtain rfl : ys = us := perm_sorted_eq (perm.trans pu.symm) pw wu
  exact h
def sp_ends_plain (K : PySem.W.Frag) (C : Addr) : Sp := fun vs H Q _ => ∃ (h dn db dl : Addr) (n : Int) (nx bf bs : List (Key × V)) (ls : List V) (ks : List Int) (Ls : List Let), vs = [.ref h] ∧ Sy C H h n dn db dl nx bf bs ls ks Ls ∧ (∀ k ∈ ks, 0 ≤ k ∧ k < n) ∧ LamX.Tabs (LT K) H ∧
  ∀ (ys : List Int) H', ys.Perm ks → ys.Pairwise (· ≤ ·) → LamX.ExtN H H' → LamX.Tabs (LT K) H' → Q (.bl (allB n nx bs ys Ls && plB (endF n (iN nx) ys) ys)) H'
theorem T0.ok_ends_plain (T : T0 K mg) : FnOk P w K mg base CX0 11 T.a_ends_plain T.fd_ends_plain ["net"] (sp_ends_plain K T.C_Net) := by
  refine T.F_ends_plain.ok sc_ends_plain (fun vs H Q E h => ?_) (fun cdv A outer s0 H vs Q E hr h => ?_)
  · obtain ⟨h, dn, db, dl, n, nx, bf, bs, ls, ks, Ls, rfl, _⟩ := h
    rfl
  · obtain ⟨h, dn, db, dl, n, nx, bf, bs, ls, ks, Ls, rfl, S, rng, tb0, q⟩ := h
    refine ⟨_, (pss_one (ps_ret (pe_and (pe_cmpR op_isN (pe_call T.ok_first_untrue (hr.mono (by decide)) (by rfl) T.g_first_untrue T.k_first_untrue T.b_first_untrue .nil pass0 (pa_cons (pv 0) pa_nil)) pe_non (nomark _)) (pe_one (pe_cmpR (op_eqDI (un1 hr)) (pe_call T.ok_told_end hr (by rfl) T.g_told_end T.k_told_end T.b_told_end .nil pass0 (pa_cons (pv 0) pa_nil)) (pe_call T.ok__plain_nexts (hr.mono (by decide)) (by rfl) T.g__plain_nexts T.k__plain_nexts T.b__plain_nexts .nil pass0 (pa_cons (pv 0) pa_nil)) (nomark _)))))), ?_⟩
    refine ⟨_, rfl, h, dn, db, dl, n, nx, bf, bs, ls, ks, Ls, rfl, S, fun ys H1 perm pw s1 => ⟨fun all => ?_, fun i c a hc _ hf _ => ?_⟩⟩
    · have ab : allB n nx bs ys Ls = true := List.all_eq_true.mpr all
      refine ⟨rfl, true, rfl, iteT ?_⟩
      refine ⟨_, rfl, h, dn, db, dl, n, nx, bf, bs, ls, ks, Ls, rfl, S.same s1, allB_true perm pw all, tb0.ext s1, fun ys2 p H2 perm2 pw2 x2 tb2 _ ep => ?_⟩
      obtain rfl : ys = ys2 := perm_sorted_eq (perm.trans perm2.symm) pw pw2
      refine ⟨_, rfl, h, dn, db, dl, n, nx, bf, ls, ks, rfl, (S.same s1).net.extN x2, S.w, S.l64, S.nd, S.n0, rng, tb2, fun ys2 d H3 perm2 pw2 x3 tb3 _ ed => ?_⟩
      obtain rfl : ys = ys2 := perm_sorted_eq (perm.trans perm2.symm) pw pw2
      refine ⟨p, d, _, _, rfl, rfl, x3 _ _ ep (fun ps z => nomatch z), ed, intsD_map, intsD_map, ?_⟩
      rw [eqD_map (perm.nodup_iff.mpr S.nd)]
      have := q ys H3 perm pw ((ExtN.of_same s1).trans (x2.trans x3)) tb3
      rw [ab, Bool.true_and] at this
      exact this
    · have ab : allB n nx bs ys Ls = false := Bool.eq_false_iff.mpr fun h => by
        have := List.all_eq_true.mp h c (List.mem_of_getElem? hc)
        rw [hf] at this
        cases this
      refine ⟨rfl, false, rfl, iteF ?_⟩
      have := q ys H1 perm pw (ExtN.of_same s1) (tb0.ext s1)
      rw [ab, Bool.false_and] at this
      exact this
--CUT
/-! ### deeds that keep what is true -/
section
variable {CN t c : Addr} {A : Bd} {n : Int} {m : Nat} {S : WK} {H4 H5 H6 : Hp}
/-- the law's list has changed, the net not yet -/
theorem NK.n5 (I : NK CN t c A n m S H4) (f5 : ∀ a o, a ≠ A.pO → H4 a = some o → H5 a = some o) : NetAt CN H5 A.h n A.dn A.db A.dl S.nx S.bf S.ls :=
  have kp5 : ∀ {a : Addr} {o : HO}, H4 a = some o → (∀ xs, o ≠ .lst xs) → H5 a = some o := fun e no => f5 _ _ (ne_kind e I.hP (no _)) e
  ⟨let ⟨d, e⟩ := I.net.me; ⟨d, kp5 e (fun _ z => nomatch z)⟩, kp5 I.net.hn (fun _ z => nomatch z), kp5 I.net.hb (fun _ z => nomatch z), f5 _ _ I.ndl.2.2.2.2.symm I.net.hl⟩
theorem NK.said (I : NK CN t c A n m S H4) {pt l2 : Addr} {L : Let} (f5 : ∀ a o, a ≠ A.pO → H4 a = some o → H5 a = some o) (P5 : H5 A.pO = some (.lst (S.ps ++ [.ref pt]))) (ept : H4 pt = some (.tup L.vals)) (hns : ∀ k ∈ L.ns, k ∈ S.ks) (s6 : Same H5 H6) (e6 : H6 l2 = some (.tup L.vals)) :
    NK CN t c A n (m + 1) ⟨S.ks, S.nx, S.bs, S.bf, S.ps ++ [.ref pt], S.ls ++ [.ref l2], S.Ls ++ [L]⟩ (upd H6 A.dl (.lst (S.ls ++ [.ref l2]))) ∧ FrA A H4 (upd H6 A.dl (.lst (S.ls ++ [.ref l2]))) ∧ upd H6 A.dl (.lst (S.ls ++ [.ref l2])) l2 = some (.tup L.vals) ∧
    upd H6 A.dl (.lst (S.ls ++ [.ref l2])) pt = some (.tup L.vals) := by
  have N6 := (I.n5 f5).same s6
  have f7 : ∀ a o, a ≠ A.dl → H6 a = some o → upd H6 A.dl (.lst (S.ls ++ [.ref l2])) a = some o := fun a o na e => (upd_ne na).trans e
  have N7 := N6.setl (ls' := S.ls ++ [.ref l2])
  have pt5 := f5 _ _ (ne_kind ept I.hP (fun z => nomatch z)) ept
  have l7 := f7 _ _ (ne_kind e6 N6.hl (fun z => nomatch z)) e6
  have p7 := f7 _ _ (ne_kind (s6 _ _ pt5) N6.hl (fun z => nomatch z)) (s6 _ _ pt5)
  have P7 := f7 _ _ I.ndl.2.2.2.2 (s6 _ _ P5)
  have f9 : ∀ a o, a ≠ A.pO → a ≠ A.dl → H4 a = some o → upd H6 A.dl (.lst (S.ls ++ [.ref l2])) a = some o := fun a o n1 n2 e => f7 _ _ n2 (s6 _ _ (f5 _ _ n1 e))
  generalize upd H6 A.dl (.lst (S.ls ++ [.ref l2])) = H7 at f7 N7 l7 p7 P7 f9
  obtain ⟨I9, g9⟩ := I.lts (ps := S.ps ++ [.ref pt]) (ls := S.ls ++ [.ref l2]) (Ls := S.Ls ++ [L]) f9 N7 P7 (fun k => k.app p7 hns) (fun k => k.app l7 hns) (by rw [List.length_append]; exact Nat.le_refl _)
  exact ⟨I9, g9, l7, p7⟩
end
theorem let_same {K : PySem.W.Frag} {H : Hp} {a b : Addr} {L : Let} (h1 : H a = some (.tup L.vals)) (h2 : H b = some (.tup L.vals)) : Sm K 2 H (.ref a) (.ref b) :=
  tup_same h1 h2 (by cases L <;> first | exact (show (3 : Nat) ≤ 100000 by decide) | exact (show (4 : Nat) ≤ 100000 by decide)) fun v hv => by
    cases L with
    | tell r u =>
      have hv : v ∈ [V.str "tell", .int r, .int u] := hv
      simp only [List.mem_cons, List.not_mem_nil, or_false] at hv
      rcases hv with rfl | rfl | rfl <;> rfl
    | ask r u =>
      have hv : v ∈ [V.str "ask", .int r, .int u] := hv
      simp only [List.mem_cons, List.not_mem_nil, or_false] at hv
      rcases hv with rfl | rfl | rfl <;> rfl
    | answer r u m =>
      have hv : v ∈ [V.str "answer", .int r, .int u, .int m] := hv
      simp only [List.mem_cons, List.not_mem_nil, or_false] at hv
      rcases hv with rfl | rfl | rfl | rfl <;> rfl
/-- what a deed comes to -/
structure Dd (CN t c : Addr) (A : Bd) (n : Int) (m : Nat) (S S' : WK) (H H' : Hp) : Prop where
  I : NK CN t c A n m S' H'
  ks : S'.ks = S.ks
  gb : GB S.ks S.bs → GB S'.ks S'.bs
  fr : FrT t A H H'
def sp__law_deed (K : PySem.W.Frag) (CN : Addr) : Sp := fun vs H Q _ => ∃ (t c : Addr) (A : Bd) (n : Int) (m : Nat) (S : WK), vs = [.ref t, .ref A.h, .int n, .ref A.dN, .ref A.dB, .ref A.pO] ∧ NK CN t c A n m S H ∧ m ≤ 100 ∧ 0 < S.ks.length ∧ ∀ S' H', Dd CN t c A n (m + 1) S S' H H' → Q (.bl true) H'
theorem T0.ok__law_deed (T : T0 K mg) : FnOk P w K mg base CX0 6 T.a__law_deed T.fd__law_deed ["tape", "net", "size", "nexts", "behinds", "post"] (sp__law_deed K T.C_Net) := by
  refine T.F__law_deed.ok sc__law_deed (fun vs H Q E h => ?_) (fun cdv A' outer s H vs Q E hr h => ?_)
  · obtain ⟨t, c, A, n, m, S, rfl, _⟩ := h
    rfl
  · obtain ⟨t, c, A, n, m, S, rfl, I, lm, lne, q⟩ := h
    refine ⟨_, (pss_cons (ps_set (i := 6) sc__law_deed.nd rfl (Or.inl rfl) (pe_callB (call_sortedDI rfl) (by rfl) T.m_sorted (by decide +kernel) (pa_cons (pv 3) pa_nil)))
        (pss_cons (ps_set (i := 7) sc__law_deed.nd rfl (Or.inl rfl) (pe_ix (ix_listK (K := K)) (pv 6) (pe_call T.ok__law_pick (hr.mono (by decide)) (by rfl) T.g__law_pick T.k__law_pick T.b__law_pick .nil pass0 (pa_cons (pv 0) (pa_cons (pe_callB (call_lenK (K := K)) (by rfl) T.m_len PySem.boot_len (pa_cons (pv 6) pa_nil)) pa_nil))) (fun _ _ => rfl)))
        (pss_cons (ps_set (i := 8) sc__law_deed.nd rfl (Or.inl rfl) (pe_call T.ok__law_pick (hr.mono (by decide)) (by rfl) T.g__law_pick T.k__law_pick T.b__law_pick .nil pass0 (pa_cons (pv 0) (pa_cons pe_int pa_nil))))
        (pss_cons (ps_if (PW.pt (pw_or (pt_cmpR op_ge (pe_callB (call_lenK (K := K)) (by rfl) T.m_len PySem.boot_len (pa_cons (pv 5) pa_nil)) pe_int (nomark _)) (pw_or1 (PW.pt (pw_and (pt_cmpR op_ge (pv 8) pe_int (nomark _)) (pw_and1 (pt_cmpR op_gt (pe_callB (call_lenK (K := K)) (by rfl) T.m_len PySem.boot_len (pa_cons (pv 5) pa_nil)) pe_int (nomark _)))))))) (pss_cons (ps_set (i := 9) sc__law_deed.nd rfl (Or.inl rfl) (pe_call T.ok__law_pick (hr.mono (by decide)) (by rfl) T.g__law_pick T.k__law_pick T.b__law_pick .nil pass0 (pa_cons (pv 0) (pa_cons (pe_callB (call_lenK (K := K)) (by rfl) T.m_len PySem.boot_len (pa_cons (pv 5) pa_nil)) pa_nil))))
        (pss_cons (ps_if (pt_cmpR op_eq (pv 8) pe_int (nomark _)) (pss_one (ps_ret (pe_call (T.ok__law_same 2) (hr.mono (by decide)) (by rfl) T.g__law_same T.k__law_same T.b__law_same .nil pass0 (pa_cons (pe_meth (pv 1) T.cl_Net T.me_Net__lose T.ok_Net__lose (hr.mono (by decide)) T.b_Net__lose .nil pass0 (pa_cons (pv 9) pa_nil)) (pa_cons (pe_bm PySem.F.plainAttrs_list PySem.F.slot_list_pop PySem.F.type_list_pop mt_popAt (pv 5) (pa_cons (pv 9) pa_nil)) pa_nil))))) pss_nil)
        (pss_cons (ps_if (PW.pt (pw_and (pt_cmpR op_eq (pv 8) pe_int (nomark _)) (pw_and1 (pt_cmpR op_lt (pe_callB (call_lenK (K := K)) (by rfl) T.m_len PySem.boot_len (pa_cons (pv 5) pa_nil)) pe_int (nomark _))))) (pss_cons (ps_expr (pe_bm PySem.F.plainAttrs_list PySem.F.slot_list_append PySem.F.type_list_append mt_append (pv 5) (pa_cons (pe_ix (ix_listK (K := K)) (pv 5) (pv 9) (fun _ _ => rfl)) pa_nil)))
        (pss_one (ps_ret (pe_call (T.ok__law_same 2) (hr.mono (by decide)) (by rfl) T.g__law_same T.k__law_same T.b__law_same .nil pass0 (pa_cons (pe_meth (pv 1) T.cl_Net T.me_Net__repeat T.ok_Net__repeat (hr.mono (by decide)) T.b_Net__repeat .nil pass0 (pa_cons (pv 9) pa_nil)) (pa_cons (pe_ix (ix_listK (K := K)) (pv 5) (pv 9) (fun _ _ => rfl)) pa_nil)))))) pss_nil)
        (pss_one (ps_ret (pe_call (T.ok__law_same 2) (hr.mono (by decide)) (by rfl) T.g__law_same T.k__law_same T.b__law_same .nil pass0 (pa_cons (pe_meth (pv 1) T.cl_Net T.me_Net__read T.ok_Net__read hr T.b_Net__read .nil pass0 (pa_cons (pv 9) pa_nil)) (pa_cons (pe_call T.ok__law_read (hr.mono (by decide)) (by rfl) T.g__law_read T.k__law_read T.b__law_read .nil pass0 (pa_cons (pv 2) (pa_cons (pv 3) (pa_cons (pv 4) (pa_cons (pv 5) (pa_cons (pv 9) pa_nil)))))) pa_nil)))))))) pss_nil)
        (pss_cons (ps_if (pt_cmpR op_eq (pe_op op_modN (pe_callTy call_int1 (by rfl) T.m_int (by decide +kernel) (pa_cons (pv 8) pa_nil)) pe_int) pe_int (nomark _)) (pss_cons (ps_expr (pe_bm PySem.F.plainAttrs_list PySem.F.slot_list_append PySem.F.type_list_append mt_append (pv 5) (pa_cons (pe_tup (pa_cons pe_str (pa_cons (pe_dget (un1 hr) (pv 3) (pv 7) (fun _ _ => rfl)) (pa_cons (pv 7) pa_nil)))) pa_nil)))
        (pss_one (ps_ret (pe_call (T.ok__law_same 2) (hr.mono (by decide)) (by rfl) T.g__law_same T.k__law_same T.b__law_same .nil pass0 (pa_cons (pe_meth (pv 1) T.cl_Net T.me_Net__tell T.ok_Net__tell (hr.mono (by decide)) T.b_Net__tell .nil pass0 (pa_cons (pv 7) pa_nil)) (pa_cons (pe_tup (pa_cons pe_str (pa_cons (pe_dget (un1 hr) (pv 3) (pv 7) (fun _ _ => rfl)) (pa_cons (pv 7) pa_nil)))) pa_nil)))))) pss_nil)
        (pss_cons (ps_expr (pe_bm PySem.F.plainAttrs_list PySem.F.slot_list_append PySem.F.type_list_append mt_append (pv 5) (pa_cons (pe_tup (pa_cons pe_str (pa_cons (pe_dget (un1 hr) (pv 3) (pv 7) (fun _ _ => rfl)) (pa_cons (pv 7) pa_nil)))) pa_nil)))
        (pss_one (ps_ret (pe_call (T.ok__law_same 2) (hr.mono (by decide)) (by rfl) T.g__law_same T.k__law_same T.b__law_same .nil pass0 (pa_cons (pe_meth (pv 1) T.cl_Net T.me_Net__ask T.ok_Net__ask (hr.mono (by decide)) T.b_Net__ask .nil pass0 (pa_cons (pv 7) pa_nil)) (pa_cons (pe_tup (pa_cons pe_str (pa_cons (pe_dget (un1 hr) (pv 3) (pv 7) (fun _ _ => rfl)) (pa_cons (pv 7) pa_nil)))) pa_nil))))))))))), ?_⟩
    have l1 := I.lks
    have l2 := I.len
    have l3 := I.lps
    have l4 := I.lenl
    have l5 := I.lbf
    have l6 := I.lenb
    have l0 := I.n0
    obtain ⟨dnb, dnN, dnB, dbN, dbB, dNB⟩ := id I.ndd
    refine ⟨_, rfl, A.dN, S.nx, S.ks, rfl, .inl I.hN, I.gn.1, by omega, fun ys l perm pw nl => ?_⟩
    have ylen := perm.length_eq
    have hl : upd H l (.lst (ys.map V.int)) l = some (.lst (ys.map V.int)) := upd_same
    have ol := I.tape.off nl
    have I1 := I.same (same_upd (o := .lst (ys.map V.int)) nl)
    have F1 : FrT t A H (upd H l (.lst (ys.map V.int))) := .of (same_upd nl)
    generalize upd H l (.lst (ys.map V.int)) = H1 at hl I1 F1
    refine ⟨_, rfl, _, rfl, _, rfl, l, _, rfl, .inl (SqL.of hl), draw ol.1 hl (by omega) (by omega) I1.tape fun y H2 my k2 T2 => ?_⟩
    have hy := perm.mem_iff.mp my
    obtain ⟨x, mx, hx⟩ := I.gn.2 _ hy
    refine ⟨_, rfl, t, c, 12, rfl, T2, by decide, by decide, fun kd H3 d0 d1 k3 T3 => ?_⟩
    have I3 := (I1.kp k2 T2).kp k3 T3
    have F3 : FrT t A H H3 := F1.trans (.kp (k2.trans k3))
    clear I1 F1 hl k2 k3 T2
    have fx : iN S.nx y = x := iN_of hx
    try (walk_at "nf")
    refine v_when (ans_o (fun _ q => ⟨_, rfl, A.pO, _, rfl, .inl (SqL.of I3.hP), _, _, rfl, rfl, _, rfl, q⟩) (fun _ => ans_a (fun _ q => ⟨_, rfl, _, _, rfl, rfl, _, rfl, q⟩) (fun _ => fun _ q => ⟨_, rfl, A.pO, _, rfl, .inl (SqL.of I3.hP), _, _, rfl, rfl, _, rfl, q⟩))) (fun e => ?_) (fun e => ?_)
    · have lp : 0 < S.ps.length := by
        simp only [Bool.or_eq_true, Bool.and_eq_true, decide_eq_true_eq] at e
        omega
      refine ⟨_, rfl, _, rfl, A.pO, _, rfl, .inl (SqL.of I3.hP), t, c, _, rfl, T3, by omega, by omega, fun z H4 z0 z1 k4 T4 => ?_⟩
      have I4 := I3.kp k4 T4
      have F4 := F3.trans (.kp k4)
      obtain ⟨k, rfl⟩ : ∃ k : Nat, z = k := ⟨z.toNat, by omega⟩
      have hk : k < S.ps.length := by omega
      obtain ⟨pa, qa, L, hpa, hqa, hL, epa, eqa, hLn⟩ := I4.lets hk
      obtain ⟨dx4, hh4⟩ := I4.net.me
      try (walk_at "nf")
      refine v_when (b := decide (V.int kd = V.int 4)) (fun _ q => ⟨_, rfl, rfl, _, rfl, q⟩) (fun _ => ?_) (fun _ => ?_)
      · have f5 : ∀ a o, a ≠ A.dl → H4 a = some o → upd H4 A.dl (.lst (S.ls.eraseIdx k)) a = some o := fun a o na e => (upd_ne na).trans e
        have N5 := I4.net.setl (ls' := S.ls.eraseIdx k)
        refine ⟨_, rfl, A.h, dx4, _, rfl, hh4, (by unfold nf; walk_at "lk"), _, rfl, A.h, A.dn, A.db, A.dl, n, k, .ref qa, S.nx, S.bf, S.ls, rfl, I4.net, hqa, by omega, ?_⟩
        generalize upd H4 A.dl (.lst (S.ls.eraseIdx k)) = H5 at f5 N5
        have P5 := f5 _ _ I4.ndl.2.2.2.2 I4.hP
        refine ⟨_, rfl, .inl ⟨rfl, _, SqL.of P5⟩, _, rfl, A.pO, S.ps, k, k, .ref pa, rfl, rfl, P5, by omega, by omega, seq_nat hk, hpa, ?_⟩
        have f6 : ∀ a o, a ≠ A.pO → a ≠ A.dl → H4 a = some o → upd H5 A.pO (.lst (S.ps.eraseIdx k)) a = some o := fun a o n1 n2 e => (upd_ne n1).trans (f5 _ _ n2 e)
        have P6 : upd H5 A.pO (.lst (S.ps.eraseIdx k)) A.pO = some (.lst (S.ps.eraseIdx k)) := upd_same
        have N6 := N5.putl (o := .lst (S.ps.eraseIdx k)) P5 I4.ndl.2.2.2.2.symm
        generalize upd H5 A.pO (.lst (S.ps.eraseIdx k)) = H6 at f6 P6 N6
        obtain ⟨I6, g6⟩ := I4.lts (ps := S.ps.eraseIdx k) (ls := S.ls.eraseIdx k) (Ls := S.Ls.eraseIdx k) f6 N6 P6 (fun z => z.erase k) (fun z => z.erase k) (by have := List.length_eraseIdx_le S.ps k; omega)
        have tp : ∀ {a : Addr} {xs : List V}, H4 a = some (.tup xs) → H6 a = some (.tup xs) := fun e => f6 _ _ (ne_kind e I4.hP (fun z => nomatch z)) (ne_kind e I4.net.hl (fun z => nomatch z)) e
        refine ⟨.ref qa, .ref pa, rfl, let_same (tp eqa) (tp epa), fun H7 s7 => ?_⟩
        exact q _ H7 ⟨I6.same s7, rfl, fun g => g, F4.trans (g6.t.trans (.of s7))⟩
      · try (walk_at "nf")
        refine v_when (ans_a (fun _ q => ⟨_, rfl, rfl, _, rfl, q⟩) (fun _ => fun _ q => ⟨_, rfl, A.pO, _, rfl, .inl (SqL.of I4.hP), _, _, rfl, rfl, _, rfl, q⟩)) (fun e => ?_) (fun _ => ?_)
        · have l60 : S.ps.length < 60 := by
            simp only [Bool.and_eq_true, decide_eq_true_eq] at e
            omega
          refine ⟨_, rfl, .inl ⟨rfl, _, SqL.of I4.hP⟩, _, rfl, _, rfl, A.pO, _, k, .ref pa, rfl, rfl, SqL.of I4.hP, atI_nat hpa, A.pO, _, _, rfl, rfl, I4.hP, small1000' (by omega), ?_⟩
          have f5 : ∀ c o, c ≠ A.pO → H4 c = some o → upd H4 A.pO (.lst (S.ps ++ [.ref pa])) c = some o := fun c o na e => (upd_ne na).trans e
          have P5 : upd H4 A.pO (.lst (S.ps ++ [.ref pa])) A.pO = some (.lst (S.ps ++ [.ref pa])) := upd_same
          generalize upd H4 A.pO (.lst (S.ps ++ [.ref pa])) = H5 at f5 P5
          have N5 := I4.n5 f5
          have qa5 := f5 _ _ (ne_kind eqa I4.hP (fun z => nomatch z)) eqa
          obtain ⟨I6, g6, l6', p6⟩ := I4.said (L := L) f5 P5 epa hLn (fun _ _ h => h) qa5
          have P6 : upd H5 A.dl (.lst (S.ls ++ [.ref qa])) A.pO = some (.lst (S.ps ++ [.ref pa])) := (upd_ne I4.ndl.2.2.2.2).trans P5
          obtain ⟨dx5, hh5⟩ := N5.me
          refine ⟨_, rfl, A.h, dx5, _, rfl, hh5, (by unfold nf; walk_at "lk"), _, rfl, A.h, A.dn, A.db, A.dl, n, k, .ref qa, S.nx, S.bf, S.ls, rfl, N5, hqa, by omega, ?_⟩
          generalize upd H5 A.dl (.lst (S.ls ++ [.ref qa])) = H6 at I6 g6 l6' p6 P6
          refine ⟨_, rfl, _, rfl, A.pO, _, k, .ref pa, rfl, rfl, SqL.of P6, atI_nat (by rw [List.getElem?_append_left hk]; exact hpa), .ref qa, .ref pa, rfl, let_same l6' p6, fun H7 s7 => ?_⟩
          exact q _ H7 ⟨I6.same s7, rfl, fun g => g, F4.trans (g6.t.trans (.of s7))⟩
        · -- read
          refine ⟨_, rfl, A.h, dx4, _, rfl, hh4, (by unfold nf; walk_at "lk"), _, rfl, ?_⟩
          refine NK.read1 (K := K) (E := E0) I4 (by omega) hk fun H6 v6 L p x ls' M => ?_
          refine ⟨_, rfl, _, rfl, _, rfl, _, rfl, _, rfl, ?_⟩
          refine NK.read2 (K := K) (E := E0) I4 (by omega) hk M fun H7 v7 ps' Ls' I7 lr f7 sm => ?_
          exact ⟨_, _, rfl, sm, fun H8 s8 => q _ H8 ⟨I7.same s8, rfl, fun g => g.nB M.ns (M.ns _ L.to_ns), F4.trans (f7.t.trans (.of s8))⟩⟩
    · have hxy : ∀ k ∈ [x, y], k ∈ S.ks := fun k hk => by
        simp only [List.mem_cons, List.not_mem_nil, or_false] at hk
        rcases hk with rfl | rfl
        · exact mx
        · exact hy
      try (walk_at "nf")
      refine v_when (by walk_at "ans") (fun _ => ?_) (fun _ => ?_)
      · refine ⟨_, rfl, .inl ⟨rfl, _, SqL.of I3.hP⟩, _, rfl, _, rfl, A.dN, _, rfl, dget_of (k := Sum.inl y) I3.hN hx, _, rfl, lenL (by show 3 ≤ 100000; decide), fun pt npt => ?_⟩
        have sm4 := same_upd (o := .tup [.str "tell", .int x, .int y]) npt
        have pt4 : upd H3 pt (.tup [.str "tell", .int x, .int y]) pt = some (.tup (Let.vals (.tell x y))) := upd_same
        generalize upd H3 pt (.tup [.str "tell", .int x, .int y]) = H4 at sm4 pt4
        have I4 := I3.same sm4
        refine ⟨A.pO, _, _, rfl, rfl, I4.hP, small1000' (by omega), ?_⟩
        have f5 : ∀ a o, a ≠ A.pO → H4 a = some o → upd H4 A.pO (.lst (S.ps ++ [.ref pt])) a = some o := fun a o na e => (upd_ne na).trans e
        have P5 : upd H4 A.pO (.lst (S.ps ++ [.ref pt])) A.pO = some (.lst (S.ps ++ [.ref pt])) := upd_same
        generalize upd H4 A.pO (.lst (S.ps ++ [.ref pt])) = H5 at f5 P5
        have N5 := I4.n5 f5
        obtain ⟨dx5, hh5⟩ := N5.me
        refine ⟨_, rfl, A.h, dx5, _, rfl, hh5, (by unfold nf; walk_at "lk"), _, rfl, A.h, A.dn, A.db, A.dl, n, y, x, bef S.bs y, S.nx, S.bf, S.ls, rfl, N5, hx, I.vf _ hy, by omega, fun H6 l2 s6 nl6 e6 => ?_⟩
        obtain ⟨I7, g7, l7, _⟩ := I4.said (L := .tell x y) f5 P5 pt4 hxy s6 e6
        generalize upd H6 A.dl (.lst (S.ls ++ [.ref l2])) = H7 at I7 g7 l7
        refine ⟨_, rfl, _, rfl, A.dN, _, rfl, dget_of (k := Sum.inl y) I7.hN hx, _, rfl, lenL (by show 3 ≤ 100000; decide), fun l3 nl3 => ?_⟩
        have s8 := same_upd (o := .tup [.str "tell", .int x, .int y]) nl3
        refine ⟨.ref l2, .ref l3, rfl, let_same (L := .tell x y) (s8 _ _ l7) upd_same, fun H10 s10 => ?_⟩
        have s7 := Same.trans s8 s10
        exact q _ H10 ⟨I7.same s7, rfl, fun g => g, (F3.trans (.of sm4)).trans (g7.t.trans (.of s7))⟩
      · refine ⟨_, rfl, .inl ⟨rfl, _, SqL.of I3.hP⟩, _, rfl, _, rfl, A.dN, _, rfl, dget_of (k := Sum.inl y) I3.hN hx, _, rfl, lenL (by show 3 ≤ 100000; decide), fun pt npt => ?_⟩
        have sm4 := same_upd (o := .tup [.str "ask", .int x, .int y]) npt
        have pt4 : upd H3 pt (.tup [.str "ask", .int x, .int y]) pt = some (.tup (Let.vals (.ask x y))) := upd_same
        generalize upd H3 pt (.tup [.str "ask", .int x, .int y]) = H4 at sm4 pt4
        have I4 := I3.same sm4
        refine ⟨A.pO, _, _, rfl, rfl, I4.hP, small1000' (by omega), ?_⟩
        have f5 : ∀ a o, a ≠ A.pO → H4 a = some o → upd H4 A.pO (.lst (S.ps ++ [.ref pt])) a = some o := fun a o na e => (upd_ne na).trans e
        have P5 : upd H4 A.pO (.lst (S.ps ++ [.ref pt])) A.pO = some (.lst (S.ps ++ [.ref pt])) := upd_same
        generalize upd H4 A.pO (.lst (S.ps ++ [.ref pt])) = H5 at f5 P5
        have N5 := I4.n5 f5
        obtain ⟨dx5, hh5⟩ := N5.me
        refine ⟨_, rfl, A.h, dx5, _, rfl, hh5, (by unfold nf; walk_at "lk"), _, rfl, A.h, A.dn, A.db, A.dl, n, y, x, bef S.bs y, S.nx, S.bf, S.ls, rfl, N5, hx, I.vf _ hy, by omega, fun H6 l2 s6 nl6 e6 => ?_⟩
        obtain ⟨I7, g7, l7, _⟩ := I4.said (L := .ask x y) f5 P5 pt4 hxy s6 e6
        generalize upd H6 A.dl (.lst (S.ls ++ [.ref l2])) = H7 at I7 g7 l7
        refine ⟨_, rfl, _, rfl, A.dN, _, rfl, dget_of (k := Sum.inl y) I7.hN hx, _, rfl, lenL (by show 3 ≤ 100000; decide), fun l3 nl3 => ?_⟩
        have s8 := same_upd (o := .tup [.str "ask", .int x, .int y]) nl3
        refine ⟨.ref l2, .ref l3, rfl, let_same (L := .ask x y) (s8 _ _ l7) upd_same, fun H10 s10 => ?_⟩
        have s7 := Same.trans s8 s10
        exact q _ H10 ⟨I7.same s7, rfl, fun g => g, (F3.trans (.of sm4)).trans (g7.t.trans (.of s7))⟩
--CUT
def sp__law_ordered (K : PySem.W.Frag) : Sp := fun vs H Q _ => ∃ (d : Addr) (kvs : List (Key × V)) (js : List Int), vs = [.ref d] ∧ H d = some (.dK kvs) ∧ kvs.map (·.1) = js.map Sum.inl ∧ js.Nodup ∧ js.length < 64 ∧ (∀ j ∈ js, ∃ x, valV kvs (.inl j) = some (.int x)) ∧
  ∀ p (ys : List Int) H', ys.Perm js → ys.Pairwise (· ≤ ·) → Same H H' → H p = none → H' p = some (.dK (ys.map fun y => (.inl y, gV kvs y))) → Q (.ref p) H'
theorem T0.ok__law_ordered (T : T0 K mg) : FnOk P w K mg base CX0 1 T.a__law_ordered T.fd__law_ordered ["table"] (sp__law_ordered K) := by
  refine T.F__law_ordered.ok sc__law_ordered (fun vs H Q E h => ?_) (fun cdv A outer s H vs Q E hr h => ?_)
  · obtain ⟨d, kvs, js, rfl, _⟩ := h
    rfl
  · obtain ⟨d, kvs, js, rfl, hd, hk, nd, h64, hv, q⟩ := h
    refine ⟨_, (pss_cons (ps_set (i := 1) sc__law_ordered.nd rfl (Or.inl rfl) pe_dnewK)
        (pss_cons (ps_for PassesOwn.never rfl (pi_list (pe_callB (call_sortedDI rfl) (by rfl) T.m_sorted (by decide +kernel) (pa_cons (pv 0) pa_nil))) (pg_name (i := 2) sc__law_ordered.nd rfl (Or.inl rfl)) (pss_one (ps_if (pt_cmpR op_notN (pe_dget (un1 hr) (pv 0) (pv 2) (fun _ _ => rfl)) pe_non (nomark _)) (pss_one (ps_asg (pe_dget (un1 hr) (pv 0) (pv 2) (fun _ _ => rfl)) (pg_sub (pv 1) (pv 2) (set_dict (un1 hr))))) pss_nil)))
        (pss_one (ps_ret (pv 1))))), fun D nD => ?_⟩
    have s1 := same_upd (o := .dK []) nD
    have D1 : upd H D (.dK []) D = some (.dK []) := upd_same
    generalize upd H D (.dK []) = H1 at s1 D1
    refine ⟨_, rfl, d, kvs, js, rfl, .inl (s1 _ _ hd), hk, h64, fun ys l perm pw nl => ?_⟩
    have ylen := perm.length_eq
    have ynd : ys.Nodup := perm.nodup_iff.mpr nd
    have s2 := Same.trans s1 (same_upd (o := .lst (ys.map V.int)) nl)
    have hl : upd H1 l (.lst (ys.map V.int)) l = some (.lst (ys.map V.int)) := upd_same
    have D2 := (upd_ne (o := .lst (ys.map V.int)) (ne_of_none D1 nl)).trans D1
    generalize upd H1 l (.lst (ys.map V.int)) = H2 at s2 hl D2
    refine ⟨l, rfl, ⟨_, SqL.of hl⟩, ?_⟩
    refine for_list (K := K) (a := l) (xs := ys.map V.int) (fun i σ' H' => ∃ o2 : Option V, σ' = [some (.ref d), some (.ref D), o2] ∧ Same H H' ∧ H' l = some (.lst (ys.map V.int)) ∧ H' D = some (.dK ((ys.take i).map fun y => (.inl y, gV kvs y))))
      ⟨none, rfl, s2, hl, D2⟩ (fun i σ' H' _ pv => by obtain ⟨_, _, _, h, _⟩ := pv; exact SqL.of h) (fun i v σ' H3 hv' pv => ?_) (fun σ' H3 pv => ?_)
    · obtain ⟨o2, rfl, s3, hl3, D3⟩ := pv
      rw [List.getElem?_map] at hv'
      obtain ⟨y, hyi, rfl⟩ := Option.map_eq_some_iff.mp hv'
      have hi : i < ys.length := (List.getElem?_eq_some_iff.mp hyi).1
      obtain ⟨x, ex⟩ := hv y (perm.mem_iff.mp (List.mem_of_getElem? hyi))
      have nlD : l ≠ D := ne_kind hl3 D3 (fun z => nomatch z)
      refine ⟨_, rfl, _, rfl, d, _, rfl, dget_of (k := Sum.inl y) (s3 _ _ hd) ex, rfl, _, rfl, ?_⟩
      refine iteT' rfl ?_
      refine ⟨_, rfl, _, rfl, d, _, rfl, dget_of (k := Sum.inl y) (s3 _ _ hd) ex, _, rfl, _, rfl, D, _, rfl, DPut.k (k := Sum.inl y) D3 (small1000' (by rw [List.length_map, List.length_take]; omega)), _, rfl, fun a o e => (upd_ne (ne_of_none e nD)).trans (s3 _ _ e), (upd_ne nlD).trans hl3, ?_⟩
      rw [upd_same, putK_new _ (valV_none_of (not_in_take ynd hyi)), List.take_add_one, hyi, Option.toList_some, List.map_append, List.map_cons, List.map_nil, gV_of ex]
    · obtain ⟨o2, rfl, s3, hl3, D3⟩ := pv
      rw [List.length_map, List.take_length] at D3
      exact ⟨_, rfl, q D ys H3 perm pw s3 nD D3⟩
def sp__law_stands (K : PySem.W.Frag) (CN : Addr) : Sp := fun vs H Q _ => ∃ (t c : Addr) (A : Bd) (n : Int) (m : Nat) (S : WK), vs = [.ref A.h, .ref A.dN, .ref A.dB, .ref A.pO] ∧ NK CN t c A n m S H ∧ GB S.ks S.bs ∧ m ≤ 800 ∧ ∀ H', Same H H' → Q (.bl true) H'
theorem T0.ok__law_stands (T : T0 K mg) : FnOk P w K mg base CX0 6 T.a__law_stands T.fd__law_stands ["net", "nexts", "behinds", "post"] (sp__law_stands K T.C_Net) := by
  refine T.F__law_stands.ok sc__law_stands (fun vs H Q E h => ?_) (fun cdv A' outer s H vs Q E hr h => ?_)
  · obtain ⟨t, c, A, n, m, S, rfl, _⟩ := h
    rfl
  · obtain ⟨t, c, A, n, m, S, rfl, I, gb, lm, q⟩ := h
    have l41 := I.lks
    have l60 := I.lps
    have okf : ∀ y ∈ S.ks, ∃ x, valV S.nx (.inl y) = some (.int x) ∧ gV S.nx y = .int x := fun y hy => let ⟨x, _, hx⟩ := I.gn.2 y hy; ⟨x, hx, gV_of hx⟩
    obtain ⟨dx, hh⟩ := I.net.me
    refine ⟨_, (pss_cons (ps_if (pt_not (pt_val (pe_call (T.ok__law_same 5) (hr.mono (by decide)) (by rfl) T.g__law_same T.k__law_same T.b__law_same .nil pass0 (pa_cons (pe_meth0 (pv 0) T.cl_Net T.me_Net__nexts T.ok_Net__nexts (hr.mono (by decide)) T.b_Net__nexts .nil pass0) (pa_cons (pe_call T.ok__law_ordered (hr.mono (by decide)) (by rfl) T.g__law_ordered T.k__law_ordered T.b__law_ordered .nil pass0 (pa_cons (pv 1) pa_nil)) pa_nil))))) (pss_one (ps_ret pe_bl)) pss_nil)
        (pss_one (ps_ret (pe_and (pe_call (T.ok__law_same 5) (hr.mono (by decide)) (by rfl) T.g__law_same T.k__law_same T.b__law_same .nil pass0 (pa_cons (pe_meth0 (pv 0) T.cl_Net T.me_Net__befores T.ok_Net__befores (hr.mono (by decide)) T.b_Net__befores .nil pass0) (pa_cons (pe_call T.ok__law_ordered (hr.mono (by decide)) (by rfl) T.g__law_ordered T.k__law_ordered T.b__law_ordered .nil pass0 (pa_cons (pv 2) pa_nil)) pa_nil))) (pe_one (pe_call (T.ok__law_same 5) (hr.mono (by decide)) (by rfl) T.g__law_same T.k__law_same T.b__law_same .nil pass0 (pa_cons (pe_meth0 (pv 0) T.cl_Net T.me_Net__letters T.ok_Net__letters (hr.mono (by decide)) T.b_Net__letters .nil pass0) (pa_cons (pv 3) pa_nil)))))))), ?_⟩
    refine ⟨_, rfl, A.h, dx, _, rfl, hh, (by unfold nf; walk_at "lk"), A.h, A.dn, A.db, A.dl, n, S.nx, S.bf, S.ls, S.ks, gV S.nx, rfl, I.net, I.gn.1, by omega, I.nd, fun k hk => ?_, fun zs pz H1 permz pwz s1 npz epz => ?_⟩
    · obtain ⟨x, hx, gx⟩ := okf k hk
      rw [hx, gx]
    have I1 := I.same s1
    refine ⟨_, rfl, A.dN, S.nx, S.ks, rfl, I1.hN, I.gn.1, I.nd, by omega, fun j hj => let ⟨x, _, e⟩ := I.gn.2 j hj; ⟨x, e⟩, fun p ys H2 perm pw s2 np ep => ?_⟩
    have e : zs = ys := perm_sorted_eq (permz.trans perm.symm) pwz pw
    subst e
    have zlen := perm.length_eq
    refine ⟨.ref pz, .ref p, rfl, dic_same (s2 _ _ epz) ep (by rw [List.length_map]; omega) (fun kv hkv => ?_), fun H3 s3 => ⟨true, rfl, iteF ?_⟩⟩
    · obtain ⟨k, hk, rfl⟩ := List.mem_map.mp hkv
      obtain ⟨x, _, gx⟩ := okf k (perm.mem_iff.mp hk)
      show atomV (gV S.nx k) = true
      rw [gx]
      rfl
    have s13 := Same.trans s1 (Same.trans s2 s3)
    have I3 := I.same s13
    obtain ⟨dx3, hh3⟩ := I3.net.me
    refine ⟨_, rfl, A.h, dx3, _, rfl, hh3, (by unfold nf; walk_at "lk"), A.h, A.dn, A.db, A.dl, n, S.nx, S.bf, S.ls, S.ks, bef S.bs, rfl, I3.net, I3.gn.1, by omega, I3.nd, I3.vf, fun ws pw' H4 permw pww s4 npw epw => ?_⟩
    have I4 := I3.same s4
    obtain ⟨js, ejs, ndj⟩ := I.kb
    have inj : ∀ j, j ∈ js ↔ j ∈ S.ks ∧ bef S.bs j ≠ .non := fun j => by
      refine ⟨fun hj => ?_, fun ⟨_, hb⟩ => Decidable.byContradiction fun nj => hb (by rw [bef, valV_none_keys ejs nj]; rfl)⟩
      obtain ⟨v, hv⟩ := Option.isSome_iff_exists.mp (valV_mem_keys ejs hj)
      obtain ⟨h1, x, _, rfl⟩ := gb j v hv
      exact ⟨h1, by rw [bef, hv]; exact fun z => nomatch z⟩
    have ljs : js.length ≤ S.ks.length := nodup_sub_len ndj fun j hj => ((inj j).mp hj).1
    refine ⟨_, rfl, A.dB, S.bs, js, rfl, I4.hB, ejs, ndj, by omega, fun j hj => ?_, fun p us H5 permu pwu s5 np ep => ?_⟩
    · obtain ⟨v, hv⟩ := Option.isSome_iff_exists.mp (valV_mem_keys ejs hj)
      obtain ⟨_, x, _, rfl⟩ := gb j v hv
      exact ⟨x, hv⟩
    have e : (ws.filter fun y => decide (bef S.bs y ≠ .non)) = us := by
      refine perm_sorted_eq (List.Perm.trans ((List.perm_ext_iff_of_nodup ((permw.nodup_iff.mpr I.nd).filter _) ndj).mpr fun j => ?_) permu.symm) (pww.filter _) pwu
      rw [List.mem_filter, decide_eq_true_eq, inj j, permw.mem_iff]
    rw [e] at epw
    have ulen := permu.length_eq
    refine ⟨.ref pw', .ref p, rfl, dic_same (s5 _ _ epw) ep (by rw [List.length_map]; omega) (fun kv hkv => ?_), fun H6 s6 => ⟨true, rfl, iteT ?_⟩⟩
    · obtain ⟨k, hk, rfl⟩ := List.mem_map.mp hkv
      exact okB.atom (gb.ok k)
    have s46 := Same.trans s4 (Same.trans s5 s6)
    have I6 := I3.same s46
    obtain ⟨dx6, hh6⟩ := I6.net.me
    refine ⟨_, rfl, A.h, dx6, _, rfl, hh6, (by unfold nf; walk_at "lk"), A.h, A.dn, A.db, A.dl, n, S.nx, S.bf, S.ls, rfl, I6.net, fun p np => ?_⟩
    have s7 := same_upd (o := .lst S.ls) np
    have I7 := I6.same s7
    refine ⟨_, rfl, .ref p, .ref A.pO, rfl, .lst (SqL.of upd_same) (SqL.of I7.hP) I7.lenl (by have := I7.lenl; omega) (fun i a b ha hb => by
      obtain ⟨pa, qa, L, hpa, hqa, hL, epa, eqa, _⟩ := I7.lets (k := i) (List.getElem?_eq_some_iff.mp hb).1
      rw [hpa] at hb
      rw [hqa] at ha
      cases ha
      cases hb
      exact (let_same eqa epa).succ.succ), fun H8 s8 => ?_⟩
    exact q H8 (Same.trans s13 (Same.trans s46 (Same.trans s7 s8)))
def sp__law_letter (K : PySem.W.Frag) : Sp := fun vs H Q _ => ∃ (t c pl : Addr) (ms : List Int), vs = [.ref t, .ref pl] ∧ Tape H t c ∧ pl ≠ t ∧ H pl = some (.lst (ms.map V.int)) ∧ 0 < ms.length ∧ ms.length ≤ 1000 ∧
  ∀ l (L : Let) H', H l = none → H' l = some (.tup L.vals) → (∀ k ∈ L.ns, k ∈ ms) → Kp t H H' → Tape H' t c → Q (.ref l) H'
theorem T0.ok__law_letter (T : T0 K mg) : FnOk P w K mg base CX0 2 T.a__law_letter T.fd__law_letter ["tape", "places"] (sp__law_letter K) := by
  refine T.F__law_letter.ok sc__law_letter (fun vs H Q E h => ?_) (fun cdv A outer s H vs Q E hr h => ?_)
  · obtain ⟨t, c, pl, ms, rfl, _⟩ := h
    rfl
  · obtain ⟨t, c, pl, ms, rfl, hT, n1, hp, l0, l1, q⟩ := h
    refine ⟨_, (pss_cons (ps_set (i := 2) sc__law_letter.nd rfl (Or.inl rfl) (pe_ix (ix_listK (K := K)) (pv 1) (pe_call T.ok__law_pick hr (by rfl) T.g__law_pick T.k__law_pick T.b__law_pick .nil pass0 (pa_cons (pv 0) (pa_cons (pe_callB (call_lenK (K := K)) (by rfl) T.m_len PySem.boot_len (pa_cons (pv 1) pa_nil)) pa_nil))) (fun _ _ => rfl)))
        (pss_cons (ps_set (i := 3) sc__law_letter.nd rfl (Or.inl rfl) (pe_ix (ix_listK (K := K)) (pv 1) (pe_call T.ok__law_pick hr (by rfl) T.g__law_pick T.k__law_pick T.b__law_pick .nil pass0 (pa_cons (pv 0) (pa_cons (pe_callB (call_lenK (K := K)) (by rfl) T.m_len PySem.boot_len (pa_cons (pv 1) pa_nil)) pa_nil))) (fun _ _ => rfl)))
        (pss_cons (ps_set (i := 4) sc__law_letter.nd rfl (Or.inl rfl) (pe_ix (ix_listK (K := K)) (pv 1) (pe_call T.ok__law_pick hr (by rfl) T.g__law_pick T.k__law_pick T.b__law_pick .nil pass0 (pa_cons (pv 0) (pa_cons (pe_callB (call_lenK (K := K)) (by rfl) T.m_len PySem.boot_len (pa_cons (pv 1) pa_nil)) pa_nil))) (fun _ _ => rfl)))
        (pss_cons (ps_set (i := 5) sc__law_letter.nd rfl (Or.inl rfl) (pe_call T.ok__law_pick hr (by rfl) T.g__law_pick T.k__law_pick T.b__law_pick .nil pass0 (pa_cons (pv 0) (pa_cons pe_int pa_nil))))
        (pss_cons (ps_if (pt_cmpR op_eq (pv 5) pe_int (nomark _)) (pss_one (ps_ret (pe_tup (pa_cons pe_str (pa_cons (pv 2) (pa_cons (pv 3) pa_nil)))))) pss_nil)
        (pss_cons (ps_if (pt_cmpR op_eq (pv 5) pe_int (nomark _)) (pss_one (ps_ret (pe_tup (pa_cons pe_str (pa_cons (pv 2) (pa_cons (pv 3) pa_nil)))))) pss_nil)
        (pss_one (ps_ret (pe_tup (pa_cons pe_str (pa_cons (pv 2) (pa_cons (pv 3) (pa_cons (pv 4) pa_nil))))))))))))), ?_⟩
    have draw : ∀ (H1 : Hp), Kp t H H1 → Tape H1 t c → ∀ Q' : VK, (∀ (z : Int) H2, z ∈ ms → Kp t H H2 → Tape H2 t c → Q' (.int z) H2) →
        (sp__law_pick K) ([.ref t, .int ((ms.map V.int).length : Int)] ++ []) H1 (fun y H2 => rIxL K (.ref pl) y H2 Q') E0 := fun H1 k1 t1 Q' k => by
      refine ⟨t, c, _, rfl, t1, by rw [List.length_map]; omega, by rw [List.length_map]; omega, fun z H2 z0 z1 k2 t2 => ?_⟩
      rw [List.length_map] at z1
      have hz : z.toNat < ms.length := by omega
      have az : atI (ms.map V.int) z = some (.int ms[z.toNat]) := by
        rw [← at_ints hz, Int.toNat_of_nonneg z0]
      exact ⟨pl, _, z, _, rfl, rfl, SqL.of (k2 _ _ n1 (k1 _ _ n1 hp)), az, k _ H2 (List.getElem_mem hz) (k1.trans k2) t2⟩
    refine ⟨_, rfl, _, rfl, _, rfl, pl, _, rfl, .inl (SqL.of hp), draw H (.refl _ _) hT _ fun za H1 ma k1 t1 => ?_⟩
    refine ⟨_, rfl, _, rfl, _, rfl, pl, _, rfl, .inl (SqL.of (k1 _ _ n1 hp)), draw H1 k1 t1 _ fun zb H2 mb k2 t2 => ?_⟩
    refine ⟨_, rfl, _, rfl, _, rfl, pl, _, rfl, .inl (SqL.of (k2 _ _ n1 hp)), draw H2 k2 t2 _ fun zc H3 mc k3 t3 => ?_⟩
    refine ⟨_, rfl, t, c, 3, rfl, t3, by decide, by decide, fun d H4 _ _ k4 t4 => ?_⟩
    have k4 := k3.trans k4
    refine ⟨_, rfl, rfl, _, rfl, ite2 (fun _ => ?_) (fun _ => ?_)⟩
    · refine ⟨_, rfl, _, rfl, lenL (by show 3 ≤ 100000; decide), fun l nl => ?_⟩
      refine q l (.tell za zb) _ (k4.free t4 nl) upd_same (fun k hk => ?_) (k4.new nl) (t4.put (t4.off nl))
      simp only [Let.ns, List.mem_cons, List.not_mem_nil, or_false] at hk
      rcases hk with rfl | rfl <;> assumption
    refine ⟨_, rfl, rfl, _, rfl, ite2 (fun _ => ?_) (fun _ => ?_)⟩
    · refine ⟨_, rfl, _, rfl, lenL (by show 3 ≤ 100000; decide), fun l nl => ?_⟩
      refine q l (.ask za zb) _ (k4.free t4 nl) upd_same (fun k hk => ?_) (k4.new nl) (t4.put (t4.off nl))
      simp only [Let.ns, List.mem_cons, List.not_mem_nil, or_false] at hk
      rcases hk with rfl | rfl <;> assumption
    · refine ⟨_, rfl, _, rfl, _, rfl, lenL (by show 4 ≤ 100000; decide), fun l nl => ?_⟩
      refine q l (.answer za zb zc) _ (k4.free t4 nl) upd_same (fun k hk => ?_) (k4.new nl) (t4.put (t4.off nl))
      simp only [Let.ns, List.mem_cons, List.not_mem_nil, or_false] at hk
      rcases hk with rfl | rfl | rfl <;> assumption
theorem NK.sy {CN t c : Addr} {A : Bd} {n : Int} {m : Nat} {S : WK} {H : Hp} (I : NK CN t c A n m S H) (lm : m ≤ 800) : Sy CN H A.h n A.dn A.db A.dl S.nx S.bf S.bs S.ls S.ks S.Ls := ⟨I.net, ⟨I.gn, by have := I.lks; omega⟩, by have := I.lks; omega, I.nd, I.n0, I.n9, I.vf, I.gc, I.ll.1, I.ll.2, by have := I.lenl; have := I.lps; omega⟩
/-! ### a net made of nexts alone -/
def sp0_Net__init (K : PySem.W.Frag) (C : Addr) : Sp := fun vs H Q _ => ∃ (h dx d1 : Addr) (n : Int) (nx : List (Key × V)) (ks : List Int), vs = [.ref h, .int n, .ref d1, .non, .non] ∧ H h = some (.ins C dx []) ∧ H d1 = some (.dK nx) ∧
  nx.map (·.1) = ks.map Sum.inl ∧ ks.length < 64 ∧ ks.Nodup ∧ (∀ k ∈ ks, 0 ≤ k ∧ k < n ∧ ∃ x, valV nx (.inl k) = some (.int x) ∧ (valV nx (.inl x)).isSome = true) ∧
  ∀ H' dn db dl bf, NetAt C H' h n dn db dl nx bf [] → (∀ a o, a ≠ h → H a = some o → H' a = some o) → H dn = none → H db = none → H dl = none → db ≠ dn → (∀ p ∈ ks, valV bf (.inl p) = some .non) → bf.length ≤ ks.length → Q .non H'
theorem T0.ok0_Net__init (T : T0 K mg) : FnOk P w K mg base CX0 3 T.a_Net__init T.fd_Net__init ["self", "size", "nexts", "befores", "letters"] (sp0_Net__init K T.C_Net) := by
  refine T.F_Net__init.ok sc_Net__init (fun vs H Q E h => ?_) (fun cdv A outer s H vs Q E hr h => ?_)
  · obtain ⟨h, dx, d1, n, nx, ks, rfl, _⟩ := h
    rfl
  · obtain ⟨h, dx, d1, n, nx, ks, rfl, hh, h1, hk, h64, hnd, hv, q⟩ := h
    refine ⟨_, (pss_cons (ps_fld (pv 0) (pv 1) rfl)
        (pss_cons (ps_fld (pv 0) (pe_callTy call_dictD (by rfl) T.m_dict (by decide +kernel) (pa_cons (pv 2) pa_nil)) rfl)
        (pss_cons (ps_fld (pv 0) (pe_lock <| pe_dc (own := [("house", 5)]) (g := gName 5) (by rfl) sc_Net__init.nd (pi_keys (show PE _ _ (tFld K _ _) from pe_fld (pv 0) rfl)) (blkOk_by (own := [("house", 5)]) (N := ["self", "size", "nexts", "befores", "letters", "house"]) (sc := defScope s_Net__init) (by decide +kernel)) (fun _ _ _ _ _ => pg_name (i := 5) sc_Net__init.nd rfl (Or.inl rfl)) (fun _ _ _ _ _ => pts_nil) (fun _ _ _ _ _ => (pv 5)) (fun _ _ _ _ _ => pe_non)) rfl)
        (C8.pss_cut (ps_fld (pv 0) (pe_callTy (call_list_ofK (K := K)) (by rfl) T.m_list (by decide +kernel) (pa_cons (show PE _ _ (tOrT K _ _) from pe_orT (pv 4) (pe_one (pe_lst pa_nil))) pa_nil)) rfl)
        (pss_cons (ps_expr (pe_meth0 (pv 0) T.cl_Net T.me_Net__check_places T.ok_Net__check_places hr T.b_Net__check_places .nil pass0))
        (C8.pss_cut (ps_expr (pe_meth (pv 0) T.cl_Net T.me_Net__take_befores T.ok_Net__take_befores hr T.b_Net__take_befores .nil pass0 (pa_cons (show PE _ _ (tOrT K _ _) from pe_orT (pv 3) (pe_one pe_dnewK)) pa_nil)))
        (pss_one (ps_expr (pe_meth0 (pv 0) T.cl_Net T.me_Net__check_letters T.ok_Net__check_letters hr T.b_Net__check_letters .nil pass0))))))))), ?_⟩
    have nd1 : h ≠ d1 := fun e => by rw [e, h1] at hh; cases hh
    refine ⟨_, rfl, _, rfl, h, _, dx, [], rfl, hh, T.cl_Net, T.na_Net_size, (by show 0 < 1000; decide), ?_⟩
    refine ⟨_, rfl, d1, nx, rfl, .inl ((upd_ne nd1.symm).trans h1), fun dn ndn => ?_⟩
    have e1 : h ≠ dn := fun e => by rw [← e, upd_same] at ndn; cases ndn
    have ndn0 : H dn = none := by rw [upd_ne e1.symm] at ndn; exact ndn
    refine ⟨_, rfl, h, _, dx, _, rfl, (upd_ne e1).trans upd_same, T.cl_Net, T.na_Net__nexts, (by show 1 < 1000; decide), ?_⟩
    have k3 : ∀ a o, a ≠ h → H a = some o → upd (upd (upd H h (.ins T.C_Net dx (putF "size" (.int n) []))) dn (.dK nx)) h (.ins T.C_Net dx (putF "_nexts" (.ref dn) (putF "size" (.int n) []))) a = some o := fun a o na e => by
      rw [upd_ne na, upd_ne (ne_of_none e ndn0), upd_ne na]
      exact e
    have hdn : upd (upd (upd H h (.ins T.C_Net dx (putF "size" (.int n) []))) dn (.dK nx)) h (.ins T.C_Net dx (putF "_nexts" (.ref dn) (putF "size" (.int n) []))) dn = some (.dK nx) := (upd_ne e1.symm).trans upd_same
    have hh3 : upd (upd (upd H h (.ins T.C_Net dx (putF "size" (.int n) []))) dn (.dK nx)) h (.ins T.C_Net dx (putF "_nexts" (.ref dn) (putF "size" (.int n) []))) h = some (.ins T.C_Net dx (putF "_nexts" (.ref dn) (putF "size" (.int n) []))) := upd_same
    generalize upd (upd (upd H h (.ins T.C_Net dx (putF "size" (.int n) []))) dn (.dK nx)) h (.ins T.C_Net dx (putF "_nexts" (.ref dn) (putF "size" (.int n) []))) = H3 at k3 hdn hh3
    refine ⟨dn, nx, hdn, fun od => ?_⟩
    refine ⟨_, rfl, h, _, dx, _, _, rfl, (upd_ne e1).trans hh3, T.cl_Net, T.na_Net__nexts, (by walk_at "pf"; walk_at "lk"), dn, od, rfl, .inl ⟨nx, upd_same, fun D hD => ?_⟩⟩
    have nDdn : D ≠ dn := fun z => by rw [z, upd_same] at hD; cases hD
    refine dc_it walk_keys (fun i H' => Same (upd H3 dn (.frz od (.dK nx))) H' ∧ H' D = some (.dK ((ks.take i).map fun k => (.inl k, .non)))) ⟨same_upd hD, upd_same⟩ (fun i H' _ p => p.1 _ _ upd_same) (fun i x H4 H5 hi pv hy => ?_) (fun H4 pv => ?_)
    · obtain ⟨rfl, k, v, hkv, rfl⟩ := hy
      obtain ⟨s4, e4⟩ := pv
      have hki : ks[i]?.map (Sum.inl : Int → Key) = some k := by rw [← List.getElem?_map, ← hk, List.getElem?_map, hkv]; rfl
      obtain ⟨y, hy, rfl⟩ := Option.map_eq_some_iff.mp hki
      refine ⟨rfl, lc_yes ?_⟩
      refine ⟨_, rfl, _, Sum.inl y, rfl, e4, small1000' (by rw [List.length_map, List.length_take]; omega), fun b o e => ?_, ?_⟩
      · rw [upd_ne (ne_of_none e hD)]
        exact s4 b o e
      · rw [upd_same, putK_new _ (valV_none_of (f := fun _ => V.non) (not_in_take hnd hy)), List.take_add_one, hy, List.map_append]
        rfl
    · obtain ⟨s4, e4⟩ := pv
      refine ⟨s4 _ _ upd_same, ?_⟩
      have nl : nx.length = ks.length := by have := congrArg List.length hk; rw [List.length_map, List.length_map] at this; exact this
      rw [nl, List.take_length] at e4
      have h5 := (upd_ne (o := .dK nx) e1).trans (s4 _ _ ((upd_ne e1).trans hh3))
      have k5 : ∀ a o, a ≠ h → H a = some o → upd H4 dn (.dK nx) a = some o := fun a o na e => (upd_ne (ne_of_none e ndn0)).trans (s4 _ _ ((upd_ne (ne_of_none e ndn0)).trans (k3 a o na e)))
      have d5 : upd H4 dn (.dK nx) dn = some (.dK nx) := upd_same
      have D5 := (upd_ne (o := .dK nx) nDdn).trans e4
      have nDh : D ≠ h := fun z => by rw [z, (upd_ne e1 : upd H3 dn _ h = _), hh3] at hD; cases hD
      have nD0 : H D = none := by
        cases e : H D with
        | none => rfl
        | some o => rw [upd_ne nDdn, k3 D o nDh e] at hD; cases hD
      generalize upd H4 dn (.dK nx) = H5 at h5 k5 d5 D5
      refine ⟨_, rfl, h, _, dx, _, rfl, h5, T.cl_Net, T.na_Net__befores, (by show 2 < 1000; decide), ?_⟩
      have h6 : upd H5 h (.ins T.C_Net dx (putF "_befores" (.ref D) (putF "_nexts" (.ref dn) (putF "size" (.int n) [])))) h = _ := upd_same
      have k6 : ∀ a o, a ≠ h → H a = some o → upd H5 h (.ins T.C_Net dx (putF "_befores" (.ref D) (putF "_nexts" (.ref dn) (putF "size" (.int n) [])))) a = some o := fun a o na e => (upd_ne na).trans (k5 a o na e)
      have d6 := (upd_ne (o := .ins T.C_Net dx (putF "_befores" (.ref D) (putF "_nexts" (.ref dn) (putF "size" (.int n) [])))) e1.symm).trans d5
      have D6 := (upd_ne (o := .ins T.C_Net dx (putF "_befores" (.ref D) (putF "_nexts" (.ref dn) (putF "size" (.int n) [])))) nDh).trans D5
      generalize upd H5 h (.ins T.C_Net dx (putF "_befores" (.ref D) (putF "_nexts" (.ref dn) (putF "size" (.int n) [])))) = H6 at h6 k6 d6 D6
      have nn : (bef [] 0 : V) = .non := rfl
      refine ⟨fun σ' H' => σ' = [some (.ref h), some (.int n), some (.ref d1), some .non, some .non, none] ∧ ∃ dl, NetAt T.C_Net H' h n dn D dl nx (ks.map fun k => (.inl k, .non)) [] ∧ (∀ a o, a ≠ h → H a = some o → H' a = some o) ∧ H dl = none, ?_, ?_⟩
      · have fin : ∀ (Hq : Hp) (l : Addr), Same H6 Hq → Hq l = none → ∃ dl, NetAt T.C_Net (upd (upd Hq l (.lst [])) h (.ins T.C_Net dx (putF "_letters" (.ref l) (putF "_befores" (.ref D) (putF "_nexts" (.ref dn) (putF "size" (.int n) [])))))) h n dn D dl nx (ks.map fun k => (.inl k, .non)) [] ∧ (∀ a o, a ≠ h → H a = some o → upd (upd Hq l (.lst [])) h (.ins T.C_Net dx (putF "_letters" (.ref l) (putF "_befores" (.ref D) (putF "_nexts" (.ref dn) (putF "size" (.int n) []))))) a = some o) ∧ H dl = none := fun Hq l sq nl => by
          have nlh : l ≠ h := fun z => by rw [z, sq _ _ h6] at nl; cases nl
          have nD : D ≠ l := fun z => by rw [← z, sq _ _ D6] at nl; cases nl
          have ndl : dn ≠ l := fun z => by rw [← z, sq _ _ d6] at nl; cases nl
          refine ⟨l, ⟨⟨dx, ?_⟩, (upd_ne e1.symm).trans ((upd_ne ndl).trans (sq _ _ d6)), (upd_ne nDh).trans ((upd_ne nD).trans (sq _ _ D6)), (upd_ne nlh).trans upd_same⟩, fun a o na e => ?_, ?_⟩
          · rw [upd_same]
            have e : putF "_letters" (.ref l) (putF "_befores" (.ref D) (putF "_nexts" (.ref dn) (putF "size" (.int n) []))) = nf n dn D l := by
              walk_at "pf"
              rfl
            exact congrArg (fun z => some (HO.ins _ _ z)) e
          · have e2 := sq _ _ (k6 a o na e)
            exact (upd_ne na).trans ((upd_ne (ne_of_none e2 nl)).trans e2)
          · cases e : H l with
            | none => rfl
            | some o => rw [sq _ _ (k6 l o nlh e)] at nl; cases nl
        refine ⟨_, rfl, false, rfl, iteF ?_⟩
        · skip
          refine ⟨Nat.zero_le _, fun p np => ?_⟩
          have s7 := same_upd (o := .lst []) np
          have p7 : upd H6 p (.lst []) p = some (.lst []) := upd_same
          generalize upd H6 p (.lst []) = H7 at s7 p7
          refine ⟨p, [], rfl, .inl (SqL.of p7), fun l nl => ?_⟩
          have nlh : h ≠ l := fun z => by rw [← z, s7 _ _ h6] at nl; cases nl
          exact ⟨_, rfl, h, _, dx, _, rfl, (upd_ne nlh).trans (s7 _ _ h6), T.cl_Net, T.na_Net__letters, (by show 3 < 1000; decide), rfl, fin H7 l s7 nl⟩
      rintro _ H8 ⟨rfl, dl, N8, k8, ndl0⟩
      have nDn : D ≠ dn := nDdn
      obtain ⟨dx8, hh8⟩ := N8.me
      refine ⟨_, rfl, h, dx8, _, rfl, hh8, (by unfold nf; walk_at "lk"), h, dn, D, dl, n, nx, _, [], ks, rfl, N8, hk, h64, hv, fun H9 s9 => ?_⟩
      have N9 := N8.same s9
      have k9 : ∀ a o, a ≠ h → H a = some o → H9 a = some o := fun a o na e => s9 _ _ (k8 a o na e)
      obtain ⟨dx9, hh9⟩ := N9.me
      refine ⟨fun σ' H' => σ' = [some (.ref h), some (.int n), some (.ref d1), some .non, some .non, none] ∧ ∃ bf, NetAt T.C_Net H' h n dn D dl nx bf [] ∧ (∀ a o, a ≠ h → H a = some o → H' a = some o) ∧ (∀ p ∈ ks, valV bf (.inl p) = some (V.non)) ∧ bf.length ≤ ks.length, ?_, ?_⟩
      · refine ⟨_, rfl, h, dx9, _, rfl, hh9, (by unfold nf; walk_at "lk"), _, rfl, false, rfl, iteF ?_⟩
        · skip
          intro p np
          have s10 := same_upd (o := .dK []) np
          have p10 : upd H9 p (.dK []) p = some (.dK []) := upd_same
          have npD : p ≠ D := fun z => by rw [z, N9.hb] at np; cases np
          generalize upd H9 p (.dK []) = H10 at s10 p10
          refine ⟨h, dn, D, dl, p, n, nx, _, [], [], [], rfl, N9.same s10, p10, rfl, by decide, (fun j hj => nomatch hj), npD, nDn, by rw [List.length_map]; omega, fun H' bf' N' k' v' l' => ⟨rfl, bf', N', fun a o na e => k' _ _ (fun z => by rw [z] at e; rw [e] at nD0; cases nD0) (s10 _ _ (k9 a o na e)), fun p hp => ?_, by rw [List.length_map] at l'; exact l'⟩⟩
          rw [v' p, if_neg (fun z => nomatch z), valV_all_non hp]
      rintro _ H11 ⟨rfl, bf, N11, k11, v11, l11⟩
      obtain ⟨dx11, hh11⟩ := N11.me
      refine ⟨_, rfl, h, dx11, _, rfl, hh11, (by unfold nf; walk_at "lk"), h, dn, D, dl, n, nx, bf, [], rfl, N11, Nat.zero_le _, fun v hv => ?_, fun H12 s12 => ?_⟩
      · nomatch hv
      · exact q H12 dn D dl bf (N11.same s12) (fun a o na e => s12 _ _ (k11 a o na e)) ndn0 nD0 ndl0 nDn v11 l11
--CUT
/-! ### the law's words -/
theorem cr_sortedE {X : Cx} {K : PySem.W.Frag} (hc : X.calm = true) (h : X.K = K := by rfl) : CallR X (.builtin "sorted") (fun xs H Q => rSorted K xs H Q ∨ ∃ (a : Addr) (kvs : List (Key × V)) (ks : List Int), xs = [.ref a] ∧ Rd H a (.dK kvs) ∧ kvs.map (·.1) = ks.map Sum.inl ∧ ks.length < 64 ∧ ∀ (ys : List Int) (p : Addr), ys.Perm ks → ys.Pairwise (· ≤ ·) → H p = none → Q (.ref p) (upd H p (.lst (ys.map V.int)))) := by
  intro pins s σ H xs us Q I r q
  rcases q with q | q
  · exact cr_sortedK h pins s σ H xs us Q I r q
  · exact call_sortedDI hc pins s σ H xs us Q I r q
/-- a list of places, or a table by them -/
def PlA (K : PySem.W.Frag) (H : Hp) (a : Addr) (ms : List Int) : Prop := SqL K H a (ms.map V.int) ∨ ∃ kvs : List (Key × V), H a = some (.dK kvs) ∧ kvs.map (·.1) = ms.map Sum.inl
theorem sorted_pl {K : PySem.W.Frag} {H : Hp} {a : Addr} {ms : List Int} {Q : VK} (h : PlA K H a ms) (l : ms.length < 64) (q : ∀ (ys : List Int) (p : Addr), ys.Perm ms → ys.Pairwise (· ≤ ·) → H p = none → Q (.ref p) (upd H p (.lst (ys.map V.int)))) :
    rSorted K [.ref a] H Q ∨ ∃ (a' : Addr) (kvs : List (Key × V)) (ks : List Int), [V.ref a] = [.ref a'] ∧ Rd H a' (.dK kvs) ∧ kvs.map (·.1) = ks.map Sum.inl ∧ ks.length < 64 ∧ ∀ (ys : List Int) (p : Addr), ys.Perm ks → ys.Pairwise (· ≤ ·) → H p = none → Q (.ref p) (upd H p (.lst (ys.map V.int))) := by
  rcases h with h | ⟨kvs, h, hk⟩
  · exact .inl ⟨a, ms, rfl, h, l, q⟩
  · exact .inr ⟨a, kvs, ms, rfl, .inl h, hk, l, q⟩
def cycD (us : List Int) : List (Key × V) := us.map fun y => ((Sum.inl y : Key), V.int (cyc us y))
theorem cycD_keys (us : List Int) : (cycD us).map (·.1) = us.map Sum.inl := by unfold cycD; rw [List.map_map]; rfl
theorem cycD_gn {us : List Int} : GN us (cycD us) := ⟨cycD_keys us, fun k hk => ⟨_, cyc_mem hk, valV_map_mem (f := fun y => V.int (cyc us y)) hk⟩⟩
def sp__law_plain (K : PySem.W.Frag) : Sp := fun vs H Q _ => ∃ (a : Addr) (ms : List Int), vs = [.ref a] ∧ PlA K H a ms ∧ ms.Nodup ∧ ms.length < 64 ∧ ∀ (us : List Int) d H', us.Perm ms → us.Pairwise (· ≤ ·) → Same H H' → H d = none → H' d = some (.dK (cycD us)) → Q (.ref d) H'
theorem T0.ok__law_plain (T : T0 K mg) : FnOk P w K mg base CX0 1 T.a__law_plain T.fd__law_plain ["places"] (sp__law_plain K) := by
  refine T.F__law_plain.ok sc__law_plain (fun vs H Q E h => ?_) (fun cdv A outer s0 H vs Q E hr h => ?_)
  · obtain ⟨a, ms, rfl, _⟩ := h
    rfl
  · obtain ⟨a, ms, rfl, hp, nd, l64, q⟩ := h
    refine ⟨_, (pss_cons (ps_set (i := 1) sc__law_plain.nd rfl (Or.inl rfl) ((pe_callB (cr_sortedE (K := K) rfl) (by rfl) T.m_sorted (by decide +kernel) (pa_cons (pv 0) pa_nil))))
        (pss_cons (ps_set (i := 2) sc__law_plain.nd rfl (Or.inl rfl) pe_dnewK)
        (pss_cons (ps_for PassesOwn.never rfl (pi_range1 (by rfl) T.m_range (pa_cons (pe_callB (call_lenK (K := K)) (by rfl) T.m_len PySem.boot_len (pa_cons (pv 1) pa_nil)) pa_nil)) (pg_name (i := 3) sc__law_plain.nd rfl (Or.inl rfl)) (pss_one (ps_asg (pe_ix (ix_listK (K := K)) (pv 1) (pe_op op_modN (pe_callTy call_int1 (by rfl) T.m_int (by decide +kernel) (pa_cons (pe_op op_add (pv 3) pe_int) pa_nil)) (pe_callB (call_lenK (K := K)) (by rfl) T.m_len PySem.boot_len (pa_cons (pv 1) pa_nil))) (fun _ _ => rfl)) (pg_sub (pv 2) (pe_ix (ix_listK (K := K)) (pv 1) (pv 3) (fun _ _ => rfl)) (set_dict (un1 hr))))))
        (pss_one (ps_ret (pv 2)))))), ?_⟩
    refine ⟨_, rfl, ?_⟩
    refine sorted_pl hp l64 fun us p perm pw np => ?_
    have ulen := perm.length_eq
    have und := perm.nodup_iff.mpr nd
    have s1 := same_upd (o := .lst (us.map V.int)) np
    have e1 : upd H p (.lst (us.map V.int)) p = some (.lst (us.map V.int)) := upd_same
    generalize upd H p (.lst (us.map V.int)) = H1 at s1 e1
    intro D nD
    have s2 := same_upd (o := .dK []) nD
    have e2 : upd H1 D (.dK []) D = some (.dK []) := upd_same
    generalize upd H1 D (.dK []) = H2 at s2 e2
    have s02 := Same.trans s1 s2
    have pD : p ≠ D := ne_of_none e1 nD
    refine ⟨_, rfl, p, _, rfl, .inl (SqL.of (s2 _ _ e1)), ((us.map V.int).length : Int), rfl, by omega, by rw [List.length_map]; omega, ?_⟩
    refine for_range (lo := 0) (n := (((us.map V.int).length : Nat) : Int).toNat) (fun i σ' H' => ∃ o3 : Option V, σ' = [some (.ref a), some (.ref p), some (.ref D), o3] ∧ (∀ b o, b ≠ D → H2 b = some o → H' b = some o) ∧ H' D = some (.dK ((us.take i).map fun y => ((Sum.inl y : Key), V.int (cyc us y))))) ⟨none, rfl, fun _ _ _ e => e, e2⟩ (fun i σ' H3 hi pv => ?_) (fun σ' H3 pv => ?_)
    · obtain ⟨o3, rfl, f3, e3⟩ := pv
      rw [Int.toNat_natCast, List.length_map] at hi
      have hl := f3 _ _ pD (s2 _ _ e1)
      have hu0 : (us.length : Int) ≠ 0 := by omega
      have m0 := Int.fmod_nonneg_of_pos (0 + (i : Int) + 1) (show 0 < (us.length : Int) by omega)
      have m1 := Int.fmod_lt_of_pos (0 + (i : Int) + 1) (show 0 < (us.length : Int) by omega)
      have em : (0 + (i : Int) + 1).fmod (us.length : Int) = (((i + 1) % us.length : Nat) : Int) := by
        rw [Int.fmod_eq_emod_of_nonneg _ (by omega), show (0 + (i : Int) + 1) = ((i + 1 : Nat) : Int) by omega]
        rfl
      have lm := Nat.mod_lt (i + 1) (show 0 < us.length by omega)
      obtain ⟨y, hy⟩ : ∃ y, us[i]? = some y := ⟨_, List.getElem?_eq_getElem hi⟩
      obtain ⟨x, hx⟩ : ∃ x, us[(i + 1) % us.length]? = some x := ⟨_, List.getElem?_eq_getElem lm⟩
      have ay : atI (us.map V.int) (0 + (i : Int)) = some (.int y) := by rw [Int.zero_add]; exact atI_nat (by rw [List.getElem?_map, hy]; rfl)
      have ax : atI (us.map V.int) ((0 + (i : Int) + 1).fmod ((us.map V.int).length : Int)) = some (.int x) := by rw [List.length_map, em]; exact atI_nat (by rw [List.getElem?_map, hx]; rfl)
      have hz : (((us.map V.int).length : Nat) : Int) ≠ 0 := by rw [List.length_map]; exact hu0
      refine ⟨_, rfl, _, rfl, _, _, rfl, rfl, .inl ⟨_, rfl, _, rfl, p, _, rfl, .inl (SqL.of hl), _, _, rfl, rfl, hz, p, _, _, .int x, rfl, rfl, SqL.of hl, ax, ?_⟩⟩
      refine ⟨_, rfl, _, rfl, _, rfl, p, _, _, .int y, rfl, rfl, SqL.of hl, ay, D, _, rfl, DPut.k (k := Sum.inl y) e3 (small1000' (by rw [List.length_map, List.length_take]; omega)), _, rfl, fun b o nb e => (upd_ne nb).trans (f3 _ _ nb e), ?_⟩
      rw [upd_same, putK_new _ (valV_none_of (f := fun y => V.int (cyc us y)) (not_in_take und hy)), tk_snoc hy, List.map_append, ← cyc_at und hy hx]
      rfl
    · obtain ⟨o3, rfl, f3, e3⟩ := pv
      rw [Int.toNat_natCast, List.length_map, List.take_length] at e3
      exact ⟨_, rfl, q us D H3 perm pw (fun b o e => f3 _ _ (ne_of_none (s1 _ _ e) nD) (s02 _ _ e)) (none_back s1 nD) e3⟩
/-! ### untrue -/
def sp__law_untrue (K : PySem.W.Frag) : Sp := fun vs H Q _ => ∃ (dN dB pO : Addr) (n : Int) (nx bs : List (Key × V)) (ps : List V) (ks : List Int) (Ls : List Let), vs = [.int n, .ref dN, .ref dB, .ref pO] ∧ H dN = some (.dK nx) ∧ H dB = some (.dK bs) ∧ H pO = some (.lst ps) ∧ 0 < n ∧ n ≤ 1000000000 ∧ ks.length < 64 ∧ ks.Nodup ∧ GN ks nx ∧ GC ks bs ∧ KB bs ∧ ps.length ≤ 1000 ∧ LAt Let.vals H ps Ls ∧ (∀ L ∈ Ls, ∀ k ∈ L.ns, k ∈ ks) ∧
  ∀ (ys : List Int) H', ys.Perm ks → ys.Pairwise (· ≤ ·) → Same H H' → ((∀ q ∈ Prs nx bs ys Ls, trP n (iN nx) q = true) → Q .non H') ∧ (∀ (i : Nat) q a, (Prs nx bs ys Ls)[i]? = some q → (∀ q' ∈ (Prs nx bs ys Ls).take i, trP n (iN nx) q' = true) → trP n (iN nx) q = false → H' a = some (.tup (sV n q)) → Q (.ref a) H')
theorem T0.ok__law_untrue (T : T0 K mg) : FnOk P w K mg base CX0 3 T.a__law_untrue T.fd__law_untrue ["size", "nexts", "behinds", "post"] (sp__law_untrue K) := by
  refine T.F__law_untrue.ok sc__law_untrue (fun vs H Q E h => ?_) (fun cdv A outer s0 H vs Q E hr h => ?_)
  · obtain ⟨dN, dB, pO, n, nx, bs, ps, ks, Ls, rfl, _⟩ := h
    rfl
  · obtain ⟨dN, dB, pO, n, nx, bs, ps, ks, Ls, rfl, hN, hB, hP, n0, n9, l64, nd, gn, gc, kb, lp, la, ns, q⟩ := h
    refine ⟨_, (pss_cons (ps_for PassesOwn.never rfl (pi_list (pe_call T.ok__law_sayings hr (by rfl) T.g__law_sayings T.k__law_sayings T.b__law_sayings .nil pass0 (pa_cons (pv 0) (pa_cons (pv 1) (pa_cons (pv 2) (pa_cons (pv 3) pa_nil)))))) (pg_name (i := 4) sc__law_untrue.nd rfl (Or.inl rfl)) (pss_one (ps_if (pt_not (pt_val (pe_call T.ok__law_holds hr (by rfl) T.g__law_holds T.k__law_holds T.b__law_holds .nil pass0 (pa_cons (pv 0) (pa_cons (pv 1) (pa_cons (pv 4) pa_nil)))))) (pss_one (ps_ret (pv 4))) pss_nil)))
        (pss_one (ps_ret pe_non))), ?_⟩
    refine ⟨_, rfl, _, rfl, _, rfl, _, rfl, dN, dB, pO, n, nx, bs, ps, ks, Ls, rfl, hN, hB, hP, n0, l64, nd, gn, gc, kb, lp, la, fun ys p us H1 perm pw s1 np e1 lu l2 => ?_⟩
    have mem := prs_mem gn perm gc ns (Ls := Ls) (bs := bs)
    have q' := q ys
    have W : WN ks nx := ⟨gn, by omega⟩
    generalize Prs nx bs ys Ls = P at lu q' mem
    refine ⟨p, rfl, ⟨_, SqL.of e1⟩, ?_⟩
    refine for_list (K := K) (a := p) (xs := us) (fun i σ' H' => ∃ o4 : Option V, σ' = [some (.int n), some (.ref dN), some (.ref dB), some (.ref pO), o4] ∧ Same H1 H' ∧ ∀ q' ∈ P.take i, trP n (iN nx) q' = true) ⟨none, rfl, (fun _ _ e => e), fun _ h => by rw [List.take_zero] at h; nomatch h⟩ (fun i σ' H' _ pv => by obtain ⟨_, _, s, _⟩ := pv; exact SqL.of (s _ _ e1)) (fun i v σ' H2 hv pv => ?_) (fun σ' H2 pv => ?_)
    · obtain ⟨o4, rfl, s2, all⟩ := pv
      obtain ⟨a, c, hc, rfl, ea⟩ := lu.at hv
      obtain ⟨m1, m2⟩ := mem c (List.mem_of_getElem? hc)
      have s02 := Same.trans s1 s2
      have ea2 := s2 _ _ ea
      have fr := far_range c.1 c.2 n0
      refine ⟨_, rfl, _, rfl, _, rfl, dN, a, n, c.1, c.2, farL n c.1 c.2, nx, ks, rfl, s02 _ _ hN, ea2, W, m1, n0, n9, fr.1, by omega, ?_⟩
      refine ⟨_, rfl, ?_⟩
      by_cases e : trP n (iN nx) c = true
      · have e2 : tru n (iN nx) c.1 c.2 (farL n c.1 c.2) = true := e
        rw [e2]
        refine iteF ⟨_, rfl, s2, fun q' hq' => ?_⟩
        rw [List.take_add_one, hc] at hq'
        rcases List.mem_append.mp hq' with h | h
        · exact all q' h
        · rw [List.mem_singleton.mp h]
          exact e
      · have e := Bool.eq_false_iff.mpr e
        have e2 : tru n (iN nx) c.1 c.2 (farL n c.1 c.2) = false := e
        rw [e2]
        exact iteT ⟨_, rfl, (q' H2 perm pw s02).2 i c a hc all e ea2⟩
    · obtain ⟨o4, rfl, s2, all⟩ := pv
      rw [lu.1, List.take_length] at all
      exact (q' H2 perm pw (Same.trans s1 s2)).1 all
/-! ### what the end is to be -/
noncomputable def endB (n : Int) (nx bs : List (Key × V)) (ys : List Int) (Ls : List Let) : Bool := allB n nx bs ys Ls && plB (endF n (iN nx) ys) ys
def sp__law_ending (K : PySem.W.Frag) : Sp := fun vs H Q _ => ∃ (dN dB pO : Addr) (n : Int) (nx bs : List (Key × V)) (ps : List V) (ks : List Int) (Ls : List Let), vs = [.int n, .ref dN, .ref dB, .ref pO] ∧ H dN = some (.dK nx) ∧ H dB = some (.dK bs) ∧ H pO = some (.lst ps) ∧ 0 < n ∧ n ≤ 1000000000 ∧ ks.length < 64 ∧ ks.Nodup ∧ GN ks nx ∧ GC ks bs ∧ KB bs ∧ ps.length ≤ 1000 ∧ LAt Let.vals H ps Ls ∧ (∀ L ∈ Ls, ∀ k ∈ L.ns, k ∈ ks) ∧ (∀ k ∈ ks, 0 ≤ k ∧ k < n) ∧
  ∀ (ys : List Int) H', ys.Perm ks → ys.Pairwise (· ≤ ·) → Same H H' → Q (.bl (endB n nx bs ys Ls)) H'
theorem T0.ok__law_ending (T : T0 K mg) : FnOk P w K mg base CX0 4 T.a__law_ending T.fd__law_ending ["size", "nexts", "behinds", "post"] (sp__law_ending K) := by
  refine T.F__law_ending.ok sc__law_ending (fun vs H Q E h => ?_) (fun cdv A outer s0 H vs Q E hr h => ?_)
  · obtain ⟨dN, dB, pO, n, nx, bs, ps, ks, Ls, rfl, _⟩ := h
    rfl
  · obtain ⟨dN, dB, pO, n, nx, bs, ps, ks, Ls, rfl, hN, hB, hP, n0, n9, l64, nd, gn, gc, kb, lp, la, ns, rng, q⟩ := h
    refine ⟨_, (pss_cons (ps_if (pt_cmpR op_notN (pe_call T.ok__law_untrue hr (by rfl) T.g__law_untrue T.k__law_untrue T.b__law_untrue .nil pass0 (pa_cons (pv 0) (pa_cons (pv 1) (pa_cons (pv 2) (pa_cons (pv 3) pa_nil))))) pe_non (nomark _)) (pss_one (ps_ret pe_bl)) pss_nil)
        (pss_cons (ps_set (i := 4) sc__law_ending.nd rfl (Or.inl rfl) (pe_callB (call_sortedDI rfl) (by rfl) T.m_sorted (by decide +kernel) (pa_cons (pv 1) pa_nil)))
        (pss_cons (ps_if (pt_cmpR op_eq (pe_callB (call_lenK (K := K)) (by rfl) T.m_len PySem.boot_len (pa_cons (pv 4) pa_nil)) pe_int (nomark _)) (pss_one (ps_ret pe_bl)) pss_nil)
        (pss_cons (ps_if (pt_cmpR op_lt (pe_callB (call_lenK (K := K)) (by rfl) T.m_len PySem.boot_len (pa_cons (pe_call T.ok__law_piece hr (by rfl) T.g__law_piece T.k__law_piece T.b__law_piece .nil pass0 (pa_cons (pv 1) (pa_cons (pe_ix (ix_listK (K := K)) (pv 4) pe_int (fun _ _ => rfl)) pa_nil))) pa_nil)) (pe_callB (call_lenK (K := K)) (by rfl) T.m_len PySem.boot_len (pa_cons (pv 4) pa_nil)) (nomark _)) (pss_one (ps_ret pe_bl)) pss_nil)
        (pss_one (ps_ret (pe_cmpR op_eq (pe_call T.ok__law_turns (hr.mono (by decide)) (by rfl) T.g__law_turns T.k__law_turns T.b__law_turns .nil pass0 (pa_cons (pv 0) (pa_cons (pv 1) (pa_cons (pe_ix (ix_listK (K := K)) (pv 4) pe_int (fun _ _ => rfl)) pa_nil)))) pe_int (nomark _)))))))), ?_⟩
    have W : WN ks nx := ⟨gn, by omega⟩
    refine ⟨_, rfl, _, rfl, _, rfl, _, rfl, dN, dB, pO, n, nx, bs, ps, ks, Ls, rfl, hN, hB, hP, n0, n9, l64, nd, gn, gc, kb, lp, la, ns, fun ys H1 perm pw s1 => ⟨fun all => ?_, fun i c a hc _ hf _ => ?_⟩⟩
    · have ab : allB n nx bs ys Ls = true := List.all_eq_true.mpr all
      have ylen := perm.length_eq
      have ynd := perm.nodup_iff.mpr nd
      have fin : ∀ H' (b : Bool), Same H H' → plB (endF n (iN nx) ys) ys = b → Q (.bl b) H' := fun H' b s e => by
        have := q ys H' perm pw s
        unfold endB at this
        rw [ab, Bool.true_and, e] at this
        exact this
      refine ⟨rfl, _, rfl, iteF' rfl ?_⟩
      refine ⟨_, rfl, dN, nx, ks, rfl, .inl (s1 _ _ hN), gn.1, l64, fun ys2 l perm2 pw2 nl => ?_⟩
      obtain rfl : ys = ys2 := perm_sorted_eq (perm.trans perm2.symm) pw pw2
      have s2 := Same.trans s1 (same_upd (o := .lst (ys.map V.int)) nl)
      have e2 : upd H1 l (.lst (ys.map V.int)) l = some (.lst (ys.map V.int)) := upd_same
      generalize upd H1 l (.lst (ys.map V.int)) = H2 at s2 e2
      refine ⟨_, rfl, l, _, rfl, .inl (SqL.of e2), rfl, _, rfl, ite2 (fun e => ?_) (fun e => ?_)⟩
      · have e := V.int.inj (of_decide_eq_true e)
        rw [List.length_map] at e
        have y0 : ys = [] := List.eq_nil_of_length_eq_zero (by omega)
        exact fin H2 true s2 (by rw [y0]; rfl)
      · have e : ¬ (((ys.map V.int).length : Nat) : Int) = 0 := fun z => e (decide_eq_true (congrArg V.int z))
        rw [List.length_map] at e
        have lp : 0 < ys.length := by omega
        obtain ⟨l0, h0⟩ : ∃ l0, ys[0]? = some l0 := ⟨_, List.getElem?_eq_getElem lp⟩
        have ml := List.mem_of_getElem? h0
        have mk := perm.mem_iff.mp ml
        have a0 : atI (ys.map V.int) ((0 : Nat) : Int) = some (.int l0) := atI_nat (by rw [List.getElem?_map, h0]; rfl)
        have iff_ : ∀ {rs : List Int}, RingL (iN nx) l0 rs → (plB (endF n (iN nx) ys) ys = true ↔ (pcZ (iN nx) ys l0).length = ys.length ∧ (ringS n (iN nx) rs).fdiv n = 1) := fun {rs} R => by
          obtain ⟨M, hM⟩ := mark_ring (n := n) R (pcZ_head (f := iN nx) h0)
          rw [ring_turns1 n0 R, ← ends_plain_iff n0 ynd pw (fun k hk => rng k (perm.mem_iff.mp hk)) (fun k hk => perm.mem_iff.mpr (W.cl k (perm.mem_iff.mp hk))) h0 rfl hM]
          unfold plB
          rw [List.all_eq_true]
          exact ⟨fun h y hy => of_decide_eq_true (h y hy), fun h y hy => decide_eq_true (h y hy)⟩
        have lf : (pcZ (iN nx) ys l0).length ≤ ys.length := List.length_filter_le _ _
        refine ⟨_, rfl, _, rfl, l, _, 0, .int l0, rfl, rfl, SqL.of e2, a0, ?_⟩
        refine ⟨dN, l0, nx, ks, rfl, s2 _ _ hN, W, l64, mk, fun ys2 pl H3 perm2 pw2 s3 npl epl => ?_⟩
        obtain rfl : ys = ys2 := perm_sorted_eq (perm.trans perm2.symm) pw pw2
        have s23 := Same.trans s2 s3
        refine ⟨pl, _, rfl, .inl (SqL.of epl), _, rfl, l, _, rfl, .inl (SqL.of (s3 _ _ e2)), _, _, rfl, rfl, _, rfl, ite2 (fun c => ?_) (fun c => ?_)⟩
        · have c := of_decide_eq_true c
          rw [List.length_map, List.length_map] at c
          obtain ⟨y, r, R⟩ := ring_ex W.cl mk
          refine fin H3 false s23 (Bool.eq_false_iff.mpr fun h => ?_)
          have := ((iff_ R).mp h).1
          unfold pcZ at this
          omega
        · have c : ¬ ((((ys.filter fun y => smp (iN nx) y l0).map V.int).length : Nat) : Int) < (((ys.map V.int).length : Nat) : Int) := fun z => c (decide_eq_true z)
          rw [List.length_map, List.length_map] at c
          refine ⟨_, rfl, _, rfl, _, rfl, l, _, 0, .int l0, rfl, rfl, SqL.of (s3 _ _ e2), a0, ?_⟩
          refine ⟨dN, n, l0, nx, ks, rfl, s23 _ _ hN, W, by omega, mk, n0, n9, fun rs H4 R s4 => ?_⟩
          refine ⟨rfl, fin H4 _ (Same.trans s23 s4) ?_⟩
          rw [Bool.eq_iff_iff, iff_ R, dec_int, decide_eq_true_eq]
          refine ⟨fun h => h.2, fun h => ⟨?_, h⟩⟩
          unfold pcZ at lf ⊢
          omega
    · have ab : allB n nx bs ys Ls = false := Bool.eq_false_iff.mpr fun h => by
        have := List.all_eq_true.mp h c (List.mem_of_getElem? hc)
        rw [hf] at this
        cases this
      refine ⟨rfl, _, rfl, iteT' rfl ?_⟩
      have := q ys H1 perm pw s1
      unfold endB at this
      rw [ab, Bool.false_and] at this
      exact this
/-! ### the beginning -/
def sp__law_beginning (K : PySem.W.Frag) : Sp := fun vs H Q _ => ∃ (t c pl : Addr) (ms : List Int), vs = [.ref t, .ref pl] ∧ Tape H t c ∧ pl ≠ t ∧ H pl = some (.lst (ms.map V.int)) ∧ ms.Nodup ∧ ms.length < 64 ∧
  ∀ d (nx : List (Key × V)) (ks : List Int) H', H d = none → H' d = some (.dK nx) → GN ks nx → ks.Perm ms → Kp t H H' → Tape H' t c → Q (.ref d) H'
theorem T0.ok__law_beginning (T : T0 K mg) : FnOk P w K mg base CX0 3 T.a__law_beginning T.fd__law_beginning ["tape", "places"] (sp__law_beginning K) := by
  refine T.F__law_beginning.ok sc__law_beginning (fun vs H Q E h => ?_) (fun cdv A outer s0 H vs Q E hr h => ?_)
  · obtain ⟨t, c, pl, ms, rfl, _⟩ := h
    rfl
  · obtain ⟨t, c, pl, ms, rfl, T1, npt, hpl, nd, l64, q⟩ := h
    refine ⟨_, (pss_cons (ps_set (i := 2) sc__law_beginning.nd rfl (Or.inl rfl) (pe_call T.ok__law_pick (hr.mono (by decide)) (by rfl) T.g__law_pick T.k__law_pick T.b__law_pick .nil pass0 (pa_cons (pv 0) (pa_cons pe_int pa_nil))))
        (pss_cons (ps_if (pt_cmpR op_eq (pv 2) pe_int (nomark _)) (pss_one (ps_ret (pe_call T.ok__law_nexts hr (by rfl) T.g__law_nexts T.k__law_nexts T.b__law_nexts .nil pass0 (pa_cons (pv 0) (pa_cons (pv 1) pa_nil))))) pss_nil)
        (pss_cons (ps_if (pt_cmpR op_eq (pv 2) pe_int (nomark _)) (pss_one (ps_ret (pe_call T.ok__law_nexts hr (by rfl) T.g__law_nexts T.k__law_nexts T.b__law_nexts .nil pass0 (pa_cons (pv 0) (pa_cons (pe_callB (cr_sortedK (K := K)) (by rfl) T.m_sorted (by decide +kernel) (pa_cons (pv 1) pa_nil)) pa_nil))))) pss_nil)
        (pss_cons (ps_set (i := 3) sc__law_beginning.nd rfl (Or.inl rfl) (pe_call T.ok__law_plain (hr.mono (by decide)) (by rfl) T.g__law_plain T.k__law_plain T.b__law_plain .nil pass0 (pa_cons (pv 1) pa_nil)))
        (C8.pss_cut (ps_if (PW.pt (pw_and (pt_cmpR op_eq (pv 2) pe_int (nomark _)) (pw_and1 (pt_cmpR op_gt (pe_callB (call_lenK (K := K)) (by rfl) T.m_len PySem.boot_len (pa_cons (pv 1) pa_nil)) pe_int (nomark _))))) (pss_cons (ps_set (i := 4) sc__law_beginning.nd rfl (Or.inl rfl) (pe_ix (ix_listK (K := K)) (pv 1) (pe_call T.ok__law_pick (hr.mono (by decide)) (by rfl) T.g__law_pick T.k__law_pick T.b__law_pick .nil pass0 (pa_cons (pv 0) (pa_cons (pe_callB (call_lenK (K := K)) (by rfl) T.m_len PySem.boot_len (pa_cons (pv 1) pa_nil)) pa_nil))) (fun _ _ => rfl)))
        (pss_one (ps_asg (pe_ix (ix_listK (K := K)) (pv 1) (pe_call T.ok__law_pick (hr.mono (by decide)) (by rfl) T.g__law_pick T.k__law_pick T.b__law_pick .nil pass0 (pa_cons (pv 0) (pa_cons (pe_callB (call_lenK (K := K)) (by rfl) T.m_len PySem.boot_len (pa_cons (pv 1) pa_nil)) pa_nil))) (fun _ _ => rfl)) (pg_sub (pv 3) (pv 4) (set_dict (un1 hr)))))) pss_nil)
        (C8.pss_cut (ps_if (pt_cmpR op_eq (pv 2) pe_int (nomark _)) (pss_cons (ps_set (i := 5) sc__law_beginning.nd rfl (Or.inl rfl) (pe_call T.ok__law_pick (hr.mono (by decide)) (by rfl) T.g__law_pick T.k__law_pick T.b__law_pick .nil pass0 (pa_cons (pv 0) (pa_cons (pe_op op_add (pe_callB (call_lenK (K := K)) (by rfl) T.m_len PySem.boot_len (pa_cons (pv 1) pa_nil)) pe_int) pa_nil))))
        (pss_cons (ps_set (i := 3) sc__law_beginning.nd rfl (Or.inl rfl) (pe_call T.ok__law_plain (hr.mono (by decide)) (by rfl) T.g__law_plain T.k__law_plain T.b__law_plain .nil pass0 (pa_cons (pe_slice (sl_listK (K := K)) (pv 1) po_none (po_some (pv 5))) pa_nil)))
        (pss_cons (ps_set (i := 6) sc__law_beginning.nd rfl (Or.inl rfl) (pe_call T.ok__law_plain (hr.mono (by decide)) (by rfl) T.g__law_plain T.k__law_plain T.b__law_plain .nil pass0 (pa_cons (pe_slice (sl_listK (K := K)) (pv 1) (po_some (pv 5)) po_none) pa_nil)))
        (pss_one (show PS _ _ (L2.tLock _) from L2.ps_lock (ps_for PassesOwn.never rfl (pi_keys (pv 6)) (pg_name (i := 4) sc__law_beginning.nd rfl (Or.inl rfl)) (pss_one (ps_asg (pe_dget (un1 hr) (pv 6) (pv 4) (fun _ _ => rfl)) (pg_sub (pv 3) (pv 4) (set_dict (un1 hr))))))))))) pss_nil)
        (C8.pss_cut (ps_if (pt_cmpR op_eq (pv 2) pe_int (nomark _)) (pss_one (ps_for PassesOwn.never rfl (pi_range1 (by rfl) T.m_range (pa_cons (pe_callB (call_lenK (K := K)) (by rfl) T.m_len PySem.boot_len (pa_cons (pv 1) pa_nil)) pa_nil)) (pg_name (i := 7) sc__law_beginning.nd rfl (Or.inl rfl)) (pss_one (ps_asg (pe_ix (ix_listK (K := K)) (pv 1) (pe_op op_modN (pe_callTy call_int1 (by rfl) T.m_int (by decide +kernel) (pa_cons (pe_op op_add (pv 7) pe_int) pa_nil)) (pe_callB (call_lenK (K := K)) (by rfl) T.m_len PySem.boot_len (pa_cons (pv 1) pa_nil))) (fun _ _ => rfl)) (pg_sub (pv 3) (pe_ix (ix_listK (K := K)) (pv 1) (pv 7) (fun _ _ => rfl)) (set_dict (un1 hr))))))) pss_nil)
        (pss_one (ps_ret (pv 3)))))))))), ?_⟩
    refine ⟨_, rfl, t, c, 6, rfl, T1, by decide, by decide, fun kd H2 d0 d1 k2 T2 => ?_⟩
    have hpl2 := k2 _ _ npt hpl
    have back : ∀ {a : Addr} {H' : Hp}, Kp t H H' → Tape H' t c → H' a = none → H a = none := fun {a H'} k T h => by
      cases e0 : H a with
      | none => rfl
      | some o =>
        by_cases et : a = t
        · obtain ⟨⟨xt, ett⟩, _⟩ := tape_at T
          rw [et, ett] at h
          cases h
        · rw [k _ _ et e0] at h
          cases h
    refine ⟨_, rfl, rfl, _, rfl, ite2 (fun _ => ?_) (fun _ => ?_)⟩
    · exact ⟨_, rfl, _, rfl, t, c, pl, ms, rfl, T2, npt, hpl2, nd, by omega, fun d nx H3 ndd hd keys vN k3 T3 => q d nx ms H3 (back k2 T2 ndd) hd ⟨keys, vN⟩ (List.Perm.refl _) (k2.trans k3) T3⟩
    refine ⟨_, rfl, rfl, _, rfl, ite2 (fun _ => ?_) (fun _ => ?_)⟩
    · refine ⟨_, rfl, _, rfl, pl, ms, rfl, SqL.of hpl2, l64, fun us p perm pw np => ?_⟩
      have T3 := T2.put (o := .lst (us.map V.int)) (T2.off np)
      have e3 : upd H2 p (.lst (us.map V.int)) p = some (.lst (us.map V.int)) := upd_same
      have k3 := k2.trans (.of_same (same_upd (o := .lst (us.map V.int)) np))
      generalize upd H2 p (.lst (us.map V.int)) = H3 at T3 e3 k3
      exact ⟨t, c, p, us, rfl, T3, (T2.off np).1, e3, perm.nodup_iff.mpr nd, by have := perm.length_eq; omega, fun d nx H4 ndd hd keys vN k4 T4 => q d nx us H4 (back k3 T3 ndd) hd ⟨keys, vN⟩ perm (k3.trans k4) T4⟩
    refine ⟨_, rfl, pl, ms, rfl, .inl (SqL.of hpl2), nd, l64, fun us d H3 perm pw s3 ndd hd => ?_⟩
    have T3 := T2.same s3
    have k3 := k2.trans (.of_same s3)
    have hpl3 := s3 _ _ hpl2
    have nd3 : H d = none := back k2 T2 ndd
    have upos : ∀ {ks : List Int}, ks.Perm ms → ks.length < 64 := fun p => by rw [p.length_eq]; exact l64
    -- a drawn house
    refine ⟨fun σ' H' => ∃ (o4 : Option V) (nx : List (Key × V)) (ks : List Int), σ' = [some (.ref t), some (.ref pl), some (.int kd), some (.ref d), o4, none, none, none] ∧ Kp t H H' ∧ Tape H' t c ∧ H' d = some (.dK nx) ∧ GN ks nx ∧ ks.Perm ms, ?_, ?_⟩
    · refine v_if1 (ans_a (a := decide (V.int kd = V.int 2)) (b := decide (((ms.map V.int).length : Int) > 0)) (fun _ q => ⟨_, rfl, rfl, _, rfl, q⟩) (fun _ => fun _ q => ⟨_, rfl, pl, _, rfl, .inl (SqL.of hpl3), _, _, rfl, rfl, _, rfl, q⟩)) (fun e => ?_) (fun _ => ⟨_, _, us, rfl, k3, T3, hd, cycD_gn, perm⟩)
      have l0 : 0 < ms.length := by
        simp only [Bool.and_eq_true, decide_eq_true_eq, List.length_map] at e
        omega
      refine ⟨_, rfl, _, rfl, _, rfl, pl, _, rfl, .inl (SqL.of hpl3), draw npt hpl3 l0 (by omega) T3 fun y H4 my k4 T4 => ?_⟩
      have hpl4 := k4 _ _ npt hpl3
      have dt : d ≠ t := (T2.off ndd).1
      refine ⟨_, rfl, _, rfl, _, rfl, pl, _, rfl, .inl (SqL.of hpl4), draw npt hpl4 l0 (by omega) T4 fun z H5 mz k5 T5 => ?_⟩
      have hd5 := k5 _ _ dt (k4 _ _ dt hd)
      have my := perm.mem_iff.mpr my
      have mz := perm.mem_iff.mpr mz
      have lu := upos perm
      refine ⟨_, rfl, _, rfl, d, _, rfl, DPut.k (k := Sum.inl y) hd5 (small1000' (by unfold cycD; rw [List.length_map]; omega)), ?_⟩
      exact ⟨_, _, us, rfl, fun a o na e => by rw [upd_ne (ne_of_none e nd3)]; exact ((k3.trans k4).trans k5) _ _ na e, T5.put (T2.off ndd), upd_same, cycD_gn.put my mz, perm⟩
    rintro _ H4 ⟨o4, nx, ks, rfl, k4, T4, hd4, gn, pm⟩
    have dt : d ≠ t := (T2.off ndd).1
    have odd := T2.off ndd
    have hpl4 := k4 _ _ npt hpl
    -- two parts
    refine ⟨fun σ' H' => ∃ (o4 o5 o6 : Option V) (d : Addr) (nx : List (Key × V)) (ks : List Int), σ' = [some (.ref t), some (.ref pl), some (.int kd), some (.ref d), o4, o5, o6, none] ∧ Kp t H H' ∧ Tape H' t c ∧ (d ≠ t ∧ d ≠ c) ∧ H d = none ∧ H' d = some (.dK nx) ∧ GN ks nx ∧ ks.Perm ms, ?_, ?_⟩
    · refine ⟨_, rfl, rfl, _, rfl, ite2 (fun _ => ?_) (fun _ => ⟨_, _, _, d, nx, ks, rfl, k4, T4, odd, nd3, hd4, gn, pm⟩)⟩
      refine ⟨_, rfl, _, rfl, pl, _, rfl, .inl (SqL.of hpl4), _, _, rfl, rfl, t, c, _, rfl, T4, by omega, by rw [List.length_map]; omega, fun at_ H5 a0 a1 k5 T5 => ?_⟩
      rw [List.length_map] at a1
      have hpl5 := k5 _ _ npt hpl4
      refine ⟨_, rfl, _, rfl, at_, rfl, pl, _, rfl, SqL.of hpl5, fun p1 np1 => ?_⟩
      rw [cut_lo a0]
      have s6 := same_upd (o := .lst ((ms.take at_.toNat).map V.int)) np1
      have e6 : upd H5 p1 (.lst ((ms.take at_.toNat).map V.int)) p1 = some (.lst ((ms.take at_.toNat).map V.int)) := upd_same
      have T6 := T5.put (o := .lst ((ms.take at_.toNat).map V.int)) (T5.off np1)
      generalize upd H5 p1 (.lst ((ms.take at_.toNat).map V.int)) = H6 at s6 e6 T6
      refine ⟨p1, _, rfl, .inl (SqL.of e6), nd.sublist (List.take_sublist _ _), by rw [List.length_take]; omega, fun u1 d1 H7 pm1 pw1 s7 nd1 hd1 => ?_⟩
      have s57 := Same.trans s6 s7
      have k07 := (k4.trans k5).trans (.of_same s57)
      refine ⟨_, rfl, _, rfl, at_, rfl, pl, _, rfl, SqL.of (s57 _ _ hpl5), fun p2 np2 => ?_⟩
      rw [cut_hi a0]
      have s8 := same_upd (o := .lst ((ms.drop at_.toNat).map V.int)) np2
      have e8 : upd H7 p2 (.lst ((ms.drop at_.toNat).map V.int)) p2 = some (.lst ((ms.drop at_.toNat).map V.int)) := upd_same
      generalize upd H7 p2 (.lst ((ms.drop at_.toNat).map V.int)) = H8 at s8 e8
      refine ⟨p2, _, rfl, .inl (SqL.of e8), nd.sublist (List.drop_sublist _ _), by rw [List.length_drop]; omega, fun u2 d2 H9 pm2 pw2 s9 nd2 hd2 => ?_⟩
      have s79 := Same.trans s8 s9
      have k09 := k07.trans (.of_same s79)
      have T9 := ((T6.same s7).same s79)
      have hd19 := s79 _ _ hd1
      have o1 := T6.off nd1
      have nd10 : H d1 = none := back ((k4.trans k5).trans (.of_same s6)) T6 nd1
      have ne12 : d1 ≠ d2 := fun z => by rw [← z, s8 _ _ hd1] at nd2; cases nd2
      have pm12 : (u1 ++ u2).Perm ms := (pm1.append pm2).trans (by rw [List.take_append_drop])
      have nd12 : (u1 ++ u2).Nodup := pm12.nodup_iff.mpr nd
      have l12 := pm12.length_eq
      rw [List.length_append] at l12
      refine ⟨d2, _, hd2, trivial, fun od => ?_⟩
      refine ⟨_, rfl, d2, od, rfl, .inl ⟨_, upd_same, ?_⟩⟩
      refine for_it walk_keys (fun i σ' H' => ∃ o4 : Option V, σ' = [some (.ref t), some (.ref pl), some (.int kd), some (.ref d1), o4, some (.int at_), some (.ref d2), none] ∧ (∀ a o, a ≠ d1 → upd H9 d2 (.frz od (.dK (cycD u2))) a = some o → H' a = some o) ∧ H' d1 = some (.dK (cycD u1 ++ (u2.take i).map fun y => ((Sum.inl y : Key), V.int (cyc u2 y))))) ⟨_, rfl, fun _ _ _ e => e, by rw [upd_ne ne12, hd19, List.take_zero, List.map_nil, List.append_nil]⟩ (fun i σ' H' _ p => by obtain ⟨_, _, f, _⟩ := p; exact f _ _ ne12.symm upd_same) (fun i x σ' H10 H11 hi pv hy => ?_) (fun σ' H10 pv => ?_)
      · obtain ⟨rfl, k, v, hkv, rfl⟩ := hy
        obtain ⟨o4, rfl, f10, e10⟩ := pv
        have hki : u2[i]?.map (Sum.inl : Int → Key) = some k := by rw [← List.getElem?_map, ← cycD_keys u2, List.getElem?_map, hkv]; rfl
        obtain ⟨y, hyi, rfl⟩ := Option.map_eq_some_iff.mp hki
        have my := List.mem_of_getElem? hyi
        have f2 := f10 _ _ ne12.symm upd_same
        refine ⟨_, rfl, _, rfl, d2, _, rfl, (show DGet _ d2 (.int y) (some (.int (cyc u2 y))) from .inl ⟨_, Sum.inl y, .inr ⟨od, f2⟩, rfl, (valV_map_mem (f := fun y => V.int (cyc u2 y)) my).symm⟩), ?_⟩
        have ni : y ∉ u1 ++ u2.take i := fun h => by
          rcases List.mem_append.mp h with h | h
          · exact (List.nodup_append.mp nd12).2.2 y h y my rfl
          · exact not_in_take (List.nodup_append.mp nd12).2.1 hyi h
        have keys : (cycD u1 ++ (u2.take i).map fun y => ((Sum.inl y : Key), V.int (cyc u2 y))).map (·.1) = (u1 ++ u2.take i).map Sum.inl := by rw [List.map_append, cycD_keys, List.map_append, List.map_map]; rfl
        have lk : (cycD u1 ++ (u2.take i).map fun y => ((Sum.inl y : Key), V.int (cyc u2 y))).length ≤ 100000 := by
          rw [List.length_append, List.length_map, List.length_take]
          unfold cycD
          rw [List.length_map]
          have := pm1.length_eq
          have := pm2.length_eq
          omega
        refine ⟨_, rfl, _, rfl, d1, _, rfl, DPut.k (k := Sum.inl y) e10 (small1000' lk), ?_⟩
        refine ⟨_, rfl, fun a o na e => (upd_ne na).trans (f10 _ _ na e), ?_⟩
        rw [upd_same, putK_new _ (valV_none_keys keys ni), tk_snoc hyi, List.map_append, List.append_assoc]
        rfl
      · obtain ⟨o4, rfl, f10, e10⟩ := pv
        have lu : (cycD u2).length = u2.length := by unfold cycD; rw [List.length_map]
        rw [lu, List.take_length] at e10
        refine ⟨f10 _ _ ne12.symm upd_same, ?_⟩
        have g : GN (u1 ++ u2) (cycD u1 ++ u2.map fun y => ((Sum.inl y : Key), V.int (cyc u2 y))) := by
          refine ⟨by rw [List.map_append, cycD_keys, List.map_append, List.map_map]; rfl, fun k hk => ?_⟩
          have va : valV (cycD u1 ++ u2.map fun y => ((Sum.inl y : Key), V.int (cyc u2 y))) (.inl k) = (valV (cycD u1) (.inl k)).or (valV (u2.map fun y => ((Sum.inl y : Key), V.int (cyc u2 y))) (.inl k)) := by
            unfold valV
            rw [List.find?_append]
            cases List.find? (fun kv => decide (kv.1 = (Sum.inl k : Key))) (cycD u1) <;> rfl
          rcases List.mem_append.mp hk with h | h
          · refine ⟨cyc u1 k, List.mem_append_left _ (cyc_mem h), ?_⟩
            rw [va, show valV (cycD u1) (.inl k) = some (.int (cyc u1 k)) from valV_map_mem (f := fun y => V.int (cyc u1 y)) h]
            rfl
          · refine ⟨cyc u2 k, List.mem_append_right _ (cyc_mem h), ?_⟩
            rw [va, valV_none_keys (cycD_keys u1) (fun h1 => (List.nodup_append.mp nd12).2.2 k h1 k h rfl), show valV (u2.map fun y => ((Sum.inl y : Key), V.int (cyc u2 y))) (.inl k) = some (.int (cyc u2 k)) from valV_map_mem (f := fun y => V.int (cyc u2 y)) h]
            rfl
        have s9f : ∀ a o, a ≠ d1 → H9 a = some o → upd H10 d2 (.dK (cycD u2)) a = some o := fun a o na e => by
          by_cases z : a = d2
          · rw [z, upd_same]
            rw [z, hd2] at e
            exact e
          · rw [upd_ne z]
            exact f10 _ _ na ((upd_ne z).trans e)
        refine ⟨_, _, _, d1, _, u1 ++ u2, rfl, fun a o na e => s9f _ _ (ne_of_none e nd10) (k09 _ _ na e), ?_, o1, nd10, (upd_ne ne12).trans e10, g, pm12⟩
        obtain ⟨cs, ta, tb, tk, tr, et1, et2, et3, et4⟩ := T9
        exact ⟨cs, ta, tb, tk, tr, s9f _ _ o1.1.symm et1, s9f _ _ o1.2.symm et2, et3, et4⟩
    rintro _ H5 ⟨o4, o5, o6, d', nx, ks, rfl, k5, T5, od', nd', hd5, gn, pm⟩
    have hpl5 := k5 _ _ npt hpl
    -- a ring as drawn
    refine ⟨fun σ' H' => ∃ (o4 o5 o6 o7 : Option V) (nx : List (Key × V)), σ' = [some (.ref t), some (.ref pl), some (.int kd), some (.ref d'), o4, o5, o6, o7] ∧ Kp t H H' ∧ Tape H' t c ∧ H' d' = some (.dK nx) ∧ GN ks nx, ?_, ?_⟩
    · refine ⟨_, rfl, rfl, _, rfl, ite2 (fun _ => ?_) (fun _ => ⟨_, _, _, _, nx, rfl, k5, T5, hd5, gn⟩)⟩
      refine ⟨_, rfl, pl, _, rfl, .inl (SqL.of hpl5), ((ms.map V.int).length : Int), rfl, by omega, by rw [List.length_map]; omega, ?_⟩
      refine for_range (lo := 0) (n := (((ms.map V.int).length : Nat) : Int).toNat) (fun i σ' H' => ∃ (o7 : Option V) (nx : List (Key × V)), σ' = [some (.ref t), some (.ref pl), some (.int kd), some (.ref d'), o4, o5, o6, o7] ∧ Kp t H H' ∧ Tape H' t c ∧ H' d' = some (.dK nx) ∧ GN ks nx) ⟨_, nx, rfl, k5, T5, hd5, gn⟩ (fun i σ' H6 hi pv => ?_) (fun σ' H6 pv => ?_)
      · obtain ⟨o7, nx, rfl, k6, T6, hd6, gn6⟩ := pv
        rw [Int.toNat_natCast, List.length_map] at hi
        have hl := k6 _ _ npt hpl
        have em : (0 + (i : Int) + 1).fmod (ms.length : Int) = (((i + 1) % ms.length : Nat) : Int) := by
          rw [Int.fmod_eq_emod_of_nonneg _ (by omega), show (0 + (i : Int) + 1) = ((i + 1 : Nat) : Int) by omega]
          rfl
        have lm := Nat.mod_lt (i + 1) (show 0 < ms.length by omega)
        obtain ⟨y, hy⟩ : ∃ y, ms[i]? = some y := ⟨_, List.getElem?_eq_getElem hi⟩
        obtain ⟨x, hx⟩ : ∃ x, ms[(i + 1) % ms.length]? = some x := ⟨_, List.getElem?_eq_getElem lm⟩
        have ay : atI (ms.map V.int) (0 + (i : Int)) = some (.int y) := by rw [Int.zero_add]; exact atI_nat (by rw [List.getElem?_map, hy]; rfl)
        have ax : atI (ms.map V.int) ((0 + (i : Int) + 1).fmod ((ms.map V.int).length : Int)) = some (.int x) := by rw [List.length_map, em]; exact atI_nat (by rw [List.getElem?_map, hx]; rfl)
        have hz : (((ms.map V.int).length : Nat) : Int) ≠ 0 := by rw [List.length_map]; omega
        have lnx : nx.length = ks.length := by have := congrArg List.length gn6.1; rw [List.length_map, List.length_map] at this; exact this
        have lks := pm.length_eq
        have my := pm.mem_iff.mpr (List.mem_of_getElem? hy)
        have mx := pm.mem_iff.mpr (List.mem_of_getElem? hx)
        refine ⟨_, rfl, _, rfl, _, _, rfl, rfl, .inl ⟨_, rfl, _, rfl, pl, _, rfl, .inl (SqL.of hl), _, _, rfl, rfl, hz, pl, _, _, .int x, rfl, rfl, SqL.of hl, ax, ?_⟩⟩
        exact ⟨_, rfl, _, rfl, _, rfl, pl, _, _, .int y, rfl, rfl, SqL.of hl, ay, d', _, rfl, DPut.k (k := Sum.inl y) hd6 (small1000' (by omega)), _, _, rfl, fun a o na e => by rw [upd_ne (ne_of_none e nd')]; exact k6 _ _ na e, T6.put od', upd_same, gn6.put my mx⟩
      · obtain ⟨o7, nx, rfl, k6, T6, hd6, gn6⟩ := pv
        exact ⟨_, _, _, _, nx, rfl, k6, T6, hd6, gn6⟩
    rintro _ H6 ⟨o4, o5, o6, o7, nx, rfl, k6, T6, hd6, gn6⟩
    exact ⟨_, rfl, q d' nx ks H6 nd' hd6 gn6 pm k6 T6⟩
--CUT
/-! ### asked -/
theorem tabs_keepL {T : List (Addr × Str)} {H H' : Hp} (h : LamX.Tabs T H) (k : ∀ b o, H b = some o → (∀ xs, o ≠ .lst xs) → (∀ kvs, o ≠ .dK kvs) → (∀ c d f, o ≠ .ins c d f) → H' b = some o) : LamX.Tabs T H' := fun p hp => by
  obtain ⟨ps, h1, h2, h3⟩ := h p hp
  refine ⟨ps, k _ _ h1 (fun _ z => nomatch z) (fun _ z => nomatch z) (fun _ _ _ z => nomatch z), h2, fun pos cv hc => ?_⟩
  obtain ⟨c, e1, e2⟩ := h3 pos cv hc
  exact ⟨c, e1, k _ _ e2 (fun _ z => by unfold LamX.CodeO at z; cases z) (fun _ z => by unfold LamX.CodeO at z; cases z) (fun _ _ _ z => by unfold LamX.CodeO at z; cases z)⟩
theorem tabs_frt {T : List (Addr × Str)} {CN t c : Addr} {A : Bd} {n : Int} {m : Nat} {S : WK} {H H' : Hp} (I : NK CN t c A n m S H) (f : FrT t A H H') (h : LamX.Tabs T H) : LamX.Tabs T H' := by
  obtain ⟨⟨xt, et⟩, _⟩ := tape_at I.tape
  exact tabs_keepL h fun b o e n1 n2 _ => f b o (fun z => by rw [z, et] at e; exact n1 _ (Option.some.inj e).symm) (fun z => by rw [z, I.net.hn] at e; exact n2 _ (Option.some.inj e).symm) (fun z => by rw [z, I.net.hb] at e; exact n2 _ (Option.some.inj e).symm) (fun z => by rw [z, I.net.hl] at e; exact n1 _ (Option.some.inj e).symm)
    (fun z => by rw [z, I.hN] at e; exact n2 _ (Option.some.inj e).symm) (fun z => by rw [z, I.hB] at e; exact n2 _ (Option.some.inj e).symm) (fun z => by rw [z, I.hP] at e; exact n1 _ (Option.some.inj e).symm) e
theorem NK.extN {CN t c : Addr} {A : Bd} {n : Int} {m : Nat} {S : WK} {H H' : Hp} (I : NK CN t c A n m S H) (x : LamX.ExtN H H') : NK CN t c A n m S H' :=
  { I with
    tape := I.tape.extN x
    net := I.net.extN x
    hN := dK_extN x I.hN
    hB := dK_extN x I.hB
    hP := extN_lst x I.hP
    lp := I.lp.mono (fun b xs e => x _ _ e (fun ps z => nomatch z)) (fun _ h => h)
    ll := I.ll.mono (fun b xs e => x _ _ e (fun ps z => nomatch z)) (fun _ h => h) }
theorem NK.wn {CN t c : Addr} {A : Bd} {n : Int} {m : Nat} {S : WK} {H : Hp} (I : NK CN t c A n m S H) : WN S.ks S.nx := ⟨I.gn, by have := I.lks; omega⟩
def sp__law_asked (K : PySem.W.Frag) (CN : Addr) : Sp := fun vs H Q _ => ∃ (t c : Addr) (A : Bd) (n : Int) (m : Nat) (S : WK), vs = [.ref A.h, .int n, .ref A.dN, .ref A.dB, .ref A.pO] ∧ NK CN t c A n m S H ∧ GB S.ks S.bs ∧ m ≤ 800 ∧ LamX.Tabs (LT K) H ∧ ∀ H', LamX.ExtN H H' → LamX.Tabs (LT K) H' → Q (.bl true) H'
theorem T0.ok__law_asked (T : T0 K mg) : FnOk P w K mg base CX0 12 T.a__law_asked T.fd__law_asked ["net", "size", "nexts", "behinds", "post"] (sp__law_asked K T.C_Net) := by
  refine T.F__law_asked.ok sc__law_asked (fun vs H Q E h => ?_) (fun cdv A' outer s0 H vs Q E hr h => ?_)
  · obtain ⟨t, c, A, n, m, S, rfl, _⟩ := h
    rfl
  · obtain ⟨t, c, A, n, m, S, rfl, I, gb, lm, tb0, q⟩ := h
    refine ⟨_, (pss_cons (ps_if (pt_not (pt_val (pe_call (T.ok__law_same 1) (hr.mono (by decide)) (by rfl) T.g__law_same T.k__law_same T.b__law_same .nil pass0 (pa_cons (pe_call T.ok_is_plain (hr.mono (by decide)) (by rfl) T.g_is_plain T.k_is_plain T.b_is_plain .nil pass0 (pa_cons (pv 0) pa_nil)) (pa_cons (pe_cmpR (op_eqDI (un1 hr)) (pv 2) (pe_call T.ok__law_plain (hr.mono (by decide)) (by rfl) T.g__law_plain T.k__law_plain T.b__law_plain .nil pass0 (pa_cons (pv 2) pa_nil)) (nomark _)) pa_nil))))) (pss_one (ps_ret pe_bl)) pss_nil)
        (pss_cons (ps_if (pt_not (pt_val (pe_call (T.ok__law_same 1) (hr.mono (by decide)) (by rfl) T.g__law_same T.k__law_same T.b__law_same .nil pass0 (pa_cons (pe_call T.ok_ends_plain hr (by rfl) T.g_ends_plain T.k_ends_plain T.b_ends_plain .nil pass0 (pa_cons (pv 0) pa_nil)) (pa_cons (pe_call T.ok__law_ending (hr.mono (by decide)) (by rfl) T.g__law_ending T.k__law_ending T.b__law_ending .nil pass0 (pa_cons (pv 1) (pa_cons (pv 2) (pa_cons (pv 3) (pa_cons (pv 4) pa_nil))))) pa_nil))))) (pss_one (ps_ret pe_bl)) pss_nil)
        (pss_one (ps_ret (pe_call T.ok__law_stands (hr.mono (by decide)) (by rfl) T.g__law_stands T.k__law_stands T.b__law_stands .nil pass0 (pa_cons (pv 0) (pa_cons (pv 2) (pa_cons (pv 3) (pa_cons (pv 4) pa_nil))))))))), ?_⟩
    have l40 := I.lks
    have l3 := I.lps
    have l64 : S.ks.length < 64 := by omega
    refine ⟨_, rfl, A.h, A.dn, A.db, A.dl, n, S.nx, S.bf, S.ls, S.ks, rfl, I.net, I.wn, l64, I.nd, I.n0, I.rng, tb0, fun ys H1 perm pw x1 tb1 => ?_⟩
    have I1 := I.extN x1
    refine ⟨_, rfl, _, rfl, A.dN, S.ks, rfl, .inr ⟨_, I1.hN, I.gn.1⟩, I.nd, l64, fun us d H2 permu pwu s2 nd2 hd2 => ?_⟩
    obtain rfl : ys = us := perm_sorted_eq (perm.trans permu.symm) pw pwu
    refine ⟨A.dN, d, _, _, rfl, rfl, s2 _ _ I1.hN, hd2, intsD_of I.gn.1 I.nd (fun k hk => I.wn.at_ hk), intsD_map, ?_⟩
    unfold cycD
    rw [eqD_gen I.gn.1 I.nd (fun k hk => I.wn.at_ hk) perm]
    refine ⟨_, _, rfl, Sm.bl rfl, fun H3 s3 => ⟨true, rfl, iteF ?_⟩⟩
    have x13 : LamX.ExtN H H3 := x1.trans (ExtN.of_same (Same.trans s2 s3))
    have tb3 := (tb1.ext s2).ext s3
    have I3 := I.extN x13
    refine ⟨_, rfl, A.h, A.dn, A.db, A.dl, n, S.nx, S.bf, S.bs, S.ls, S.ks, S.Ls, rfl, I3.sy lm, I.rng, tb3, fun us H4 permu pwu x4 tb4 => ?_⟩
    obtain rfl : ys = us := perm_sorted_eq (perm.trans permu.symm) pw pwu
    have I4 := I3.extN x4
    refine ⟨_, rfl, _, rfl, _, rfl, _, rfl, A.dN, A.dB, A.pO, n, S.nx, S.bs, S.ps, S.ks, S.Ls, rfl, I4.hN, I4.hB, I4.hP, I.n0, I.n9, l64, I.nd, I.gn, I.gc, I.kb, by omega, I4.lp.1, I4.lp.2, I.rng, fun us H5 permu pwu s5 => ?_⟩
    obtain rfl : ys = us := perm_sorted_eq (perm.trans permu.symm) pw pwu
    refine ⟨_, _, rfl, Sm.bl rfl, fun H6 s6 => ⟨true, rfl, iteF ?_⟩⟩
    have s46 := Same.trans s5 s6
    have I6 := I4.same s46
    exact ⟨_, rfl, _, rfl, _, rfl, _, rfl, t, c, A, n, m, S, rfl, I6, gb, lm, fun H7 s7 => q H7 (x13.trans (x4.trans (ExtN.of_same (Same.trans s46 s7)))) ((tb4.ext s46).ext s7)⟩
/-! ### the law -/
theorem LAt.tk {α : Type} {f : α → List V} {H : Hp} {vs : List V} {qs : List α} (h : LAt f H vs qs) (k : Nat) : LAt f H (vs.take k) (qs.take k) := ⟨by rw [List.length_take, List.length_take, h.1], fun i v q e1 e2 => by
  have l1 := (List.getElem?_eq_some_iff.mp e1).1
  rw [List.length_take] at l1
  rw [List.getElem?_take_of_lt (by omega)] at e1 e2
  exact h.2 i v q e1 e2⟩
theorem LAt.dr {α : Type} {f : α → List V} {H : Hp} {vs : List V} {qs : List α} (h : LAt f H vs qs) (k : Nat) : LAt f H (vs.drop k) (qs.drop k) := ⟨by rw [List.length_drop, List.length_drop, h.1], fun i v q e1 e2 => by
  rw [List.getElem?_drop] at e1 e2
  exact h.2 _ v q e1 e2⟩
theorem Ltr.ins {ks : List Int} {H : Hp} {vs : List V} {Ls : List Let} {a : Addr} {L : Let} (h : Ltr ks H vs Ls) (e : H a = some (.tup L.vals)) (g : ∀ k ∈ L.ns, k ∈ ks) (k : Nat) : Ltr ks H (vs.take k ++ [.ref a] ++ vs.drop k) (Ls.take k ++ [L] ++ Ls.drop k) :=
  ⟨((h.1.tk k).app e).cat (h.1.dr k), fun M hM => by
    rcases List.mem_append.mp hM with hM | hM
    · rcases List.mem_append.mp hM with hM | hM
      · exact h.2 M (List.mem_of_mem_take hM)
      · rw [List.mem_singleton.mp hM]; exact g
    · exact h.2 M (List.mem_of_mem_drop hM)⟩
structure LQ (K : PySem.W.Frag) (CN t c : Addr) (A : Bd) (n : Int) (m : Nat) (S : WK) (pl : Addr) (ms : List Int) (H : Hp) : Prop where
  I : NK CN t c A n m S H
  tb : LamX.Tabs (LT K) H
  gb : GB S.ks S.bs
  hp : H pl = some (.lst (ms.map V.int))
  nt : pl ≠ t
  n1 : pl ≠ A.dl
  n2 : pl ≠ A.pO
  mem : ∀ x ∈ ms, x ∈ S.ks
section
variable {CN t c pl : Addr} {A : Bd} {n : Int} {m m' : Nat} {S S' : WK} {ms : List Int} {H H' : Hp}
theorem LQ.next (Z : LQ K CN t c A n m S pl ms H) (I : NK CN t c A n m' S' H') (f : FrT t A H H') (gb : GB S'.ks S'.bs) (g : ∀ x ∈ S.ks, x ∈ S'.ks) : LQ K CN t c A n m' S' pl ms H' :=
  ⟨I, tabs_frt Z.I f Z.tb, gb, Z.I.ftl f Z.nt Z.n1 Z.n2 Z.hp, Z.nt, Z.n1, Z.n2, fun x hx => g x (Z.mem x hx)⟩
theorem LQ.kp (Z : LQ K CN t c A n m S pl ms H) (k : Kp t H H') (T : Tape H' t c) : LQ K CN t c A n m S pl ms H' := Z.next (Z.I.kp k T) (.kp k) Z.gb fun _ h => h
theorem LQ.same (Z : LQ K CN t c A n m S pl ms H) (s : Same H H') : LQ K CN t c A n m S pl ms H' := Z.next (Z.I.same s) (.of s) Z.gb fun _ h => h
theorem LQ.ext (Z : LQ K CN t c A n m S pl ms H) (x : LamX.ExtN H H') (tb : LamX.Tabs (LT K) H') : LQ K CN t c A n m S pl ms H' := { Z with I := Z.I.extN x, tb := tb, hp := extN_lst x Z.hp }
theorem LQ.more (Z : LQ K CN t c A n m S pl ms H) (h : m ≤ m') : LQ K CN t c A n m' S pl ms H := { Z with I := Z.I.more h }
end
theorem GB.putI {ks : List Int} {bs : List (Key × V)} (g : GB ks bs) {y x : Int} (hy : y ∈ ks) (hx : x ∈ ks) : GB ks (putK bs (.inl y) (.int x)) := fun p v e => by
  rw [valV_put] at e
  by_cases h : (Sum.inl p : Key) = .inl y
  · rw [if_pos h] at e
    cases e
    rw [Sum.inl.inj h]
    exact ⟨hy, x, hx, rfl⟩
  · rw [if_neg h] at e
    exact g p v e
theorem upd_swap {H : Hp} {a b : Addr} {x y : HO} (h : a ≠ b) : upd (upd H a x) b y = upd (upd H b y) a x := by
  funext c
  by_cases e1 : c = a
  · subst e1
    rw [upd_ne h, upd_same, upd_same]
  · by_cases e2 : c = b
    · subst e2
      rw [upd_same, upd_ne e1, upd_same]
    · rw [upd_ne e2, upd_ne e1, upd_ne e1, upd_ne e2]
theorem bef_ord {bs : List (Key × V)} {js ys : List Int} (hk : bs.map (·.1) = js.map Sum.inl) (perm : ys.Perm js) (k : Int) : bef (ys.map fun y => ((Sum.inl y : Key), gV bs y)) k = bef bs k := by
  unfold bef
  by_cases h : k ∈ js
  · rw [valV_map_mem (f := fun y => gV bs y) (perm.mem_iff.mpr h)]
    rfl
  · rw [valV_none_keys hk h, valV_none_of (f := fun y => gV bs y) (fun z => h (perm.mem_iff.mp z))]
def sp_law (K : PySem.W.Frag) : Sp := fun vs H Q _ => ∃ (a : Addr) (ns : List Int), vs = [.ref a] ∧ SqL K H a (ns.map V.int) ∧ ns.length ≤ 63 ∧ LamX.Tabs (LT K) H ∧ ∀ H', Q (.bl true) H'
theorem T0.ok_law (T : T0 K mg) : FnOk P w K mg base CX0 13 T.a_law T.fd_law ["script"] (sp_law K) := by
  refine T.F_law.ok sc_law (fun vs H Q E h => ?_) (fun cdv A' outer s H vs Q E hr h => ?_)
  · obtain ⟨a, ns, rfl, _⟩ := h
    rfl
  · obtain ⟨a, ns, rfl, hS, hlen, tb0, q⟩ := h
    refine ⟨_, (pss_cons (ps_set (i := 1) sc_law.nd rfl (Or.inl rfl) (pe_call T.ok__law_tape (hr.mono (by decide)) (by rfl) T.g__law_tape T.k__law_tape T.b__law_tape .nil pass0 (pa_cons (pv 0) pa_nil)))
        (pss_cons (ps_set (i := 2) sc_law.nd rfl (Or.inl rfl) (pe_call T.ok__law_pick (hr.mono (by decide)) (by rfl) T.g__law_pick T.k__law_pick T.b__law_pick .nil pass0 (pa_cons (pv 1) (pa_cons pe_int pa_nil))))
        (C8.pss_cut (ps_if (pt_cmpR op_eq (pe_call T.ok__law_pick (hr.mono (by decide)) (by rfl) T.g__law_pick T.k__law_pick T.b__law_pick .nil pass0 (pa_cons (pv 1) (pa_cons pe_int pa_nil))) pe_int (nomark _)) (pss_one (ps_set (i := 2) sc_law.nd rfl (Or.inl rfl) (pe_op op_add pe_int (pe_call T.ok__law_pick (hr.mono (by decide)) (by rfl) T.g__law_pick T.k__law_pick T.b__law_pick .nil pass0 (pa_cons (pv 1) (pa_cons pe_int pa_nil)))))) pss_nil)
        (pss_cons (ps_set (i := 3) sc_law.nd rfl (Or.inl rfl) (pe_call T.ok__law_size (hr.mono (by decide)) (by rfl) T.g__law_size T.k__law_size T.b__law_size .nil pass0 (pa_cons (pv 1) (pa_cons (pv 2) pa_nil))))
        (pss_cons (ps_set (i := 4) sc_law.nd rfl (Or.inl rfl) (pe_call T.ok__law_places (hr.mono (by decide)) (by rfl) T.g__law_places T.k__law_places T.b__law_places .nil pass0 (pa_cons (pv 1) (pa_cons (pv 3) (pa_cons (pv 2) pa_nil)))))
        (pss_cons (ps_set (i := 5) sc_law.nd rfl (Or.inl rfl) (pe_call T.ok__law_beginning (hr.mono (by decide)) (by rfl) T.g__law_beginning T.k__law_beginning T.b__law_beginning .nil pass0 (pa_cons (pv 1) (pa_cons (pv 4) pa_nil))))
        (pss_cons (ps_set (i := 6) sc_law.nd rfl (Or.inl rfl) pe_dnewK)
        (pss_cons (ps_set (i := 7) sc_law.nd rfl (Or.inl rfl) (pe_lst pa_nil))
        (pss_cons (ps_set (i := 8) sc_law.nd rfl (Or.inl rfl) (pe_make T.mk_Net T.ok0_Net__init (hr.mono (by decide)) (by rfl) T.mc_Net T.b1_Net__init T.bv_Net__init pass0 (pa_cons (pv 3) (pa_cons (pe_callTy call_dictD (by rfl) T.m_dict (by decide +kernel) (pa_cons (pv 5) pa_nil)) pa_nil))))
        (pss_cons (ps_if (pt_not (pt_val (pe_call T.ok__law_asked hr (by rfl) T.g__law_asked T.k__law_asked T.b__law_asked .nil pass0 (pa_cons (pv 8) (pa_cons (pv 3) (pa_cons (pv 5) (pa_cons (pv 6) (pa_cons (pv 7) pa_nil)))))))) (pss_one (ps_ret pe_bl)) pss_nil)
        (pss_cons (ps_if (pt_cmpR op_gt (pv 2) pe_int (nomark _)) (pss_one (ps_ret pe_bl)) pss_nil)
        (C8.pss_cut (ps_if (pt_cmpR op_gt (pv 2) pe_int (nomark _)) (pss_one (ps_for PassesOwn.never rfl (pi_range1 (by rfl) T.m_range (pa_cons (pe_call T.ok__law_pick (hr.mono (by decide)) (by rfl) T.g__law_pick T.k__law_pick T.b__law_pick .nil pass0 (pa_cons (pv 1) (pa_cons pe_int pa_nil))) pa_nil)) (pg_name (i := 9) sc_law.nd rfl (Or.inl rfl)) (pss_one (ps_if (pt_not (pt_val (pe_call T.ok__law_deed (hr.mono (by decide)) (by rfl) T.g__law_deed T.k__law_deed T.b__law_deed .nil pass0 (pa_cons (pv 1) (pa_cons (pv 8) (pa_cons (pv 3) (pa_cons (pv 5) (pa_cons (pv 6) (pa_cons (pv 7) pa_nil))))))))) (pss_one (ps_ret pe_bl)) pss_nil)))) pss_nil)
        (pss_cons (ps_if (pt_not (pt_val (pe_call T.ok__law_asked hr (by rfl) T.g__law_asked T.k__law_asked T.b__law_asked .nil pass0 (pa_cons (pv 8) (pa_cons (pv 3) (pa_cons (pv 5) (pa_cons (pv 6) (pa_cons (pv 7) pa_nil)))))))) (pss_one (ps_ret pe_bl)) pss_nil)
        (pss_cons (ps_set (i := 10) sc_law.nd rfl (Or.inl rfl) (pe_call T.ok__law_pick (hr.mono (by decide)) (by rfl) T.g__law_pick T.k__law_pick T.b__law_pick .nil pass0 (pa_cons (pv 1) (pa_cons pe_int pa_nil))))
        (C8.pss_cut (ps_if (PW.pt (pw_and (pt_cmpR op_gt (pv 2) pe_int (nomark _)) (pw_and1 (pt_cmpR op_eq (pv 10) pe_int (nomark _))))) (pss_cons (ps_set (i := 11) sc_law.nd rfl (Or.inl rfl) (pe_ix (ix_listK (K := K)) (pv 4) (pe_call T.ok__law_pick (hr.mono (by decide)) (by rfl) T.g__law_pick T.k__law_pick T.b__law_pick .nil pass0 (pa_cons (pv 1) (pa_cons (pv 2) pa_nil))) (fun _ _ => rfl)))
        (pss_cons (ps_asg (pe_ix (ix_listK (K := K)) (pv 4) (pe_call T.ok__law_pick (hr.mono (by decide)) (by rfl) T.g__law_pick T.k__law_pick T.b__law_pick .nil pass0 (pa_cons (pv 1) (pa_cons (pv 2) pa_nil))) (fun _ _ => rfl)) (pg_sub (pv 6) (pv 11) (set_dict (un1 hr))))
        (pss_one (ps_expr (pe_meth (pv 8) T.cl_Net T.me_Net__set_before T.ok_Net__set_before (hr.mono (by decide)) T.b_Net__set_before .nil pass0 (pa_cons (pv 11) (pa_cons (pe_dget (un1 hr) (pv 6) (pv 11) (fun _ _ => rfl)) pa_nil))))))) pss_nil)
        (C8.pss_cut (ps_if (PW.pt (pw_and (pt_cmpR op_gt (pv 2) pe_int (nomark _)) (pw_and1 (pt_cmpR op_eq (pv 10) pe_int (nomark _))))) (pss_cons (ps_expr (pe_bm PySem.F.plainAttrs_list PySem.F.slot_list_insert PySem.F.type_list_insert mt_insert (pv 7) (pa_cons (pe_call T.ok__law_pick (hr.mono (by decide)) (by rfl) T.g__law_pick T.k__law_pick T.b__law_pick .nil pass0 (pa_cons (pv 1) (pa_cons (pe_op op_add (pe_callB (call_lenK (K := K)) (by rfl) T.m_len PySem.boot_len (pa_cons (pv 7) pa_nil)) pe_int) pa_nil))) (pa_cons (pe_call T.ok__law_letter (hr.mono (by decide)) (by rfl) T.g__law_letter T.k__law_letter T.b__law_letter .nil pass0 (pa_cons (pv 1) (pa_cons (pv 4) pa_nil))) pa_nil))))
        (pss_one (ps_set (i := 8) sc_law.nd rfl (Or.inl rfl) (pe_makeK T.mk_Net T.ok_Net__init (hr.mono (by decide)) (by rfl) T.mc_Net T.kb_Net__init pass0 (pa_cons (pv 3) (pa_cons (pe_callTy call_dictD (by rfl) T.m_dict (by decide +kernel) (pa_cons (pv 5) pa_nil)) pa_nil)) (pk_cons (pe_call T.ok__law_ordered (hr.mono (by decide)) (by rfl) T.g__law_ordered T.k__law_ordered T.b__law_ordered .nil pass0 (pa_cons (pv 6) pa_nil)) (pk_cons (pe_callTy (call_list_ofK (K := K)) (by rfl) T.m_list (by decide +kernel) (pa_cons (pv 7) pa_nil)) pk_nil)))))) pss_nil)
        (pss_cons (ps_if (pt_not (pt_val (pe_call T.ok__law_asked hr (by rfl) T.g__law_asked T.k__law_asked T.b__law_asked .nil pass0 (pa_cons (pv 8) (pa_cons (pv 3) (pa_cons (pv 5) (pa_cons (pv 6) (pa_cons (pv 7) pa_nil)))))))) (pss_one (ps_ret pe_bl)) pss_nil)
        (C8.pss_cut (ps_if (pt_cmpR op_gt (pv 2) pe_int (nomark _)) (pss_one (ps_for PassesOwn.never rfl (pi_range1 (by rfl) T.m_range (pa_cons (pe_call T.ok__law_pick (hr.mono (by decide)) (by rfl) T.g__law_pick T.k__law_pick T.b__law_pick .nil pass0 (pa_cons (pv 1) (pa_cons pe_int pa_nil))) pa_nil)) (pg_name (i := 9) sc_law.nd rfl (Or.inl rfl)) (pss_cons (ps_if (pt_not (pt_val (pe_call T.ok__law_deed (hr.mono (by decide)) (by rfl) T.g__law_deed T.k__law_deed T.b__law_deed .nil pass0 (pa_cons (pv 1) (pa_cons (pv 8) (pa_cons (pv 3) (pa_cons (pv 5) (pa_cons (pv 6) (pa_cons (pv 7) pa_nil))))))))) (pss_one (ps_ret pe_bl)) pss_nil)
        (pss_one (ps_if (pt_not (pt_val (pe_call T.ok__law_asked hr (by rfl) T.g__law_asked T.k__law_asked T.b__law_asked .nil pass0 (pa_cons (pv 8) (pa_cons (pv 3) (pa_cons (pv 5) (pa_cons (pv 6) (pa_cons (pv 7) pa_nil)))))))) (pss_one (ps_ret pe_bl)) pss_nil))))) pss_nil)
        (pss_cons (ps_set (i := 12) sc_law.nd rfl (Or.inl rfl) (pe_call T.ok__law_plain (hr.mono (by decide)) (by rfl) T.g__law_plain T.k__law_plain T.b__law_plain .nil pass0 (pa_cons (pv 4) pa_nil)))
        (pss_cons (ps_for PassesOwn.never rfl (pi_list (pv 4)) (pg_name (i := 11) sc_law.nd rfl (Or.inl rfl)) (pss_cons (ps_asg (pe_dget (un1 hr) (pv 12) (pv 11) (fun _ _ => rfl)) (pg_sub (pv 5) (pv 11) (set_dict (un1 hr))))
        (pss_cons (ps_expr (pe_meth (pv 8) T.cl_Net T.me_Net__hold T.ok_Net__hold (hr.mono (by decide)) T.b_Net__hold .nil pass0 (pa_cons (pv 11) (pa_cons (pe_dget (un1 hr) (pv 12) (pv 11) (fun _ _ => rfl)) pa_nil))))
        (pss_one (ps_if (pt_not (pt_val (pe_call T.ok__law_asked hr (by rfl) T.g__law_asked T.k__law_asked T.b__law_asked .nil pass0 (pa_cons (pv 8) (pa_cons (pv 3) (pa_cons (pv 5) (pa_cons (pv 6) (pa_cons (pv 7) pa_nil)))))))) (pss_one (ps_ret pe_bl)) pss_nil)))))
        (pss_one (ps_ret pe_bl)))))))))))))))))))))), ?_⟩
    refine ⟨_, rfl, a, ns, rfl, hS, by omega, fun H1 t c sm nt T1 => ?_⟩
    have tb1 := tb0.ext sm
    refine ⟨_, rfl, t, c, 9, rfl, T1, by decide, by decide, fun co H2 co0 co1 k2 T2 => ?_⟩
    have tb2 := tabs_off tb1 (tape_at T1).1.choose_spec k2
    refine ⟨fun σ' H' => ∃ co : Int, σ' = [some (.ref a), some (.ref t), some (.int co), none, none, none, none, none, none, none, none, none, none] ∧ 0 ≤ co ∧ co ≤ 40 ∧ Tape H' t c ∧ LamX.Tabs (LT K) H', ?_, ?_⟩
    · refine ⟨_, rfl, t, c, 16, rfl, T2, by decide, by decide, fun x H3 _ _ k3 T3 => ⟨rfl, _, rfl, ite2 (fun _ => ?_) (fun _ => ?_)⟩⟩
      · have tb3 := tabs_off tb2 (tape_at T2).1.choose_spec k3
        exact ⟨_, rfl, t, c, 32, rfl, T3, by decide, by decide, fun co H5 c0 c1 k5 T5 => ⟨_, _, rfl, rfl, _, rfl, by omega, by omega, T5, tabs_off tb3 (tape_at T3).1.choose_spec k5⟩⟩
      · exact ⟨_, rfl, by omega, by omega, T3, tabs_off tb2 (tape_at T2).1.choose_spec k3⟩
    rintro _ H3 ⟨co, rfl, c0, c1, T3, tb3⟩
    refine ⟨_, rfl, _, rfl, t, c, co, rfl, T3, by omega, fun n H4 n0 n1 n2 k4 T4 => ?_⟩
    have tb4 := tabs_off tb3 (tape_at T3).1.choose_spec k4
    refine ⟨_, rfl, _, rfl, _, rfl, t, c, n, co, rfl, T4, by omega, by omega, by omega, n2, fun pl ms H5 npl hpl lms mnd mrg k5 T5 => ?_⟩
    have tb5 := tabs_off tb4 (tape_at T4).1.choose_spec k5
    have npt := (T4.off npl).1
    have l64 : ms.length < 64 := by omega
    refine ⟨_, rfl, _, rfl, t, c, pl, ms, rfl, T5, npt, hpl, mnd, l64, fun dN nx ks H9 ndN hN9 gn pm k7 T9 => ?_⟩
    have tb9 := tabs_off tb5 (tape_at T5).1.choose_spec k7
    have odN := T5.off ndN
    have hpl9 := k7 _ _ npt hpl
    have knd : ks.Nodup := pm.nodup_iff.mpr mnd
    have lks := pm.length_eq
    have krg : ∀ k ∈ ks, 0 ≤ k ∧ k < n := fun k hk => mrg k (pm.mem_iff.mp hk)
    have mem_some : ∀ k ∈ ks, (valV nx (.inl k)).isSome = true := fun k hk => by obtain ⟨x, _, e⟩ := gn.2 k hk; rw [e]; rfl
    intro dB ndB
    have s10 := same_upd (o := .dK []) ndB
    have e10 : upd H9 dB (.dK []) dB = some (.dK []) := upd_same
    have dNB : dN ≠ dB := ne_of_none hN9 ndB
    generalize upd H9 dB (.dK []) = H10 at s10 e10
    refine ⟨lenL (by show 0 ≤ 100000; decide), fun pO npO => ?_⟩
    have T10 := T9.same s10
    have opO := T10.off npO
    have plO : pl ≠ pO := ne_of_none (s10 _ _ hpl9) npO
    have s11 := same_upd (o := .lst []) npO
    have e11 : upd H10 pO (.lst []) pO = some (.lst []) := upd_same
    have b11 := s11 _ _ e10
    generalize upd H10 pO (.lst []) = H11 at s11 e11 b11
    have T11 := T10.same s11
    have hN11 := s11 _ _ (s10 _ _ hN9)
    have hpl11 := s11 _ _ (s10 _ _ hpl9)
    have tb11 := (tb9.ext s10).ext s11
    -- net
    refine ⟨_, rfl, _, rfl, dN, nx, rfl, .inl hN11, fun d1 n1' h dx nh ndx ne => ?_⟩
    have s13 := same_upd (o := .dK nx) n1'
    have e1 : upd H11 d1 (.dK nx) d1 = some (.dK nx) := upd_same
    generalize upd H11 d1 (.dK nx) = H13 at s13 e1 nh ndx
    have s16 : Same H13 (upd (upd H13 dx (.own h)) h (.ins T.C_Net dx [])) := fun b o e => (upd_ne (ne_of_none e nh)).trans ((upd_ne (ne_of_none e ndx)).trans e)
    have hh16 : upd (upd H13 dx (.own h)) h (.ins T.C_Net dx []) h = some (.ins T.C_Net dx []) := upd_same
    generalize upd (upd H13 dx (.own h)) h (.ins T.C_Net dx []) = H16 at s16 hh16
    refine ⟨h, dx, d1, n, nx, ks, rfl, hh16, s16 _ _ e1, gn.1, by omega, knd, fun k hk => ?_, fun H17 dn db dl bf N17 f17 m1 m2 m3 ndb vF lbf => ⟨rfl, ?_⟩⟩
    · obtain ⟨x, mx, e⟩ := gn.2 k hk
      exact ⟨(krg k hk).1, (krg k hk).2, x, e, mem_some x mx⟩
    have s1116 := Same.trans s13 s16
    have s1117 : Same H11 H17 := fun b o e => f17 _ _ (ne_of_none (s13 _ _ e) nh) (s1116 _ _ e)
    have fr : ∀ {b d : Addr} {o : HO}, H11 b = some o → H16 d = none → b ≠ d := fun e hd z => by rw [← z, s1116 _ _ e] at hd; cases hd
    obtain ⟨⟨xt, et⟩, ⟨xc, ec⟩⟩ := tape_at T11
    have I17 : NK T.C_Net t c ⟨h, dn, db, dl, dN, dB, pO⟩ n 0 ⟨ks, nx, [], bf, [], [], []⟩ H17 := {
      tape := T11.same s1117, net := N17, hN := s1117 _ _ hN11, hB := s1117 _ _ b11, hP := s1117 _ _ e11, gn := gn, nd := knd, rng := krg, n0 := by omega, n9 := n2, gc := (fun p v e => nomatch (show (none : Option V) = some v from e)), kb := ⟨[], rfl, List.nodup_nil⟩, vf := vF, lp := ⟨.nil, fun _ h => nomatch h⟩, ll := ⟨.nil, fun _ h => nomatch h⟩
      ndl := ⟨opO.1, opO.2, fun z => fr et m3 z.symm, fun z => fr ec m3 z.symm, fr e11 m3⟩
      ndd := ⟨ndb.symm, fun z => fr hN11 m1 z.symm, fun z => fr b11 m1 z.symm, fun z => fr hN11 m2 z.symm, fun z => fr b11 m2 z.symm, dNB⟩
      lks := by show ks.length ≤ 40; omega
      lps := by show 0 ≤ 60 + 0; omega
      lbf := by show bf.length ≤ 100 + 0; omega }
    have Z17 : LQ K T.C_Net t c ⟨h, dn, db, dl, dN, dB, pO⟩ n 0 ⟨ks, nx, [], bf, [], [], []⟩ pl ms H17 := ⟨I17, tb11.ext s1117, (fun p v e => nomatch (show (none : Option V) = some v from e)), s1117 _ _ hpl11, npt, fr hpl11 m3, plO, fun x hx => pm.mem_iff.mpr hx⟩
    clear fr s1117 s1116 s16 s13 f17 vF
    refine ⟨_, rfl, _, rfl, _, rfl, _, rfl, _, rfl, t, c, ⟨h, dn, db, dl, dN, dB, pO⟩, n, 0, _, rfl, Z17.I, Z17.gb, by omega, Z17.tb, fun H18 x18 tb18 => ⟨true, rfl, iteF ?_⟩⟩
    have Z18 := Z17.ext x18 tb18
    refine ⟨_, rfl, _, _, rfl, rfl, _, rfl, ite2 (fun _ => ?_) (fun big => ?_)⟩
    · exact q H18
    have big : ¬ co > 8 := fun z => big (decide_eq_true z)
    have dt3 : Tape H18 t c := Z18.I.tape
    -- deeds
    refine ⟨fun σ' H' => ∃ (o9 : Option V) (S : WK), σ' = [some (.ref a), some (.ref t), some (.int co), some (.int n), some (.ref pl), some (.ref dN), some (.ref dB), some (.ref pO), some (.ref h), o9, none, none, none] ∧ LQ K T.C_Net t c ⟨h, dn, db, dl, dN, dB, pO⟩ n 7 S pl ms H' ∧ S.ks = ks, ?_, ?_⟩
    · refine ⟨_, rfl, _, _, rfl, rfl, _, rfl, ite2 (fun pos => ?_) (fun _ => ⟨_, _, rfl, Z18.more (by omega), rfl⟩)⟩
      have pos := of_decide_eq_true pos
      refine ⟨_, rfl, t, c, 8, rfl, dt3, by decide, by decide, fun r H26 r0 r1 k26 T26 => ⟨_, rfl, by omega, by omega, ?_⟩⟩
      refine for_range (lo := 0) (n := r.toNat) (fun i σ' H' => ∃ (o9 : Option V) (S : WK), σ' = [some (.ref a), some (.ref t), some (.int co), some (.int n), some (.ref pl), some (.ref dN), some (.ref dB), some (.ref pO), some (.ref h), o9, none, none, none] ∧ LQ K T.C_Net t c ⟨h, dn, db, dl, dN, dB, pO⟩ n i S pl ms H' ∧ S.ks = ks)
        ⟨_, _, rfl, Z18.kp k26 T26, rfl⟩ (fun i σ' H27 hi pv => ?_) (fun σ' H27 pv => ?_)
      · obtain ⟨o9, S, rfl, Z, eks⟩ := pv
        refine ⟨_, rfl, _, rfl, _, rfl, _, rfl, _, rfl, _, rfl, t, c, ⟨h, dn, db, dl, dN, dB, pO⟩, n, i, S, rfl, Z.I, by omega, by rw [eks]; omega, fun S' H28 D => ⟨true, rfl, iteF ?_⟩⟩
        exact ⟨_, S', rfl, Z.next D.I D.fr (D.gb Z.gb) (fun k hk => by rw [D.ks]; exact hk), D.ks.trans eks⟩
      · obtain ⟨o9, S, rfl, Z, eks⟩ := pv
        exact ⟨_, S, rfl, Z.more (by omega), eks⟩
    rintro _ H19 ⟨o9, S, rfl, Z19, eks⟩
    refine ⟨_, rfl, _, rfl, _, rfl, _, rfl, _, rfl, t, c, ⟨h, dn, db, dl, dN, dB, pO⟩, n, 7, _, rfl, Z19.I, Z19.gb, by omega, Z19.tb, fun H20 x20 tb20 => ⟨true, rfl, iteF ?_⟩⟩
    have Z20 := Z19.ext x20 tb20
    clear Z17 Z18 Z19 I17
    refine ⟨_, rfl, t, c, 3, rfl, Z20.I.tape, by decide, by decide, fun sp H21 sp0 sp1 k21 T21 => ?_⟩
    have Z21 := Z20.kp k21 T21
    -- a before
    refine ⟨fun σ' H' => ∃ (o11 : Option V) (S : WK), σ' = [some (.ref a), some (.ref t), some (.int co), some (.int n), some (.ref pl), some (.ref dN), some (.ref dB), some (.ref pO), some (.ref h), o9, some (.int sp), o11, none] ∧ LQ K T.C_Net t c ⟨h, dn, db, dl, dN, dB, pO⟩ n 8 S pl ms H' ∧ S.ks = ks, ?_, ?_⟩
    · refine v_if1 (ans_a (a := decide (co > 0)) (b := decide (V.int sp = V.int 1)) (fun _ q => ⟨_, rfl, _, _, rfl, rfl, _, rfl, q⟩) (fun _ => fun _ q => ⟨_, rfl, rfl, _, rfl, q⟩)) (fun e => ?_) (fun _ => ⟨_, _, rfl, Z21.more (by omega), eks⟩)
      have l0 : 0 < ms.length := by
        simp only [Bool.and_eq_true, decide_eq_true_eq] at e
        omega
      refine ⟨_, rfl, _, rfl, _, rfl, t, c, co, rfl, T21, by omega, by omega, fun z H28 z0 z1 k28 T28 => ?_⟩
      have Z28 := Z21.kp k28 T28
      have hz : z.toNat < ms.length := by omega
      have az : atI (ms.map V.int) z = some (.int ms[z.toNat]) := by
        rw [← at_ints hz, Int.toNat_of_nonneg z0]
      have mhs := List.getElem_mem hz
      generalize ms[z.toNat] = hs at az mhs
      refine ⟨pl, _, z, _, rfl, rfl, SqL.of Z28.hp, az, ?_⟩
      refine ⟨_, rfl, _, rfl, _, rfl, t, c, co, rfl, T28, by omega, by omega, fun y H29 y0' y1 k29 T29 => ?_⟩
      have Z29 := Z28.kp k29 T29
      have hy : y.toNat < ms.length := by omega
      have ay : atI (ms.map V.int) y = some (.int ms[y.toNat]) := by
        rw [← at_ints hy, Int.toNat_of_nonneg y0']
      have mtg := List.getElem_mem hy
      generalize ms[y.toNat] = tg at ay mtg
      have I5 := Z29.I
      have my := Z29.mem _ mhs
      have mz := Z29.mem _ mtg
      refine ⟨pl, _, y, _, rfl, rfl, SqL.of Z29.hp, ay, ?_⟩
      obtain ⟨dnb, dnN, dnB, dbN, dbB, dNB⟩ := id I5.ndd
      have lb := I5.lenb
      have l4 := I5.lks
      have lf := I5.lbf
      refine ⟨_, rfl, _, rfl, dB, _, rfl, DPut.k (k := Sum.inl hs) I5.hB (small1000' (by omega)), ?_⟩
      have N6 := I5.net.putd (o := .dK (putK S.bs (.inl hs) (.int tg))) I5.hB dnB dbB
      obtain ⟨I7, f7⟩ := I5.setb_ (y := hs) (v := .int tg) my (.inr ⟨tg, mz, rfl⟩)
      obtain ⟨dx6, hh6⟩ := N6.me
      have v6 : valV (putK S.bs (.inl hs) (.int tg)) (.inl hs) = some (.int tg) := by rw [valV_put, if_pos rfl]
      obtain ⟨x1, _, hx1⟩ := I5.gn.2 _ my
      obtain ⟨x2, _, hx2⟩ := I5.gn.2 _ mz
      refine ⟨_, rfl, h, dx6, _, rfl, hh6, (by unfold nf; walk_at "lk"), _, rfl, _, rfl, _, rfl, dB, _, rfl, dget_of (k := Sum.inl hs) upd_same v6, h, dn, db, dl, n, hs, .int tg, S.nx, S.bf, S.ls, rfl, N6, (by rw [hx1]; rfl), .inr ⟨tg, rfl, by rw [hx2]; rfl⟩, by omega, ?_⟩
      rw [upd_swap dbB.symm]
      exact ⟨_, _, rfl, Z29.next I7 f7.t (Z29.gb.putI my mz) (fun _ h => h), eks⟩
    rintro _ H22 ⟨o11, S, rfl, Z22, eks⟩
    -- a letter
    refine ⟨fun σ' H' => ∃ (h dn db dl : Addr) (o11 : Option V) (S : WK), σ' = [some (.ref a), some (.ref t), some (.int co), some (.int n), some (.ref pl), some (.ref dN), some (.ref dB), some (.ref pO), some (.ref h), o9, some (.int sp), o11, none] ∧ LQ K T.C_Net t c ⟨h, dn, db, dl, dN, dB, pO⟩ n 9 S pl ms H' ∧ S.ks = ks, ?_, ?_⟩
    · refine v_if1 (ans_a (a := decide (co > 0)) (b := decide (V.int sp = V.int 2)) (fun _ q => ⟨_, rfl, _, _, rfl, rfl, _, rfl, q⟩) (fun _ => fun _ q => ⟨_, rfl, rfl, _, rfl, q⟩)) (fun e => ?_) (fun _ => ⟨h, dn, db, dl, _, _, rfl, Z22.more (by omega), eks⟩)
      have l0 : 0 < ms.length := by
        simp only [Bool.and_eq_true, decide_eq_true_eq] at e
        omega
      have I22 := Z22.I
      have lps := I22.lps
      refine ⟨_, rfl, .inl ⟨rfl, _, SqL.of I22.hP⟩, _, rfl, _, rfl, pO, _, rfl, .inl (SqL.of I22.hP), _, _, rfl, rfl, t, c, _, rfl, I22.tape, by omega, by omega, fun x H23 x0 x1 k23 T23 => ?_⟩
      have Z23 := Z22.kp k23 T23
      refine ⟨_, rfl, _, rfl, t, c, pl, ms, rfl, T23, npt, Z23.hp, l0, by omega, fun l L H24 nl el hL k24 T24 => ?_⟩
      have Z24 := Z23.kp k24 T24
      have I24 := Z24.I
      refine ⟨pO, _, x, .ref l, rfl, rfl, I24.hP, Nat.lt_of_le_of_lt (show S.ps.length ≤ 1000 by omega) (by decide), x0, by omega, ?_⟩
      have hLk : ∀ k ∈ L.ns, k ∈ S.ks := fun k hk => Z24.mem _ (hL k hk)
      -- the heap behind the insertion
      have f25 : ∀ b o, b ≠ pO → H24 b = some o → upd H24 pO (.lst (S.ps.take x.toNat ++ [.ref l] ++ S.ps.drop x.toNat)) b = some o := fun b o nb e => (upd_ne nb).trans e
      have P25 : upd H24 pO (.lst (S.ps.take x.toNat ++ [.ref l] ++ S.ps.drop x.toNat)) pO = some (.lst (S.ps.take x.toNat ++ [.ref l] ++ S.ps.drop x.toNat)) := upd_same
      have tb25 : LamX.Tabs (LT K) (upd H24 pO (.lst (S.ps.take x.toNat ++ [.ref l] ++ S.ps.drop x.toNat))) := tabs_upd Z24.tb I24.hP (fun ps z => nomatch z) (lst_code _)
      have lp25 : Ltr S.ks (upd H24 pO (.lst (S.ps.take x.toNat ++ [.ref l] ++ S.ps.drop x.toNat))) (S.ps.take x.toNat ++ [.ref l] ++ S.ps.drop x.toNat) (S.Ls.take x.toNat ++ [L] ++ S.Ls.drop x.toNat) :=
        (I24.lp.mono (fun b xs e => f25 _ _ (ne_kind e I24.hP (fun z => nomatch z)) e) (fun _ h => h)).ins (f25 _ _ (ne_kind el I24.hP (fun z => nomatch z)) el) hLk x.toNat
      have T25 : Tape (upd H24 pO (.lst (S.ps.take x.toNat ++ [.ref l] ++ S.ps.drop x.toNat))) t c := I24.tape.put ⟨I24.ndl.1, I24.ndl.2.1⟩
      have lps25 : (S.ps.take x.toNat ++ [V.ref l] ++ S.ps.drop x.toNat).length = S.ps.length + 1 := by
        rw [List.length_append, List.length_append, List.length_take, List.length_drop]
        show min _ _ + 1 + _ = _
        omega
      generalize S.Ls.take x.toNat ++ [L] ++ S.Ls.drop x.toNat = Ls' at lp25
      generalize S.ps.take x.toNat ++ [.ref l] ++ S.ps.drop x.toNat = ps' at f25 P25 tb25 lp25 T25 lps25 ⊢
      generalize upd H24 pO (.lst ps') = H25 at f25 P25 tb25 lp25 T25 ⊢
      have N25 := f25 _ _ (ne_kind I24.hN I24.hP (fun z => nomatch z)) I24.hN
      have B25 := f25 _ _ (ne_kind I24.hB I24.hP (fun z => nomatch z)) I24.hB
      have pl25 := f25 _ _ Z24.n2 Z24.hp
      -- another net
      have gn4 := I24.gn
      have gb4 := Z24.gb
      have mso : ∀ k ∈ S.ks, (valV S.nx (.inl k)).isSome = true := fun k hk => by obtain ⟨x, _, e⟩ := gn4.2 k hk; rw [e]; rfl
      obtain ⟨js, ejs, ndj⟩ := id I24.kb
      have mj : ∀ j ∈ js, j ∈ S.ks ∧ ∃ x ∈ S.ks, valV S.bs (.inl j) = some (.int x) := fun j hj => by
        obtain ⟨v, hv⟩ := Option.isSome_iff_exists.mp (valV_mem_keys ejs hj)
        obtain ⟨h1, x, mx, rfl⟩ := gb4 j v hv
        exact ⟨h1, x, mx, hv⟩
      have ljs : js.length ≤ S.ks.length := nodup_sub_len ndj fun j hj => (mj j hj).1
      have l4 := I24.lks
      refine ⟨_, rfl, _, rfl, dN, S.nx, rfl, .inl N25, fun d1 n1' => ?_⟩
      have s26 := same_upd (o := .dK S.nx) n1'
      have e1 : upd H25 d1 (.dK S.nx) d1 = some (.dK S.nx) := upd_same
      generalize upd H25 d1 (.dK S.nx) = H26 at s26 e1
      refine ⟨_, rfl, dB, S.bs, js, rfl, s26 _ _ B25, ejs, ndj, by omega, fun j hj => let ⟨_, x, _, e⟩ := mj j hj; ⟨x, e⟩, fun d2 us H27 permu pwu s27 n2' e2 => ?_⟩
      have ulen := permu.length_eq
      refine ⟨_, rfl, pO, ps', rfl, .inl (SqL.of (s27 _ _ (s26 _ _ P25))), fun d3 n3 => ?_⟩
      have s28 := same_upd (o := .lst ps') n3
      have e3 : upd H27 d3 (.lst ps') d3 = some (.lst ps') := upd_same
      generalize upd H27 d3 (.lst ps') = H28 at s28 e3
      refine ⟨rfl, rfl, fun h' dx' nh ndx ne => ?_⟩
      have s29 : Same H28 (upd (upd H28 dx' (.own h')) h' (.ins T.C_Net dx' [])) := fun b o e => (upd_ne (ne_of_none e nh)).trans ((upd_ne (ne_of_none e ndx)).trans e)
      have hh29 : upd (upd H28 dx' (.own h')) h' (.ins T.C_Net dx' []) h' = some (.ins T.C_Net dx' []) := upd_same
      generalize upd (upd H28 dx' (.own h')) h' (.ins T.C_Net dx' []) = H29 at s29 hh29
      have s2529 := Same.trans s26 (Same.trans s27 (Same.trans s28 s29))
      have nh25 : H25 h' = none := none_back (Same.trans s26 (Same.trans s27 s28)) nh
      refine ⟨h', dx', d1, d2, d3, n, S.nx, us.map fun y => ((Sum.inl y : Key), gV S.bs y), ps', S.ks, us, rfl, hh29, s29 _ _ (s28 _ _ (s27 _ _ e1)), s29 _ _ (s28 _ _ e2), s29 _ _ e3, gn4.1, by omega, I24.nd, by rw [List.map_map]; rfl, by omega, by omega, fun k hk => ?_, fun j hj => ?_, fun v hv => ?_, fun H30 dn' db' dl' bf' N30 f30 m1 m2 m3 ndb' vF' lbf' => ⟨rfl, ?_⟩⟩
      · obtain ⟨x, mx, e⟩ := gn4.2 k hk
        exact ⟨(I24.rng k hk).1, (I24.rng k hk).2, x, e, mso x mx⟩
      · obtain ⟨mj, x, mx, e⟩ := mj j (permu.mem_iff.mp hj)
        exact ⟨mso j mj, x, by rw [valV_map_mem (f := fun y => gV S.bs y) hj, gV_of e], mso x mx⟩
      · obtain ⟨i, hi⟩ := List.mem_iff_getElem?.mp hv
        obtain ⟨p, L, hLi, rfl, ep⟩ := lp25.1.at hi
        exact ⟨p, L.wd, L.ns, rfl, by rw [← L.vals_eq]; exact s2529 _ _ ep, fun k hk => mso k (lp25.2 L (List.mem_of_getElem? hLi) k hk)⟩
      have s2530 : Same H25 H30 := fun b o e => f30 _ _ (ne_of_none e nh25) (s2529 _ _ e)
      have fr : ∀ {b d : Addr} {o : HO}, H25 b = some o → H29 d = none → b ≠ d := fun e hd z => by rw [← z, s2529 _ _ e] at hd; cases hd
      obtain ⟨⟨xt, et⟩, ⟨xc, ec⟩⟩ := tape_at T25
      have opO' := I24.ndl
      have I30 : NK T.C_Net t c ⟨h', dn', db', dl', dN, dB, pO⟩ n 9 ⟨S.ks, S.nx, S.bs, bf', ps', ps', Ls'⟩ H30 := {
        tape := T25.same s2530, net := N30, hN := s2530 _ _ N25, hB := s2530 _ _ B25, hP := s2530 _ _ P25, gn := gn4, nd := I24.nd, rng := I24.rng, n0 := I24.n0, n9 := I24.n9, gc := I24.gc, kb := I24.kb
        vf := fun k hk => by rw [vF' k hk, bef_ord ejs permu k]
        lp := lp25.same s2530, ll := lp25.same s2530
        ndl := ⟨opO'.1, opO'.2.1, fun z => fr et m3 z.symm, fun z => fr ec m3 z.symm, fr P25 m3⟩
        ndd := ⟨ndb'.symm, fun z => fr N25 m1 z.symm, fun z => fr B25 m1 z.symm, fun z => fr N25 m2 z.symm, fun z => fr B25 m2 z.symm, dNB⟩
        lks := I24.lks
        lps := by show ps'.length ≤ 60 + 9; omega
        lbf := by show bf'.length ≤ 100 + 9; omega }
      exact ⟨h', dn', db', dl', _, _, rfl, ⟨I30, tb25.ext s2530, gb4, s2530 _ _ pl25, npt, fr pl25 m3, Z24.n2, Z24.mem⟩, eks⟩
    rintro _ H31 ⟨h, dn, db, dl, o11, S, rfl, Z31, eks⟩
    refine ⟨_, rfl, _, rfl, _, rfl, _, rfl, _, rfl, t, c, ⟨h, dn, db, dl, dN, dB, pO⟩, n, 9, _, rfl, Z31.I, Z31.gb, by omega, Z31.tb, fun H32 x32 tb32 => ⟨true, rfl, iteF ?_⟩⟩
    have Z32 := Z31.ext x32 tb32
    -- deeds, asked behind each
    refine ⟨fun σ' H' => ∃ (o9 : Option V) (S : WK), σ' = [some (.ref a), some (.ref t), some (.int co), some (.int n), some (.ref pl), some (.ref dN), some (.ref dB), some (.ref pO), some (.ref h), o9, some (.int sp), o11, none] ∧ LQ K T.C_Net t c ⟨h, dn, db, dl, dN, dB, pO⟩ n 14 S pl ms H' ∧ S.ks = ks, ?_, ?_⟩
    · refine ⟨_, rfl, _, _, rfl, rfl, _, rfl, ite2 (fun pos => ?_) (fun _ => ⟨_, _, rfl, Z32.more (by omega), eks⟩)⟩
      have pos := of_decide_eq_true pos
      refine ⟨_, rfl, t, c, 6, rfl, Z32.I.tape, by decide, by decide, fun r H33 r0 r1 k33 T33 => ⟨_, rfl, by omega, by omega, ?_⟩⟩
      refine for_range (lo := 0) (n := r.toNat) (fun i σ' H' => ∃ (o9 : Option V) (S : WK), σ' = [some (.ref a), some (.ref t), some (.int co), some (.int n), some (.ref pl), some (.ref dN), some (.ref dB), some (.ref pO), some (.ref h), o9, some (.int sp), o11, none] ∧ LQ K T.C_Net t c ⟨h, dn, db, dl, dN, dB, pO⟩ n (9 + i) S pl ms H' ∧ S.ks = ks)
        ⟨_, _, rfl, Z32.kp k33 T33, eks⟩ (fun i σ' H34 hi pv => ?_) (fun σ' H34 pv => ?_)
      · obtain ⟨o9, S, rfl, Z, eks⟩ := pv
        refine ⟨_, rfl, _, rfl, _, rfl, _, rfl, _, rfl, _, rfl, t, c, ⟨h, dn, db, dl, dN, dB, pO⟩, n, 9 + i, S, rfl, Z.I, by omega, by rw [eks]; omega, fun S' H35 D => ⟨true, rfl, iteF ?_⟩⟩
        have Z' := Z.next D.I D.fr (D.gb Z.gb) (fun k hk => by rw [D.ks]; exact hk)
        refine ⟨_, rfl, _, rfl, _, rfl, _, rfl, _, rfl, t, c, ⟨h, dn, db, dl, dN, dB, pO⟩, n, 9 + i + 1, _, rfl, Z'.I, Z'.gb, by omega, Z'.tb, fun H36 x36 tb36 => ⟨true, rfl, iteF ?_⟩⟩
        exact ⟨_, S', rfl, Z'.ext x36 tb36, D.ks.trans eks⟩
      · obtain ⟨o9, S, rfl, Z, eks⟩ := pv
        exact ⟨_, S, rfl, Z.more (by omega), eks⟩
    clear Z20 Z21 Z22 Z31 Z32
    rintro _ H40 ⟨o9, S, rfl, Z40, eks⟩
    -- the plain one
    refine ⟨_, rfl, pl, ms, rfl, .inl (SqL.of Z40.hp), mnd, l64, fun us dP H41 permu pwu s41 ndP hP41 => ?_⟩
    have Z41 := Z40.same s41
    have oP : ∀ {b : Addr} {o : HO}, H40 b = some o → dP ≠ b := fun e z => by rw [z, e] at ndP; cases ndP
    obtain ⟨⟨xt, et⟩, _⟩ := tape_at Z40.I.tape
    have dPt := oP et
    have dPn := oP Z40.I.net.hn
    have dPb := oP Z40.I.net.hb
    have dPl := oP Z40.I.net.hl
    have dPN := oP Z40.I.hN
    have dPB := oP Z40.I.hB
    have dPO := oP Z40.I.hP
    have hpl41 := Z41.hp
    refine ⟨_, rfl, pl, rfl, ⟨_, SqL.of Z41.hp⟩, ?_⟩
    refine for_list (K := K) (a := pl) (xs := ms.map V.int) (fun i σ' H' => ∃ (o11 : Option V) (S : WK), σ' = [some (.ref a), some (.ref t), some (.int co), some (.int n), some (.ref pl), some (.ref dN), some (.ref dB), some (.ref pO), some (.ref h), o9, some (.int sp), o11, some (.ref dP)] ∧ LQ K T.C_Net t c ⟨h, dn, db, dl, dN, dB, pO⟩ n (14 + i) S pl ms H' ∧ S.ks = ks ∧ H' dP = some (.dK (cycD us)))
      ⟨_, _, rfl, Z41, eks, hP41⟩ (fun i σ' H' _ pv => by obtain ⟨_, _, _, Z, _⟩ := pv; exact SqL.of Z.hp) (fun i v σ' H42 hv pv => ?_) (fun σ' H42 pv => ?_)
    · obtain ⟨o11, S, rfl, Z, eks, hP⟩ := pv
      have hi : i < ms.length := by have := (List.getElem?_eq_some_iff.mp hv).1; rw [List.length_map] at this; exact this
      have hv' : (ms.map V.int)[i]? = some v := hv
      rw [List.getElem?_map] at hv'
      obtain ⟨y, hy, rfl⟩ := Option.map_eq_some_iff.mp hv'
      have my0 := List.mem_of_getElem? hy
      have my := Z.mem _ my0
      have mu := permu.mem_iff.mpr my0
      have mz := Z.mem _ (permu.mem_iff.mp (cyc_mem mu))
      have vP : valV (cycD us) (.inl y) = some (.int (cyc us y)) := valV_map_mem (f := fun y => V.int (cyc us y)) mu
      generalize cyc us y = z at mz vP
      have I42 := Z.I
      obtain ⟨dnb, dnN, dnB, dbN, dbB, _⟩ := id I42.ndd
      have lS := I42.len
      have l4 := I42.lks
      refine ⟨_, rfl, _, rfl, dP, _, rfl, dget_of (k := Sum.inl y) hP vP, _, rfl, _, rfl, dN, _, rfl, DPut.k (k := Sum.inl y) I42.hN (small1000' (by omega)), ?_⟩
      have N43 := I42.net.putd (o := .dK (putK S.nx (.inl y) (.int z))) I42.hN dnN dbN
      obtain ⟨I44, f44⟩ := I42.hold_ (y := y) (z := z) my mz
      obtain ⟨dx43, hh43⟩ := N43.me
      obtain ⟨x1, _, hx1⟩ := I42.gn.2 _ my
      obtain ⟨x2, _, hx2⟩ := I42.gn.2 _ mz
      have hP43 := (upd_ne (o := .dK (putK S.nx (.inl y) (.int z))) dPN).trans hP
      refine ⟨_, rfl, h, dx43, _, rfl, hh43, (by unfold nf; walk_at "lk"), _, rfl, _, rfl, _, rfl, dP, _, rfl, dget_of (k := Sum.inl y) hP43 vP, h, dn, db, dl, n, y, z, .int x1, S.nx, S.bf, S.ls, rfl, N43, hx1, by rw [hx2]; rfl, by omega, ?_⟩
      rw [upd_swap dnN.symm]
      have Z44 := Z.next I44 f44.t Z.gb (fun _ h => h)
      have hP44 := f44 _ _ dPn dPb dPl dPN dPB dPO hP
      clear I44 f44 N43 hh43 hP43
      generalize upd (upd H42 dn (.dK (putK S.nx (.inl y) (.int z)))) dN (.dK (putK S.nx (.inl y) (.int z))) = H44 at Z44 hP44
      refine ⟨_, rfl, _, rfl, _, rfl, _, rfl, _, rfl, t, c, ⟨h, dn, db, dl, dN, dB, pO⟩, n, 14 + i + 1, _, rfl, Z44.I, Z44.gb, by omega, Z44.tb, fun H45 x45 tb45 => ⟨true, rfl, iteF ?_⟩⟩
      exact ⟨_, _, rfl, Z44.ext x45 tb45, eks, dK_extN x45 hP44⟩
    · exact q H42
end
set_option maxHeartbeats 0 in
theorem heFacts {P : Program} {w : World} {K : PySem.W.Frag} {h : Heap} {mg : Str → Option Value} {f : Addr} (X : K.In h) (G : h.Ns mainGlobals mg) (hfa : mg ("law" : Str) = some (.ref f)) (c : HeSays heFa heFn heEx K) :
    ∃ fd : FuncData, (∀ (s : Shared) (v : Value), BindsTo s fd ⟨[v], []⟩ [("script", v)]) ∧ ∀ base : Heap, K.In base → base.Ns mainGlobals mg → (∀ p ∈ lamTf.map (He.cT K), LamX.TabB base mg p.1 p.2) → FnOk P w K mg base CX0 13 f fd ["script"] (sp_law K) := by
  obtain ⟨fd0, FD0⟩ := c.d.def_ 0 (d := hd__law_nexts) rfl
  have F0 : Fun K "_law_nexts" "_law_nexts" s__law_nexts (He.fAd K ("_law_nexts", none)) fd0 := fun_of (st := s__law_nexts) FD0
  obtain ⟨fd1, FD1⟩ := c.d.def_ 1 (d := hd_far) rfl
  have F1 : Fun K "far" "far" s_far (He.fAd K ("far", none)) fd1 := fun_of (st := s_far) FD1
  obtain ⟨fd2, FD2⟩ := c.d.def_ 2 (d := hd_between) rfl
  have F2 : Fun K "between" "between" s_between (He.fAd K ("between", none)) fd2 := fun_of (st := s_between) FD2
  obtain ⟨fd3, FD3⟩ := c.d.def_ 3 (d := hd_check_on_circle) rfl
  have F3 : Fun K "check_on_circle" "check_on_circle" s_check_on_circle (He.fAd K ("check_on_circle", none)) fd3 := fun_of (st := s_check_on_circle) FD3
  obtain ⟨fd4, FD4⟩ := c.d.def_ 4 (d := hd_nearest_ahead) rfl
  have F4 : Fun K "nearest_ahead" "nearest_ahead" s_nearest_ahead (He.fAd K ("nearest_ahead", none)) fd4 := fun_of (st := s_nearest_ahead) FD4
  obtain ⟨fd5, FD5⟩ := c.d.def_ 5 (d := hd_Walk__init) rfl
  have F5 : Fun K "__init__" "Walk.__init__" s_Walk__init (He.fAd K ("Walk", some "__init__")) fd5 := fun_of (st := s_Walk__init) FD5
  obtain ⟨fd6, FD6⟩ := c.d.def_ 6 (d := hd_Walk__steps) rfl
  have F6 : Fun K "_steps" "Walk._steps" s_Walk__steps (He.fAd K ("Walk", some "_steps")) fd6 := fun_of (st := s_Walk__steps) FD6
  obtain ⟨fd7, FD7⟩ := c.d.def_ 7 (d := hd_Walk__is_closed) rfl
  have F7 : Fun K "is_closed" "Walk.is_closed" s_Walk__is_closed (He.fAd K ("Walk", some "is_closed")) fd7 := fun_of (st := s_Walk__is_closed) FD7
  obtain ⟨fd8, FD8⟩ := c.d.def_ 8 (d := hd_Walk__total) rfl
  have F8 : Fun K "total" "Walk.total" s_Walk__total (He.fAd K ("Walk", some "total")) fd8 := fun_of (st := s_Walk__total) FD8
  obtain ⟨fd9, FD9⟩ := c.d.def_ 9 (d := hd_Walk__turns) rfl
  have F9 : Fun K "turns" "Walk.turns" s_Walk__turns (He.fAd K ("Walk", some "turns")) fd9 := fun_of (st := s_Walk__turns) FD9
  obtain ⟨fd10, FD10⟩ := c.d.def_ 10 (d := hd_Net__next_of) rfl
  have F10 : Fun K "next_of" "Net.next_of" s_Net__next_of (He.fAd K ("Net", some "next_of")) fd10 := fun_of (st := s_Net__next_of) FD10
  obtain ⟨fd11, FD11⟩ := c.d.def_ 11 (d := hd_Net__hold) rfl
  have F11 : Fun K "hold" "Net.hold" s_Net__hold (He.fAd K ("Net", some "hold")) fd11 := fun_of (st := s_Net__hold) FD11
  obtain ⟨fd12, FD12⟩ := c.d.def_ 12 (d := hd_Net__set_before) rfl
  have F12 : Fun K "set_before" "Net.set_before" s_Net__set_before (He.fAd K ("Net", some "set_before")) fd12 := fun_of (st := s_Net__set_before) FD12
  obtain ⟨fd13, FD13⟩ := c.d.def_ 13 (d := hd_Net__tell) rfl
  have F13 : Fun K "tell" "Net.tell" s_Net__tell (He.fAd K ("Net", some "tell")) fd13 := fun_of (st := s_Net__tell) FD13
  obtain ⟨fd14, FD14⟩ := c.d.def_ 14 (d := hd_Net__ask) rfl
  have F14 : Fun K "ask" "Net.ask" s_Net__ask (He.fAd K ("Net", some "ask")) fd14 := fun_of (st := s_Net__ask) FD14
  obtain ⟨fd15, FD15⟩ := c.d.def_ 15 (d := hd_Net__repeat) rfl
  have F15 : Fun K "repeat" "Net.repeat" s_Net__repeat (He.fAd K ("Net", some "repeat")) fd15 := fun_of (st := s_Net__repeat) FD15
  obtain ⟨fd16, FD16⟩ := c.d.def_ 16 (d := hd_Net__lose) rfl
  have F16 : Fun K "lose" "Net.lose" s_Net__lose (He.fAd K ("Net", some "lose")) fd16 := fun_of (st := s_Net__lose) FD16
  obtain ⟨fd17, FD17⟩ := c.d.def_ 17 (d := hd_Net__read) rfl
  have F17 : Fun K "read" "Net.read" s_Net__read (He.fAd K ("Net", some "read")) fd17 := fun_of (st := s_Net__read) FD17
  obtain ⟨fd18, FD18⟩ := c.d.def_ 18 (d := hd__lengths_from) rfl
  have F18 : Fun K "_lengths_from" "_lengths_from" s__lengths_from (He.fAd K ("_lengths_from", none)) fd18 := fun_of (st := s__lengths_from) FD18
  obtain ⟨fd19, FD19⟩ := c.d.def_ 19 (d := hd_from_least) rfl
  have F19 : Fun K "from_least" "from_least" s_from_least (He.fAd K ("from_least", none)) fd19 := fun_of (st := s_from_least) FD19
  obtain ⟨fd20, FD20⟩ := c.d.def_ 20 (d := hd__gate_after) rfl
  have F20 : Fun K "_gate_after" "_gate_after" s__gate_after (He.fAd K ("_gate_after", none)) fd20 := fun_of (st := s__gate_after) FD20
  obtain ⟨fd21, FD21⟩ := c.d.def_ 21 (d := hd_ring_of) rfl
  have F21 : Fun K "ring_of" "ring_of" s_ring_of (He.fAd K ("ring_of", none)) fd21 := fun_of (st := s_ring_of) FD21
  obtain ⟨fd22, FD22⟩ := c.d.def_ 22 (d := hd_piece_of) rfl
  have F22 : Fun K "piece_of" "piece_of" s_piece_of (He.fAd K ("piece_of", none)) fd22 := fun_of (st := s_piece_of) FD22
  obtain ⟨fd23, FD23⟩ := c.d.def_ 23 (d := hd_pieces) rfl
  have F23 : Fun K "pieces" "pieces" s_pieces (He.fAd K ("pieces", none)) fd23 := fun_of (st := s_pieces) FD23
  obtain ⟨fd24, FD24⟩ := c.d.def_ 24 (d := hd_order_turns) rfl
  have F24 : Fun K "order_turns" "order_turns" s_order_turns (He.fAd K ("order_turns", none)) fd24 := fun_of (st := s_order_turns) FD24
  obtain ⟨fd25, FD25⟩ := c.d.def_ 25 (d := hd_turns_of) rfl
  have F25 : Fun K "turns_of" "turns_of" s_turns_of (He.fAd K ("turns_of", none)) fd25 := fun_of (st := s_turns_of) FD25
  obtain ⟨fd26, FD26⟩ := c.d.def_ 26 (d := hd_order_nexts) rfl
  have F26 : Fun K "order_nexts" "order_nexts" s_order_nexts (He.fAd K ("order_nexts", none)) fd26 := fun_of (st := s_order_nexts) FD26
  obtain ⟨fd27, FD27⟩ := c.d.def_ 27 (d := hd_way_length) rfl
  have F27 : Fun K "way_length" "way_length" s_way_length (He.fAd K ("way_length", none)) fd27 := fun_of (st := s_way_length) FD27
  obtain ⟨fd28, FD28⟩ := c.d.def_ 28 (d := hd_house_at) rfl
  have F28 : Fun K "house_at" "house_at" s_house_at (He.fAd K ("house_at", none)) fd28 := fun_of (st := s_house_at) FD28
  obtain ⟨fd29, FD29⟩ := c.d.def_ 29 (d := hd_sayings) rfl
  have F29 : Fun K "sayings" "sayings" s_sayings (He.fAd K ("sayings", none)) fd29 := fun_of (st := s_sayings) FD29
  obtain ⟨fd30, FD30⟩ := c.d.def_ 30 (d := hd__pairs_said_by) rfl
  have F30 : Fun K "_pairs_said_by" "_pairs_said_by" s__pairs_said_by (He.fAd K ("_pairs_said_by", none)) fd30 := fun_of (st := s__pairs_said_by) FD30
  obtain ⟨fd31, FD31⟩ := c.d.def_ 31 (d := hd_holds_true) rfl
  have F31 : Fun K "holds_true" "holds_true" s_holds_true (He.fAd K ("holds_true", none)) fd31 := fun_of (st := s_holds_true) FD31
  obtain ⟨fd32, FD32⟩ := c.d.def_ 32 (d := hd_first_untrue) rfl
  have F32 : Fun K "first_untrue" "first_untrue" s_first_untrue (He.fAd K ("first_untrue", none)) fd32 := fun_of (st := s_first_untrue) FD32
  obtain ⟨fd33, FD33⟩ := c.d.def_ 33 (d := hd_marks_of) rfl
  have F33 : Fun K "marks_of" "marks_of" s_marks_of (He.fAd K ("marks_of", none)) fd33 := fun_of (st := s_marks_of) FD33
  obtain ⟨fd34, FD34⟩ := c.d.def_ 34 (d := hd_mark_row) rfl
  have F34 : Fun K "mark_row" "mark_row" s_mark_row (He.fAd K ("mark_row", none)) fd34 := fun_of (st := s_mark_row) FD34
  obtain ⟨fd35, FD35⟩ := c.d.def_ 35 (d := hd__lap_of) rfl
  have F35 : Fun K "_lap_of" "_lap_of" s__lap_of (He.fAd K ("_lap_of", none)) fd35 := fun_of (st := s__lap_of) FD35
  obtain ⟨fd36, FD36⟩ := c.d.def_ 36 (d := hd_told_end) rfl
  have F36 : Fun K "told_end" "told_end" s_told_end (He.fAd K ("told_end", none)) fd36 := fun_of (st := s_told_end) FD36
  obtain ⟨fd37, FD37⟩ := c.d.def_ 37 (d := hd_is_plain) rfl
  have F37 : Fun K "is_plain" "is_plain" s_is_plain (He.fAd K ("is_plain", none)) fd37 := fun_of (st := s_is_plain) FD37
  obtain ⟨fd38, FD38⟩ := c.d.def_ 38 (d := hd_ends_plain) rfl
  have F38 : Fun K "ends_plain" "ends_plain" s_ends_plain (He.fAd K ("ends_plain", none)) fd38 := fun_of (st := s_ends_plain) FD38
  obtain ⟨fd39, FD39⟩ := c.d.def_ 39 (d := hd__check_true) rfl
  have F39 : Fun K "_check_true" "_check_true" s__check_true (He.fAd K ("_check_true", none)) fd39 := fun_of (st := s__check_true) FD39
  obtain ⟨fd40, FD40⟩ := c.d.def_ 40 (d := hd__plain_nexts) rfl
  have F40 : Fun K "_plain_nexts" "_plain_nexts" s__plain_nexts (He.fAd K ("_plain_nexts", none)) fd40 := fun_of (st := s__plain_nexts) FD40
  obtain ⟨fd41, FD41⟩ := c.d.def_ 41 (d := hd__ascending) rfl
  have F41 : Fun K "_ascending" "_ascending" s__ascending (He.fAd K ("_ascending", none)) fd41 := fun_of (st := s__ascending) FD41
  obtain ⟨fd42, FD42⟩ := c.d.def_ 42 (d := hd__law_far) rfl
  have F42 : Fun K "_law_far" "_law_far" s__law_far (He.fAd K ("_law_far", none)) fd42 := fun_of (st := s__law_far) FD42
  obtain ⟨fd43, FD43⟩ := c.d.def_ 43 (d := hd__law_between) rfl
  have F43 : Fun K "_law_between" "_law_between" s__law_between (He.fAd K ("_law_between", none)) fd43 := fun_of (st := s__law_between) FD43
  obtain ⟨fd44, FD44⟩ := c.d.def_ 44 (d := hd__law_read) rfl
  have F44 : Fun K "_law_read" "_law_read" s__law_read (He.fAd K ("_law_read", none)) fd44 := fun_of (st := s__law_read) FD44
  obtain ⟨fd45, FD45⟩ := c.d.def_ 45 (d := hd__law_sayings) rfl
  have F45 : Fun K "_law_sayings" "_law_sayings" s__law_sayings (He.fAd K ("_law_sayings", none)) fd45 := fun_of (st := s__law_sayings) FD45
  obtain ⟨fd46, FD46⟩ := c.d.def_ 46 (d := hd__law_holds) rfl
  have F46 : Fun K "_law_holds" "_law_holds" s__law_holds (He.fAd K ("_law_holds", none)) fd46 := fun_of (st := s__law_holds) FD46
  obtain ⟨fd47, FD47⟩ := c.d.def_ 47 (d := hd__law_turns) rfl
  have F47 : Fun K "_law_turns" "_law_turns" s__law_turns (He.fAd K ("_law_turns", none)) fd47 := fun_of (st := s__law_turns) FD47
  obtain ⟨fd48, FD48⟩ := c.d.def_ 48 (d := hd__law_ring) rfl
  have F48 : Fun K "_law_ring" "_law_ring" s__law_ring (He.fAd K ("_law_ring", none)) fd48 := fun_of (st := s__law_ring) FD48
  obtain ⟨fd49, FD49⟩ := c.d.def_ 49 (d := hd__law_root) rfl
  have F49 : Fun K "_law_root" "_law_root" s__law_root (He.fAd K ("_law_root", none)) fd49 := fun_of (st := s__law_root) FD49
  obtain ⟨fd50, FD50⟩ := c.d.def_ 50 (d := hd__law_piece) rfl
  have F50 : Fun K "_law_piece" "_law_piece" s__law_piece (He.fAd K ("_law_piece", none)) fd50 := fun_of (st := s__law_piece) FD50
  obtain ⟨fd51, FD51⟩ := c.d.def_ 51 (d := hd__law_untrue) rfl
  have F51 : Fun K "_law_untrue" "_law_untrue" s__law_untrue (He.fAd K ("_law_untrue", none)) fd51 := fun_of (st := s__law_untrue) FD51
  obtain ⟨fd52, FD52⟩ := c.d.def_ 52 (d := hd__law_plain) rfl
  have F52 : Fun K "_law_plain" "_law_plain" s__law_plain (He.fAd K ("_law_plain", none)) fd52 := fun_of (st := s__law_plain) FD52
  obtain ⟨fd53, FD53⟩ := c.d.def_ 53 (d := hd__law_beginning) rfl
  have F53 : Fun K "_law_beginning" "_law_beginning" s__law_beginning (He.fAd K ("_law_beginning", none)) fd53 := fun_of (st := s__law_beginning) FD53
  obtain ⟨fd54, FD54⟩ := c.d.def_ 54 (d := hd__law_ending) rfl
  have F54 : Fun K "_law_ending" "_law_ending" s__law_ending (He.fAd K ("_law_ending", none)) fd54 := fun_of (st := s__law_ending) FD54
  obtain ⟨fd55, FD55⟩ := c.d.def_ 55 (d := hd__law_asked) rfl
  have F55 : Fun K "_law_asked" "_law_asked" s__law_asked (He.fAd K ("_law_asked", none)) fd55 := fun_of (st := s__law_asked) FD55
  obtain ⟨fd56, FD56⟩ := c.d.def_ 56 (d := hd__law_deed) rfl
  have F56 : Fun K "_law_deed" "_law_deed" s__law_deed (He.fAd K ("_law_deed", none)) fd56 := fun_of (st := s__law_deed) FD56
  obtain ⟨fd57, FD57⟩ := c.d.def_ 57 (d := hd__law_stands) rfl
  have F57 : Fun K "_law_stands" "_law_stands" s__law_stands (He.fAd K ("_law_stands", none)) fd57 := fun_of (st := s__law_stands) FD57
  obtain ⟨fd58, FD58⟩ := c.d.def_ 58 (d := hd__law_ordered) rfl
  have F58 : Fun K "_law_ordered" "_law_ordered" s__law_ordered (He.fAd K ("_law_ordered", none)) fd58 := fun_of (st := s__law_ordered) FD58
  obtain ⟨fd59, FD59⟩ := c.d.def_ 59 (d := hd__law_letter) rfl
  have F59 : Fun K "_law_letter" "_law_letter" s__law_letter (He.fAd K ("_law_letter", none)) fd59 := fun_of (st := s__law_letter) FD59
  obtain ⟨fd60, FD60⟩ := c.d.def_ 60 (d := hd_law) rfl
  have F60 : Fun K "law" "law" s_law (He.fAd K ("law", none)) fd60 := fun_of (st := s_law) FD60
  obtain ⟨fd61, FD61⟩ := c.d.def_ 61 (d := hd__law_tape) rfl
  have F61 : Fun K "_law_tape" "_law_tape" s__law_tape (He.fAd K ("_law_tape", none)) fd61 := fun_of (st := s__law_tape) FD61
  obtain ⟨fd62, FD62⟩ := c.d.def_ 62 (d := hd__law_pick) rfl
  have F62 : Fun K "_law_pick" "_law_pick" s__law_pick (He.fAd K ("_law_pick", none)) fd62 := fun_of (st := s__law_pick) FD62
  obtain ⟨fd63, FD63⟩ := c.d.def_ 63 (d := hd__law_size) rfl
  have F63 : Fun K "_law_size" "_law_size" s__law_size (He.fAd K ("_law_size", none)) fd63 := fun_of (st := s__law_size) FD63
  obtain ⟨fd64, FD64⟩ := c.d.def_ 64 (d := hd__law_same) rfl
  have F64 : Fun K "_law_same" "_law_same" s__law_same (He.fAd K ("_law_same", none)) fd64 := fun_of (st := s__law_same) FD64
  obtain ⟨fd65, FD65⟩ := c.d.def_ 65 (d := hd_House__init) rfl
  have FD65 : FunD K "__init__" "House.__init__" (defArgs s_House__init) (defBody s_House__init) (defScope s_House__init) [.non] [] (He.fAd K ("House", some "__init__")) fd65 := FD65
  obtain ⟨da65, dva65, db65⟩ := FD65.binds1 (ps := ["self", "size", "place", "next_house", "before"]) 5 1 (by decide) rfl (fun _ _ _ _ _ _ _ us its l1 l2 => match us, its, l1, l2 with | [_, _, _, _, _], [_], _, _ => ⟨_, rfl, rfl⟩)
  cases dva65
  obtain ⟨de65, dve65, dbe65⟩ := FD65.binds1 (ps := ["self", "size", "place", "next_house", "before"]) 4 0 (by decide) rfl (fun _ _ _ _ _ _ _ us its l1 l2 => match us, its, l1, l2 with | [_, _, _, _], [_], _, _ => ⟨_, rfl, rfl⟩)
  obtain ⟨dk65, dbk65⟩ := FD65.kbindsD (ps := ["self", "size", "place", "next_house", "before"]) 4 ["before"] (fun us _ ws => us ++ ws) (by decide) (fun r1 _ r3 => r1.append r3) (fun _ _ _ _ _ _ _ us its ws l1 l2 l3 => match us, its, ws, l1, l2, l3 with | [_, _, _, _], [_], [_], _, _, _ => ⟨_, rfl, rfl⟩)
  obtain ⟨fd66, FD66⟩ := c.d.def_ 66 (d := hd_House__tell_letter) rfl
  have F66 : Fun K "tell_letter" "House.tell_letter" s_House__tell_letter (He.fAd K ("House", some "tell_letter")) fd66 := fun_of (st := s_House__tell_letter) FD66
  obtain ⟨fd67, FD67⟩ := c.d.def_ 67 (d := hd_House__ask_letter) rfl
  have F67 : Fun K "ask_letter" "House.ask_letter" s_House__ask_letter (He.fAd K ("House", some "ask_letter")) fd67 := fun_of (st := s_House__ask_letter) FD67
  obtain ⟨fd68, FD68⟩ := c.d.def_ 68 (d := hd_House__answer_to) rfl
  have F68 : Fun K "_answer_to" "House._answer_to" s_House__answer_to (He.fAd K ("House", some "_answer_to")) fd68 := fun_of (st := s_House__answer_to) FD68
  obtain ⟨fd69, FD69⟩ := c.d.def_ 69 (d := hd_House__hear_tell) rfl
  have F69 : Fun K "_hear_tell" "House._hear_tell" s_House__hear_tell (He.fAd K ("House", some "_hear_tell")) fd69 := fun_of (st := s_House__hear_tell) FD69
  obtain ⟨fd70, FD70⟩ := c.d.def_ 70 (d := hd_House__hear_answer) rfl
  have F70 : Fun K "_hear_answer" "House._hear_answer" s_House__hear_answer (He.fAd K ("House", some "_hear_answer")) fd70 := fun_of (st := s_House__hear_answer) FD70
  obtain ⟨fd71, FD71⟩ := c.d.def_ 71 (d := hd_House__hear) rfl
  have F71 : Fun K "hear" "House.hear" s_House__hear (He.fAd K ("House", some "hear")) fd71 := fun_of (st := s_House__hear) FD71
  obtain ⟨fd72, FD72⟩ := c.d.def_ 72 (d := hd_Net__houses) rfl
  have F72 : Fun K "houses" "Net.houses" s_Net__houses (He.fAd K ("Net", some "houses")) fd72 := fun_of (st := s_Net__houses) FD72
  obtain ⟨fd73, FD73⟩ := c.d.def_ 73 (d := hd_Net__check_house) rfl
  have F73 : Fun K "check_house" "Net.check_house" s_Net__check_house (He.fAd K ("Net", some "check_house")) fd73 := fun_of (st := s_Net__check_house) FD73
  obtain ⟨fd74, FD74⟩ := c.d.def_ 74 (d := hd_Net__check_letter) rfl
  have F74 : Fun K "_check_letter" "Net._check_letter" s_Net__check_letter (He.fAd K ("Net", some "_check_letter")) fd74 := fun_of (st := s_Net__check_letter) FD74
  obtain ⟨fd75, FD75⟩ := c.d.def_ 75 (d := hd_Net__house_at) rfl
  have F75 : Fun K "_house_at" "Net._house_at" s_Net__house_at (He.fAd K ("Net", some "_house_at")) fd75 := fun_of (st := s_Net__house_at) FD75
  obtain ⟨fd76, FD76⟩ := c.d.def_ 76 (d := hd_Net__send) rfl
  have F76 : Fun K "_send" "Net._send" s_Net__send (He.fAd K ("Net", some "_send")) fd76 := fun_of (st := s_Net__send) FD76
  obtain ⟨fd77, FD77⟩ := c.d.def_ 77 (d := hd_Net__letters) rfl
  have F77 : Fun K "letters" "Net.letters" s_Net__letters (He.fAd K ("Net", some "letters")) fd77 := fun_of (st := s_Net__letters) FD77
  obtain ⟨fd78, FD78⟩ := c.d.def_ 78 (d := hd_Net__nexts) rfl
  have F78 : Fun K "nexts" "Net.nexts" s_Net__nexts (He.fAd K ("Net", some "nexts")) fd78 := fun_of (st := s_Net__nexts) FD78
  obtain ⟨fd79, FD79⟩ := c.d.def_ 79 (d := hd_Net__befores) rfl
  have F79 : Fun K "befores" "Net.befores" s_Net__befores (He.fAd K ("Net", some "befores")) fd79 := fun_of (st := s_Net__befores) FD79
  obtain ⟨fd80, FD80⟩ := c.d.def_ 80 (d := hd_Net__check_letters) rfl
  have F80 : Fun K "_check_letters" "Net._check_letters" s_Net__check_letters (He.fAd K ("Net", some "_check_letters")) fd80 := fun_of (st := s_Net__check_letters) FD80
  obtain ⟨fd81, FD81⟩ := c.d.def_ 81 (d := hd_Net__check_places) rfl
  have F81 : Fun K "_check_places" "Net._check_places" s_Net__check_places (He.fAd K ("Net", some "_check_places")) fd81 := fun_of (st := s_Net__check_places) FD81
  obtain ⟨fd82, FD82⟩ := c.d.def_ 82 (d := hd_Net__take_befores) rfl
  have F82 : Fun K "_take_befores" "Net._take_befores" s_Net__take_befores (He.fAd K ("Net", some "_take_befores")) fd82 := fun_of (st := s_Net__take_befores) FD82
  obtain ⟨fd83, FD83⟩ := c.d.def_ 83 (d := hd_Net__init) rfl
  have FD83 : FunD K "__init__" "Net.__init__" (defArgs s_Net__init) (defBody s_Net__init) (defScope s_Net__init) [] [("befores", .non), ("letters", .non)] (He.fAd K ("Net", some "__init__")) fd83 := FD83
  obtain ⟨dk83, dbk83⟩ := FD83.kbinds0 (ps := ["self", "size", "nexts", "befores", "letters"]) 3 ["befores", "letters"] [] (fun us _ ws => us ++ ws) (by decide) (fun _ h => nomatch h) (fun r1 _ r3 => r1.append r3) (fun _ _ _ _ _ _ us mv ws l1 l2 l3 => match us, mv, ws, l1, l2, l3 with | [_, _, _], [], [_, _], _, _, _ => rfl)
  obtain ⟨de83, dve83, dbe83⟩ := FD83.binds0 (ps := ["self", "size", "nexts", "befores", "letters"]) 3 (by decide) rfl (fun _ _ _ _ _ _ us its l1 l2 => match us, its, l1, l2 with | [_, _, _], [_, _], _, _ => ⟨_, _, _, _, _, _, rfl, rfl, _, _, _, _, _, _, rfl, rfl, rfl⟩)
  obtain ⟨fd84, FD84⟩ := c.d.def_ 84 (d := hd__law_places) rfl
  have F84 : Fun K "_law_places" "_law_places" s__law_places (He.fAd K ("_law_places", none)) fd84 := fun_of (st := s__law_places) FD84
  have e := hfa.symm.trans (He.glo_ok X G (c.d.fact 62 rfl))
  cases e
  have b := FunD.bindsA (ps := ["script"]) FD60 fun _ _ _ _ _ _ us hl => match us, hl with | [_], _ => rfl
  let T : T0 K mg := {
    m_abs := He.free_ok X G (c.d.fact 0 rfl),
    m_bool := He.free_ok X G (c.d.fact 1 rfl),
    m_dict := He.free_ok X G (c.d.fact 2 rfl),
    m_int := He.free_ok X G (c.d.fact 3 rfl),
    m_isinstance := He.free_ok X G (c.d.fact 4 rfl),
    m_len := He.free_ok X G (c.d.fact 5 rfl),
    m_list := He.free_ok X G (c.d.fact 6 rfl),
    m_max := He.free_ok X G (c.d.fact 7 rfl),
    m_min := He.free_ok X G (c.d.fact 8 rfl),
    m_range := He.free_ok X G (c.d.fact 9 rfl),
    m_sorted := He.free_ok X G (c.d.fact 10 rfl),
    m_str := He.free_ok X G (c.d.fact 11 rfl),
    m_sum := He.free_ok X G (c.d.fact 12 rfl),
    m_tuple := He.free_ok X G (c.d.fact 13 rfl),
    m_zip := He.free_ok X G (c.d.fact 14 rfl),
    a__law_nexts := He.fAd K ("_law_nexts", none),
    fd__law_nexts := fd0,
    g__law_nexts := He.glo_ok X G (c.d.fact 15 rfl),
    F__law_nexts := F0,
    b__law_nexts := F0.binds (ps := ["tape", "places"]) fun _ _ _ _ _ _ us hl => match us, hl with | [_, _], _ => rfl,
    a_far := He.fAd K ("far", none),
    fd_far := fd1,
    g_far := He.glo_ok X G (c.d.fact 16 rfl),
    F_far := F1,
    b_far := F1.binds (ps := ["size", "start", "end"]) fun _ _ _ _ _ _ us hl => match us, hl with | [_, _, _], _ => rfl,
    a_between := He.fAd K ("between", none),
    fd_between := fd2,
    g_between := He.glo_ok X G (c.d.fact 17 rfl),
    F_between := F2,
    b_between := F2.binds (ps := ["size", "start", "place", "end"]) fun _ _ _ _ _ _ us hl => match us, hl with | [_, _, _, _], _ => rfl,
    a_check_on_circle := He.fAd K ("check_on_circle", none),
    fd_check_on_circle := fd3,
    g_check_on_circle := He.glo_ok X G (c.d.fact 18 rfl),
    F_check_on_circle := F3,
    b_check_on_circle := F3.binds (ps := ["size", "place"]) fun _ _ _ _ _ _ us hl => match us, hl with | [_, _], _ => rfl,
    a_nearest_ahead := He.fAd K ("nearest_ahead", none),
    fd_nearest_ahead := fd4,
    g_nearest_ahead := He.glo_ok X G (c.d.fact 19 rfl),
    F_nearest_ahead := F4,
    b_nearest_ahead := F4.binds (ps := ["size", "start", "places"]) fun _ _ _ _ _ _ us hl => match us, hl with | [_, _, _], _ => rfl,
    a_Walk__init := He.fAd K ("Walk", some "__init__"),
    fd_Walk__init := fd5,
    F_Walk__init := F5,
    b_Walk__init := F5.binds (ps := ["self", "size", "places"]) fun _ _ _ _ _ _ us hl => match us, hl with | [_, _, _], _ => rfl,
    a_Walk__steps := He.fAd K ("Walk", some "_steps"),
    fd_Walk__steps := fd6,
    F_Walk__steps := F6,
    b_Walk__steps := F6.binds (ps := ["self"]) fun _ _ _ _ _ _ us hl => match us, hl with | [_], _ => rfl,
    a_Walk__is_closed := He.fAd K ("Walk", some "is_closed"),
    fd_Walk__is_closed := fd7,
    F_Walk__is_closed := F7,
    b_Walk__is_closed := F7.binds (ps := ["self"]) fun _ _ _ _ _ _ us hl => match us, hl with | [_], _ => rfl,
    a_Walk__total := He.fAd K ("Walk", some "total"),
    fd_Walk__total := fd8,
    F_Walk__total := F8,
    b_Walk__total := F8.binds (ps := ["self"]) fun _ _ _ _ _ _ us hl => match us, hl with | [_], _ => rfl,
    a_Walk__turns := He.fAd K ("Walk", some "turns"),
    fd_Walk__turns := fd9,
    F_Walk__turns := F9,
    b_Walk__turns := F9.binds (ps := ["self"]) fun _ _ _ _ _ _ us hl => match us, hl with | [_], _ => rfl,
    a_Net__next_of := He.fAd K ("Net", some "next_of"),
    fd_Net__next_of := fd10,
    F_Net__next_of := F10,
    b_Net__next_of := F10.binds (ps := ["self", "house"]) fun _ _ _ _ _ _ us hl => match us, hl with | [_, _], _ => rfl,
    a_Net__hold := He.fAd K ("Net", some "hold"),
    fd_Net__hold := fd11,
    F_Net__hold := F11,
    b_Net__hold := F11.binds (ps := ["self", "house", "target"]) fun _ _ _ _ _ _ us hl => match us, hl with | [_, _, _], _ => rfl,
    a_Net__set_before := He.fAd K ("Net", some "set_before"),
    fd_Net__set_before := fd12,
    F_Net__set_before := F12,
    b_Net__set_before := F12.binds (ps := ["self", "house", "before"]) fun _ _ _ _ _ _ us hl => match us, hl with | [_, _, _], _ => rfl,
    a_Net__tell := He.fAd K ("Net", some "tell"),
    fd_Net__tell := fd13,
    F_Net__tell := F13,
    b_Net__tell := F13.binds (ps := ["self", "house"]) fun _ _ _ _ _ _ us hl => match us, hl with | [_, _], _ => rfl,
    a_Net__ask := He.fAd K ("Net", some "ask"),
    fd_Net__ask := fd14,
    F_Net__ask := F14,
    b_Net__ask := F14.binds (ps := ["self", "house"]) fun _ _ _ _ _ _ us hl => match us, hl with | [_, _], _ => rfl,
    a_Net__repeat := He.fAd K ("Net", some "repeat"),
    fd_Net__repeat := fd15,
    F_Net__repeat := F15,
    b_Net__repeat := F15.binds (ps := ["self", "at"]) fun _ _ _ _ _ _ us hl => match us, hl with | [_, _], _ => rfl,
    a_Net__lose := He.fAd K ("Net", some "lose"),
    fd_Net__lose := fd16,
    F_Net__lose := F16,
    b_Net__lose := F16.binds (ps := ["self", "at"]) fun _ _ _ _ _ _ us hl => match us, hl with | [_, _], _ => rfl,
    a_Net__read := He.fAd K ("Net", some "read"),
    fd_Net__read := fd17,
    F_Net__read := F17,
    b_Net__read := F17.binds (ps := ["self", "at"]) fun _ _ _ _ _ _ us hl => match us, hl with | [_, _], _ => rfl,
    a__lengths_from := He.fAd K ("_lengths_from", none),
    fd__lengths_from := fd18,
    g__lengths_from := He.glo_ok X G (c.d.fact 20 rfl),
    F__lengths_from := F18,
    b__lengths_from := F18.binds (ps := ["net", "start"]) fun _ _ _ _ _ _ us hl => match us, hl with | [_, _], _ => rfl,
    a_from_least := He.fAd K ("from_least", none),
    fd_from_least := fd19,
    g_from_least := He.glo_ok X G (c.d.fact 21 rfl),
    F_from_least := F19,
    b_from_least := F19.binds (ps := ["order"]) fun _ _ _ _ _ _ us hl => match us, hl with | [_], _ => rfl,
    a__gate_after := He.fAd K ("_gate_after", none),
    fd__gate_after := fd20,
    g__gate_after := He.glo_ok X G (c.d.fact 22 rfl),
    F__gate_after := F20,
    b__gate_after := F20.binds (ps := ["net", "met"]) fun _ _ _ _ _ _ us hl => match us, hl with | [_, _], _ => rfl,
    a_ring_of := He.fAd K ("ring_of", none),
    fd_ring_of := fd21,
    g_ring_of := He.glo_ok X G (c.d.fact 23 rfl),
    F_ring_of := F21,
    b_ring_of := F21.binds (ps := ["net", "house"]) fun _ _ _ _ _ _ us hl => match us, hl with | [_, _], _ => rfl,
    a_piece_of := He.fAd K ("piece_of", none),
    fd_piece_of := fd22,
    g_piece_of := He.glo_ok X G (c.d.fact 24 rfl),
    F_piece_of := F22,
    b_piece_of := F22.binds (ps := ["net", "house"]) fun _ _ _ _ _ _ us hl => match us, hl with | [_, _], _ => rfl,
    a_pieces := He.fAd K ("pieces", none),
    fd_pieces := fd23,
    g_pieces := He.glo_ok X G (c.d.fact 25 rfl),
    F_pieces := F23,
    b_pieces := F23.binds (ps := ["net"]) fun _ _ _ _ _ _ us hl => match us, hl with | [_], _ => rfl,
    a_order_turns := He.fAd K ("order_turns", none),
    fd_order_turns := fd24,
    g_order_turns := He.glo_ok X G (c.d.fact 26 rfl),
    F_order_turns := F24,
    b_order_turns := F24.binds (ps := ["size", "order"]) fun _ _ _ _ _ _ us hl => match us, hl with | [_, _], _ => rfl,
    a_turns_of := He.fAd K ("turns_of", none),
    fd_turns_of := fd25,
    g_turns_of := He.glo_ok X G (c.d.fact 27 rfl),
    F_turns_of := F25,
    b_turns_of := F25.binds (ps := ["net", "house"]) fun _ _ _ _ _ _ us hl => match us, hl with | [_, _], _ => rfl,
    a_order_nexts := He.fAd K ("order_nexts", none),
    fd_order_nexts := fd26,
    g_order_nexts := He.glo_ok X G (c.d.fact 28 rfl),
    F_order_nexts := F26,
    b_order_nexts := F26.binds (ps := ["order"]) fun _ _ _ _ _ _ us hl => match us, hl with | [_], _ => rfl,
    a_way_length := He.fAd K ("way_length", none),
    fd_way_length := fd27,
    g_way_length := He.glo_ok X G (c.d.fact 29 rfl),
    F_way_length := F27,
    b_way_length := F27.binds (ps := ["net", "start", "end"]) fun _ _ _ _ _ _ us hl => match us, hl with | [_, _, _], _ => rfl,
    a_house_at := He.fAd K ("house_at", none),
    fd_house_at := fd28,
    g_house_at := He.glo_ok X G (c.d.fact 30 rfl),
    F_house_at := F28,
    b_house_at := F28.binds (ps := ["net", "start", "distance"]) fun _ _ _ _ _ _ us hl => match us, hl with | [_, _, _], _ => rfl,
    a_sayings := He.fAd K ("sayings", none),
    fd_sayings := fd29,
    g_sayings := He.glo_ok X G (c.d.fact 31 rfl),
    F_sayings := F29,
    b_sayings := F29.binds (ps := ["net"]) fun _ _ _ _ _ _ us hl => match us, hl with | [_], _ => rfl,
    a__pairs_said_by := He.fAd K ("_pairs_said_by", none),
    fd__pairs_said_by := fd30,
    g__pairs_said_by := He.glo_ok X G (c.d.fact 32 rfl),
    F__pairs_said_by := F30,
    b__pairs_said_by := F30.binds (ps := ["letter"]) fun _ _ _ _ _ _ us hl => match us, hl with | [_], _ => rfl,
    a_holds_true := He.fAd K ("holds_true", none),
    fd_holds_true := fd31,
    g_holds_true := He.glo_ok X G (c.d.fact 33 rfl),
    F_holds_true := F31,
    b_holds_true := F31.binds (ps := ["net", "saying"]) fun _ _ _ _ _ _ us hl => match us, hl with | [_, _], _ => rfl,
    a_first_untrue := He.fAd K ("first_untrue", none),
    fd_first_untrue := fd32,
    g_first_untrue := He.glo_ok X G (c.d.fact 34 rfl),
    F_first_untrue := F32,
    b_first_untrue := F32.binds (ps := ["net"]) fun _ _ _ _ _ _ us hl => match us, hl with | [_], _ => rfl,
    a_marks_of := He.fAd K ("marks_of", none),
    fd_marks_of := fd33,
    g_marks_of := He.glo_ok X G (c.d.fact 35 rfl),
    F_marks_of := F33,
    b_marks_of := F33.binds (ps := ["net", "house"]) fun _ _ _ _ _ _ us hl => match us, hl with | [_, _], _ => rfl,
    a_mark_row := He.fAd K ("mark_row", none),
    fd_mark_row := fd34,
    g_mark_row := He.glo_ok X G (c.d.fact 36 rfl),
    F_mark_row := F34,
    b_mark_row := F34.binds (ps := ["net", "house"]) fun _ _ _ _ _ _ us hl => match us, hl with | [_, _], _ => rfl,
    a__lap_of := He.fAd K ("_lap_of", none),
    fd__lap_of := fd35,
    g__lap_of := He.glo_ok X G (c.d.fact 37 rfl),
    F__lap_of := F35,
    b__lap_of := F35.binds (ps := ["net", "house"]) fun _ _ _ _ _ _ us hl => match us, hl with | [_, _], _ => rfl,
    a_told_end := He.fAd K ("told_end", none),
    fd_told_end := fd36,
    g_told_end := He.glo_ok X G (c.d.fact 38 rfl),
    F_told_end := F36,
    b_told_end := F36.binds (ps := ["net"]) fun _ _ _ _ _ _ us hl => match us, hl with | [_], _ => rfl,
    a_is_plain := He.fAd K ("is_plain", none),
    fd_is_plain := fd37,
    g_is_plain := He.glo_ok X G (c.d.fact 39 rfl),
    F_is_plain := F37,
    b_is_plain := F37.binds (ps := ["net"]) fun _ _ _ _ _ _ us hl => match us, hl with | [_], _ => rfl,
    a_ends_plain := He.fAd K ("ends_plain", none),
    fd_ends_plain := fd38,
    g_ends_plain := He.glo_ok X G (c.d.fact 40 rfl),
    F_ends_plain := F38,
    b_ends_plain := F38.binds (ps := ["net"]) fun _ _ _ _ _ _ us hl => match us, hl with | [_], _ => rfl,
    a__check_true := He.fAd K ("_check_true", none),
    fd__check_true := fd39,
    g__check_true := He.glo_ok X G (c.d.fact 41 rfl),
    F__check_true := F39,
    b__check_true := F39.binds (ps := ["net"]) fun _ _ _ _ _ _ us hl => match us, hl with | [_], _ => rfl,
    a__plain_nexts := He.fAd K ("_plain_nexts", none),
    fd__plain_nexts := fd40,
    g__plain_nexts := He.glo_ok X G (c.d.fact 42 rfl),
    F__plain_nexts := F40,
    b__plain_nexts := F40.binds (ps := ["net"]) fun _ _ _ _ _ _ us hl => match us, hl with | [_], _ => rfl,
    a__ascending := He.fAd K ("_ascending", none),
    fd__ascending := fd41,
    g__ascending := He.glo_ok X G (c.d.fact 43 rfl),
    F__ascending := F41,
    b__ascending := F41.binds (ps := ["table"]) fun _ _ _ _ _ _ us hl => match us, hl with | [_], _ => rfl,
    a__law_far := He.fAd K ("_law_far", none),
    fd__law_far := fd42,
    g__law_far := He.glo_ok X G (c.d.fact 44 rfl),
    F__law_far := F42,
    b__law_far := F42.binds (ps := ["size", "start", "end"]) fun _ _ _ _ _ _ us hl => match us, hl with | [_, _, _], _ => rfl,
    a__law_between := He.fAd K ("_law_between", none),
    fd__law_between := fd43,
    g__law_between := He.glo_ok X G (c.d.fact 45 rfl),
    F__law_between := F43,
    b__law_between := F43.binds (ps := ["size", "start", "place", "end"]) fun _ _ _ _ _ _ us hl => match us, hl with | [_, _, _, _], _ => rfl,
    a__law_read := He.fAd K ("_law_read", none),
    fd__law_read := fd44,
    g__law_read := He.glo_ok X G (c.d.fact 46 rfl),
    F__law_read := F44,
    b__law_read := F44.binds (ps := ["size", "nexts", "behinds", "post", "at"]) fun _ _ _ _ _ _ us hl => match us, hl with | [_, _, _, _, _], _ => rfl,
    a__law_sayings := He.fAd K ("_law_sayings", none),
    fd__law_sayings := fd45,
    g__law_sayings := He.glo_ok X G (c.d.fact 47 rfl),
    F__law_sayings := F45,
    b__law_sayings := F45.binds (ps := ["size", "nexts", "behinds", "post"]) fun _ _ _ _ _ _ us hl => match us, hl with | [_, _, _, _], _ => rfl,
    a__law_holds := He.fAd K ("_law_holds", none),
    fd__law_holds := fd46,
    g__law_holds := He.glo_ok X G (c.d.fact 48 rfl),
    F__law_holds := F46,
    b__law_holds := F46.binds (ps := ["size", "nexts", "saying"]) fun _ _ _ _ _ _ us hl => match us, hl with | [_, _, _], _ => rfl,
    a__law_turns := He.fAd K ("_law_turns", none),
    fd__law_turns := fd47,
    g__law_turns := He.glo_ok X G (c.d.fact 49 rfl),
    F__law_turns := F47,
    b__law_turns := F47.binds (ps := ["size", "nexts", "house"]) fun _ _ _ _ _ _ us hl => match us, hl with | [_, _, _], _ => rfl,
    a__law_ring := He.fAd K ("_law_ring", none),
    fd__law_ring := fd48,
    g__law_ring := He.glo_ok X G (c.d.fact 50 rfl),
    F__law_ring := F48,
    b__law_ring := F48.binds (ps := ["nexts", "house"]) fun _ _ _ _ _ _ us hl => match us, hl with | [_, _], _ => rfl,
    a__law_root := He.fAd K ("_law_root", none),
    fd__law_root := fd49,
    g__law_root := He.glo_ok X G (c.d.fact 51 rfl),
    F__law_root := F49,
    b__law_root := F49.binds (ps := ["nexts", "house"]) fun _ _ _ _ _ _ us hl => match us, hl with | [_, _], _ => rfl,
    a__law_piece := He.fAd K ("_law_piece", none),
    fd__law_piece := fd50,
    g__law_piece := He.glo_ok X G (c.d.fact 52 rfl),
    F__law_piece := F50,
    b__law_piece := F50.binds (ps := ["nexts", "house"]) fun _ _ _ _ _ _ us hl => match us, hl with | [_, _], _ => rfl,
    a__law_untrue := He.fAd K ("_law_untrue", none),
    fd__law_untrue := fd51,
    g__law_untrue := He.glo_ok X G (c.d.fact 53 rfl),
    F__law_untrue := F51,
    b__law_untrue := F51.binds (ps := ["size", "nexts", "behinds", "post"]) fun _ _ _ _ _ _ us hl => match us, hl with | [_, _, _, _], _ => rfl,
    a__law_plain := He.fAd K ("_law_plain", none),
    fd__law_plain := fd52,
    g__law_plain := He.glo_ok X G (c.d.fact 54 rfl),
    F__law_plain := F52,
    b__law_plain := F52.binds (ps := ["places"]) fun _ _ _ _ _ _ us hl => match us, hl with | [_], _ => rfl,
    a__law_beginning := He.fAd K ("_law_beginning", none),
    fd__law_beginning := fd53,
    g__law_beginning := He.glo_ok X G (c.d.fact 55 rfl),
    F__law_beginning := F53,
    b__law_beginning := F53.binds (ps := ["tape", "places"]) fun _ _ _ _ _ _ us hl => match us, hl with | [_, _], _ => rfl,
    a__law_ending := He.fAd K ("_law_ending", none),
    fd__law_ending := fd54,
    g__law_ending := He.glo_ok X G (c.d.fact 56 rfl),
    F__law_ending := F54,
    b__law_ending := F54.binds (ps := ["size", "nexts", "behinds", "post"]) fun _ _ _ _ _ _ us hl => match us, hl with | [_, _, _, _], _ => rfl,
    a__law_asked := He.fAd K ("_law_asked", none),
    fd__law_asked := fd55,
    g__law_asked := He.glo_ok X G (c.d.fact 57 rfl),
    F__law_asked := F55,
    b__law_asked := F55.binds (ps := ["net", "size", "nexts", "behinds", "post"]) fun _ _ _ _ _ _ us hl => match us, hl with | [_, _, _, _, _], _ => rfl,
    a__law_deed := He.fAd K ("_law_deed", none),
    fd__law_deed := fd56,
    g__law_deed := He.glo_ok X G (c.d.fact 58 rfl),
    F__law_deed := F56,
    b__law_deed := F56.binds (ps := ["tape", "net", "size", "nexts", "behinds", "post"]) fun _ _ _ _ _ _ us hl => match us, hl with | [_, _, _, _, _, _], _ => rfl,
    a__law_stands := He.fAd K ("_law_stands", none),
    fd__law_stands := fd57,
    g__law_stands := He.glo_ok X G (c.d.fact 59 rfl),
    F__law_stands := F57,
    b__law_stands := F57.binds (ps := ["net", "nexts", "behinds", "post"]) fun _ _ _ _ _ _ us hl => match us, hl with | [_, _, _, _], _ => rfl,
    a__law_ordered := He.fAd K ("_law_ordered", none),
    fd__law_ordered := fd58,
    g__law_ordered := He.glo_ok X G (c.d.fact 60 rfl),
    F__law_ordered := F58,
    b__law_ordered := F58.binds (ps := ["table"]) fun _ _ _ _ _ _ us hl => match us, hl with | [_], _ => rfl,
    a__law_letter := He.fAd K ("_law_letter", none),
    fd__law_letter := fd59,
    g__law_letter := He.glo_ok X G (c.d.fact 61 rfl),
    F__law_letter := F59,
    b__law_letter := F59.binds (ps := ["tape", "places"]) fun _ _ _ _ _ _ us hl => match us, hl with | [_, _], _ => rfl,
    a_law := He.fAd K ("law", none),
    fd_law := fd60,
    g_law := He.glo_ok X G (c.d.fact 62 rfl),
    F_law := F60,
    b_law := F60.binds (ps := ["script"]) fun _ _ _ _ _ _ us hl => match us, hl with | [_], _ => rfl,
    a__law_tape := He.fAd K ("_law_tape", none),
    fd__law_tape := fd61,
    g__law_tape := He.glo_ok X G (c.d.fact 63 rfl),
    F__law_tape := F61,
    b__law_tape := F61.binds (ps := ["script"]) fun _ _ _ _ _ _ us hl => match us, hl with | [_], _ => rfl,
    a__law_pick := He.fAd K ("_law_pick", none),
    fd__law_pick := fd62,
    g__law_pick := He.glo_ok X G (c.d.fact 64 rfl),
    F__law_pick := F62,
    b__law_pick := F62.binds (ps := ["tape", "size"]) fun _ _ _ _ _ _ us hl => match us, hl with | [_, _], _ => rfl,
    a__law_size := He.fAd K ("_law_size", none),
    fd__law_size := fd63,
    g__law_size := He.glo_ok X G (c.d.fact 65 rfl),
    F__law_size := F63,
    b__law_size := F63.binds (ps := ["tape", "count"]) fun _ _ _ _ _ _ us hl => match us, hl with | [_, _], _ => rfl,
    a__law_same := He.fAd K ("_law_same", none),
    fd__law_same := fd64,
    g__law_same := He.glo_ok X G (c.d.fact 66 rfl),
    F__law_same := F64,
    b__law_same := F64.binds (ps := ["actual", "due"]) fun _ _ _ _ _ _ us hl => match us, hl with | [_, _], _ => rfl,
    a_House__init := He.fAd K ("House", some "__init__"),
    fd_House__init := fd65,
    F_House__init := FD65,
    b_House__init := db65,
    bd_House__init := de65,
    bv_House__init := dve65,
    b1_House__init := dbe65,
    kg_House__init := _,
    kb_House__init := dbk65,
    a_House__tell_letter := He.fAd K ("House", some "tell_letter"),
    fd_House__tell_letter := fd66,
    F_House__tell_letter := F66,
    b_House__tell_letter := F66.binds (ps := ["self"]) fun _ _ _ _ _ _ us hl => match us, hl with | [_], _ => rfl,
    a_House__ask_letter := He.fAd K ("House", some "ask_letter"),
    fd_House__ask_letter := fd67,
    F_House__ask_letter := F67,
    b_House__ask_letter := F67.binds (ps := ["self"]) fun _ _ _ _ _ _ us hl => match us, hl with | [_], _ => rfl,
    a_House__answer_to := He.fAd K ("House", some "_answer_to"),
    fd_House__answer_to := fd68,
    F_House__answer_to := F68,
    b_House__answer_to := F68.binds (ps := ["self", "sender"]) fun _ _ _ _ _ _ us hl => match us, hl with | [_, _], _ => rfl,
    a_House__hear_tell := He.fAd K ("House", some "_hear_tell"),
    fd_House__hear_tell := fd69,
    F_House__hear_tell := F69,
    b_House__hear_tell := F69.binds (ps := ["self", "sender"]) fun _ _ _ _ _ _ us hl => match us, hl with | [_, _], _ => rfl,
    a_House__hear_answer := He.fAd K ("House", some "_hear_answer"),
    fd_House__hear_answer := fd70,
    F_House__hear_answer := F70,
    b_House__hear_answer := F70.binds (ps := ["self", "sender", "named"]) fun _ _ _ _ _ _ us hl => match us, hl with | [_, _, _], _ => rfl,
    a_House__hear := He.fAd K ("House", some "hear"),
    fd_House__hear := fd71,
    F_House__hear := F71,
    b_House__hear := F71.binds (ps := ["self", "letter"]) fun _ _ _ _ _ _ us hl => match us, hl with | [_, _], _ => rfl,
    a_Net__houses := He.fAd K ("Net", some "houses"),
    fd_Net__houses := fd72,
    F_Net__houses := F72,
    b_Net__houses := F72.binds (ps := ["self"]) fun _ _ _ _ _ _ us hl => match us, hl with | [_], _ => rfl,
    a_Net__check_house := He.fAd K ("Net", some "check_house"),
    fd_Net__check_house := fd73,
    F_Net__check_house := F73,
    b_Net__check_house := F73.binds (ps := ["self", "place"]) fun _ _ _ _ _ _ us hl => match us, hl with | [_, _], _ => rfl,
    a_Net__check_letter := He.fAd K ("Net", some "_check_letter"),
    fd_Net__check_letter := fd74,
    F_Net__check_letter := F74,
    b_Net__check_letter := F74.binds (ps := ["self", "at"]) fun _ _ _ _ _ _ us hl => match us, hl with | [_, _], _ => rfl,
    a_Net__house_at := He.fAd K ("Net", some "_house_at"),
    fd_Net__house_at := fd75,
    F_Net__house_at := F75,
    b_Net__house_at := F75.binds (ps := ["self", "place"]) fun _ _ _ _ _ _ us hl => match us, hl with | [_, _], _ => rfl,
    a_Net__send := He.fAd K ("Net", some "_send"),
    fd_Net__send := fd76,
    F_Net__send := F76,
    b_Net__send := F76.binds (ps := ["self", "letter"]) fun _ _ _ _ _ _ us hl => match us, hl with | [_, _], _ => rfl,
    a_Net__letters := He.fAd K ("Net", some "letters"),
    fd_Net__letters := fd77,
    F_Net__letters := F77,
    b_Net__letters := F77.binds (ps := ["self"]) fun _ _ _ _ _ _ us hl => match us, hl with | [_], _ => rfl,
    a_Net__nexts := He.fAd K ("Net", some "nexts"),
    fd_Net__nexts := fd78,
    F_Net__nexts := F78,
    b_Net__nexts := F78.binds (ps := ["self"]) fun _ _ _ _ _ _ us hl => match us, hl with | [_], _ => rfl,
    a_Net__befores := He.fAd K ("Net", some "befores"),
    fd_Net__befores := fd79,
    F_Net__befores := F79,
    b_Net__befores := F79.binds (ps := ["self"]) fun _ _ _ _ _ _ us hl => match us, hl with | [_], _ => rfl,
    a_Net__check_letters := He.fAd K ("Net", some "_check_letters"),
    fd_Net__check_letters := fd80,
    F_Net__check_letters := F80,
    b_Net__check_letters := F80.binds (ps := ["self"]) fun _ _ _ _ _ _ us hl => match us, hl with | [_], _ => rfl,
    a_Net__check_places := He.fAd K ("Net", some "_check_places"),
    fd_Net__check_places := fd81,
    F_Net__check_places := F81,
    b_Net__check_places := F81.binds (ps := ["self"]) fun _ _ _ _ _ _ us hl => match us, hl with | [_], _ => rfl,
    a_Net__take_befores := He.fAd K ("Net", some "_take_befores"),
    fd_Net__take_befores := fd82,
    F_Net__take_befores := F82,
    b_Net__take_befores := F82.binds (ps := ["self", "befores"]) fun _ _ _ _ _ _ us hl => match us, hl with | [_, _], _ => rfl,
    a_Net__init := He.fAd K ("Net", some "__init__"),
    fd_Net__init := fd83,
    F_Net__init := FD83,
    kg_Net__init := _,
    kb_Net__init := dbk83,
    bd_Net__init := de83,
    bv_Net__init := dve83,
    b1_Net__init := dbe83,
    a__law_places := He.fAd K ("_law_places", none),
    fd__law_places := fd84,
    g__law_places := He.glo_ok X G (c.d.fact 67 rfl),
    F__law_places := F84,
    b__law_places := F84.binds (ps := ["tape", "size", "count"]) fun _ _ _ _ _ _ us hl => match us, hl with | [_, _, _], _ => rfl,
    C_Walk := He.ga K "Walk",
    mc_Walk := He.glo_ok X G (c.d.fact 68 rfl),
    cl_Walk := He.cls_ok (c.d.fact 69 rfl),
    na_Walk_size := He.noat_ok (c.d.fact 70 rfl),
    na_Walk_places := He.noat_ok (c.d.fact 71 rfl),
    mk_Walk := He.mkr_ok (c.d.fact 72 rfl),
    me_Walk__steps := He.meth_ok (c.d.fact 73 rfl),
    me_Walk__is_closed := He.meth_ok (c.d.fact 74 rfl),
    me_Walk__total := He.meth_ok (c.d.fact 75 rfl),
    me_Walk__turns := He.meth_ok (c.d.fact 76 rfl),
    C_House := He.ga K "House",
    mc_House := He.glo_ok X G (c.d.fact 77 rfl),
    cl_House := He.cls_ok (c.d.fact 78 rfl),
    na_House_size := He.noat_ok (c.d.fact 79 rfl),
    na_House_place := He.noat_ok (c.d.fact 80 rfl),
    na_House_next_house := He.noat_ok (c.d.fact 81 rfl),
    na_House_before := He.noat_ok (c.d.fact 82 rfl),
    mk_House := He.mkr_ok (c.d.fact 83 rfl),
    me_House__tell_letter := He.meth_ok (c.d.fact 84 rfl),
    me_House__ask_letter := He.meth_ok (c.d.fact 85 rfl),
    me_House__answer_to := He.meth_ok (c.d.fact 86 rfl),
    me_House__hear_tell := He.meth_ok (c.d.fact 87 rfl),
    me_House__hear_answer := He.meth_ok (c.d.fact 88 rfl),
    me_House__hear := He.meth_ok (c.d.fact 89 rfl),
    C_Net := He.ga K "Net",
    mc_Net := He.glo_ok X G (c.d.fact 90 rfl),
    cl_Net := He.cls_ok (c.d.fact 91 rfl),
    na_Net_size := He.noat_ok (c.d.fact 92 rfl),
    na_Net__nexts := He.noat_ok (c.d.fact 93 rfl),
    na_Net__befores := He.noat_ok (c.d.fact 94 rfl),
    na_Net__letters := He.noat_ok (c.d.fact 95 rfl),
    me_Net__next_of := He.meth_ok (c.d.fact 96 rfl),
    me_Net__hold := He.meth_ok (c.d.fact 97 rfl),
    me_Net__set_before := He.meth_ok (c.d.fact 98 rfl),
    me_Net__tell := He.meth_ok (c.d.fact 99 rfl),
    me_Net__ask := He.meth_ok (c.d.fact 100 rfl),
    me_Net__repeat := He.meth_ok (c.d.fact 101 rfl),
    me_Net__lose := He.meth_ok (c.d.fact 102 rfl),
    me_Net__read := He.meth_ok (c.d.fact 103 rfl),
    me_Net__houses := He.meth_ok (c.d.fact 104 rfl),
    me_Net__check_house := He.meth_ok (c.d.fact 105 rfl),
    me_Net__check_letter := He.meth_ok (c.d.fact 106 rfl),
    me_Net__house_at := He.meth_ok (c.d.fact 107 rfl),
    me_Net__send := He.meth_ok (c.d.fact 108 rfl),
    me_Net__letters := He.meth_ok (c.d.fact 109 rfl),
    me_Net__nexts := He.meth_ok (c.d.fact 110 rfl),
    me_Net__befores := He.meth_ok (c.d.fact 111 rfl),
    me_Net__check_letters := He.meth_ok (c.d.fact 112 rfl),
    me_Net__check_places := He.meth_ok (c.d.fact 113 rfl),
    me_Net__take_befores := He.meth_ok (c.d.fact 114 rfl),
    mk_Net := He.mkr_ok (c.d.fact 115 rfl),
    C_OffCircle := He.ga K "OffCircle",
    mc_OffCircle := He.glo_ok X G (c.d.fact 116 rfl),
    C_OpenWalk := He.ga K "OpenWalk",
    mc_OpenWalk := He.glo_ok X G (c.d.fact 117 rfl),
    C_UntrueNet := He.ga K "UntrueNet",
    mc_UntrueNet := He.glo_ok X G (c.d.fact 118 rfl),
    C_NoHouse := He.ga K "NoHouse",
    mc_NoHouse := He.glo_ok X G (c.d.fact 119 rfl),
    C_NoLetter := He.ga K "NoLetter",
    mc_NoLetter := He.glo_ok X G (c.d.fact 120 rfl),
    cd_nearest_ahead := code_of (p := ("nearest_ahead", none)) F4,
    lt_nearest_ahead := lt_of (c.exf 0 rfl),
    cd_mark_row := code_of (p := ("mark_row", none)) F34,
    lt_mark_row := lt_of (c.exf 1 rfl) }
  refine ⟨fd60, fun s v => b s [v] rfl, fun base _ _ TB => ?_⟩
  haveI : LamT K mg base := ⟨TB (He.cT K ("nearest_ahead", none)) (by simp [lamTf]), TB (He.cT K ("mark_row", none)) (by simp [lamTf])⟩
  exact T.ok_law
theorem lt_nil {K : PySem.W.Frag} {H : Hp} (h : ∀ p ∈ lamTf.map (He.cT K), H p.2 = some (.tbl #[])) : LamX.Tabs (LT K) H := by
  intro p hp
  unfold LT at hp
  simp only [List.mem_cons, List.not_mem_nil, or_false] at hp
  rcases hp with rfl | rfl
  · exact LamX.TabS.nil (h (He.cT K ("nearest_ahead", none)) (by simp [lamTf]))
  · exact LamX.TabS.nil (h (He.cT K ("mark_row", none)) (by simp [lamTf]))
end Z
open PySem PySem.W PySem.Calls PyProof.Rows
set_option maxHeartbeats 0 in
theorem PySem.Challenge.cw_ringlaps_k21_plain_exactly_holds : PySem.Challenge.rw_ringlaps_k21_plain_exactly.Holds := by
  w_on; o_law
  refine HandSHeadRun.head_any (r := OpenLaw.row PySem.Challenge.rw_ringlaps_k21_plain_exactly) (q := view (OpenLaw.row PySem.Challenge.rw_ringlaps_k21_plain_exactly).prog [74]) (H := Z.heK) (ob := Z.heOb) (M := 30000) (loose := Z.heLoose) (d := HandSHeadRun.topDef (OpenLaw.row PySem.Challenge.rw_ringlaps_k21_plain_exactly).prog 74) (kwd := []) Z.heOb_eq
    (by kernel_rfl) (fun s => by kernel_rfl) Z.heRun (by kernel_rfl) (by kernel_rfl) (by kernel_rfl) (by rfl) (by first | assumption | decide +kernel) (by decide +kernel) ⟨rfl, rfl, rfl, rfl, rfl, by decide +kernel⟩ ?hw ?hc
  case hw => w_witness2
  case hc =>
    refine LamX.walk_ofTsE (l := PySem.Challenge.rw_ringlaps_k21_plain_exactly) (n := 63) (k := 13) (x := "script") (CX := fun _ => L2.CX0) rfl (by decide) (by kernel_rfl) ⟨rfl, by decide, by decide⟩ ?F (fun _ _ _ _ _ z => z)
    intro w mg fa h Y G hmg0
    obtain ⟨K, KX, c⟩ := Y
    have hmg : mg ("law" : PySem.Str) = some (.ref fa) := by
      have e : (HandSHeadRun.topDef (OpenLaw.row PySem.Challenge.rw_ringlaps_k21_plain_exactly).prog 74).name = ("law" : PySem.Str) := by kernel_rfl
      rw [← e]
      exact hmg0
    obtain ⟨fd, hb, hF⟩ := Z.heFacts (P := (PySem.Challenge.rw_ringlaps_k21_plain_exactly).prog) (w := w) KX G hmg c.s
    refine ⟨K, KX, fd, Z.lamTf.map (He.cT K), Z.sp_law K, fun p hp => ?_, fun p hp => ?_, fun p hp => ?_, hb, fun H a ns hl _ hT hS => ⟨a, ns, rfl, hS, hl, Z.lt_nil hT, fun _ => rfl⟩, hF⟩
    · obtain ⟨d, hd, rfl⟩ := List.mem_map.mp hp
      exact c.empty d hd
    · obtain ⟨d, hd, rfl⟩ := List.mem_map.mp hp
      exact c.out d hd
    · obtain ⟨d, hd, rfl⟩ := List.mem_map.mp hp
      exact PySem.W.codeHd_of_K KX (c.hd d hd)
#print axioms PySem.Challenge.cw_ringlaps_k21_plain_exactly_holds
