import PyProof.Rows.All
import Wide.All
import OpenK.AllK
import Wide.FinOn
import PySem.Challenge.RW_ringlaps_k32_answer_walks
import HandS.ForMost
import HandS.Star
import HandS.Defaults
import HandS.MakeKw
import HandS.Style
import HandS.Zip0
import HandS.Zip
import KE.KDictZip
import HandS.Steps
import HandS.ListItems
import HandS.Codes
import HandS.Conv
import HandS.Dict
import HandS.DictComp
import HandS.More
import HandS.Small
import HandS.MakeKwOnly
import HandS.ForDict
import HandS.Walk
import HandS.Wide
import HandS.Flow
import HandS.IsInst
import HandS.Sort
import HandS.SortKw
import HandS.Iter
import KE.KEqSeq
import KE.KUnpackStar
import KE.KDictSum
import HandS.ExcInit
import HandS.ExcInitHot
import HandS.ExcCtx
import HandS.HotCalls
import HandS.ExcOwn
import HandS.SetFor
import KE.KSortTupAny
import HandS.SetBool
import HandS.Strs
import HandS.SortOrd
import HandS.ExcValue
import KE.KExcIs
import HandS.SetKeys
import HandS.Head0
import HandS.Head1
import HandS.Head2
import HandS.HeadEnd
import HandS.HeadHook1
import HandS.HeadHook2
set_option Elab.async false
set_option linter.all false
set_option maxRecDepth 100000
set_option maxHeartbeats 4000000
namespace Z
open PySem PySem.Spec PyProof.Rows L2
def topS (i : Nat) : Stmt := PySem.Challenge.pw_ringlaps_k32_answer_walks.main.body.getD i (.Pass ⟨0, 0, 0, 0⟩)
abbrev s__law_nexts : Stmt := topS 61
theorem sc__law_nexts : FnScope ["tape", "places", "nexts", "count", "first", "last", "ring", "at"] ["tape", "places"] (defScope s__law_nexts) := ⟨rfl, rfl, rfl, by decide +kernel, rfl, by decide +kernel, by decide +kernel⟩
abbrev s_Net__next_of : Stmt := inClass (topS 55) 5
theorem sc_Net__next_of : FnScope ["self", "house"] ["self", "house"] (defScope s_Net__next_of) := ⟨rfl, rfl, rfl, by decide +kernel, rfl, by decide +kernel, by decide +kernel⟩
abbrev s_Net__hold : Stmt := inClass (topS 55) 15
theorem sc_Net__hold : FnScope ["self", "house", "target", "old"] ["self", "house", "target"] (defScope s_Net__hold) := ⟨rfl, rfl, rfl, by decide +kernel, rfl, by decide +kernel, by decide +kernel⟩
abbrev s_Net__set_before : Stmt := inClass (topS 55) 16
theorem sc_Net__set_before : FnScope ["self", "house", "before"] ["self", "house", "before"] (defScope s_Net__set_before) := ⟨rfl, rfl, rfl, by decide +kernel, rfl, by decide +kernel, by decide +kernel⟩
abbrev s_Net__snapshot : Stmt := inClass (topS 55) 7
theorem sc_Net__snapshot : FnScope ["self", "rows", "house"] ["self"] (defScope s_Net__snapshot) := ⟨rfl, rfl, rfl, by decide +kernel, rfl, by decide +kernel, by decide +kernel⟩
abbrev s_Net__admit : Stmt := inClass (topS 55) 14
theorem sc_Net__admit : FnScope ["self", "place", "host"] ["self", "place", "host"] (defScope s_Net__admit) := ⟨rfl, rfl, rfl, by decide +kernel, rfl, by decide +kernel, by decide +kernel⟩
abbrev s_Net__check_free : Stmt := inClass (topS 55) 19
theorem sc_Net__check_free : FnScope ["self", "place"] ["self", "place"] (defScope s_Net__check_free) := ⟨rfl, rfl, rfl, by decide +kernel, rfl, by decide +kernel, by decide +kernel⟩
abbrev s_Net__clone : Stmt := inClass (topS 55) 8
theorem sc_Net__clone : FnScope ["self"] ["self"] (defScope s_Net__clone) := ⟨rfl, rfl, rfl, by decide +kernel, rfl, by decide +kernel, by decide +kernel⟩
abbrev s_Net__tell : Stmt := inClass (topS 55) 9
theorem sc_Net__tell : FnScope ["self", "house"] ["self", "house"] (defScope s_Net__tell) := ⟨rfl, rfl, rfl, by decide +kernel, rfl, by decide +kernel, by decide +kernel⟩
abbrev s_Net__ask : Stmt := inClass (topS 55) 10
theorem sc_Net__ask : FnScope ["self", "house"] ["self", "house"] (defScope s_Net__ask) := ⟨rfl, rfl, rfl, by decide +kernel, rfl, by decide +kernel, by decide +kernel⟩
abbrev s_Net__repeat : Stmt := inClass (topS 55) 13
theorem sc_Net__repeat : FnScope ["self", "at"] ["self", "at"] (defScope s_Net__repeat) := ⟨rfl, rfl, rfl, by decide +kernel, rfl, by decide +kernel, by decide +kernel⟩
abbrev s_Net__lose : Stmt := inClass (topS 55) 12
theorem sc_Net__lose : FnScope ["self", "at"] ["self", "at"] (defScope s_Net__lose) := ⟨rfl, rfl, rfl, by decide +kernel, rfl, by decide +kernel, by decide +kernel⟩
abbrev s_Net__read : Stmt := inClass (topS 55) 11
theorem sc_Net__read : FnScope ["self", "at", "letter", "reader", "house", "answer"] ["self", "at"] (defScope s_Net__read) := ⟨rfl, rfl, rfl, by decide +kernel, rfl, by decide +kernel, by decide +kernel⟩
abbrev s__lengths_from : Stmt := topS 27
theorem sc__lengths_from : FnScope ["net", "start", "lengths", "house", "length", "following"] ["net", "start"] (defScope s__lengths_from) := ⟨rfl, rfl, rfl, by decide +kernel, rfl, by decide +kernel, by decide +kernel⟩
abbrev s_house_at : Stmt := topS 21
theorem sc_house_at : FnScope ["net", "start", "distance", "lengths", "last", "gate", "lap", "skipped", "house", "length"] ["net", "start", "distance"] (defScope s_house_at) := ⟨rfl, rfl, rfl, by decide +kernel, rfl, by decide +kernel, by decide +kernel⟩
abbrev s_answer : Stmt := topS 48
theorem sc_answer : FnScope ["net", "house", "key"] ["net", "house", "key"] (defScope s_answer) := ⟨rfl, rfl, rfl, by decide +kernel, rfl, by decide +kernel, by decide +kernel⟩
abbrev s_ring_answers : Stmt := topS 49
theorem sc_ring_answers : FnScope ["net", "house", "key", "other"] ["net", "house", "key"] (defScope s_ring_answers) := ⟨rfl, rfl, rfl, by decide +kernel, rfl, by decide +kernel, by decide +kernel⟩
abbrev s_told_answer : Stmt := topS 50
theorem sc_told_answer : FnScope ["net", "house", "key", "turns", "row", "marks", "start", "ahead", "wanted", "length", "found", "mark", "other", "pair"] ["net", "house", "key"] (defScope s_told_answer) := ⟨rfl, rfl, rfl, by decide +kernel, rfl, by decide +kernel, by decide +kernel⟩
abbrev s__check_key : Stmt := topS 51
theorem sc__check_key : FnScope ["net", "house", "key"] ["net", "house", "key"] (defScope s__check_key) := ⟨rfl, rfl, rfl, by decide +kernel, rfl, by decide +kernel, by decide +kernel⟩
abbrev s__law_stranger : Stmt := topS 67
theorem sc__law_stranger : FnScope ["tape", "size", "nexts", "place", "k"] ["tape", "size", "nexts"] (defScope s__law_stranger) := ⟨rfl, rfl, rfl, by decide +kernel, rfl, by decide +kernel, by decide +kernel⟩
abbrev s__law_far : Stmt := topS 62
theorem sc__law_far : FnScope ["size", "start", "end", "steps"] ["size", "start", "end"] (defScope s__law_far) := ⟨rfl, rfl, rfl, by decide +kernel, rfl, by decide +kernel, by decide +kernel⟩
abbrev s__law_between : Stmt := topS 63
theorem sc__law_between : FnScope ["size", "start", "place", "end"] ["size", "start", "place", "end"] (defScope s__law_between) := ⟨rfl, rfl, rfl, by decide +kernel, rfl, by decide +kernel, by decide +kernel⟩
abbrev s__law_read : Stmt := topS 64
theorem sc__law_read : FnScope ["size", "nexts", "behinds", "post", "at", "letter", "reader", "sender", "before"] ["size", "nexts", "behinds", "post", "at"] (defScope s__law_read) := ⟨rfl, rfl, rfl, by decide +kernel, rfl, by decide +kernel, by decide +kernel⟩
abbrev s__law_deed : Stmt := topS 66
theorem sc__law_deed : FnScope ["tape", "net", "size", "nexts", "behinds", "post", "houses", "house", "kind", "at"] ["tape", "net", "size", "nexts", "behinds", "post"] (defScope s__law_deed) := ⟨rfl, rfl, rfl, by decide +kernel, rfl, by decide +kernel, by decide +kernel⟩
abbrev s__law_snapshot : Stmt := topS 68
theorem sc__law_snapshot : FnScope ["size", "nexts", "behinds", "post", "rows", "one"] ["size", "nexts", "behinds", "post"] (defScope s__law_snapshot) := ⟨rfl, rfl, rfl, by decide +kernel, rfl, by decide +kernel, by decide +kernel⟩
abbrev s__law_answer : Stmt := topS 69
theorem sc__law_answer : FnScope ["size", "nexts", "house", "key", "wanted", "at", "length", "k"] ["size", "nexts", "house", "key"] (defScope s__law_answer) := ⟨rfl, rfl, rfl, by decide +kernel, rfl, by decide +kernel, by decide +kernel⟩
abbrev s__law_questions : Stmt := topS 70
theorem sc__law_questions : FnScope ["tape", "size", "places", "questions", "k", "house", "near", "key"] ["tape", "size", "places"] (defScope s__law_questions) := ⟨rfl, rfl, rfl, by decide +kernel, rfl, by decide +kernel, by decide +kernel⟩
abbrev s__law_asked : Stmt := topS 71
theorem sc__law_asked : FnScope ["net", "size", "nexts", "questions", "question", "due"] ["net", "size", "nexts", "questions"] (defScope s__law_asked) := ⟨rfl, rfl, rfl, by decide +kernel, rfl, by decide +kernel, by decide +kernel⟩
abbrev s__law_look_up : Stmt := topS 72
theorem sc__law_look_up : FnScope ["kind", "net", "house", "key"] ["kind", "net", "house", "key"] (defScope s__law_look_up) := ⟨rfl, rfl, rfl, by decide +kernel, rfl, by decide +kernel, by decide +kernel⟩
abbrev s__law_no_house : Stmt := topS 73
theorem sc__law_no_house : FnScope ["kind", "net", "house", "key", "e"] ["kind", "net", "house", "key"] (defScope s__law_no_house) := ⟨rfl, rfl, rfl, by decide +kernel, rfl, by decide +kernel, by decide +kernel⟩
abbrev s__law_off_circle : Stmt := topS 74
theorem sc__law_off_circle : FnScope ["kind", "net", "house", "key", "e"] ["kind", "net", "house", "key"] (defScope s__law_off_circle) := ⟨rfl, rfl, rfl, by decide +kernel, rfl, by decide +kernel, by decide +kernel⟩
abbrev s__law_refused : Stmt := topS 75
theorem sc__law_refused : FnScope ["tape", "net", "size", "places", "stranger", "house", "good", "key", "kind", "hollow"] ["tape", "net", "size", "places", "stranger"] (defScope s__law_refused) := ⟨rfl, rfl, rfl, by decide +kernel, rfl, by decide +kernel, by decide +kernel⟩
abbrev s__law_behinds : Stmt := topS 76
theorem sc__law_behinds : FnScope ["tape", "net", "places", "behinds", "house"] ["tape", "net", "places", "behinds"] (defScope s__law_behinds) := ⟨rfl, rfl, rfl, by decide +kernel, rfl, by decide +kernel, by decide +kernel⟩
abbrev s_law : Stmt := topS 77
theorem sc_law : FnScope ["script", "tape", "count", "size", "places", "nexts", "behinds", "post", "net", "stranger", "questions", "twin", "table", "elder", "k", "house"] ["script"] (defScope s_law) := ⟨rfl, rfl, rfl, by decide +kernel, rfl, by decide +kernel, by decide +kernel⟩
abbrev s_check_on_circle : Stmt := topS 13
theorem sc_check_on_circle : FnScope ["size", "place"] ["size", "place"] (defScope s_check_on_circle) := ⟨rfl, rfl, rfl, by decide +kernel, rfl, by decide +kernel, by decide +kernel⟩
abbrev s__law_tape : Stmt := topS 57
theorem sc__law_tape : FnScope ["script", "cells", "cell"] ["script"] (defScope s__law_tape) := ⟨rfl, rfl, rfl, by decide +kernel, rfl, by decide +kernel, by decide +kernel⟩
abbrev s__law_pick : Stmt := topS 58
theorem sc__law_pick : FnScope ["tape", "size", "cells", "cell", "k", "number", "used", "mixed"] ["tape", "size"] (defScope s__law_pick) := ⟨rfl, rfl, rfl, by decide +kernel, rfl, by decide +kernel, by decide +kernel⟩
abbrev s__law_size : Stmt := topS 59
theorem sc__law_size : FnScope ["tape", "count", "kind", "least"] ["tape", "count"] (defScope s__law_size) := ⟨rfl, rfl, rfl, by decide +kernel, rfl, by decide +kernel, by decide +kernel⟩
abbrev s__law_same : Stmt := topS 65
theorem sc__law_same : FnScope ["actual", "due", "k"] ["actual", "due"] (defScope s__law_same) := ⟨rfl, rfl, rfl, by decide +kernel, rfl, by decide +kernel, by decide +kernel⟩
abbrev s_far : Stmt := topS 11
theorem sc_far : FnScope ["size", "start", "end"] ["size", "start", "end"] (defScope s_far) := ⟨rfl, rfl, rfl, by decide +kernel, rfl, by decide +kernel, by decide +kernel⟩
abbrev s_between : Stmt := topS 12
theorem sc_between : FnScope ["size", "start", "place", "end"] ["size", "start", "place", "end"] (defScope s_between) := ⟨rfl, rfl, rfl, by decide +kernel, rfl, by decide +kernel, by decide +kernel⟩
abbrev s_House__init : Stmt := inClass (topS 53) 0
theorem sc_House__init : FnScope ["self", "size", "place", "next_house", "before"] ["self", "size", "place", "next_house", "before"] (defScope s_House__init) := ⟨rfl, rfl, rfl, by decide +kernel, rfl, by decide +kernel, by decide +kernel⟩
abbrev s_House__tell_letter : Stmt := inClass (topS 53) 1
theorem sc_House__tell_letter : FnScope ["self"] ["self"] (defScope s_House__tell_letter) := ⟨rfl, rfl, rfl, by decide +kernel, rfl, by decide +kernel, by decide +kernel⟩
abbrev s_House__ask_letter : Stmt := inClass (topS 53) 2
theorem sc_House__ask_letter : FnScope ["self"] ["self"] (defScope s_House__ask_letter) := ⟨rfl, rfl, rfl, by decide +kernel, rfl, by decide +kernel, by decide +kernel⟩
abbrev s_House__answer_to : Stmt := inClass (topS 53) 4
theorem sc_House__answer_to : FnScope ["self", "sender"] ["self", "sender"] (defScope s_House__answer_to) := ⟨rfl, rfl, rfl, by decide +kernel, rfl, by decide +kernel, by decide +kernel⟩
abbrev s_House__hear_tell : Stmt := inClass (topS 53) 5
theorem sc_House__hear_tell : FnScope ["self", "sender"] ["self", "sender"] (defScope s_House__hear_tell) := ⟨rfl, rfl, rfl, by decide +kernel, rfl, by decide +kernel, by decide +kernel⟩
abbrev s_House__hear_answer : Stmt := inClass (topS 53) 6
theorem sc_House__hear_answer : FnScope ["self", "sender", "named"] ["self", "sender", "named"] (defScope s_House__hear_answer) := ⟨rfl, rfl, rfl, by decide +kernel, rfl, by decide +kernel, by decide +kernel⟩
abbrev s_House__hear : Stmt := inClass (topS 53) 3
theorem sc_House__hear : FnScope ["self", "letter", "word", "sender"] ["self", "letter"] (defScope s_House__hear) := ⟨rfl, rfl, rfl, by decide +kernel, rfl, by decide +kernel, by decide +kernel⟩
abbrev s_Net__houses : Stmt := inClass (topS 55) 1
theorem sc_Net__houses : FnScope ["self"] ["self"] (defScope s_Net__houses) := ⟨rfl, rfl, rfl, by decide +kernel, rfl, by decide +kernel, by decide +kernel⟩
abbrev s_Net__check_house : Stmt := inClass (topS 55) 18
theorem sc_Net__check_house : FnScope ["self", "place"] ["self", "place"] (defScope s_Net__check_house) := ⟨rfl, rfl, rfl, by decide +kernel, rfl, by decide +kernel, by decide +kernel⟩
abbrev s_Net__check_letter : Stmt := inClass (topS 55) 23
theorem sc_Net__check_letter : FnScope ["self", "at"] ["self", "at"] (defScope s_Net__check_letter) := ⟨rfl, rfl, rfl, by decide +kernel, rfl, by decide +kernel, by decide +kernel⟩
abbrev s_Net__house_at : Stmt := inClass (topS 55) 21
theorem sc_Net__house_at : FnScope ["self", "place"] ["self", "place"] (defScope s_Net__house_at) := ⟨rfl, rfl, rfl, by decide +kernel, rfl, by decide +kernel, by decide +kernel⟩
abbrev s_Net__send : Stmt := inClass (topS 55) 22
theorem sc_Net__send : FnScope ["self", "letter"] ["self", "letter"] (defScope s_Net__send) := ⟨rfl, rfl, rfl, by decide +kernel, rfl, by decide +kernel, by decide +kernel⟩
abbrev s_Net__letters : Stmt := inClass (topS 55) 4
theorem sc_Net__letters : FnScope ["self"] ["self"] (defScope s_Net__letters) := ⟨rfl, rfl, rfl, by decide +kernel, rfl, by decide +kernel, by decide +kernel⟩
abbrev s_Net__nexts : Stmt := inClass (topS 55) 2
theorem sc_Net__nexts : FnScope ["self", "house"] ["self"] (defScope s_Net__nexts) := ⟨rfl, rfl, rfl, by decide +kernel, rfl, by decide +kernel, by decide +kernel⟩
abbrev s_Net__befores : Stmt := inClass (topS 55) 3
theorem sc_Net__befores : FnScope ["self", "befores", "house"] ["self"] (defScope s_Net__befores) := ⟨rfl, rfl, rfl, by decide +kernel, rfl, by decide +kernel, by decide +kernel⟩
abbrev s_Net__check_letters : Stmt := inClass (topS 55) 26
theorem sc_Net__check_letters : FnScope ["self", "letter", "place"] ["self"] (defScope s_Net__check_letters) := ⟨rfl, rfl, rfl, by decide +kernel, rfl, by decide +kernel, by decide +kernel⟩
abbrev s_Net__check_places : Stmt := inClass (topS 55) 24
theorem sc_Net__check_places : FnScope ["self", "house"] ["self"] (defScope s_Net__check_places) := ⟨rfl, rfl, rfl, by decide +kernel, rfl, by decide +kernel, by decide +kernel⟩
abbrev s_Net__take_befores : Stmt := inClass (topS 55) 25
theorem sc_Net__take_befores : FnScope ["self", "befores", "house"] ["self", "befores"] (defScope s_Net__take_befores) := ⟨rfl, rfl, rfl, by decide +kernel, rfl, by decide +kernel, by decide +kernel⟩
abbrev s_Net__init : Stmt := inClass (topS 55) 0
theorem sc_Net__init : FnScope ["self", "size", "nexts", "befores", "letters", "house"] ["self", "size", "nexts", "befores", "letters"] (defScope s_Net__init) := ⟨rfl, rfl, rfl, by decide +kernel, rfl, by decide +kernel, by decide +kernel⟩
abbrev s_NoHouse__init : Stmt := inClass (topS 4) 0
theorem sc_NoHouse__init : FnScope ["self", "place"] ["self", "place"] (defScope s_NoHouse__init) := ⟨rfl, rfl, rfl, by decide +kernel, rfl, by decide +kernel, by decide +kernel⟩
abbrev s_OffCircle__init : Stmt := inClass (topS 3) 0
theorem sc_OffCircle__init : FnScope ["self", "place"] ["self", "place"] (defScope s_OffCircle__init) := ⟨rfl, rfl, rfl, by decide +kernel, rfl, by decide +kernel, by decide +kernel⟩
abbrev s__pairs_said_by : Stmt := topS 34
theorem sc__pairs_said_by : FnScope ["letter", "word", "reader", "sender", "named"] ["letter"] (defScope s__pairs_said_by) := ⟨rfl, rfl, rfl, by decide +kernel, rfl, by decide +kernel, by decide +kernel⟩
abbrev s_sayings : Stmt := topS 30
theorem sc_sayings : FnScope ["net", "pairs", "letter", "start", "end", "house", "before"] ["net"] (defScope s_sayings) := ⟨rfl, rfl, rfl, by decide +kernel, rfl, by decide +kernel, by decide +kernel⟩
abbrev s__law_places : Stmt := topS 60
theorem sc__law_places : FnScope ["tape", "size", "count", "places", "k", "place", "other"] ["tape", "size", "count"] (defScope s__law_places) := ⟨rfl, rfl, rfl, by decide +kernel, rfl, by decide +kernel, by decide +kernel⟩
abbrev s_way_length : Stmt := topS 20
theorem sc_way_length : FnScope ["net", "start", "end", "lengths"] ["net", "start", "end"] (defScope s_way_length) := ⟨rfl, rfl, rfl, by decide +kernel, rfl, by decide +kernel, by decide +kernel⟩
/-! ### what the top has left, read off by names -/
theorem fun_of {K : PySem.W.Frag} {x qual : Str} {st : Stmt} {f : Addr} {fd : FuncData} (F : FunD K x qual (defArgs st) (defBody st) (defScope st) [] [] f fd) : Fun K x qual st f fd := by
  obtain ⟨oc, od, dV, kV, doc, pm, an, cdv, ct, osl, e, lk, hc, hd, _⟩ := F.ex
  have e2 : dV = .none := by
    rcases hd with ⟨_, h⟩ | ⟨h, _⟩
    · exact h
    · exact absurd rfl h
  subst e2
  exact ⟨⟨oc, od, kV, doc, pm, an, cdv, ct, osl, e, lk, hc⟩, F.kp⟩
def oexB (K : PySem.W.Frag) (C : Addr) : Bool := match K.lookup C with
  | some ⟨.type T, _, .cls cd, sl⟩ => (match cd.mro, sl.toList with
    | .ref C' :: bm, [_, _, _, _, some (.builtin n), _] => decide (T = "type") && (decide (C' = C) && (decide (n = "ValueError.__new__") && (!cd.hasDel && (cd.hasDict && PySem.HandSPX.refsVE bm))))
    | _, _ => false)
  | _ => false
theorem oexB_ok {K : PySem.W.Frag} {C : Addr} (h : oexB K C = true) : ∃ nm q N bs bm sn sub ab col dd k0 k1 k2 k3 k5, K.lookup C = some (excClassObj nm q C N bs bm true sn sub ab col dd k0 k1 k2 k3 k5 "ValueError.__new__") ∧ PySem.HandSPX.refsVE bm = true := by
  unfold oexB at h
  split at h
  · rename_i T dd cd sl ho
    split at h
    · rename_i C' bm k0 k1 k2 k3 n k5 hm hs
      obtain ⟨h0, h⟩ := He.ba h
      obtain ⟨h1, h⟩ := He.ba h
      obtain ⟨h2, h⟩ := He.ba h
      obtain ⟨h3, h⟩ := He.ba h
      obtain ⟨h4, h5⟩ := He.ba h
      obtain rfl := of_decide_eq_true h0
      obtain rfl := of_decide_eq_true h1
      obtain rfl := of_decide_eq_true h2
      obtain ⟨c1, c2, c3, c4, c5, c6, c7, c8, c9, c10, c11⟩ := cd
      simp only at hm h3 h4
      subst hm
      have h3' : c11 = false := by simpa using h3
      subst h3' h4
      have es : sl = #[k0, k1, k2, k3, some (.builtin "ValueError.__new__"), k5] := by
        apply Array.toList_inj.mp
        rw [hs]
      subst es
      exact ⟨c1, c5, c4, c2, bm, c7, c8, c9, c10, dd, k0, k1, k2, k3, k5, ho, h5⟩
    · cases h
  · cases h
/-! ### what the names reach, each address once: a mask of bits -/
def bitQ (m a : Nat) : Bool := Nat.beq (Nat.land (Nat.shiftRight m a) 1) 1
def seeQ : List Addr → Nat → List Addr → (Nat → List Addr → List Addr) → List Addr
  | [], m, l, k => k m l
  | a :: r, m, l, k => HandSHeadRun.frNat a fun a => match bitQ m a with
    | true => seeQ r m l k
    | false => HandSHeadRun.frNat (Nat.lor m (Nat.shiftLeft 1 a)) fun m => seeQ r m (a :: l) k
def goQ (g : Addr → Option Obj) : List Addr → Nat → List Addr → (Nat → List Addr → List Addr) → List Addr
  | [], m, l, k => k m l
  | a :: r, m, l, k => match g a with
    | some o => seeQ (He.refsD o) m l fun m l => goQ g r m l k
    | none => goQ g r m l k
def asQ (g : Addr → Option Obj) : Nat → Nat → List Addr → List Addr
  | 0, _, f => f
  | n + 1, m, f => f ++ goQ g f m [] fun m l => asQ g n m l
abbrev heAl : Type := Bool × List He.FnW
def heObs (fa : List He.Fa) (fn : List He.DefD) (ex : PySem.W.Frag → List Bool) (K : PySem.W.Frag) : heAl := (((fa.all fun f => f.ok K) && fn.all fun d => d.ok K) && (ex K).all id, fn.map fun d => He.fnW K d.at_)
def heVal (fn : List He.DefD) : heAl := (true, fn.map He.DefD.val)
def HeSays (fa : List He.Fa) (fn : List He.DefD) (ex : PySem.W.Frag → List Bool) (K : PySem.W.Frag) : Prop := heObs fa fn ex K = heVal fn
def heObsG (n : Nat) (fa : List He.Fa) (fn : List He.DefD) (ex : PySem.W.Frag → List Bool) (g : Addr → Option Obj) : heAl := heObs fa fn ex (He.frG g (asQ g n (Nat.shiftLeft 1 mainGlobals) [mainGlobals]))
def heHook (n : Nat) (fa : List He.Fa) (fn : List He.DefD) (ex : PySem.W.Frag → List Bool) : PySem.W.Hook where
  α := heAl
  obs := fun s => heObsG n fa fn ex s.heap.get?
  val := fun _ => heVal fn
  says := fun _ h => ∃ K : PySem.W.Frag, K.In h ∧ HeSays fa fn ex K
  of := fun _ _ e => ⟨_, He.frG_in, e⟩
  keeps := fun _ _ _ ⟨K, hK, c⟩ k => ⟨K, PySem.W.Frag.In.keeps hK k, c⟩
theorem heObsG_eq {n : Nat} {fa : List He.Fa} {fn : List He.DefD} {ex : PySem.W.Frag → List Bool} {g : Addr → Option Obj} {s : Shared} (h : ∀ a, g a = s.heap.get? a) : heObsG n fa fn ex g = (heHook n fa fn ex).obs s := by
  have e : g = s.heap.get? := funext h
  rw [e] <;> rfl
section
variable {fa : List He.Fa} {fn : List He.DefD} {ex : PySem.W.Frag → List Bool} {K : PySem.W.Frag}
theorem HeSays.d (c : HeSays fa fn ex K) : He.SaysD fa fn K := by
  have c1 := (He.ba (show (((fa.all fun f => f.ok K) && fn.all fun d => d.ok K) && (ex K).all id) = true from congrArg (fun z : heAl => z.1) c)).1
  have c2 : fn.map (fun d => He.fnW K d.at_) = fn.map He.DefD.val := congrArg (fun z : heAl => z.2) c
  exact Prod.ext c1 c2
theorem HeSays.exf (c : HeSays fa fn ex K) (i : Nat) {b : Bool} (h : (ex K)[i]? = some b := by rfl) : b = true := by
  have c1 := (He.ba (show (((fa.all fun f => f.ok K) && fn.all fun d => d.ok K) && (ex K).all id) = true from congrArg (fun z : heAl => z.1) c)).2
  exact List.all_eq_true.mp c1 b (List.mem_of_getElem? h)
end
def hd__law_nexts : He.DefD := ⟨("_law_nexts", none), "_law_nexts", "_law_nexts", defArgs s__law_nexts, defBody s__law_nexts, defScope s__law_nexts, [], []⟩
def hd_Net__next_of : He.DefD := ⟨("Net", some "next_of"), "next_of", "Net.next_of", defArgs s_Net__next_of, defBody s_Net__next_of, defScope s_Net__next_of, [], []⟩
def hd_Net__hold : He.DefD := ⟨("Net", some "hold"), "hold", "Net.hold", defArgs s_Net__hold, defBody s_Net__hold, defScope s_Net__hold, [], []⟩
def hd_Net__set_before : He.DefD := ⟨("Net", some "set_before"), "set_before", "Net.set_before", defArgs s_Net__set_before, defBody s_Net__set_before, defScope s_Net__set_before, [], []⟩
def hd_Net__snapshot : He.DefD := ⟨("Net", some "snapshot"), "snapshot", "Net.snapshot", defArgs s_Net__snapshot, defBody s_Net__snapshot, defScope s_Net__snapshot, [], []⟩
def hd_Net__admit : He.DefD := ⟨("Net", some "admit"), "admit", "Net.admit", defArgs s_Net__admit, defBody s_Net__admit, defScope s_Net__admit, [], []⟩
def hd_Net__check_free : He.DefD := ⟨("Net", some "check_free"), "check_free", "Net.check_free", defArgs s_Net__check_free, defBody s_Net__check_free, defScope s_Net__check_free, [], []⟩
def hd_Net__clone : He.DefD := ⟨("Net", some "clone"), "clone", "Net.clone", defArgs s_Net__clone, defBody s_Net__clone, defScope s_Net__clone, [], []⟩
def hd_Net__tell : He.DefD := ⟨("Net", some "tell"), "tell", "Net.tell", defArgs s_Net__tell, defBody s_Net__tell, defScope s_Net__tell, [], []⟩
def hd_Net__ask : He.DefD := ⟨("Net", some "ask"), "ask", "Net.ask", defArgs s_Net__ask, defBody s_Net__ask, defScope s_Net__ask, [], []⟩
def hd_Net__repeat : He.DefD := ⟨("Net", some "repeat"), "repeat", "Net.repeat", defArgs s_Net__repeat, defBody s_Net__repeat, defScope s_Net__repeat, [], []⟩
def hd_Net__lose : He.DefD := ⟨("Net", some "lose"), "lose", "Net.lose", defArgs s_Net__lose, defBody s_Net__lose, defScope s_Net__lose, [], []⟩
def hd_Net__read : He.DefD := ⟨("Net", some "read"), "read", "Net.read", defArgs s_Net__read, defBody s_Net__read, defScope s_Net__read, [], []⟩
def hd__lengths_from : He.DefD := ⟨("_lengths_from", none), "_lengths_from", "_lengths_from", defArgs s__lengths_from, defBody s__lengths_from, defScope s__lengths_from, [], []⟩
def hd_house_at : He.DefD := ⟨("house_at", none), "house_at", "house_at", defArgs s_house_at, defBody s_house_at, defScope s_house_at, [], []⟩
def hd_answer : He.DefD := ⟨("answer", none), "answer", "answer", defArgs s_answer, defBody s_answer, defScope s_answer, [], []⟩
def hd_ring_answers : He.DefD := ⟨("ring_answers", none), "ring_answers", "ring_answers", defArgs s_ring_answers, defBody s_ring_answers, defScope s_ring_answers, [], []⟩
def hd_told_answer : He.DefD := ⟨("told_answer", none), "told_answer", "told_answer", defArgs s_told_answer, defBody s_told_answer, defScope s_told_answer, [], []⟩
def hd__check_key : He.DefD := ⟨("_check_key", none), "_check_key", "_check_key", defArgs s__check_key, defBody s__check_key, defScope s__check_key, [], []⟩
def hd__law_stranger : He.DefD := ⟨("_law_stranger", none), "_law_stranger", "_law_stranger", defArgs s__law_stranger, defBody s__law_stranger, defScope s__law_stranger, [], []⟩
def hd__law_far : He.DefD := ⟨("_law_far", none), "_law_far", "_law_far", defArgs s__law_far, defBody s__law_far, defScope s__law_far, [], []⟩
def hd__law_between : He.DefD := ⟨("_law_between", none), "_law_between", "_law_between", defArgs s__law_between, defBody s__law_between, defScope s__law_between, [], []⟩
def hd__law_read : He.DefD := ⟨("_law_read", none), "_law_read", "_law_read", defArgs s__law_read, defBody s__law_read, defScope s__law_read, [], []⟩
def hd__law_deed : He.DefD := ⟨("_law_deed", none), "_law_deed", "_law_deed", defArgs s__law_deed, defBody s__law_deed, defScope s__law_deed, [], []⟩
def hd__law_snapshot : He.DefD := ⟨("_law_snapshot", none), "_law_snapshot", "_law_snapshot", defArgs s__law_snapshot, defBody s__law_snapshot, defScope s__law_snapshot, [], []⟩
def hd__law_answer : He.DefD := ⟨("_law_answer", none), "_law_answer", "_law_answer", defArgs s__law_answer, defBody s__law_answer, defScope s__law_answer, [], []⟩
def hd__law_questions : He.DefD := ⟨("_law_questions", none), "_law_questions", "_law_questions", defArgs s__law_questions, defBody s__law_questions, defScope s__law_questions, [], []⟩
def hd__law_asked : He.DefD := ⟨("_law_asked", none), "_law_asked", "_law_asked", defArgs s__law_asked, defBody s__law_asked, defScope s__law_asked, [], []⟩
def hd__law_look_up : He.DefD := ⟨("_law_look_up", none), "_law_look_up", "_law_look_up", defArgs s__law_look_up, defBody s__law_look_up, defScope s__law_look_up, [], []⟩
def hd__law_no_house : He.DefD := ⟨("_law_no_house", none), "_law_no_house", "_law_no_house", defArgs s__law_no_house, defBody s__law_no_house, defScope s__law_no_house, [], []⟩
def hd__law_off_circle : He.DefD := ⟨("_law_off_circle", none), "_law_off_circle", "_law_off_circle", defArgs s__law_off_circle, defBody s__law_off_circle, defScope s__law_off_circle, [], []⟩
def hd__law_refused : He.DefD := ⟨("_law_refused", none), "_law_refused", "_law_refused", defArgs s__law_refused, defBody s__law_refused, defScope s__law_refused, [], []⟩
def hd__law_behinds : He.DefD := ⟨("_law_behinds", none), "_law_behinds", "_law_behinds", defArgs s__law_behinds, defBody s__law_behinds, defScope s__law_behinds, [], []⟩
def hd_law : He.DefD := ⟨("law", none), "law", "law", defArgs s_law, defBody s_law, defScope s_law, [], []⟩
def hd_check_on_circle : He.DefD := ⟨("check_on_circle", none), "check_on_circle", "check_on_circle", defArgs s_check_on_circle, defBody s_check_on_circle, defScope s_check_on_circle, [], []⟩
def hd__law_tape : He.DefD := ⟨("_law_tape", none), "_law_tape", "_law_tape", defArgs s__law_tape, defBody s__law_tape, defScope s__law_tape, [], []⟩
def hd__law_pick : He.DefD := ⟨("_law_pick", none), "_law_pick", "_law_pick", defArgs s__law_pick, defBody s__law_pick, defScope s__law_pick, [], []⟩
def hd__law_size : He.DefD := ⟨("_law_size", none), "_law_size", "_law_size", defArgs s__law_size, defBody s__law_size, defScope s__law_size, [], []⟩
def hd__law_same : He.DefD := ⟨("_law_same", none), "_law_same", "_law_same", defArgs s__law_same, defBody s__law_same, defScope s__law_same, [], []⟩
def hd_far : He.DefD := ⟨("far", none), "far", "far", defArgs s_far, defBody s_far, defScope s_far, [], []⟩
def hd_between : He.DefD := ⟨("between", none), "between", "between", defArgs s_between, defBody s_between, defScope s_between, [], []⟩
def hd_House__init : He.DefD := ⟨("House", some "__init__"), "__init__", "House.__init__", defArgs s_House__init, defBody s_House__init, defScope s_House__init, [.non], []⟩
def hd_House__tell_letter : He.DefD := ⟨("House", some "tell_letter"), "tell_letter", "House.tell_letter", defArgs s_House__tell_letter, defBody s_House__tell_letter, defScope s_House__tell_letter, [], []⟩
def hd_House__ask_letter : He.DefD := ⟨("House", some "ask_letter"), "ask_letter", "House.ask_letter", defArgs s_House__ask_letter, defBody s_House__ask_letter, defScope s_House__ask_letter, [], []⟩
def hd_House__answer_to : He.DefD := ⟨("House", some "_answer_to"), "_answer_to", "House._answer_to", defArgs s_House__answer_to, defBody s_House__answer_to, defScope s_House__answer_to, [], []⟩
def hd_House__hear_tell : He.DefD := ⟨("House", some "_hear_tell"), "_hear_tell", "House._hear_tell", defArgs s_House__hear_tell, defBody s_House__hear_tell, defScope s_House__hear_tell, [], []⟩
def hd_House__hear_answer : He.DefD := ⟨("House", some "_hear_answer"), "_hear_answer", "House._hear_answer", defArgs s_House__hear_answer, defBody s_House__hear_answer, defScope s_House__hear_answer, [], []⟩
def hd_House__hear : He.DefD := ⟨("House", some "hear"), "hear", "House.hear", defArgs s_House__hear, defBody s_House__hear, defScope s_House__hear, [], []⟩
def hd_Net__houses : He.DefD := ⟨("Net", some "houses"), "houses", "Net.houses", defArgs s_Net__houses, defBody s_Net__houses, defScope s_Net__houses, [], []⟩
def hd_Net__check_house : He.DefD := ⟨("Net", some "check_house"), "check_house", "Net.check_house", defArgs s_Net__check_house, defBody s_Net__check_house, defScope s_Net__check_house, [], []⟩
def hd_Net__check_letter : He.DefD := ⟨("Net", some "_check_letter"), "_check_letter", "Net._check_letter", defArgs s_Net__check_letter, defBody s_Net__check_letter, defScope s_Net__check_letter, [], []⟩
def hd_Net__house_at : He.DefD := ⟨("Net", some "_house_at"), "_house_at", "Net._house_at", defArgs s_Net__house_at, defBody s_Net__house_at, defScope s_Net__house_at, [], []⟩
def hd_Net__send : He.DefD := ⟨("Net", some "_send"), "_send", "Net._send", defArgs s_Net__send, defBody s_Net__send, defScope s_Net__send, [], []⟩
def hd_Net__letters : He.DefD := ⟨("Net", some "letters"), "letters", "Net.letters", defArgs s_Net__letters, defBody s_Net__letters, defScope s_Net__letters, [], []⟩
def hd_Net__nexts : He.DefD := ⟨("Net", some "nexts"), "nexts", "Net.nexts", defArgs s_Net__nexts, defBody s_Net__nexts, defScope s_Net__nexts, [], []⟩
def hd_Net__befores : He.DefD := ⟨("Net", some "befores"), "befores", "Net.befores", defArgs s_Net__befores, defBody s_Net__befores, defScope s_Net__befores, [], []⟩
def hd_Net__check_letters : He.DefD := ⟨("Net", some "_check_letters"), "_check_letters", "Net._check_letters", defArgs s_Net__check_letters, defBody s_Net__check_letters, defScope s_Net__check_letters, [], []⟩
def hd_Net__check_places : He.DefD := ⟨("Net", some "_check_places"), "_check_places", "Net._check_places", defArgs s_Net__check_places, defBody s_Net__check_places, defScope s_Net__check_places, [], []⟩
def hd_Net__take_befores : He.DefD := ⟨("Net", some "_take_befores"), "_take_befores", "Net._take_befores", defArgs s_Net__take_befores, defBody s_Net__take_befores, defScope s_Net__take_befores, [], []⟩
def hd_Net__init : He.DefD := ⟨("Net", some "__init__"), "__init__", "Net.__init__", defArgs s_Net__init, defBody s_Net__init, defScope s_Net__init, [], [("befores", .non), ("letters", .non)]⟩
def hd_NoHouse__init : He.DefD := ⟨("NoHouse", some "__init__"), "__init__", "NoHouse.__init__", defArgs s_NoHouse__init, defBody s_NoHouse__init, defScope s_NoHouse__init, [], []⟩
def hd_OffCircle__init : He.DefD := ⟨("OffCircle", some "__init__"), "__init__", "OffCircle.__init__", defArgs s_OffCircle__init, defBody s_OffCircle__init, defScope s_OffCircle__init, [], []⟩
def hd__pairs_said_by : He.DefD := ⟨("_pairs_said_by", none), "_pairs_said_by", "_pairs_said_by", defArgs s__pairs_said_by, defBody s__pairs_said_by, defScope s__pairs_said_by, [], []⟩
def hd_sayings : He.DefD := ⟨("sayings", none), "sayings", "sayings", defArgs s_sayings, defBody s_sayings, defScope s_sayings, [], []⟩
def hd__law_places : He.DefD := ⟨("_law_places", none), "_law_places", "_law_places", defArgs s__law_places, defBody s__law_places, defScope s__law_places, [], []⟩
def hd_way_length : He.DefD := ⟨("way_length", none), "way_length", "way_length", defArgs s_way_length, defBody s_way_length, defScope s_way_length, [], []⟩
def heFn : List He.DefD := [hd__law_nexts, hd_Net__next_of, hd_Net__hold, hd_Net__set_before, hd_Net__snapshot, hd_Net__admit, hd_Net__check_free, hd_Net__clone, hd_Net__tell, hd_Net__ask, hd_Net__repeat, hd_Net__lose, hd_Net__read, hd__lengths_from, hd_house_at, hd_answer, hd_ring_answers, hd_told_answer, hd__check_key, hd__law_stranger, hd__law_far, hd__law_between, hd__law_read, hd__law_deed, hd__law_snapshot, hd__law_answer, hd__law_questions, hd__law_asked, hd__law_look_up, hd__law_no_house, hd__law_off_circle, hd__law_refused, hd__law_behinds, hd_law, hd_check_on_circle, hd__law_tape, hd__law_pick, hd__law_size, hd__law_same, hd_far, hd_between, hd_House__init, hd_House__tell_letter, hd_House__ask_letter, hd_House__answer_to, hd_House__hear_tell, hd_House__hear_answer, hd_House__hear, hd_Net__houses, hd_Net__check_house, hd_Net__check_letter, hd_Net__house_at, hd_Net__send, hd_Net__letters, hd_Net__nexts, hd_Net__befores, hd_Net__check_letters, hd_Net__check_places, hd_Net__take_befores, hd_Net__init, hd_NoHouse__init, hd_OffCircle__init, hd__pairs_said_by, hd_sayings, hd__law_places, hd_way_length]
def heFa : List He.Fa := [.free "ValueError", .free "abs", .free "bool", .free "dict", .free "int", .free "isinstance", .free "len", .free "list", .free "max", .free "min", .free "range", .free "sorted", .free "str", .free "tuple", .free "zip", .glo "_law_nexts", .glo "_lengths_from", .glo "house_at", .glo "answer", .glo "ring_answers", .glo "told_answer", .glo "_check_key", .glo "_law_stranger", .glo "_law_far", .glo "_law_between", .glo "_law_read", .glo "_law_deed", .glo "_law_snapshot", .glo "_law_answer", .glo "_law_questions", .glo "_law_asked", .glo "_law_look_up", .glo "_law_no_house", .glo "_law_off_circle", .glo "_law_refused", .glo "_law_behinds", .glo "law", .glo "check_on_circle", .glo "_law_tape", .glo "_law_pick", .glo "_law_size", .glo "_law_same", .glo "far", .glo "between", .glo "_pairs_said_by", .glo "sayings", .glo "_law_places", .glo "way_length", .glo "House", .cls "House", .noat "House" "size", .noat "House" "place", .noat "House" "next_house", .noat "House" "before", .mkr "House", .meth "House" "tell_letter", .meth "House" "ask_letter", .meth "House" "_answer_to", .meth "House" "_hear_tell", .meth "House" "_hear_answer", .meth "House" "hear", .glo "Net", .cls "Net", .noat "Net" "size", .noat "Net" "_nexts", .noat "Net" "_befores", .noat "Net" "_letters", .meth "Net" "next_of", .meth "Net" "hold", .meth "Net" "set_before", .meth "Net" "snapshot", .meth "Net" "admit", .meth "Net" "check_free", .meth "Net" "clone", .meth "Net" "tell", .meth "Net" "ask", .meth "Net" "repeat", .meth "Net" "lose", .meth "Net" "read", .meth "Net" "houses", .meth "Net" "check_house", .meth "Net" "_check_letter", .meth "Net" "_house_at", .meth "Net" "_send", .meth "Net" "letters", .meth "Net" "nexts", .meth "Net" "befores", .meth "Net" "_check_letters", .meth "Net" "_check_places", .meth "Net" "_take_befores", .mkr "Net", .glo "TakenPlace", .glo "NoHouse", .glo "OffCircle", .glo "Untold", .glo "RingError", .glo "NoLetter"]
def heEx (K : PySem.W.Frag) : List Bool := [PySem.W.isClsIn K (He.ga K "NoHouse"),
  He.eqO (PySem.W.findIn K (.ref (He.ga K "NoHouse")) "__getattribute__") (some (some (.builtin "BaseException.__getattribute__"))),
  He.eqO (PySem.W.findIn K (.ref (He.ga K "NoHouse")) "__getattr__") (some none),
  decide (PySem.W.subIn K (.ref (He.ga K "NoHouse")) (.type "BaseException") = some true),
  PySem.W.hasDictIn K (He.ga K "NoHouse"),
  He.eqO (PySem.W.findIn K (.ref (He.ga K "NoHouse")) "__class__") (some (some (.builtin "object.__class__"))),
  He.eqO (PySem.W.specialIn K (.builtin "object.__class__") "__get__") (some (some (.builtin "getset_descriptor.__get__"))),
  decide (PySem.W.takesIn K (.builtin "object.__class__") = some true),
  decide (PySem.W.mroIn K (He.ga K "NoHouse") (.type "object") = some true),
  oexB K (He.ga K "NoHouse"),
  He.eqO (PySem.W.findIn K (.ref (He.ga K "NoHouse")) "__setattr__") (some (some (.builtin "object.__setattr__"))),
  decide (PySem.W.typeIn K (.ref (He.ga K "NoHouse")) = some (.type "type")),
  PySem.W.keepIn K (.ref (He.ga K "NoHouse")),
  He.eqO (PySem.W.findIn K (.ref (He.ga K "NoHouse")) "__init__") (some (some (.ref (He.fAd K ("NoHouse", some "__init__"))))),
  decide (PySem.W.typeIn K (.ref (He.fAd K ("NoHouse", some "__init__"))) = some (.type "function")),
  He.eqO (PySem.W.findIn K (.ref (He.ga K "NoHouse")) "place") (some none),
  decide (PySem.W.kitOne K (.ref (He.ga K "NoHouse")) (.ref (He.ga K "TakenPlace")) = some false),
  decide (PySem.W.subIn K (.ref (He.ga K "TakenPlace")) (.type "BaseException") = some true),
  PySem.W.isClsIn K (He.ga K "TakenPlace"),
  decide (PySem.W.typeIn K (.ref (He.ga K "TakenPlace")) = some (.type "type")),
  decide (PySem.W.subIn K (.ref (He.ga K "NoHouse")) (.ref (He.ga K "TakenPlace")) = some false),
  decide (PySem.W.kitOne K (.ref (He.ga K "NoHouse")) (.ref (He.ga K "NoHouse")) = some true),
  decide (PySem.W.subIn K (.ref (He.ga K "NoHouse")) (.ref (He.ga K "NoHouse")) = some true),
  decide (PySem.W.kitOne K (.ref (He.ga K "NoHouse")) (.ref (He.ga K "OffCircle")) = some false),
  decide (PySem.W.subIn K (.ref (He.ga K "OffCircle")) (.type "BaseException") = some true),
  PySem.W.isClsIn K (He.ga K "OffCircle"),
  decide (PySem.W.typeIn K (.ref (He.ga K "OffCircle")) = some (.type "type")),
  decide (PySem.W.subIn K (.ref (He.ga K "NoHouse")) (.ref (He.ga K "OffCircle")) = some false),
  decide (PySem.W.kitOne K (.ref (He.ga K "NoHouse")) (.ref (He.ga K "Untold")) = some false),
  decide (PySem.W.subIn K (.ref (He.ga K "Untold")) (.type "BaseException") = some true),
  PySem.W.isClsIn K (He.ga K "Untold"),
  decide (PySem.W.typeIn K (.ref (He.ga K "Untold")) = some (.type "type")),
  decide (PySem.W.subIn K (.ref (He.ga K "NoHouse")) (.ref (He.ga K "Untold")) = some false),
  decide (PySem.W.kitOne K (.ref (He.ga K "NoHouse")) (.ref (He.ga K "RingError")) = some true),
  decide (PySem.W.subIn K (.ref (He.ga K "RingError")) (.type "BaseException") = some true),
  PySem.W.isClsIn K (He.ga K "RingError"),
  decide (PySem.W.typeIn K (.ref (He.ga K "RingError")) = some (.type "type")),
  decide (PySem.W.subIn K (.ref (He.ga K "NoHouse")) (.ref (He.ga K "RingError")) = some true),
  decide (PySem.W.kitOne K (.ref (He.ga K "NoHouse")) (.ref (He.ga K "NoLetter")) = some false),
  decide (PySem.W.subIn K (.ref (He.ga K "NoLetter")) (.type "BaseException") = some true),
  PySem.W.isClsIn K (He.ga K "NoLetter"),
  decide (PySem.W.typeIn K (.ref (He.ga K "NoLetter")) = some (.type "type")),
  decide (PySem.W.subIn K (.ref (He.ga K "NoHouse")) (.ref (He.ga K "NoLetter")) = some false),
  decide (PySem.W.kitOne K (.ref (He.ga K "NoHouse")) (.type "ValueError") = some true),
  He.eqO (PySem.W.findIn K (.ref (He.ga K "OffCircle")) "__getattribute__") (some (some (.builtin "BaseException.__getattribute__"))),
  He.eqO (PySem.W.findIn K (.ref (He.ga K "OffCircle")) "__getattr__") (some none),
  PySem.W.hasDictIn K (He.ga K "OffCircle"),
  He.eqO (PySem.W.findIn K (.ref (He.ga K "OffCircle")) "__class__") (some (some (.builtin "object.__class__"))),
  decide (PySem.W.mroIn K (He.ga K "OffCircle") (.type "object") = some true),
  oexB K (He.ga K "OffCircle"),
  He.eqO (PySem.W.findIn K (.ref (He.ga K "OffCircle")) "__setattr__") (some (some (.builtin "object.__setattr__"))),
  PySem.W.keepIn K (.ref (He.ga K "OffCircle")),
  He.eqO (PySem.W.findIn K (.ref (He.ga K "OffCircle")) "__init__") (some (some (.ref (He.fAd K ("OffCircle", some "__init__"))))),
  decide (PySem.W.typeIn K (.ref (He.fAd K ("OffCircle", some "__init__"))) = some (.type "function")),
  He.eqO (PySem.W.findIn K (.ref (He.ga K "OffCircle")) "place") (some none),
  decide (PySem.W.kitOne K (.ref (He.ga K "OffCircle")) (.ref (He.ga K "TakenPlace")) = some false),
  decide (PySem.W.subIn K (.ref (He.ga K "OffCircle")) (.ref (He.ga K "TakenPlace")) = some false),
  decide (PySem.W.kitOne K (.ref (He.ga K "OffCircle")) (.ref (He.ga K "NoHouse")) = some false),
  decide (PySem.W.subIn K (.ref (He.ga K "OffCircle")) (.ref (He.ga K "NoHouse")) = some false),
  decide (PySem.W.kitOne K (.ref (He.ga K "OffCircle")) (.ref (He.ga K "OffCircle")) = some true),
  decide (PySem.W.subIn K (.ref (He.ga K "OffCircle")) (.ref (He.ga K "OffCircle")) = some true),
  decide (PySem.W.kitOne K (.ref (He.ga K "OffCircle")) (.ref (He.ga K "Untold")) = some false),
  decide (PySem.W.subIn K (.ref (He.ga K "OffCircle")) (.ref (He.ga K "Untold")) = some false),
  decide (PySem.W.kitOne K (.ref (He.ga K "OffCircle")) (.ref (He.ga K "RingError")) = some true),
  decide (PySem.W.subIn K (.ref (He.ga K "OffCircle")) (.ref (He.ga K "RingError")) = some true),
  decide (PySem.W.kitOne K (.ref (He.ga K "OffCircle")) (.ref (He.ga K "NoLetter")) = some false),
  decide (PySem.W.subIn K (.ref (He.ga K "OffCircle")) (.ref (He.ga K "NoLetter")) = some false),
  decide (PySem.W.kitOne K (.ref (He.ga K "OffCircle")) (.type "ValueError") = some true)]
def heLoose0 : List Str := ["_wall", "RingError", "OffCircle", "NoHouse", "TakenPlace", "Untold", "NoLetter", "OpenWalk", "WalksApart", "far", "between", "check_on_circle", "Walk", "from_least", "order_turns", "way_length", "house_at", "ring_of", "on_ring", "gate_of"]
def heLoose1 : List Str := ["piece_of", "turns_of", "_lengths_from", "_gate_after", "sayings", "holds_true", "piece_is_true", "untrue_of_piece", "_pairs_said_by", "distances_to", "clear_towards", "check_told", "_fault_towards", "marks_of", "mark_row", "_lap_of", "row_marks", "told_pair", "answer", "ring_answers"]
def heLoose2 : List Str := ["told_answer", "_check_key", "House", "Net", "_law_tape", "_law_pick", "_law_size", "_law_places", "_law_nexts", "_law_far", "_law_between", "_law_read", "_law_same", "_law_deed", "_law_stranger", "_law_snapshot", "_law_answer", "_law_questions", "_law_asked", "_law_look_up"]
def heLoose3 : List Str := ["_law_no_house", "_law_off_circle", "_law_refused", "_law_behinds"]
abbrev heLoose : List Str := heLoose0 ++ heLoose1 ++ heLoose2 ++ heLoose3
abbrev heR : PySem.W.OpenRow := PySem.W.OpenLaw.row PySem.Challenge.rw_ringlaps_k32_answer_walks
abbrev heK : PySem.W.Hook := heHook 5 heFa heFn heEx
def heOb (s : PySem.W.SharedT) : heAl := heObsG 5 heFa heFn heEx (HandSHeadRun.getT s)
theorem heOb_eq (s : PySem.W.SharedT) : heOb s = heK.obs s.abs := heObsG_eq (HandSHeadRun.getT_eq s)
set_option maxHeartbeats 0 in
theorem heRun (w : World) : HandSHeadRun.RunEq heR (PySem.W.view heR.prog [77]) heK heOb 30000 heLoose w := by
  intro os
  kernel_rfl
/-! what is asked of the error in hand: (a, oe) is pinned, its dict at d -/
structure ErrC (K : PySem.W.Frag) (D : Addr) : Prop where
  cl : (PySem.W.clsIn K D).isSome = true
  ga : PySem.W.findIn K (.ref D) "__getattribute__" = some (some (.builtin "BaseException.__getattribute__"))
  gg : PySem.W.findIn K (.ref D) "__getattr__" = some none
  ex : PySem.W.subIn K (.ref D) (.type "BaseException") = some true
  hd : PySem.W.hasDictIn K D = true
  ca : PySem.W.findIn K (.ref D) "__class__" = some (some (.builtin "object.__class__"))
  cn : PySem.W.specialIn K (.builtin "object.__class__") "__get__" = some (some (.builtin "getset_descriptor.__get__"))
  ct : PySem.W.takesIn K (.builtin "object.__class__") = some true
  mo : PySem.W.mroIn K D (.type "object") = some true
structure T0 (K : PySem.W.Frag) (mg : Str → Option Value) where
  m_ValueError : mg "ValueError" = none
  m_abs : mg "abs" = none
  m_bool : mg "bool" = none
  m_dict : mg "dict" = none
  m_int : mg "int" = none
  m_isinstance : mg "isinstance" = none
  m_len : mg "len" = none
  m_list : mg "list" = none
  m_max : mg "max" = none
  m_min : mg "min" = none
  m_range : mg "range" = none
  m_sorted : mg "sorted" = none
  m_str : mg "str" = none
  m_tuple : mg "tuple" = none
  m_zip : mg "zip" = none
  a__law_nexts : Addr
  fd__law_nexts : FuncData
  F__law_nexts : Fun K "_law_nexts" "_law_nexts" s__law_nexts a__law_nexts fd__law_nexts
  b__law_nexts : Binds K fd__law_nexts ["tape", "places"] []
  g__law_nexts : mg "_law_nexts" = some (.ref a__law_nexts)
  a_Net__next_of : Addr
  fd_Net__next_of : FuncData
  F_Net__next_of : Fun K "next_of" "Net.next_of" s_Net__next_of a_Net__next_of fd_Net__next_of
  b_Net__next_of : Binds K fd_Net__next_of ["self", "house"] []
  a_Net__hold : Addr
  fd_Net__hold : FuncData
  F_Net__hold : Fun K "hold" "Net.hold" s_Net__hold a_Net__hold fd_Net__hold
  b_Net__hold : Binds K fd_Net__hold ["self", "house", "target"] []
  a_Net__set_before : Addr
  fd_Net__set_before : FuncData
  F_Net__set_before : Fun K "set_before" "Net.set_before" s_Net__set_before a_Net__set_before fd_Net__set_before
  b_Net__set_before : Binds K fd_Net__set_before ["self", "house", "before"] []
  a_Net__snapshot : Addr
  fd_Net__snapshot : FuncData
  F_Net__snapshot : Fun K "snapshot" "Net.snapshot" s_Net__snapshot a_Net__snapshot fd_Net__snapshot
  b_Net__snapshot : Binds K fd_Net__snapshot ["self"] []
  a_Net__admit : Addr
  fd_Net__admit : FuncData
  F_Net__admit : Fun K "admit" "Net.admit" s_Net__admit a_Net__admit fd_Net__admit
  b_Net__admit : Binds K fd_Net__admit ["self", "place", "host"] []
  a_Net__check_free : Addr
  fd_Net__check_free : FuncData
  F_Net__check_free : Fun K "check_free" "Net.check_free" s_Net__check_free a_Net__check_free fd_Net__check_free
  b_Net__check_free : Binds K fd_Net__check_free ["self", "place"] []
  a_Net__clone : Addr
  fd_Net__clone : FuncData
  F_Net__clone : Fun K "clone" "Net.clone" s_Net__clone a_Net__clone fd_Net__clone
  b_Net__clone : Binds K fd_Net__clone ["self"] []
  a_Net__tell : Addr
  fd_Net__tell : FuncData
  F_Net__tell : Fun K "tell" "Net.tell" s_Net__tell a_Net__tell fd_Net__tell
  b_Net__tell : Binds K fd_Net__tell ["self", "house"] []
  a_Net__ask : Addr
  fd_Net__ask : FuncData
  F_Net__ask : Fun K "ask" "Net.ask" s_Net__ask a_Net__ask fd_Net__ask
  b_Net__ask : Binds K fd_Net__ask ["self", "house"] []
  a_Net__repeat : Addr
  fd_Net__repeat : FuncData
  F_Net__repeat : Fun K "repeat" "Net.repeat" s_Net__repeat a_Net__repeat fd_Net__repeat
  b_Net__repeat : Binds K fd_Net__repeat ["self", "at"] []
  a_Net__lose : Addr
  fd_Net__lose : FuncData
  F_Net__lose : Fun K "lose" "Net.lose" s_Net__lose a_Net__lose fd_Net__lose
  b_Net__lose : Binds K fd_Net__lose ["self", "at"] []
  a_Net__read : Addr
  fd_Net__read : FuncData
  F_Net__read : Fun K "read" "Net.read" s_Net__read a_Net__read fd_Net__read
  b_Net__read : Binds K fd_Net__read ["self", "at"] []
  a__lengths_from : Addr
  fd__lengths_from : FuncData
  F__lengths_from : Fun K "_lengths_from" "_lengths_from" s__lengths_from a__lengths_from fd__lengths_from
  b__lengths_from : Binds K fd__lengths_from ["net", "start"] []
  g__lengths_from : mg "_lengths_from" = some (.ref a__lengths_from)
  a_house_at : Addr
  fd_house_at : FuncData
  F_house_at : Fun K "house_at" "house_at" s_house_at a_house_at fd_house_at
  b_house_at : Binds K fd_house_at ["net", "start", "distance"] []
  g_house_at : mg "house_at" = some (.ref a_house_at)
  a_answer : Addr
  fd_answer : FuncData
  F_answer : Fun K "answer" "answer" s_answer a_answer fd_answer
  b_answer : Binds K fd_answer ["net", "house", "key"] []
  g_answer : mg "answer" = some (.ref a_answer)
  a_ring_answers : Addr
  fd_ring_answers : FuncData
  F_ring_answers : Fun K "ring_answers" "ring_answers" s_ring_answers a_ring_answers fd_ring_answers
  b_ring_answers : Binds K fd_ring_answers ["net", "house", "key"] []
  g_ring_answers : mg "ring_answers" = some (.ref a_ring_answers)
  a_told_answer : Addr
  fd_told_answer : FuncData
  F_told_answer : Fun K "told_answer" "told_answer" s_told_answer a_told_answer fd_told_answer
  b_told_answer : Binds K fd_told_answer ["net", "house", "key"] []
  g_told_answer : mg "told_answer" = some (.ref a_told_answer)
  a__check_key : Addr
  fd__check_key : FuncData
  F__check_key : Fun K "_check_key" "_check_key" s__check_key a__check_key fd__check_key
  b__check_key : Binds K fd__check_key ["net", "house", "key"] []
  g__check_key : mg "_check_key" = some (.ref a__check_key)
  a__law_stranger : Addr
  fd__law_stranger : FuncData
  F__law_stranger : Fun K "_law_stranger" "_law_stranger" s__law_stranger a__law_stranger fd__law_stranger
  b__law_stranger : Binds K fd__law_stranger ["tape", "size", "nexts"] []
  g__law_stranger : mg "_law_stranger" = some (.ref a__law_stranger)
  a__law_far : Addr
  fd__law_far : FuncData
  F__law_far : Fun K "_law_far" "_law_far" s__law_far a__law_far fd__law_far
  b__law_far : Binds K fd__law_far ["size", "start", "end"] []
  g__law_far : mg "_law_far" = some (.ref a__law_far)
  a__law_between : Addr
  fd__law_between : FuncData
  F__law_between : Fun K "_law_between" "_law_between" s__law_between a__law_between fd__law_between
  b__law_between : Binds K fd__law_between ["size", "start", "place", "end"] []
  g__law_between : mg "_law_between" = some (.ref a__law_between)
  a__law_read : Addr
  fd__law_read : FuncData
  F__law_read : Fun K "_law_read" "_law_read" s__law_read a__law_read fd__law_read
  b__law_read : Binds K fd__law_read ["size", "nexts", "behinds", "post", "at"] []
  g__law_read : mg "_law_read" = some (.ref a__law_read)
  a__law_deed : Addr
  fd__law_deed : FuncData
  F__law_deed : Fun K "_law_deed" "_law_deed" s__law_deed a__law_deed fd__law_deed
  b__law_deed : Binds K fd__law_deed ["tape", "net", "size", "nexts", "behinds", "post"] []
  g__law_deed : mg "_law_deed" = some (.ref a__law_deed)
  a__law_snapshot : Addr
  fd__law_snapshot : FuncData
  F__law_snapshot : Fun K "_law_snapshot" "_law_snapshot" s__law_snapshot a__law_snapshot fd__law_snapshot
  b__law_snapshot : Binds K fd__law_snapshot ["size", "nexts", "behinds", "post"] []
  g__law_snapshot : mg "_law_snapshot" = some (.ref a__law_snapshot)
  a__law_answer : Addr
  fd__law_answer : FuncData
  F__law_answer : Fun K "_law_answer" "_law_answer" s__law_answer a__law_answer fd__law_answer
  b__law_answer : Binds K fd__law_answer ["size", "nexts", "house", "key"] []
  g__law_answer : mg "_law_answer" = some (.ref a__law_answer)
  a__law_questions : Addr
  fd__law_questions : FuncData
  F__law_questions : Fun K "_law_questions" "_law_questions" s__law_questions a__law_questions fd__law_questions
  b__law_questions : Binds K fd__law_questions ["tape", "size", "places"] []
  g__law_questions : mg "_law_questions" = some (.ref a__law_questions)
  a__law_asked : Addr
  fd__law_asked : FuncData
  F__law_asked : Fun K "_law_asked" "_law_asked" s__law_asked a__law_asked fd__law_asked
  b__law_asked : Binds K fd__law_asked ["net", "size", "nexts", "questions"] []
  g__law_asked : mg "_law_asked" = some (.ref a__law_asked)
  a__law_look_up : Addr
  fd__law_look_up : FuncData
  F__law_look_up : Fun K "_law_look_up" "_law_look_up" s__law_look_up a__law_look_up fd__law_look_up
  b__law_look_up : Binds K fd__law_look_up ["kind", "net", "house", "key"] []
  g__law_look_up : mg "_law_look_up" = some (.ref a__law_look_up)
  a__law_no_house : Addr
  fd__law_no_house : FuncData
  F__law_no_house : Fun K "_law_no_house" "_law_no_house" s__law_no_house a__law_no_house fd__law_no_house
  b__law_no_house : Binds K fd__law_no_house ["kind", "net", "house", "key"] []
  g__law_no_house : mg "_law_no_house" = some (.ref a__law_no_house)
  a__law_off_circle : Addr
  fd__law_off_circle : FuncData
  F__law_off_circle : Fun K "_law_off_circle" "_law_off_circle" s__law_off_circle a__law_off_circle fd__law_off_circle
  b__law_off_circle : Binds K fd__law_off_circle ["kind", "net", "house", "key"] []
  g__law_off_circle : mg "_law_off_circle" = some (.ref a__law_off_circle)
  a__law_refused : Addr
  fd__law_refused : FuncData
  F__law_refused : Fun K "_law_refused" "_law_refused" s__law_refused a__law_refused fd__law_refused
  b__law_refused : Binds K fd__law_refused ["tape", "net", "size", "places", "stranger"] []
  g__law_refused : mg "_law_refused" = some (.ref a__law_refused)
  a__law_behinds : Addr
  fd__law_behinds : FuncData
  F__law_behinds : Fun K "_law_behinds" "_law_behinds" s__law_behinds a__law_behinds fd__law_behinds
  b__law_behinds : Binds K fd__law_behinds ["tape", "net", "places", "behinds"] []
  g__law_behinds : mg "_law_behinds" = some (.ref a__law_behinds)
  a_law : Addr
  fd_law : FuncData
  F_law : Fun K "law" "law" s_law a_law fd_law
  b_law : Binds K fd_law ["script"] []
  g_law : mg "law" = some (.ref a_law)
  a_check_on_circle : Addr
  fd_check_on_circle : FuncData
  F_check_on_circle : Fun K "check_on_circle" "check_on_circle" s_check_on_circle a_check_on_circle fd_check_on_circle
  b_check_on_circle : Binds K fd_check_on_circle ["size", "place"] []
  g_check_on_circle : mg "check_on_circle" = some (.ref a_check_on_circle)
  a__law_tape : Addr
  fd__law_tape : FuncData
  F__law_tape : Fun K "_law_tape" "_law_tape" s__law_tape a__law_tape fd__law_tape
  b__law_tape : Binds K fd__law_tape ["script"] []
  g__law_tape : mg "_law_tape" = some (.ref a__law_tape)
  a__law_pick : Addr
  fd__law_pick : FuncData
  F__law_pick : Fun K "_law_pick" "_law_pick" s__law_pick a__law_pick fd__law_pick
  b__law_pick : Binds K fd__law_pick ["tape", "size"] []
  g__law_pick : mg "_law_pick" = some (.ref a__law_pick)
  a__law_size : Addr
  fd__law_size : FuncData
  F__law_size : Fun K "_law_size" "_law_size" s__law_size a__law_size fd__law_size
  b__law_size : Binds K fd__law_size ["tape", "count"] []
  g__law_size : mg "_law_size" = some (.ref a__law_size)
  a__law_same : Addr
  fd__law_same : FuncData
  F__law_same : Fun K "_law_same" "_law_same" s__law_same a__law_same fd__law_same
  b__law_same : Binds K fd__law_same ["actual", "due"] []
  g__law_same : mg "_law_same" = some (.ref a__law_same)
  a_far : Addr
  fd_far : FuncData
  F_far : Fun K "far" "far" s_far a_far fd_far
  b_far : Binds K fd_far ["size", "start", "end"] []
  g_far : mg "far" = some (.ref a_far)
  a_between : Addr
  fd_between : FuncData
  F_between : Fun K "between" "between" s_between a_between fd_between
  b_between : Binds K fd_between ["size", "start", "place", "end"] []
  g_between : mg "between" = some (.ref a_between)
  a_House__init : Addr
  fd_House__init : FuncData
  F_House__init : FunD K "__init__" "House.__init__" (defArgs s_House__init) (defBody s_House__init) (defScope s_House__init) [.non] [] a_House__init fd_House__init
  b_House__init : Binds K fd_House__init ["self", "size", "place", "next_house", "before"] []
  bd_House__init : List Value
  bv_House__init : Vals [.non] bd_House__init
  b1_House__init : Binds K fd_House__init ["self", "size", "place", "next_house", "before"] bd_House__init
  kg_House__init : List Value → List Value → List Value
  kb_House__init : KBn K fd_House__init ["self", "size", "place", "next_house", "before"] 4 ["before"] kg_House__init (fun vs zs => vs ++ zs)
  a_House__tell_letter : Addr
  fd_House__tell_letter : FuncData
  F_House__tell_letter : Fun K "tell_letter" "House.tell_letter" s_House__tell_letter a_House__tell_letter fd_House__tell_letter
  b_House__tell_letter : Binds K fd_House__tell_letter ["self"] []
  a_House__ask_letter : Addr
  fd_House__ask_letter : FuncData
  F_House__ask_letter : Fun K "ask_letter" "House.ask_letter" s_House__ask_letter a_House__ask_letter fd_House__ask_letter
  b_House__ask_letter : Binds K fd_House__ask_letter ["self"] []
  a_House__answer_to : Addr
  fd_House__answer_to : FuncData
  F_House__answer_to : Fun K "_answer_to" "House._answer_to" s_House__answer_to a_House__answer_to fd_House__answer_to
  b_House__answer_to : Binds K fd_House__answer_to ["self", "sender"] []
  a_House__hear_tell : Addr
  fd_House__hear_tell : FuncData
  F_House__hear_tell : Fun K "_hear_tell" "House._hear_tell" s_House__hear_tell a_House__hear_tell fd_House__hear_tell
  b_House__hear_tell : Binds K fd_House__hear_tell ["self", "sender"] []
  a_House__hear_answer : Addr
  fd_House__hear_answer : FuncData
  F_House__hear_answer : Fun K "_hear_answer" "House._hear_answer" s_House__hear_answer a_House__hear_answer fd_House__hear_answer
  b_House__hear_answer : Binds K fd_House__hear_answer ["self", "sender", "named"] []
  a_House__hear : Addr
  fd_House__hear : FuncData
  F_House__hear : Fun K "hear" "House.hear" s_House__hear a_House__hear fd_House__hear
  b_House__hear : Binds K fd_House__hear ["self", "letter"] []
  a_Net__houses : Addr
  fd_Net__houses : FuncData
  F_Net__houses : Fun K "houses" "Net.houses" s_Net__houses a_Net__houses fd_Net__houses
  b_Net__houses : Binds K fd_Net__houses ["self"] []
  a_Net__check_house : Addr
  fd_Net__check_house : FuncData
  F_Net__check_house : Fun K "check_house" "Net.check_house" s_Net__check_house a_Net__check_house fd_Net__check_house
  b_Net__check_house : Binds K fd_Net__check_house ["self", "place"] []
  a_Net__check_letter : Addr
  fd_Net__check_letter : FuncData
  F_Net__check_letter : Fun K "_check_letter" "Net._check_letter" s_Net__check_letter a_Net__check_letter fd_Net__check_letter
  b_Net__check_letter : Binds K fd_Net__check_letter ["self", "at"] []
  a_Net__house_at : Addr
  fd_Net__house_at : FuncData
  F_Net__house_at : Fun K "_house_at" "Net._house_at" s_Net__house_at a_Net__house_at fd_Net__house_at
  b_Net__house_at : Binds K fd_Net__house_at ["self", "place"] []
  a_Net__send : Addr
  fd_Net__send : FuncData
  F_Net__send : Fun K "_send" "Net._send" s_Net__send a_Net__send fd_Net__send
  b_Net__send : Binds K fd_Net__send ["self", "letter"] []
  a_Net__letters : Addr
  fd_Net__letters : FuncData
  F_Net__letters : Fun K "letters" "Net.letters" s_Net__letters a_Net__letters fd_Net__letters
  b_Net__letters : Binds K fd_Net__letters ["self"] []
  a_Net__nexts : Addr
  fd_Net__nexts : FuncData
  F_Net__nexts : Fun K "nexts" "Net.nexts" s_Net__nexts a_Net__nexts fd_Net__nexts
  b_Net__nexts : Binds K fd_Net__nexts ["self"] []
  a_Net__befores : Addr
  fd_Net__befores : FuncData
  F_Net__befores : Fun K "befores" "Net.befores" s_Net__befores a_Net__befores fd_Net__befores
  b_Net__befores : Binds K fd_Net__befores ["self"] []
  a_Net__check_letters : Addr
  fd_Net__check_letters : FuncData
  F_Net__check_letters : Fun K "_check_letters" "Net._check_letters" s_Net__check_letters a_Net__check_letters fd_Net__check_letters
  b_Net__check_letters : Binds K fd_Net__check_letters ["self"] []
  a_Net__check_places : Addr
  fd_Net__check_places : FuncData
  F_Net__check_places : Fun K "_check_places" "Net._check_places" s_Net__check_places a_Net__check_places fd_Net__check_places
  b_Net__check_places : Binds K fd_Net__check_places ["self"] []
  a_Net__take_befores : Addr
  fd_Net__take_befores : FuncData
  F_Net__take_befores : Fun K "_take_befores" "Net._take_befores" s_Net__take_befores a_Net__take_befores fd_Net__take_befores
  b_Net__take_befores : Binds K fd_Net__take_befores ["self", "befores"] []
  a_Net__init : Addr
  fd_Net__init : FuncData
  F_Net__init : FunD K "__init__" "Net.__init__" (defArgs s_Net__init) (defBody s_Net__init) (defScope s_Net__init) [] [("befores", .non), ("letters", .non)] a_Net__init fd_Net__init
  kg_Net__init : List Value → List Value → List Value
  kb_Net__init : KBn K fd_Net__init ["self", "size", "nexts", "befores", "letters"] 3 ["befores", "letters"] kg_Net__init (fun vs zs => vs ++ zs)
  bd_Net__init : List Value
  bv_Net__init : Vals [.non, .non] bd_Net__init
  b1_Net__init : Binds K fd_Net__init ["self", "size", "nexts", "befores", "letters"] bd_Net__init
  a_NoHouse__init : Addr
  fd_NoHouse__init : FuncData
  F_NoHouse__init : Fun K "__init__" "NoHouse.__init__" s_NoHouse__init a_NoHouse__init fd_NoHouse__init
  b_NoHouse__init : Binds K fd_NoHouse__init ["self", "place"] []
  a_OffCircle__init : Addr
  fd_OffCircle__init : FuncData
  F_OffCircle__init : Fun K "__init__" "OffCircle.__init__" s_OffCircle__init a_OffCircle__init fd_OffCircle__init
  b_OffCircle__init : Binds K fd_OffCircle__init ["self", "place"] []
  a__pairs_said_by : Addr
  fd__pairs_said_by : FuncData
  F__pairs_said_by : Fun K "_pairs_said_by" "_pairs_said_by" s__pairs_said_by a__pairs_said_by fd__pairs_said_by
  b__pairs_said_by : Binds K fd__pairs_said_by ["letter"] []
  g__pairs_said_by : mg "_pairs_said_by" = some (.ref a__pairs_said_by)
  a_sayings : Addr
  fd_sayings : FuncData
  F_sayings : Fun K "sayings" "sayings" s_sayings a_sayings fd_sayings
  b_sayings : Binds K fd_sayings ["net"] []
  g_sayings : mg "sayings" = some (.ref a_sayings)
  a__law_places : Addr
  fd__law_places : FuncData
  F__law_places : Fun K "_law_places" "_law_places" s__law_places a__law_places fd__law_places
  b__law_places : Binds K fd__law_places ["tape", "size", "count"] []
  g__law_places : mg "_law_places" = some (.ref a__law_places)
  a_way_length : Addr
  fd_way_length : FuncData
  F_way_length : Fun K "way_length" "way_length" s_way_length a_way_length fd_way_length
  b_way_length : Binds K fd_way_length ["net", "start", "end"] []
  g_way_length : mg "way_length" = some (.ref a_way_length)
  C_House : Addr
  mc_House : mg "House" = some (.ref C_House)
  cl_House : Cls K C_House
  na_House_size : NoAttr K C_House "size"
  na_House_place : NoAttr K C_House "place"
  na_House_next_house : NoAttr K C_House "next_house"
  na_House_before : NoAttr K C_House "before"
  mk_House : Mk K C_House a_House__init
  me_House__tell_letter : Meth K C_House "tell_letter" a_House__tell_letter
  me_House__ask_letter : Meth K C_House "ask_letter" a_House__ask_letter
  me_House__answer_to : Meth K C_House "_answer_to" a_House__answer_to
  me_House__hear_tell : Meth K C_House "_hear_tell" a_House__hear_tell
  me_House__hear_answer : Meth K C_House "_hear_answer" a_House__hear_answer
  me_House__hear : Meth K C_House "hear" a_House__hear
  C_Net : Addr
  mc_Net : mg "Net" = some (.ref C_Net)
  cl_Net : Cls K C_Net
  na_Net_size : NoAttr K C_Net "size"
  na_Net__nexts : NoAttr K C_Net "_nexts"
  na_Net__befores : NoAttr K C_Net "_befores"
  na_Net__letters : NoAttr K C_Net "_letters"
  me_Net__next_of : Meth K C_Net "next_of" a_Net__next_of
  me_Net__hold : Meth K C_Net "hold" a_Net__hold
  me_Net__set_before : Meth K C_Net "set_before" a_Net__set_before
  me_Net__snapshot : Meth K C_Net "snapshot" a_Net__snapshot
  me_Net__admit : Meth K C_Net "admit" a_Net__admit
  me_Net__check_free : Meth K C_Net "check_free" a_Net__check_free
  me_Net__clone : Meth K C_Net "clone" a_Net__clone
  me_Net__tell : Meth K C_Net "tell" a_Net__tell
  me_Net__ask : Meth K C_Net "ask" a_Net__ask
  me_Net__repeat : Meth K C_Net "repeat" a_Net__repeat
  me_Net__lose : Meth K C_Net "lose" a_Net__lose
  me_Net__read : Meth K C_Net "read" a_Net__read
  me_Net__houses : Meth K C_Net "houses" a_Net__houses
  me_Net__check_house : Meth K C_Net "check_house" a_Net__check_house
  me_Net__check_letter : Meth K C_Net "_check_letter" a_Net__check_letter
  me_Net__house_at : Meth K C_Net "_house_at" a_Net__house_at
  me_Net__send : Meth K C_Net "_send" a_Net__send
  me_Net__letters : Meth K C_Net "letters" a_Net__letters
  me_Net__nexts : Meth K C_Net "nexts" a_Net__nexts
  me_Net__befores : Meth K C_Net "befores" a_Net__befores
  me_Net__check_letters : Meth K C_Net "_check_letters" a_Net__check_letters
  me_Net__check_places : Meth K C_Net "_check_places" a_Net__check_places
  me_Net__take_befores : Meth K C_Net "_take_befores" a_Net__take_befores
  mk_Net : Mk K C_Net a_Net__init
  C_TakenPlace : Addr
  mc_TakenPlace : mg "TakenPlace" = some (.ref C_TakenPlace)
  C_NoHouse : Addr
  mc_NoHouse : mg "NoHouse" = some (.ref C_NoHouse)
  C_OffCircle : Addr
  mc_OffCircle : mg "OffCircle" = some (.ref C_OffCircle)
  C_Untold : Addr
  mc_Untold : mg "Untold" = some (.ref C_Untold)
  C_RingError : Addr
  mc_RingError : mg "RingError" = some (.ref C_RingError)
  C_NoLetter : Addr
  mc_NoLetter : mg "NoLetter" = some (.ref C_NoLetter)
  er_NoHouse : ErrC K C_NoHouse
  ox_NoHouse : OexC K C_NoHouse
  mi_NoHouse : PySem.W.findIn K (.ref C_NoHouse) "__init__" = some (some (.ref a_NoHouse__init))
  ti_NoHouse : PySem.W.typeIn K (.ref a_NoHouse__init) = some (.type "function")
  na_NoHouse_place : PySem.W.findIn K (.ref C_NoHouse) "place" = some none
  ki_NoHouse_TakenPlace : PySem.W.kitOne K (.ref C_NoHouse) (.ref C_TakenPlace) = some false
  ex_NoHouse_TakenPlace : PySem.W.exmOne K (.ref C_NoHouse) (.ref C_TakenPlace) = some false
  ki_NoHouse_NoHouse : PySem.W.kitOne K (.ref C_NoHouse) (.ref C_NoHouse) = some true
  ex_NoHouse_NoHouse : PySem.W.exmOne K (.ref C_NoHouse) (.ref C_NoHouse) = some true
  ki_NoHouse_OffCircle : PySem.W.kitOne K (.ref C_NoHouse) (.ref C_OffCircle) = some false
  ex_NoHouse_OffCircle : PySem.W.exmOne K (.ref C_NoHouse) (.ref C_OffCircle) = some false
  ki_NoHouse_Untold : PySem.W.kitOne K (.ref C_NoHouse) (.ref C_Untold) = some false
  ex_NoHouse_Untold : PySem.W.exmOne K (.ref C_NoHouse) (.ref C_Untold) = some false
  ki_NoHouse_RingError : PySem.W.kitOne K (.ref C_NoHouse) (.ref C_RingError) = some true
  ex_NoHouse_RingError : PySem.W.exmOne K (.ref C_NoHouse) (.ref C_RingError) = some true
  ki_NoHouse_NoLetter : PySem.W.kitOne K (.ref C_NoHouse) (.ref C_NoLetter) = some false
  ex_NoHouse_NoLetter : PySem.W.exmOne K (.ref C_NoHouse) (.ref C_NoLetter) = some false
  ki_NoHouse_ValueError : PySem.W.kitOne K (.ref C_NoHouse) (.type "ValueError") = some true
  er_OffCircle : ErrC K C_OffCircle
  ox_OffCircle : OexC K C_OffCircle
  mi_OffCircle : PySem.W.findIn K (.ref C_OffCircle) "__init__" = some (some (.ref a_OffCircle__init))
  ti_OffCircle : PySem.W.typeIn K (.ref a_OffCircle__init) = some (.type "function")
  na_OffCircle_place : PySem.W.findIn K (.ref C_OffCircle) "place" = some none
  ki_OffCircle_TakenPlace : PySem.W.kitOne K (.ref C_OffCircle) (.ref C_TakenPlace) = some false
  ex_OffCircle_TakenPlace : PySem.W.exmOne K (.ref C_OffCircle) (.ref C_TakenPlace) = some false
  ki_OffCircle_NoHouse : PySem.W.kitOne K (.ref C_OffCircle) (.ref C_NoHouse) = some false
  ex_OffCircle_NoHouse : PySem.W.exmOne K (.ref C_OffCircle) (.ref C_NoHouse) = some false
  ki_OffCircle_OffCircle : PySem.W.kitOne K (.ref C_OffCircle) (.ref C_OffCircle) = some true
  ex_OffCircle_OffCircle : PySem.W.exmOne K (.ref C_OffCircle) (.ref C_OffCircle) = some true
  ki_OffCircle_Untold : PySem.W.kitOne K (.ref C_OffCircle) (.ref C_Untold) = some false
  ex_OffCircle_Untold : PySem.W.exmOne K (.ref C_OffCircle) (.ref C_Untold) = some false
  ki_OffCircle_RingError : PySem.W.kitOne K (.ref C_OffCircle) (.ref C_RingError) = some true
  ex_OffCircle_RingError : PySem.W.exmOne K (.ref C_OffCircle) (.ref C_RingError) = some true
  ki_OffCircle_NoLetter : PySem.W.kitOne K (.ref C_OffCircle) (.ref C_NoLetter) = some false
  ex_OffCircle_NoLetter : PySem.W.exmOne K (.ref C_OffCircle) (.ref C_NoLetter) = some false
  ki_OffCircle_ValueError : PySem.W.kitOne K (.ref C_OffCircle) (.type "ValueError") = some true
namespace T0
variable {K : PySem.W.Frag} {mg : Str → Option Value} (T : T0 K mg)
theorem k__law_nexts : PySem.W.keepIn K (.ref T.a__law_nexts) = true := T.F__law_nexts.kp
theorem k_Net__next_of : PySem.W.keepIn K (.ref T.a_Net__next_of) = true := T.F_Net__next_of.kp
theorem k_Net__hold : PySem.W.keepIn K (.ref T.a_Net__hold) = true := T.F_Net__hold.kp
theorem k_Net__set_before : PySem.W.keepIn K (.ref T.a_Net__set_before) = true := T.F_Net__set_before.kp
theorem k_Net__snapshot : PySem.W.keepIn K (.ref T.a_Net__snapshot) = true := T.F_Net__snapshot.kp
theorem k_Net__admit : PySem.W.keepIn K (.ref T.a_Net__admit) = true := T.F_Net__admit.kp
theorem k_Net__check_free : PySem.W.keepIn K (.ref T.a_Net__check_free) = true := T.F_Net__check_free.kp
theorem k_Net__clone : PySem.W.keepIn K (.ref T.a_Net__clone) = true := T.F_Net__clone.kp
theorem k_Net__tell : PySem.W.keepIn K (.ref T.a_Net__tell) = true := T.F_Net__tell.kp
theorem k_Net__ask : PySem.W.keepIn K (.ref T.a_Net__ask) = true := T.F_Net__ask.kp
theorem k_Net__repeat : PySem.W.keepIn K (.ref T.a_Net__repeat) = true := T.F_Net__repeat.kp
theorem k_Net__lose : PySem.W.keepIn K (.ref T.a_Net__lose) = true := T.F_Net__lose.kp
theorem k_Net__read : PySem.W.keepIn K (.ref T.a_Net__read) = true := T.F_Net__read.kp
theorem k__lengths_from : PySem.W.keepIn K (.ref T.a__lengths_from) = true := T.F__lengths_from.kp
theorem k_house_at : PySem.W.keepIn K (.ref T.a_house_at) = true := T.F_house_at.kp
theorem k_answer : PySem.W.keepIn K (.ref T.a_answer) = true := T.F_answer.kp
theorem k_ring_answers : PySem.W.keepIn K (.ref T.a_ring_answers) = true := T.F_ring_answers.kp
theorem k_told_answer : PySem.W.keepIn K (.ref T.a_told_answer) = true := T.F_told_answer.kp
theorem k__check_key : PySem.W.keepIn K (.ref T.a__check_key) = true := T.F__check_key.kp
theorem k__law_stranger : PySem.W.keepIn K (.ref T.a__law_stranger) = true := T.F__law_stranger.kp
theorem k__law_far : PySem.W.keepIn K (.ref T.a__law_far) = true := T.F__law_far.kp
theorem k__law_between : PySem.W.keepIn K (.ref T.a__law_between) = true := T.F__law_between.kp
theorem k__law_read : PySem.W.keepIn K (.ref T.a__law_read) = true := T.F__law_read.kp
theorem k__law_deed : PySem.W.keepIn K (.ref T.a__law_deed) = true := T.F__law_deed.kp
theorem k__law_snapshot : PySem.W.keepIn K (.ref T.a__law_snapshot) = true := T.F__law_snapshot.kp
theorem k__law_answer : PySem.W.keepIn K (.ref T.a__law_answer) = true := T.F__law_answer.kp
theorem k__law_questions : PySem.W.keepIn K (.ref T.a__law_questions) = true := T.F__law_questions.kp
theorem k__law_asked : PySem.W.keepIn K (.ref T.a__law_asked) = true := T.F__law_asked.kp
theorem k__law_look_up : PySem.W.keepIn K (.ref T.a__law_look_up) = true := T.F__law_look_up.kp
theorem k__law_no_house : PySem.W.keepIn K (.ref T.a__law_no_house) = true := T.F__law_no_house.kp
theorem k__law_off_circle : PySem.W.keepIn K (.ref T.a__law_off_circle) = true := T.F__law_off_circle.kp
theorem k__law_refused : PySem.W.keepIn K (.ref T.a__law_refused) = true := T.F__law_refused.kp
theorem k__law_behinds : PySem.W.keepIn K (.ref T.a__law_behinds) = true := T.F__law_behinds.kp
theorem k_law : PySem.W.keepIn K (.ref T.a_law) = true := T.F_law.kp
theorem k_check_on_circle : PySem.W.keepIn K (.ref T.a_check_on_circle) = true := T.F_check_on_circle.kp
theorem k__law_tape : PySem.W.keepIn K (.ref T.a__law_tape) = true := T.F__law_tape.kp
theorem k__law_pick : PySem.W.keepIn K (.ref T.a__law_pick) = true := T.F__law_pick.kp
theorem k__law_size : PySem.W.keepIn K (.ref T.a__law_size) = true := T.F__law_size.kp
theorem k__law_same : PySem.W.keepIn K (.ref T.a__law_same) = true := T.F__law_same.kp
theorem k_far : PySem.W.keepIn K (.ref T.a_far) = true := T.F_far.kp
theorem k_between : PySem.W.keepIn K (.ref T.a_between) = true := T.F_between.kp
theorem k_House__init : PySem.W.keepIn K (.ref T.a_House__init) = true := T.F_House__init.kp
theorem k_House__tell_letter : PySem.W.keepIn K (.ref T.a_House__tell_letter) = true := T.F_House__tell_letter.kp
theorem k_House__ask_letter : PySem.W.keepIn K (.ref T.a_House__ask_letter) = true := T.F_House__ask_letter.kp
theorem k_House__answer_to : PySem.W.keepIn K (.ref T.a_House__answer_to) = true := T.F_House__answer_to.kp
theorem k_House__hear_tell : PySem.W.keepIn K (.ref T.a_House__hear_tell) = true := T.F_House__hear_tell.kp
theorem k_House__hear_answer : PySem.W.keepIn K (.ref T.a_House__hear_answer) = true := T.F_House__hear_answer.kp
theorem k_House__hear : PySem.W.keepIn K (.ref T.a_House__hear) = true := T.F_House__hear.kp
theorem k_Net__houses : PySem.W.keepIn K (.ref T.a_Net__houses) = true := T.F_Net__houses.kp
theorem k_Net__check_house : PySem.W.keepIn K (.ref T.a_Net__check_house) = true := T.F_Net__check_house.kp
theorem k_Net__check_letter : PySem.W.keepIn K (.ref T.a_Net__check_letter) = true := T.F_Net__check_letter.kp
theorem k_Net__house_at : PySem.W.keepIn K (.ref T.a_Net__house_at) = true := T.F_Net__house_at.kp
theorem k_Net__send : PySem.W.keepIn K (.ref T.a_Net__send) = true := T.F_Net__send.kp
theorem k_Net__letters : PySem.W.keepIn K (.ref T.a_Net__letters) = true := T.F_Net__letters.kp
theorem k_Net__nexts : PySem.W.keepIn K (.ref T.a_Net__nexts) = true := T.F_Net__nexts.kp
theorem k_Net__befores : PySem.W.keepIn K (.ref T.a_Net__befores) = true := T.F_Net__befores.kp
theorem k_Net__check_letters : PySem.W.keepIn K (.ref T.a_Net__check_letters) = true := T.F_Net__check_letters.kp
theorem k_Net__check_places : PySem.W.keepIn K (.ref T.a_Net__check_places) = true := T.F_Net__check_places.kp
theorem k_Net__take_befores : PySem.W.keepIn K (.ref T.a_Net__take_befores) = true := T.F_Net__take_befores.kp
theorem k_Net__init : PySem.W.keepIn K (.ref T.a_Net__init) = true := T.F_Net__init.kp
theorem k_NoHouse__init : PySem.W.keepIn K (.ref T.a_NoHouse__init) = true := T.F_NoHouse__init.kp
theorem k_OffCircle__init : PySem.W.keepIn K (.ref T.a_OffCircle__init) = true := T.F_OffCircle__init.kp
theorem k__pairs_said_by : PySem.W.keepIn K (.ref T.a__pairs_said_by) = true := T.F__pairs_said_by.kp
theorem k_sayings : PySem.W.keepIn K (.ref T.a_sayings) = true := T.F_sayings.kp
theorem k__law_places : PySem.W.keepIn K (.ref T.a__law_places) = true := T.F__law_places.kp
theorem k_way_length : PySem.W.keepIn K (.ref T.a_way_length) = true := T.F_way_length.kp
end T0
theorem un1 {k : Nat} {A : Around} (r : Room k A) : A.units + 1 < cLine := by have := r.un; omega
theorem iteT' {b : Bool} {A B : Prop} (h : b = true) (a : A) : if b = true then A else B := by rw [if_pos h]; exact a
theorem iteF' {b : Bool} {A B : Prop} (h : b = false) (a : B) : if b = true then A else B := by rw [if_neg (by rw [h]; exact Bool.false_ne_true)]; exact a
theorem small1000' {n : Nat} (h : n ≤ 100000) : n < sizeLine := Nat.lt_of_le_of_lt h (by decide)
theorem upd_self {H : Hp} {t : Addr} {o : HO} (h : H t = Option.some o) : H = upd H t o := by
  funext b
  unfold upd
  split
  · rename_i e
    rw [e, h]
  · rfl
theorem at_ints {cs : List Int} {a : Nat} (h : a < cs.length) : atI (cs.map V.int) (a : Int) = Option.some (.int (cs[a])) := by
  refine atI_nat ?_
  rw [List.getElem?_map, List.getElem?_eq_getElem h]
  rfl
theorem at_getD {cs : List Int} {a : Nat} (h : a < cs.length) : atI (cs.map V.int) (a : Int) = Option.some (.int (cs.getD a 0)) := by
  refine atI_nat ?_
  rw [List.getElem?_map, List.getElem?_eq_getElem h, List.getD_eq_getElem?_getD, List.getElem?_eq_getElem h]
  rfl
theorem fmod_range (x : Int) {n : Int} (h : 0 < n) : 0 ≤ x.fmod n ∧ x.fmod n < n := ⟨Int.fmod_nonneg_of_pos x h, Int.fmod_lt_of_pos x h⟩
theorem mod_small (x : Int) {m : Int} (h : 0 < m) (h2 : m ≤ 9223372036854775808) : -(2 ^ 64) < x.fmod m ∧ x.fmod m < 2 ^ 64 := by
  have h3 := Int.fmod_nonneg_of_pos x h
  have h4 := Int.fmod_lt_of_pos x h
  constructor <;> omega
theorem cdivn (x : Int) {n : Int} (h : 0 < n) (h2 : n ≤ 1000000001) : CDivN x n := ⟨by omega, by omega⟩
theorem cdivw (x : Int) {n : Int} (h : 0 < n) (h2 : n ≤ 4000000000) : CDivW x n := wide_div (b := 63) h (by omega) (by decide) (by decide)
local macro_rules | `(tactic| walk_at "side") => `(tactic| first
  | with_reducible assumption
  | decide
  | ((with_reducible apply mod_small) <;> decide)
  | exact Or.inl ⟨by decide, by decide⟩
  | (apply Or.inl; (with_reducible apply mod_small) <;> decide)
  | exact Or.inr ⟨by decide, by decide⟩
  | ((with_reducible apply cdivn) <;> first | decide | omega)
  | ((with_reducible apply cdivw) <;> first | decide | omega)
  | (dsimp only; first | decide | omega)
  | exact ⟨by dsimp only; first | decide | omega, by dsimp only; first | decide | omega⟩)
local macro_rules | `(tactic| walk_at "go1") => `(tactic| first
  | refine ⟨_, rfl, ?_⟩
  | refine ⟨_, _, rfl, rfl, ?_⟩
  | refine Or.inl ⟨_, rfl, ?_⟩
  | refine ⟨_, _, _, _, rfl, rfl, (by first | assumption | exact SqL.of (by assumption) | exact upd_same | exact SqL.of upd_same), (by rfl), ?_⟩
  | refine ⟨rfl, ?_⟩
  | refine ⟨(show (_ : Prop) from by walk_at "side"), ?_⟩)
local macro_rules | `(tactic| walk_at "go") => `(tactic| repeat (walk_at "go1"))
section
variable {X : Cx} {K : PySem.W.Frag}
theorem ix_listK (h : X.K = K := by rfl) : IxR X (rIxL K) := by subst h; exact ix_list
theorem ix_tupK (h : X.K = K := by rfl) : IxR X (rIxT K) := by subst h; exact ix_tup
theorem ix_seqK (h : X.K = K := by rfl) : IxR X (rIx K) := by subst h; exact ix_seq
theorem sl_listK (h : X.K = K := by rfl) : SlR X (rSlL K) := by subst h; exact sl_list
theorem sl_tupK (h : X.K = K := by rfl) : SlR X (rSlT K) := by subst h; exact sl_tup
theorem op_in_seqK (h : X.K = K := by rfl) : OpR X (compareOp .In) (rIn K false) := by subst h; exact op_in_seq
theorem op_notIn_seqK (h : X.K = K := by rfl) : OpR X (compareOp .NotIn) (rIn K true) := by subst h; exact op_notIn_seq
def rLen (K : PySem.W.Frag) : List V → Hp → VK → Prop := fun xs H Q => ∃ p ys, xs = [.ref p] ∧ (SqL K H p ys ∨ SqT K H p ys) ∧ Q (.int ys.length) H
theorem call_lenK (h : X.K = K := by rfl) : CallR X (.builtin "len") (rLen K) := by subst h; exact call_len_seq
def rListOf (K : PySem.W.Frag) : List V → Hp → VK → Prop := fun xs H Q => ∃ p ys, xs = [.ref p] ∧ (SqL K H p ys ∨ SqT K H p ys) ∧ ∀ l, H l = none → Q (.ref l) (upd H l (.lst ys))
theorem call_list_ofK (h : X.K = K := by rfl) : CallR X (.type "list") (rListOf K) := by subst h; exact call_list_of
def rTupleOf (K : PySem.W.Frag) : List V → Hp → VK → Prop := fun xs H Q => ∃ p ys, xs = [.ref p] ∧ ((SqL K H p ys ∧ ∀ l, H l = none → Q (.ref l) (upd H l (.tup ys))) ∨ (SqT K H p ys ∧ Q (.ref p) H))
theorem call_tuple_ofK (h : X.K = K := by rfl) : CallR X (.type "tuple") (rTupleOf K) := by subst h; exact call_tuple_of
theorem call_isinstK (h : X.K = K := by rfl) : CallR X (.builtin "isinstance") (rIsi K) := by subst h; exact call_isi
theorem cr_sortedK (h : X.K = K := by rfl) : CallR X (.builtin "sorted") (rSorted K) := by subst h; exact cr_sorted
theorem call_sumK (hc : X.calm = true := by rfl) (h : X.K = K := by rfl) : CallR X (.builtin "sum") (rSum K) := by subst h; exact cr_sum hc
end
section
variable {σ : L2.St} {H : Hp} {ta tb tc : TE} {x y z : V}
theorem val_I0 {g : Int → Int → V} {i j : Int} (ha : Val ta σ H (.int i)) (hb : Val tb σ H (.int j)) : Val (tOp (rI0 g) ta tb) σ H (g i j) := fun _ q => ha _ (hb _ ⟨i, j, rfl, rfl, q⟩)
theorem val_I {C : Int → Int → Prop} {g : Int → Int → V} {i j : Int} (ha : Val ta σ H (.int i)) (hb : Val tb σ H (.int j)) (hc : C i j) : Val (tOp (rI C g) ta tb) σ H (g i j) := fun _ q => ha _ (hb _ ⟨i, j, rfl, rfl, hc, q⟩)
theorem val_eq (ha : Val ta σ H x) (hb : Val tb σ H y) (hs : scal x y = true) : Val (tOp rEq ta tb) σ H (.bl (decide (x = y))) := fun _ q => ha _ (hb _ ⟨hs, q⟩)
theorem val_ne (ha : Val ta σ H x) (hb : Val tb σ H y) (hs : scal x y = true) : Val (tOp rNe ta tb) σ H (.bl (!decide (x = y))) := fun _ q => ha _ (hb _ ⟨hs, q⟩)
theorem val_chain {g : Int → Int → Bool} {g' : Int → Int → Bool} {i j k : Int} (ha : Val ta σ H (.int i)) (hb : Val tb σ H (.int j)) (hc : Val tc σ H (.int k)) :
    Val (tChain (rI0 fun i j => .bl (g i j)) (rI0 fun i j => .bl (g' i j)) ta tb tc) σ H (.bl (g i j && g' j k)) := fun Q q => ha _ (hb _ ⟨i, j, rfl, rfl, _, rfl, by
  cases e : g i j with
  | true =>
    refine iteT (hc _ ⟨j, k, rfl, rfl, ?_⟩)
    rw [e] at q
    exact q
  | false =>
    rw [e] at q
    exact iteF q⟩)
theorem val_ixL {K : PySem.W.Frag} {p : Addr} {xs : List V} {i : Int} (ha : Val ta σ H (.ref p)) (hb : Val tb σ H (.int i)) (h : SqL K H p xs) (h2 : atI xs i = Option.some x) : Val (tOp (rIxL K) ta tb) σ H x := fun _ q => ha _ (hb _ ⟨p, xs, i, x, rfl, rfl, h, h2, q⟩)
theorem val_ixT {K : PySem.W.Frag} {p : Addr} {xs : List V} {i : Int} (ha : Val ta σ H (.ref p)) (hb : Val tb σ H (.int i)) (h : SqT K H p xs) (h2 : atI xs i = Option.some x) : Val (tOp (rIxT K) ta tb) σ H x := fun _ q => ha _ (hb _ ⟨p, xs, i, x, rfl, rfl, h, h2, q⟩)
theorem val_andV {a b : Bool} (ha : Val ta σ H (.bl a)) (hb : a = true → Val tb σ H (.bl b)) : Val (tAndV ta tb) σ H (.bl (a && b)) := fun Q q => ha _ ⟨a, rfl, by
  cases a with
  | true => exact iteT (hb rfl _ q)
  | false => exact iteF q⟩
theorem val_orV {a b : Bool} (ha : Val ta σ H (.bl a)) (hb : a = false → Val tb σ H (.bl b)) : Val (tOrV ta tb) σ H (.bl (a || b)) := fun Q q => ha _ ⟨a, rfl, by
  cases a with
  | true => exact iteT q
  | false => exact iteF (hb rfl _ q)⟩
theorem val_notV {a : Bool} (ha : Val ta σ H (.bl a)) : Val (tNotV ta) σ H (.bl (!a)) := fun _ q => ha _ ⟨a, rfl, q⟩
def ValA (ta : TA) (σ : L2.St) (H : Hp) (vs : List V) : Prop := ∀ Q : List V → Hp → Prop, Q vs H → ta σ H Q
theorem valA_nil : ValA tNil σ H [] := fun _ q => q
theorem valA_cons {tr : TA} {vs : List V} (h : Val ta σ H x) (hr : ValA tr σ H vs) : ValA (tCons ta tr) σ H (x :: vs) := fun _ q => h _ (hr _ q)
theorem go_lst {tr : TA} {vs : List V} {Q : VK} (h : ValA tr σ H vs) (hz : vs.length ≤ 100000) (q : ∀ p, H p = none → Q (.ref p) (upd H p (.lst vs))) : tLst tr σ H Q := h _ ⟨Nat.le_trans hz (by decide), q⟩
theorem go_tup {tr : TA} {vs : List V} {Q : VK} (h : ValA tr σ H vs) (hz : vs.length ≤ 100000) (q : ∀ p, H p = none → Q (.ref p) (upd H p (.tup vs))) : tTup tr σ H Q := h _ ⟨Nat.le_trans hz (by decide), q⟩
theorem val_call {tr : TA} {vs : List V} {sp : Sp} {dvs : List V} {E : XK} (h : ValA tr σ H vs) (hs : ∀ Q : VK, Q x H → sp (vs ++ dvs) H Q E) : Val (tCall sp dvs E tr) σ H x := fun _ q => h _ (hs _ q)
theorem val_cb {tr : TA} {vs : List V} {r : List V → Hp → VK → Prop} (h : ValA tr σ H vs) (hs : ∀ Q : VK, Q x H → r vs H Q) : Val (tCB r tr) σ H x := fun _ q => h _ (hs _ q)
variable {D : Ends} {tz tu tw : TS} {i : Nat} {tt tv : TT}
theorem o_asg (h : ta σ H fun v H' => tz D (σ.set i (some v)) H') : tSeq (tAsg ta (gName i)) tz D σ H := h
theorem o_ret (h : ta σ H D.rt) : tRet ta D σ H := h
theorem o_drop (h : ta σ H fun _ H' => tz D σ H') : tSeq (tDrop ta) tz D σ H := h
theorem v_asg (h : Val ta σ H x) (k : tz D (σ.set i (some x)) H) : tSeq (tAsg ta (gName i)) tz D σ H := h _ k
theorem v_asg1 (h : Val ta σ H x) (k : D.nx (σ.set i (some x)) H) : tAsg ta (gName i) D σ H := h _ k
theorem lc_yes {A B : Hp → Prop} (h : A H) : tYes σ H (fun b H3 => if b = true then A H3 else B H3) := by show (if true = true then A H else B H); exact iteT h
theorem g_name {v : V} {Q : L2.St → Hp → Prop} (h : Q (σ.set i (some v)) H) : gName i v σ H Q := h
theorem v_ret (h : Val ta σ H x) (k : D.rt x H) : tRet ta D σ H := h _ k
theorem v_if {b : Bool} (h : Ans tt σ H b) (h1 : b = true → tu { D with nx := tz D } σ H) (h2 : b = false → tw { D with nx := tz D } σ H) : tSeq (tIfS tt tu tw) tz D σ H := h _ (by
  cases b with
  | true => exact iteT (h1 rfl)
  | false => exact iteF (h2 rfl))
theorem v_if1 {b : Bool} (h : Ans tt σ H b) (h1 : b = true → tu D σ H) (h2 : b = false → tw D σ H) : tIfS tt tu tw D σ H := h _ (by
  cases b with
  | true => exact iteT (h1 rfl)
  | false => exact iteF (h2 rfl))
/-- an if without else: the rest once more where the test says no -/
theorem v_when {b : Bool} (h : Ans tt σ H b) (h1 : b = true → tu { D with nx := tz D } σ H) (h2 : b = false → tz D σ H) : tSeq (tIfS tt tu tNext) tz D σ H := v_if h h1 h2
theorem ans_t {b : Bool} (h : Val ta σ H (.bl b)) : Ans (tTest ta) σ H b := fun _ q => h _ ⟨b, rfl, q⟩
theorem ans_b {b : Bool} (h : Val ta σ H (.bl b)) : Ans (tB ta) σ H b := fun _ q => h _ ⟨b, rfl, q⟩
theorem ans_a {a b : Bool} (h : Ans tt σ H a) (h2 : a = true → Ans tv σ H b) : Ans (tAnd tt tv) σ H (a && b) := fun _ q => h _ (by
  cases a with
  | true => exact iteT (h2 rfl _ q)
  | false => exact iteF q)
theorem ans_o {a b : Bool} (h : Ans tt σ H a) (h2 : a = false → Ans tv σ H b) : Ans (tOr tt tv) σ H (a || b) := fun _ q => h _ (by
  cases a with
  | true => exact iteT q
  | false => exact iteF (h2 rfl _ q))
theorem ans_n {a : Bool} (h : Ans tt σ H a) : Ans (tNot tt) σ H (!a) := fun _ q => h _ q
theorem Val.to (h : Val ta σ H x) (e : x = y) : Val ta σ H y := e ▸ h
theorem Val.go {Q : VK} (h : Val ta σ H x) (q : Q x H) : ta σ H Q := h Q q
end
local macro_rules | `(tactic| walk_at "sql") => `(tactic| first
  | with_reducible assumption
  | exact SqL.of (by assumption)
  | exact SqL.of upd_same)
local macro_rules | `(tactic| walk_at "sqt") => `(tactic| first
  | with_reducible assumption
  | exact SqT.of (by assumption)
  | exact SqT.of upd_same)
local macro_rules | `(tactic| walk_at "at") => `(tactic| first
  | with_reducible assumption
  | exact at_getD (by omega)
  | exact at_ints (by assumption)
  | rfl)
local macro_rules | `(tactic| walk_at "val") => `(tactic| first
  | with_reducible assumption
  | with_reducible exact val_c
  | ((with_reducible apply val_var); rfl)
  | ((with_reducible apply val_I0); (· walk_at "val"); (· walk_at "val"))
  | ((with_reducible apply val_I); (· walk_at "val"); (· walk_at "val"); (· walk_at "side"))
  | ((with_reducible apply val_eq); (· walk_at "val"); (· walk_at "val"); (· rfl))
  | ((with_reducible apply val_ne); (· walk_at "val"); (· walk_at "val"); (· rfl))
  | ((with_reducible apply val_chain); (· walk_at "val"); (· walk_at "val"); (· walk_at "val"))
  | ((with_reducible apply val_andV); (· walk_at "val"); (· intro _; walk_at "val"))
  | ((with_reducible apply val_orV); (· walk_at "val"); (· intro _; walk_at "val"))
  | ((with_reducible apply val_notV); (· walk_at "val"))
  | ((with_reducible apply val_ixL); (· walk_at "val"); (· walk_at "val"); (· walk_at "sql"); (· walk_at "at"))
  | ((with_reducible apply val_ixT); (· walk_at "val"); (· walk_at "val"); (· walk_at "sqt"); (· walk_at "at"))
  | with_reducible exact valA_nil
  | ((with_reducible apply valA_cons); (· walk_at "val"); (· walk_at "val"))
  | ((with_reducible apply val_cb); (· walk_at "val"); (· intro _ q; exact Or.inl ⟨_, rfl, q⟩))
  | ((with_reducible apply val_call); (· walk_at "val"); (· intro _ q; walk_at "sp")))
local macro_rules | `(tactic| walk_at "ans") => `(tactic| first
  | ((with_reducible apply ans_t); (· walk_at "val"))
  | ((with_reducible apply ans_b); (· walk_at "val"))
  | ((with_reducible apply ans_a); (· walk_at "ans"); (· intro _; walk_at "ans"))
  | ((with_reducible apply ans_o); (· walk_at "ans"); (· intro _; walk_at "ans"))
  | ((with_reducible apply ans_n); (· walk_at "ans")))
local macro_rules | `(tactic| walk_at "len") => `(tactic| first
  | (simp only [List.length_cons, List.length_nil, List.length_map, List.length_append]; omega)
  | assumption)
theorem Same.fresh {H H' : Hp} {p : Addr} {o : HO} (e : Same H H') (h : H p = Option.none) : Same H (upd H' p o) := fun a u ha => by
  rw [upd_ne (ne_of_none ha h)]
  exact e a u ha
theorem take_map_succ {xs : List Int} {j : Nat} {x : Int} (h : xs[j]? = Option.some x) : ((xs.take j).map V.int) ++ [.int x] = (xs.take (j + 1)).map V.int := by
  rw [List.take_add_one, h, List.map_append]
  rfl
theorem lenL {n : Nat} (h : n ≤ 100000) : n ≤ sizeLine := Nat.le_trans h (by decide)
theorem dec_int (i j : Int) : decide (V.int i = V.int j) = decide (i = j) := decide_eq_decide.mpr ⟨V.int.inj, congrArg V.int⟩
local macro_rules | `(tactic| walk_at "nf") => `(tactic| ((try refine g_name ?_); dsimp only [List.set_cons_zero, List.set_cons_succ]))
theorem lk0 {a : Str} {v : V} {r : List (Str × V)} : ((a, v) :: r).lookup a = Option.some v := by rw [List.lookup_cons_self]
theorem lk1 {a b : Str} {v : V} {r : List (Str × V)} (h : (a == b) = false) : ((b, v) :: r).lookup a = r.lookup a := by rw [List.lookup_cons, h]
theorem pf0 {a : Str} {v u : V} {r : List (Str × V)} : putF a v ((a, u) :: r) = (a, v) :: r := by
  unfold putF
  rw [if_pos rfl]
theorem pf1 {a b : Str} {v u : V} {r : List (Str × V)} (h : ¬ b = a) : putF a v ((b, u) :: r) = (b, u) :: putF a v r := by
  rw [putF, if_neg h]
theorem pfN {a : Str} {v : V} : putF a v [] = [(a, v)] := rfl
local macro_rules | `(tactic| walk_at "lk") => `(tactic| (repeat (rw [lk1 (by decide +kernel)])); first | exact lk0 | rfl)
local macro_rules | `(tactic| walk_at "pf") => `(tactic| repeat (first | rw [pfN] | rw [pf0] | rw [pf1 (by decide +kernel)]))
/-! ### list(zip(t, u)) of two tuples: each pair is held by the list, so each one is new -/
section
open Sem (wp)
variable {prog : Program} {wd : World} {AA : Around} {EE : Value → Shared → Prop} {sh : Shared}
/-- the zip at z stands ahead of its i-th pair; L: the list that holds the pairs -/
structure ZSt (h : Heap) (L z TI TO i1 i2 l1 l2 : Addr) (xs ys : Array Value) (i : Nat) : Prop where
  pr : IsPair h TI (.ref i1) (.ref i2)
  ia : h.IsTupleIter i1 l1 i
  ib : h.IsTupleIter i2 l2 i
  ta : h.IsTuple l1 xs
  tb : h.IsTuple l2 ys
  out : (IsZip h z TI TO .none ∧ IsPair h TO .none .none) ∨ ∃ (U : Addr) (f : Bool) (oU : Obj), IsZipHeld h z TI TO U f ∧ h.get? U = some oU ∧ U ≠ L ∧ U ≠ z ∧ U ≠ i1 ∧ U ≠ i2
/-- the next pair while the last one is held -/
theorem zheld_item {z TI TO U i1 i2 l1 l2 : Addr} {f : Bool} {oU : Obj} {k : Nat} {xs ys : Array Value} {x y : Value} {W : Value → Shared → Prop} (D : ZipApart z TI TO i1 i2 l1 l2) (gz : IsZipHeld sh.heap z TI TO U f)
    (gU : sh.heap.get? U = some oU) (gp : IsPair sh.heap TI (.ref i1) (.ref i2)) (ga : sh.heap.IsTupleIter i1 l1 k) (gb : sh.heap.IsTupleIter i2 l2 k) (gx : sh.heap.IsTuple l1 xs) (gy : sh.heap.IsTuple l2 ys)
    (ex : xs[k]? = some x) (ey : ys[k]? = some y)
    (fin : ∀ g, IsZipHeld g z TI TO U true → g.IsTupleIter i1 l1 (k + 1) → g.IsTupleIter i2 l2 (k + 1) → IsPair g sh.heap.objs.size x y → g.objs.size = sh.heap.objs.size + 1 →
      (∀ q o, q ≠ z → q ≠ i1 → q ≠ i2 → sh.heap.get? q = some o → g.get? q = some o) → W (.ref sh.heap.objs.size) { sh with heap := g }) :
    wpAny (model prog wd) AA (Builtin.«zip.__next__» ⟨[.ref z], []⟩) (fun r s' => ∃ v, r = .done (.ret v) ∧ W v s') EE sh := by
  show wpAny _ _ (field (.ref z) 2 >>= _) _ EE sh
  refine wpAny_bind (wpAny_field gz rfl (x := .bool false) rfl ?_)
  show wpAny _ _ (field (.ref z) 3 >>= _) _ EE sh
  refine wpAny_bind (wpAny_field gz rfl (x := .ref TI) rfl (wpAny_bind (wpAny_seqItems gp rfl ?_)))
  show wpAny _ _ (Builtin.SmallTypes.ownedTupleIsFree (.ref z) >>= _) _ EE sh
  refine wpAny_bind (wpAny_tupleHeld_zip gz gU fun g1 z1 d1 => ?_)
  simp only [Bool.false_eq_true, if_false]; refine wpAny_bind ?_
  rw [← Array.forIn_toList]; simp only [List.forIn_cons, List.forIn_nil]; refine wpAny_bind (wpAny_bind (wpAny_holding ?_))
  show wpAny _ _ (Builtin.SmallTypes.nextOf (.ref i1) >>= _) _ EE _
  refine wpAny_bind (RZ.nextOf_tuple_item (s := { sh with heap := g1 }) (ga.extBut d1.extBut D.i1z) (gx.extBut d1.extBut D.l1z) ex fun g2 a2 d2 => wpAny_pure (wpAny_pure ?_))
  refine wpAny_bind (wpAny_bind (wpAny_holding ?_)); show wpAny _ _ (Builtin.SmallTypes.nextOf (.ref i2) >>= _) _ EE _
  refine wpAny_bind (RZ.nextOf_tuple_item (s := { sh with heap := g2 }) ((gb.extBut d1.extBut D.i2z).extBut d2.extBut D.i12.symm) ((gy.extBut d1.extBut D.l2z).extBut d2.extBut D.l2i1) ey fun g3 b3 d3 => wpAny_pure (wpAny_pure (wpAny_pure ?_)))
  show wpAny _ _ (newTuple [x, y] >>= _) _ EE _
  refine wpAny_bind (wpAny_newTuple (wpAny_pure ⟨_, rfl, ?_⟩))
  have size3 : g3.objs.size = sh.heap.objs.size := by rw [d3.1, d2.1, d1.1]
  have z3 : IsZipHeld g3 z TI TO U true := d3.extBut _ _ D.i2z.symm (d2.extBut _ _ D.i1z.symm z1)
  have stay : ∀ q o, q ≠ z → q ≠ i1 → q ≠ i2 → sh.heap.get? q = some o → g3.get? q = some o := fun q o q1 q2 q3 e => d3.extBut _ _ q3 (d2.extBut _ _ q2 (d1.extBut _ _ q1 e))
  have a3 : g3.IsTupleIter i1 l1 (k + 1) := a2.extBut d3.extBut D.i12
  have pn : IsPair (g3.push { cls := .type "tuple", data := .seq #[x, y] }) g3.objs.size x y := Heap.get?_push_size _ rfl
  have pz : (g3.push { cls := .type "tuple", data := .seq #[x, y] }).objs.size = g3.objs.size + 1 := Heap.size_push ..
  show W (.ref g3.objs.size) _
  rw [size3] at pn pz ⊢
  exact fin _ (Heap.get?_push_of_some _ z3) (a3.at fun o e => Heap.get?_push_of_some _ e) (b3.at fun o e => Heap.get?_push_of_some _ e) pn pz fun q o q1 q2 q3 e => Heap.get?_push_of_some _ (stay q o q1 q2 q3 e)
/-- no pair is left, the last one is held -/
theorem zheld_end {z TI TO U i1 i2 l1 l2 : Addr} {f : Bool} {oU : Obj} {k : Nat} {xs ys : Array Value} {W : Fin → Shared → Prop} (hh : AA.handled = none) (D : ZipApart z TI TO i1 i2 l1 l2) (gz : IsZipHeld sh.heap z TI TO U f)
    (gU : sh.heap.get? U = some oU) (gp : IsPair sh.heap TI (.ref i1) (.ref i2)) (ga : sh.heap.IsTupleIter i1 l1 k) (gb : sh.heap.IsTupleIter i2 l2 k) (gx : sh.heap.IsTuple l1 xs) (gy : sh.heap.IsTuple l2 ys)
    (ends : xs[k]? = none ∨ ys[k]? = none)
    (fin : ∀ g e, (∀ q o, q ≠ z → q ≠ i1 → q ≠ i2 → sh.heap.get? q = some o → g.get? q = some o) → (∃ o, g.get? e = some o ∧ o.cls = .type "StopIteration") → EE (.ref e) { sh with heap := g }) :
    wpAny (model prog wd) AA (Builtin.«zip.__next__» ⟨[.ref z], []⟩) W EE sh := by
  show wpAny _ _ (field (.ref z) 2 >>= _) W EE sh
  refine wpAny_bind (wpAny_field gz rfl (x := .bool false) rfl ?_)
  show wpAny _ _ (field (.ref z) 3 >>= _) W EE sh
  refine wpAny_bind (wpAny_field gz rfl (x := .ref TI) rfl (wpAny_bind (wpAny_seqItems gp rfl ?_)))
  show wpAny _ _ (Builtin.SmallTypes.ownedTupleIsFree (.ref z) >>= _) W EE sh
  refine wpAny_bind (wpAny_tupleHeld_zip gz gU fun g1 z1 d1 => ?_)
  simp only [Bool.false_eq_true, if_false]; refine wpAny_bind ?_
  rw [← Array.forIn_toList]; simp only [List.forIn_cons, List.forIn_nil]; refine wpAny_bind (wpAny_bind (wpAny_holding ?_))
  show wpAny _ _ (Builtin.SmallTypes.nextOf (.ref i1) >>= _) _ EE _
  cases ex : xs[k]? with
  | none =>
    refine wpAny_bind (RZ.nextOf_tuple_end (s := { sh with heap := g1 }) hh (ga.extBut d1.extBut D.i1z) (gx.extBut d1.extBut D.l1z) ex fun g2 e d2 he => ?_)
    exact fin g2 e (fun q o q1 q2 _ u => d2 _ _ q2 (d1.extBut _ _ q1 u)) he
  | some x =>
    have ey : ys[k]? = none := ends.resolve_left (by rw [ex]; exact fun u => nomatch u)
    refine wpAny_bind (RZ.nextOf_tuple_item (s := { sh with heap := g1 }) (ga.extBut d1.extBut D.i1z) (gx.extBut d1.extBut D.l1z) ex fun g2 a2 d2 => wpAny_pure (wpAny_pure ?_))
    refine wpAny_bind (wpAny_bind (wpAny_holding ?_)); show wpAny _ _ (Builtin.SmallTypes.nextOf (.ref i2) >>= _) _ EE _
    refine wpAny_bind (RZ.nextOf_tuple_end (s := { sh with heap := g2 }) hh ((gb.extBut d1.extBut D.i2z).extBut d2.extBut D.i12.symm) ((gy.extBut d1.extBut D.l2z).extBut d2.extBut D.l2i1) ey fun g3 e d3 he => ?_)
    exact fin g3 e (fun q o q1 q2 q3 u => d3 _ _ q3 (d2.extBut _ _ q2 (d1.extBut _ _ q1 u))) he
/-- one turn of the zip, held or not -/
theorem zst_item {L z TI TO i1 i2 l1 l2 : Addr} {k : Nat} {xs ys : Array Value} {x y : Value} {W : Option Value → Shared → Prop} (D : ZipApart z TI TO i1 i2 l1 l2) (Z : ZSt sh.heap L z TI TO i1 i2 l1 l2 xs ys k) (hL : L < sh.heap.objs.size)
    (ex : xs[k]? = some x) (ey : ys[k]? = some y)
    (fin : ∀ g, ZSt g L z TI TO i1 i2 l1 l2 xs ys (k + 1) → IsPair g sh.heap.objs.size x y → g.objs.size = sh.heap.objs.size + 1 → (∀ q o, q ≠ z → q ≠ TO → q ≠ i1 → q ≠ i2 → sh.heap.get? q = some o → g.get? q = some o) →
      W (some (.ref sh.heap.objs.size)) { sh with heap := g }) : wpAny (model prog wd) AA (pyNext (.ref z)) W EE sh := by
  have lt : ∀ {q : Addr} {o : Obj}, sh.heap.get? q = some o → sh.heap.objs.size ≠ q := fun e => Nat.ne_of_gt (Heap.lt_size e)
  have ni : ∀ {q l : Addr} {j : Nat}, sh.heap.IsTupleIter q l j → sh.heap.objs.size ≠ q := fun ⟨_, e, _⟩ => lt e
  rcases Z.out with ⟨gz, gt⟩ | ⟨U, f, oU, gz, gU, u0, u1, u2, u3⟩
  · refine RZ.pyNext_zipT_item D gz Z.pr gt Z.ia Z.ib Z.ta Z.tb ex ey fun g c1 c2 c3 c4 c5 c6 c7 => ?_
    refine fin g ⟨c7 _ _ D.TIz D.TITO D.TIi1 D.TIi2 Z.pr, c3, c4, ?_, ?_, .inr ⟨sh.heap.objs.size, false, _, c1, c5, Nat.ne_of_gt hL, lt gz, ni Z.ia, ni Z.ib⟩⟩ c5 c6 c7
    · obtain ⟨o, e, r⟩ := Z.ta; exact ⟨o, c7 _ _ D.l1z D.l1TO D.l1i1 D.l1i2 e, r⟩
    · obtain ⟨o, e, r⟩ := Z.tb; exact ⟨o, c7 _ _ D.l2z D.l2TO D.l2i1 D.l2i2 e, r⟩
  · have ty : sh.TypeIs (.ref z) "zip" := ⟨_, gz, rfl⟩
    unfold pyNext
    refine wpAny_bind (wpAny_attempt (wpAny_callSpecial?_slot (name := Str.ofString "__next__") ty F.slot_zip_next (wpAny_call_entry F.slot_zip_next ty F.entry_zip_next
      (zheld_item D gz gU Z.pr Z.ia Z.ib Z.ta Z.tb ex ey fun g c1 c3 c4 c5 c6 c7 => wpAny_pure ?_) (F.args_zip_next_1 _))))
    refine fin g ⟨c7 _ _ D.TIz D.TIi1 D.TIi2 Z.pr, c3, c4, ?_, ?_, .inr ⟨U, true, oU, c1, c7 _ _ u1 u2 u3 gU, u0, u1, u2, u3⟩⟩ c5 c6 fun q o q1 _ q2 q3 e => c7 q o q1 q2 q3 e
    · obtain ⟨o, e, r⟩ := Z.ta; exact ⟨o, c7 _ _ D.l1z D.l1i1 D.l1i2 e, r⟩
    · obtain ⟨o, e, r⟩ := Z.tb; exact ⟨o, c7 _ _ D.l2z D.l2i1 D.l2i2 e, r⟩
theorem zst_end {L z TI TO i1 i2 l1 l2 : Addr} {k : Nat} {xs ys : Array Value} {W : Option Value → Shared → Prop} (hh : AA.handled = none) (D : ZipApart z TI TO i1 i2 l1 l2) (Z : ZSt sh.heap L z TI TO i1 i2 l1 l2 xs ys k)
    (ends : xs[k]? = none ∨ ys[k]? = none) (fin : ∀ g, (∀ q o, q ≠ z → q ≠ TO → q ≠ i1 → q ≠ i2 → sh.heap.get? q = some o → g.get? q = some o) → W none { sh with heap := g }) : wpAny (model prog wd) AA (pyNext (.ref z)) W EE sh := by
  rcases Z.out with ⟨gz, gt⟩ | ⟨U, f, oU, gz, gU, u0, u1, u2, u3⟩
  · exact RZ.pyNext_zipT_end hh D gz Z.pr gt Z.ia Z.ib Z.ta Z.tb ends fin
  · have ty : sh.TypeIs (.ref z) "zip" := ⟨_, gz, rfl⟩
    unfold pyNext
    refine wpAny_bind (wpAny_attempt (wpAny_callSpecial?_slot (name := Str.ofString "__next__") ty F.slot_zip_next (wpAny_call_entry F.slot_zip_next ty F.entry_zip_next
      (zheld_end hh D gz gU Z.pr Z.ia Z.ib Z.ta Z.tb ends fun g e c he => ?_) (F.args_zip_next_1 _))))
    refine wpAny_bind (wpAny_isInstance (T := "StopIteration") (b := true) (let ⟨o, h1, h2⟩ := he; ⟨o, h1, h2⟩) isSubtype_stop (wpAny_pure (fin _ fun q o q1 _ q2 q3 u => c q o q1 q2 q3 u)))
/-- the list lies apart from the zip's own objects -/
structure LOff (L z TI TO i1 i2 l1 l2 : Addr) : Prop where
  a : z ≠ L
  b : TI ≠ L
  c : TO ≠ L
  d : i1 ≠ L
  e : i2 ≠ L
  f : l1 ≠ L
  g : l2 ≠ L
theorem ZSt.keep {h h' : Heap} {L z TI TO i1 i2 l1 l2 : Addr} {xs ys : Array Value} {i : Nat} (Z : ZSt h L z TI TO i1 i2 l1 l2 xs ys i) (A : LOff L z TI TO i1 i2 l1 l2) (k : ∀ q o, q ≠ L → h.get? q = some o → h'.get? q = some o) : ZSt h' L z TI TO i1 i2 l1 l2 xs ys i where
  pr := k _ _ A.b Z.pr
  ia := Z.ia.at fun o u => k _ o A.d u
  ib := Z.ib.at fun o u => k _ o A.e u
  ta := let ⟨o, u, r⟩ := Z.ta; ⟨o, k _ o A.f u, r⟩
  tb := let ⟨o, u, r⟩ := Z.tb; ⟨o, k _ o A.g u, r⟩
  out := by
    rcases Z.out with ⟨u, v⟩ | ⟨U, f, oU, u1, u2, u3, u4⟩
    · exact .inl ⟨k _ _ A.a u, k _ _ A.c v⟩
    · exact .inr ⟨U, f, oU, k _ _ A.a u1, k _ _ u3 u2, u3, u4⟩
/-- the pairs that the list holds -/
structure ZPrs (xs ys : Array Value) (lo : Addr) (h : Heap) (as : List Addr) : Prop where
  up : as.Pairwise (· < ·)
  from_ : ∀ a ∈ as, lo ≤ a
  at_ : ∀ (j : Nat) (a : Addr), as[j]? = some a → ∃ x y, xs[j]? = some x ∧ ys[j]? = some y ∧ IsPair h a x y
theorem ZPrs.lt {xs ys : Array Value} {lo : Addr} {h : Heap} {as : List Addr} (p : ZPrs xs ys lo h as) {a : Addr} (ha : a ∈ as) : a < h.objs.size := by
  obtain ⟨j, hj⟩ := List.mem_iff_getElem?.mp ha
  obtain ⟨x, y, _, _, e⟩ := p.at_ j a hj
  exact Heap.lt_size e
theorem ne_lo {a z lo : Addr} (h : z < lo) (b : lo ≤ a) : a ≠ z := Nat.ne_of_gt (Nat.lt_of_lt_of_le h b)
abbrev IsLs (h : Heap) (L : Addr) (acc : Array Value) (c : Nat) : Prop := h.get? L = some { cls := .type "list", dict := none, data := .seq acc c, slots := #[] }
theorem zl_loop {L z TI TO i1 i2 l1 l2 : Addr} {xs ys : Array Value} {n : Nat} {Rs : Result → Shared → Prop} (hh : AA.handled = none) (D : ZipApart z TI TO i1 i2 l1 l2) (A : LOff L z TI TO i1 i2 l1 l2) (res : Value) (lo : Addr) (h₀ : Heap)
    (below : z < lo ∧ TO < lo ∧ i1 < lo ∧ i2 < lo ∧ L < lo) (hn : n ≤ sizeLine) (ins : ∀ j, j < n → (∃ x, xs[j]? = some x) ∧ ∃ y, ys[j]? = some y) (ends : xs[n]? = none ∨ ys[n]? = none)
    (fin : ∀ h' tk acc c as, (∀ q o, q ≠ L → q ≠ z → q ≠ TO → q ≠ i1 → q ≠ i2 → h₀.get? q = some o → h'.get? q = some o) → IsLs h' L acc c → as.length = n → ZPrs xs ys lo h' as → acc.toList = as.map Value.ref → Rs (.ok (.ret res)) { sh with heap := h', toks := tk }) :
    ∀ (m k : Nat) (h : Heap) (tk c : Nat) (acc : Array Value) (as : List Addr), n - k = m → k ≤ n → ZSt h L z TI TO i1 i2 l1 l2 xs ys k → (∀ q o, q ≠ L → q ≠ z → q ≠ TO → q ≠ i1 → q ≠ i2 → h₀.get? q = some o → h.get? q = some o) → IsLs h L acc c → acc.toList = as.map Value.ref → as.length = k →
      ZPrs xs ys lo h as → lo ≤ h.objs.size → codeAny (model prog wd) AA (.builtin "list.extend.loop" ⟨[.ref L, .ref z, res], []⟩) Rs { sh with heap := h, toks := tk } := by
  intro m
  induction m with
  | zero =>
    intro k h tk c acc as em hk Z keep hL hacc hal hP hlo
    obtain rfl : k = n := by omega
    refine codeAny_builtin PySem.F.entry_extend_loop ?_; rw [Around.under_plainId PySem.F.plain_extend_loop _]
    show wpAny _ AA.in1 (pyNext (.ref z) >>= _) _ _ _
    refine wpAny_bind (zst_end (sh := { sh with heap := h, toks := tk }) (AA := AA.in1) hh D Z ends fun g kg => wpAny_pure (fin g tk acc c as (fun q o q0 q1 q2 q3 q4 u => kg q o q1 q2 q3 q4 (keep q o q0 q1 q2 q3 q4 u)) (kg _ _ A.a.symm A.c.symm A.d.symm A.e.symm hL) hal ⟨hP.up, hP.from_, fun j a hj => ?_⟩ hacc))
    obtain ⟨x, y, e1, e2, e3⟩ := hP.at_ j a hj
    have b := hP.from_ a (List.mem_of_getElem? hj)
    exact ⟨x, y, e1, e2, kg _ _ (ne_lo below.1 b) (ne_lo below.2.1 b) (ne_lo below.2.2.1 b) (ne_lo below.2.2.2.1 b) e3⟩
  | succ m ih =>
    intro k h tk c acc as em hk Z keep hL hacc hal hP hlo
    obtain ⟨⟨x, ex⟩, ⟨y, ey⟩⟩ := ins k (by omega)
    have hsz : acc.size = k := by rw [← Array.length_toList, hacc, List.length_map, hal]
    refine codeAny_builtin PySem.F.entry_extend_loop ?_; rw [Around.under_plainId PySem.F.plain_extend_loop _]
    show wpAny _ AA.in1 (pyNext (.ref z) >>= _) _ _ _
    refine wpAny_bind (zst_item (sh := { sh with heap := h, toks := tk }) D Z (Heap.lt_size hL) ex ey fun g Zg pg sg kg => ?_)
    dsimp only at pg sg kg ⊢
    have gL := kg _ _ A.a.symm A.c.symm A.d.symm A.e.symm hL
    have oth : ∀ q o, q ≠ L → g.get? q = some o → (g.update L (Obj.mapSeq (·.push (Value.ref h.objs.size)))).get? q = some o := fun q o hq u => (Heap.get?_update_other _ _ (Ne.symm hq)).trans u
    have nL : h.objs.size ≠ L := Nat.ne_of_gt (Heap.lt_size hL)
    show wpAny _ AA.in1 (updateSeq L (·.push (Value.ref h.objs.size)) >>= _) _ _ _
    refine wpAny_bind (wpAny_updateSeq gL rfl (wpAny_pure ⟨plainId_quiet PySem.F.plain_extend_loop _, ih (k + 1) _ tk _ (acc.push (Value.ref h.objs.size)) (as ++ [h.objs.size]) (by omega) (by omega) (Zg.keep A oth) (fun q o q0 q1 q2 q3 q4 u => oth q o q0 (kg q o q1 q2 q3 q4 (keep q o q0 q1 q2 q3 q4 u)))
      (Heap.get?_update_self _ gL rfl) (by rw [Array.toList_push, hacc, List.map_append] <;> rfl) (by rw [List.length_append, hal] <;> rfl) ⟨?_, ?_, ?_⟩ ?_⟩) (by rw [hsz]; omega) (by show (acc.push (Value.ref h.objs.size)).size ≤ sizeLine + 1; rw [Array.size_push, hsz]; omega))
    · exact List.pairwise_append.mpr ⟨hP.up, List.pairwise_singleton _ _, fun a ha b hb => by rw [List.mem_singleton.mp hb]; exact hP.lt ha⟩
    · intro a ha
      rcases List.mem_append.mp ha with ha | ha
      · exact hP.from_ a ha
      · rw [List.mem_singleton.mp ha]; exact hlo
    · intro j a hj
      rcases Nat.lt_or_ge j as.length with jl | jl
      · rw [List.getElem?_append_left jl] at hj
        obtain ⟨x', y', e1, e2, e3⟩ := hP.at_ j a hj
        have b := hP.from_ a (List.mem_of_getElem? hj)
        exact ⟨x', y', e1, e2, oth _ _ (ne_lo below.2.2.2.2 b) (kg _ _ (ne_lo below.1 b) (ne_lo below.2.1 b) (ne_lo below.2.2.1 b) (ne_lo below.2.2.2.1 b) e3)⟩
      · rw [List.getElem?_append_right jl] at hj
        have j0 : j - as.length = 0 := by
          rcases Nat.eq_zero_or_pos (j - as.length) with u | u
          · exact u
          · rw [List.getElem?_eq_none (by simp only [List.length_singleton]; omega)] at hj
            cases hj
        rw [j0] at hj
        cases hj
        rw [show j = k by omega]
        exact ⟨x, y, ex, ey, oth _ _ nL pg⟩
    · have e : (g.update L (Obj.mapSeq (·.push (Value.ref h.objs.size)))).get? h.objs.size = _ := oth _ _ nL pg
      exact Nat.le_trans hlo (Nat.le_of_lt (Heap.lt_size e))
theorem zip_len : typeLookup (.type "zip") "__len__" = pure none := am_miss_of_fast (by decide +kernel)
theorem zip_hint : typeLookup (.type "zip") "__length_hint__" = pure none := am_miss_of_fast (by decide +kernel)
/-- list(z), z a new zip of two tuples -/
theorem zl_call {z TI TO i1 i2 l1 l2 : Addr} {xs ys : Array Value} {n : Nat} {W : Value → Shared → Prop} (hh : AA.handled = none) (D : ZipApart z TI TO i1 i2 l1 l2) (ty : sh.TypeIs (.ref z) "zip") (gz : IsZip sh.heap z TI TO .none) (gt : IsPair sh.heap TO .none .none) (pr : IsPair sh.heap TI (.ref i1) (.ref i2))
    (ia : sh.heap.IsTupleIter i1 l1 0) (ib : sh.heap.IsTupleIter i2 l2 0) (ta : sh.heap.IsTuple l1 xs) (tb : sh.heap.IsTuple l2 ys) (hn : n ≤ sizeLine) (ins : ∀ j, j < n → (∃ x, xs[j]? = some x) ∧ ∃ y, ys[j]? = some y) (ends : xs[n]? = none ∨ ys[n]? = none)
    (fin : ∀ h' tk acc c as, (∀ q o, q ≠ z → q ≠ TO → q ≠ i1 → q ≠ i2 → sh.heap.get? q = some o → h'.get? q = some o) → IsLs h' sh.heap.objs.size acc c → as.length = n → ZPrs xs ys sh.heap.objs.size h' as → (∀ a ∈ as, a ≠ sh.heap.objs.size) → acc.toList = as.map Value.ref → W (.ref sh.heap.objs.size) { sh with heap := h', toks := tk }) :
    wpAny (model prog wd) AA (call (.type "list") [.ref z]) W EE sh := by
  have lt : ∀ {q : Addr} {o : Obj}, sh.heap.get? q = some o → q < sh.heap.objs.size := fun e => Heap.lt_size e
  have z1 := lt gz
  have z2 := lt gt
  have z3 := lt pr
  have z4 : i1 < sh.heap.objs.size := let ⟨_, e, _⟩ := ia; lt e
  have z5 : i2 < sh.heap.objs.size := let ⟨_, e, _⟩ := ib; lt e
  have z6 : l1 < sh.heap.objs.size := let ⟨_, e, _⟩ := ta; lt e
  have z7 : l2 < sh.heap.objs.size := let ⟨_, e, _⟩ := tb; lt e
  have A : LOff sh.heap.objs.size z TI TO i1 i2 l1 l2 := ⟨Nat.ne_of_lt z1, Nat.ne_of_lt z3, Nat.ne_of_lt z2, Nat.ne_of_lt z4, Nat.ne_of_lt z5, Nat.ne_of_lt z6, Nat.ne_of_lt z7⟩
  have Z0 : ∀ g, (∀ q o, q ≠ sh.heap.objs.size → sh.heap.get? q = some o → g.get? q = some o) → ZSt g sh.heap.objs.size z TI TO i1 i2 l1 l2 xs ys 0 := fun g k =>
    ⟨k _ _ A.b pr, ia.at fun o u => k _ o A.d u, ib.at fun o u => k _ o A.e u, (let ⟨o, u, r⟩ := ta; ⟨o, k _ o A.f u, r⟩), (let ⟨o, u, r⟩ := tb; ⟨o, k _ o A.g u, r⟩), .inl ⟨k _ _ A.a gz, k _ _ A.c gt⟩⟩
  refine callType_codes (Q₁ := fun obj s₁ => obj = .ref sh.heap.objs.size ∧ s₁ = { sh with heap := sh.heap.push { cls := .type "list", data := .seq #[] } }) PySem.F.called_list (PySem.F.typeCall_list_1 _) PySem.F.entry_list_init (PySem.code_list_new _ ⟨rfl, rfl⟩) fun obj s₁ h₁ => ?_
  obtain ⟨rfl, rfl⟩ := h₁
  have gL : (sh.heap.push { cls := .type "list", data := .seq #[] }).get? sh.heap.objs.size = some { cls := .type "list", data := .seq #[] } := Heap.get?_push_size _ rfl
  refine ⟨⟨_, gL, rfl⟩, PySem.F.args_list_init_2 _ _, ?_⟩
  show wpAny _ _ (do let old ← Builtin.List.listItems (.ref sh.heap.objs.size); Builtin.List.listUpdate (.ref sh.heap.objs.size) (fun _ => #[]); letGo old.toList.reverse; Builtin.List.listExtendWith (.ref sh.heap.objs.size) (.ref z) .none) _ _ _
  refine wpAny_bind ?_
  unfold Builtin.List.listItems
  refine wpAny_bind (wpAny_seqItems gL rfl (wpAny_pure ?_))
  show wpAny _ _ (updateSeq sh.heap.objs.size (fun _ => #[]) >>= fun _ => letGo (#[] : Array Value).toList.reverse >>= fun _ => Builtin.List.listExtendWith (.ref sh.heap.objs.size) (.ref z) .none) _ _ _
  refine wpAny_bind (wpAny_updateSeq gL rfl ?_)
  have g2 := Heap.get?_update_self (Obj.mapSeq (fun _ => (#[] : Array Value))) gL rfl
  have o1 : ∀ q o, q ≠ sh.heap.objs.size → sh.heap.get? q = some o → (sh.heap.push { cls := .type "list", data := .seq #[] }).get? q = some o := fun q o _ e => Heap.get?_push_of_some _ e
  have o2 : ∀ q o, q ≠ sh.heap.objs.size → sh.heap.get? q = some o → ((sh.heap.push { cls := .type "list", data := .seq #[] }).update sh.heap.objs.size (Obj.mapSeq (fun _ => (#[] : Array Value)))).get? q = some o :=
    fun q o hq e => (Heap.get?_update_other _ _ (Ne.symm hq)).trans (o1 q o hq e)
  refine wpAny_bind (wpAny_letGo ?_)
  have gz2 := o2 _ _ A.a gz
  have ty2 : Shared.TypeIs { sh with heap := (sh.heap.push { cls := .type "list", data := .seq #[] }).update sh.heap.objs.size (Obj.mapSeq (fun _ => (#[] : Array Value))) } (.ref z) "zip" := ⟨_, gz2, rfl⟩
  unfold Builtin.List.listExtendWith
  refine wpAny_bind (wpAny_typeOf ty2 ?_)
  have h1 : Builtin.List.listSameRef (.ref sh.heap.objs.size) (.ref z) = false := by simp [Builtin.List.listSameRef, (Ne.symm A.a)]
  have h2 : (Value.type "zip" == Value.type "list") = false := by decide
  have h3 : (Value.type "zip" == Value.type "tuple") = false := by decide
  simp only [h1, h2, h3, Bool.or_false, Bool.false_eq_true, if_false]
  refine wpAny_bind (wpAny_pyIter_zip gz2 ?_)
  refine wpAny_bind (wpAny_holding ?_)
  unfold Builtin.List.listLengthHint
  refine wpAny_bind (wpAny_specialOf ty2 zip_len ?_)
  show wpAny _ _ (specialOf (Value.ref z) (Str.ofString "__length_hint__") >>= _) _ _ _
  refine wpAny_bind (wpAny_specialOf ty2 zip_hint ?_)
  refine wpAny_pure ?_
  show wpAny _ _ (rule "list.extend.makes-room" >>= fun _ => Builtin.List.listTouch (.ref sh.heap.objs.size) >>= fun _ =>
    again (.builtin "list.extend.loop" ⟨[.ref sh.heap.objs.size, .ref z, .none], []⟩)) _ _ _
  refine wpAny_bind (wpAny_rule ?_)
  refine wpAny_bind ?_
  show wpAny _ _ (updateSeq sh.heap.objs.size (·.push .none) >>= fun _ => updateSeq sh.heap.objs.size (·.pop)) _ _ _
  refine wpAny_bind (wpAny_updateSeq g2 rfl ?_)
  have g3 := Heap.get?_update_self (Obj.mapSeq (·.push Value.none)) g2 rfl
  refine wpAny_updateSeq (hz := by seq_fits) g3 rfl ?_
  have g4 := Heap.get?_update_self (Obj.mapSeq (·.pop)) g3 rfl
  have o4 : ∀ q o, q ≠ sh.heap.objs.size → sh.heap.get? q = some o → ((((sh.heap.push { cls := .type "list", data := .seq #[] }).update sh.heap.objs.size (Obj.mapSeq (fun _ => (#[] : Array Value)))).update sh.heap.objs.size (Obj.mapSeq (·.push Value.none))).update sh.heap.objs.size (Obj.mapSeq (·.pop))).get? q = some o :=
    fun q o hq e => (Heap.get?_update_other _ _ (Ne.symm hq)).trans ((Heap.get?_update_other _ _ (Ne.symm hq)).trans (o2 q o hq e))
  refine wpAny_pure ⟨plainId_quiet PySem.F.plain_extend_loop _, zl_loop (AA := AA.in1) (sh := sh) hh D A .none (sh.heap.objs.size + 1) _ ⟨Nat.lt_succ_of_lt z1, Nat.lt_succ_of_lt z2, Nat.lt_succ_of_lt z4, Nat.lt_succ_of_lt z5, Nat.lt_succ_self _⟩ hn ins ends
    (fun h' tk acc c as hk hL hl hP hacc => ?_) n 0 _ _ _ #[] [] (Nat.sub_zero _) (Nat.zero_le _) (Z0 _ o4) (fun q o _ _ _ _ _ e => e) g4 rfl rfl ⟨List.Pairwise.nil, (fun _ ha => nomatch ha), (fun j a hj => by simp at hj)⟩ ?_⟩
  · exact ⟨rfl, fin h' tk acc c as (fun q o q1 q2 q3 q4 e => hk q o (Nat.ne_of_lt (Heap.lt_size e)) q1 q2 q3 q4 (o4 q o (Nat.ne_of_lt (Heap.lt_size e)) e)) hL hl ⟨hP.up, (fun a ha => Nat.le_of_succ_le (hP.from_ a ha)), hP.at_⟩ (fun a ha => Nat.ne_of_gt (hP.from_ a ha)) hacc⟩
  · exact Heap.lt_size g4
end
section
variable {prog : Program} {wd : World}
def putP : Hp → List Addr → List (V × V) → Hp
  | H, a :: as, p :: ps => putP (upd H a (.tup [p.1, p.2])) as ps
  | H, _, _ => H
theorem putP_off {b : Addr} : ∀ (as : List Addr) (ps : List (V × V)) (H : Hp), b ∉ as → putP H as ps b = H b
  | [], _, _, _ => rfl
  | _ :: _, [], _, _ => rfl
  | a :: as, p :: ps, H, h => by
    show putP (upd H a (.tup [p.1, p.2])) as ps b = H b
    rw [putP_off as ps _ (fun z => h (List.mem_cons_of_mem _ z)), upd_ne (fun z => h (by rw [z]; exact List.mem_cons_self))]
theorem putP_at : ∀ (as : List Addr) (ps : List (V × V)) (H : Hp), as.length = ps.length → as.Nodup → ∀ (j : Nat) (t : Addr), as[j]? = some t → ∃ p, ps[j]? = some p ∧ putP H as ps t = some (.tup [p.1, p.2])
  | [], _, _, _, _, j, t, h => by simp at h
  | _ :: _, [], _, h, _, _, _, _ => by cases h
  | a :: as, p :: ps, H, h, hn, 0, t, ht => by
    have hn' := List.nodup_cons.mp hn
    have e : a = t := by simpa using ht
    subst e
    refine ⟨p, rfl, ?_⟩
    show putP (upd H a (.tup [p.1, p.2])) as ps a = _
    rw [putP_off as ps _ hn'.1, upd_same]
  | a :: as, p :: ps, H, h, hn, j + 1, t, ht => by
    have hn' := List.nodup_cons.mp hn
    obtain ⟨r, e1, e2⟩ := putP_at as ps (upd H a (.tup [p.1, p.2])) (Nat.succ.inj h) hn'.2 j t (by simpa using ht)
    exact ⟨r, by simpa using e1, e2⟩
/-- what list(zip(t, u)) leaves -/
def rZipL (K : PySem.W.Frag) : List V → Hp → VK → Prop := fun vs H Q => ∃ (a b : Addr) (xs ys : List V), vs = [.ref a, .ref b] ∧ SqT K H a xs ∧ SqT K H b ys ∧
  ∀ (H' : Hp) (p : Addr) (ts : List Addr), (∀ b o, H b = some o → H' b = some o) → H p = none → (∀ t ∈ ts, H t = none) → p ∉ ts → H' p = some (.lst (ts.map V.ref)) → ts.length = (xs.zip ys).length →
    (∀ (j : Nat) (t : Addr), ts[j]? = some t → ∃ q, (xs.zip ys)[j]? = some q ∧ H' t = some (.tup [q.1, q.2])) → Q (.ref p) H'
def tZipL (K : PySem.W.Frag) (ta : TA) : TE := fun σ H Q => ta σ H fun vs H1 => rZipL K vs H1 Q
variable {X : Cx}
theorem zip_laid {pins : List (Addr × Obj)} {σ : L2.St} {H : Hp} {s : Shared} {h' : Heap} {tk : Nat} {xs ys : List V} {its its2 : List Value} {acc : Array Value} {c : Nat} {as : List Addr} {S : Addr} (I : Inv X pins σ H s) (rx : Vals xs its) (ry : Vals ys its2) (hz : (xs.zip ys).length ≤ sizeLine)
    (hk : ∀ b o, s.heap.get? b = some o → h'.get? b = some o) (hS0 : s.heap.objs.size ≤ S) (hS : IsLs h' S acc c) (hl : as.length = (xs.zip ys).length) (hP : ZPrs its.toArray its2.toArray s.heap.objs.size h' as) (hne : ∀ a ∈ as, a ≠ S) (hacc : acc.toList = as.map Value.ref) :
    ∃ H' : Hp, (∀ b o, H b = some o → H' b = some o) ∧ H S = none ∧ (∀ t ∈ as, H t = none) ∧ S ∉ as ∧ H' S = some (.lst (as.map V.ref)) ∧ (∀ (j : Nat) (t : Addr), as[j]? = some t → ∃ q, (xs.zip ys)[j]? = some q ∧ H' t = some (.tup [q.1, q.2])) ∧ Inv X pins σ H' { s with heap := h', toks := tk } := by
  have hSn : S ∉ as := fun z => hne _ z rfl
  have nd : as.Nodup := List.Pairwise.imp (fun {a b} (h : a < b) => Nat.ne_of_lt h) hP.up
  have new : ∀ t ∈ as, H t = none := fun t ht => I.hok.fresh (hP.from_ t ht)
  have newS : H S = none := I.hok.fresh hS0
  have atP := putP_at as (xs.zip ys) (upd H S (.lst (as.map V.ref))) hl nd
  have off : ∀ b, b ∉ as → b ≠ S → putP (upd H S (.lst (as.map V.ref))) as (xs.zip ys) b = H b := fun b h1 h2 => by rw [putP_off as _ _ h1, upd_ne h2]
  have low : ∀ b o, s.heap.get? b = some o → b ∉ as ∧ b ≠ S := fun b o e => ⟨fun z => absurd (Heap.lt_size e) (Nat.not_lt.mpr (hP.from_ b z)), Nat.ne_of_lt (Nat.lt_of_lt_of_le (Heap.lt_size e) hS0)⟩
  have kp : ∀ b u, H b = some u → (putP (upd H S (.lst (as.map V.ref))) as (xs.zip ys)) b = some u := fun b u e => by
    rw [off b (fun z => by rw [new b z] at e; cases e) (fun z => by rw [z, newS] at e; cases e)]
    exact e
  have eS : putP (upd H S (.lst (as.map V.ref))) as (xs.zip ys) S = some (.lst (as.map V.ref)) := by rw [putP_off as _ _ hSn, upd_same]
  refine ⟨putP (upd H S (.lst (as.map V.ref))) as (xs.zip ys), kp, newS, new, hSn, eS, atP, ?_⟩
  refine I.call' (ch := []) rfl ⟨fun b o q _ _ _ => hk b o q, fun b o q _ _ _ => ⟨o.slots, hk b o q⟩, fun b o q n _ => ?_, fun b o q _ => ⟨o, hk b o q⟩, fun b xs q => kp b _ q, fun b o u q => kp b _ q, fun b ps q => ⟨#[], by rw [kp b _ q]; simp⟩⟩ (fun b u q => ?_) I.bare fun b z => by simp at z
  · obtain ⟨z1, z2⟩ := low b o q
    rw [off b z1 z2]
    exact n
  · by_cases hb : b ∈ as
    · obtain ⟨j, hj⟩ := List.mem_iff_getElem?.mp hb
      obtain ⟨p, e2, e3⟩ := atP j b hj
      rw [e3] at q
      cases q
      obtain ⟨x, y, f1, f2, f3⟩ := hP.at_ j b hj
      obtain ⟨g1, g2⟩ := List.getElem?_zip_eq_some.mp e2
      obtain ⟨u1, k1, r1⟩ := rx.get g1
      obtain ⟨u2, k2, r2⟩ := ry.get g2
      rw [List.getElem?_toArray, k1] at f1
      rw [List.getElem?_toArray, k2] at f2
      cases f1
      cases f2
      exact ⟨by show 2 ≤ sizeLine; decide, [x, y], .cons r1 (.cons r2 .nil), ⟨_, f3, rfl, _, rfl⟩⟩
    · by_cases hb2 : b = S
      · rw [hb2] at q ⊢
        rw [eS] at q
        cases q
        refine ⟨by rw [List.length_map]; omega, acc.toList, c, by rw [hacc]; exact LiI.vals_refs as, ?_⟩
        rw [Array.toArray_toList]
        exact hS
      · rw [off b hb hb2] at q
        exact (I.hok b u q).stay (fun d v _ y => hk d v y) (fun d y => kp d _ y) fun d xs y => kp d _ y
/-- list(zip(e, e2)) of two tuples -/
theorem pe_listZip {e e2 : Expr} {ta : TA} {p zp zpos pos : Pos} (hgl : Gl X "list") (hml : X.mg "list" = none) (hv : bootBuiltins "list" = some (.type "list")) (hg : Gl X "zip") (hm : X.mg "zip" = none) (ha : PA X [e, e2] ta) (hc : X.calm = true := by rfl)
    (hs1 : starEach [.Call (.Name "zip" zp) [e, e2] [] zpos] X.env = (false, eval (.Call (.Name "zip" zp) [e, e2] [] zpos) X.env) :: starEach [] X.env := by rfl)
    (hs : starEach [e, e2] X.env = (false, eval e X.env) :: starEach [e2] X.env := by rfl) (hpl : (backTo zpos (starEach [e2] X.env)).any (·.1) = false := by rfl) :
    PE X (.Call (.Name "list" p) [.Call (.Name "zip" zp) [e, e2] [] zpos] [] pos) (tZipL X.K ta) := by
  refine ⟨fun pins s σ H Q I h => ?_⟩
  refine wpAny_Call_Name_kw (ld_blt I hgl hml hv ?_)
  refine PyProof.Rows.callWith_type1 ?_ hs1 rfl
  rw [hs1]
  show wpAny _ _ (spliced ((false, eval (.Call (.Name "zip" zp) [e, e2] [] zpos) X.env) :: backTo pos (starEach [] X.env))) _ _ s
  refine Calls.spliced_cons ?_
  refine Call_ (ld_blt I hg hm PyProof.Rows.boot_zip (PyProof.Rows.callWith_type1 (thn (ha.run zpos pins s σ H _ I h) fun us s1 ⟨vs, H1, I1, r1, q1⟩ => ?_) hs hpl))
  obtain ⟨a, b, xs, ys, ex, sx, sy, q1⟩ := q1
  subst ex
  cases r1 with
  | cons r rr =>
    cases rr with
    | cons r' rr =>
      cases rr
      cases r
      cases r'
      obtain ⟨its, rv, p1, z1⟩ := I1.tuple sx
      obtain ⟨its2, rv2, p2, z2⟩ := I1.tuple sy
      obtain ⟨o1, ho1, _⟩ := id p1
      obtain ⟨o2, ho2, _⟩ := id p2
      refine RZ.call_zipT (show s1.heap.IsTuple a its.toArray from p1) (show s1.heap.IsTuple b its2.toArray from p2) fun h' hz hTI hTO h1 h2 hsz hk => ?_
      refine Calls.spliced_nil ?_
      have len : (xs.zip ys).length = min xs.length ys.length := List.length_zip
      have l1 := rv.length
      have l2 := rv2.length
      refine zl_call (n := (xs.zip ys).length) (xs := its.toArray) (ys := its2.toArray) (sh := { s1 with heap := h' }) (I1.ok.hd hc) (PySem.W.ktu_apart s1.heap.objs.size a b (Heap.lt_size ho1) (Heap.lt_size ho2)) ⟨_, hz, rfl⟩ hz hTO hTI h1 h2 (let ⟨o, q, r⟩ := p1; ⟨o, hk _ o q, r⟩) (let ⟨o, q, r⟩ := p2; ⟨o, hk _ o q, r⟩) (by omega) (fun j hj => ⟨⟨its[j]'(by omega), ?_⟩, its2[j]'(by omega), ?_⟩) ?_ fun h2' tk acc c as kk hL hl hP hne hacc => ?_
      · rw [List.getElem?_toArray, List.getElem?_eq_getElem (by omega)]
      · rw [List.getElem?_toArray, List.getElem?_eq_getElem (by omega)]
      · rw [List.getElem?_toArray, List.getElem?_toArray]
        rcases Nat.le_total xs.length ys.length with u | u
        · exact .inl (List.getElem?_eq_none (by omega))
        · exact .inr (List.getElem?_eq_none (by omega))
      · have sz : h'.objs.size = s1.heap.objs.size + 5 := hsz
        have lt5 : ∀ {q : Addr} {o : Obj} {n : Nat}, s1.heap.get? q = some o → q ≠ s1.heap.objs.size + n := fun e => Nat.ne_of_lt (Nat.lt_of_lt_of_le (Heap.lt_size e) (Nat.le_add_right _ _))
        have up : s1.heap.objs.size ≤ h'.objs.size := by rw [sz]; exact Nat.le_add_right _ _
        obtain ⟨H', k1, k2, k3, k4, k5, k6, J⟩ := zip_laid (tk := tk) I1 rv rv2 (by omega) (fun q o e => kk q o (lt5 e) (lt5 e) (Nat.ne_of_lt (Heap.lt_size e)) (lt5 e) (hk q o e)) up hL hl ⟨hP.up, fun a ha => Nat.le_trans up (hP.from_ a ha), hP.at_⟩ hne hacc
        exact ⟨.ref _, H', J, rfl, q1 H' _ as k1 k2 k3 k4 k5 hl k6⟩
end
/-! ### a, b, *c = a tuple -/
theorem un_starT {prog : Program} {w : World} {A : Around} {E : Value → Shared → Prop} {s : Shared} {l : Addr} {items : Array Value} {i : Nat} {Q : List Value → Shared → Prop} (hl : IsTup s.heap l items) (hh : A.handled = none) (hi : i ≤ items.size) (hz : items.size ≤ 16384)
    (h : ∀ h₂ tk, Heap.ExtBut s.heap.objs.size s.heap h₂ → Q (items.toList.take i ++ [.ref h₂.objs.size]) { s with heap := h₂.push (seqObj "list" (items.toList.drop i).toArray 0), toks := tk }) : wpAny (model prog w) A (unpackItems (.ref l) (i + 1) (some i)) Q E s := by
  have hlt : l ≠ s.heap.objs.size := by obtain ⟨o, ho, _⟩ := hl; exact Nat.ne_of_lt (Heap.lt_size ho)
  have hll : l < s.heap.objs.size := by obtain ⟨o, ho, _⟩ := hl; exact Heap.lt_size ho
  unfold unpackItems
  refine wpAny_bind ?_
  unfold notIterableAtAll
  refine wpAny_bind (wpAny_specialOf hl.typeIs slot_tuple_iter.lookup ?_)
  refine wpAny_pure ?_
  simp only [Bool.false_eq_true, if_false]
  refine wpAny_bind (wpAny_holding (iter_tuple hl ?_))
  refine wpAny_bind (wpAny_holding (draw_tuple hlt i 0 _ _ ⟨_, Heap.get?_push_size _ rfl, rfl, rfl⟩ (hl.push _) (by omega) fun h₁ hit₁ hs₁ => ?_))
  have hl₁ : IsTup h₁ l items := (hl.push _).extBut hs₁.extBut hlt
  rw [Nat.zero_add] at hit₁
  have hit₁' := hit₁
  obtain ⟨oi, hoi, _⟩ := hit₁'
  have hl₁' := hl₁
  obtain ⟨ol, hol, _⟩ := hl₁'
  rw [List.drop_zero]
  have hfl : (items.toList.take i).length = i := by rw [List.length_take, Array.length_toList]; omega
  rw [if_neg (show ¬ ((items.toList.take i).length < i) by rw [hfl]; omega)]
  refine wpAny_bind (wpAny_holding (PySem.W.kun_collect (s := { s with heap := h₁ }) (T := "tuple_iterator") (.inr (.inr (.inr rfl))) (Walks.tuple (A := A.in1) hh s.heap.objs.size l hlt items) (fun j u st => st.1.typeIs) (k := i) (by omega) ⟨hit₁, hl₁⟩ (Heap.lt_size hoi) (Heap.lt_size hol) (fun h₂ tk hk => ?_) (by rw [sizeLine_eq]; omega)))
  have hrl : (items.toList.drop i).length = items.size - i := by rw [List.length_drop, Array.length_toList]
  show wpAny _ _ (if (items.toList.drop i).length < i + 1 - 1 - i then _ else _) _ _ _
  rw [if_neg (by rw [hrl]; omega)]
  show wpAny _ _ (newList ((items.toList.drop i).take ((items.toList.drop i).length - (i + 1 - 1 - i))) >>= fun d => pure (items.toList.take i ++ [d] ++ (items.toList.drop i).drop ((items.toList.drop i).length - (i + 1 - 1 - i)))) _ _ _
  have e0 : (items.toList.drop i).length - (i + 1 - 1 - i) = (items.toList.drop i).length := by omega
  rw [e0, List.take_length, List.drop_length]
  simp only [List.append_nil]
  have he : Heap.ExtBut s.heap.objs.size s.heap h₂ := fun b o hb e => hk b o hb (hs₁.extBut b o hb (Heap.get?_push_of_some _ e))
  exact wpAny_bind (wpAny_newList (wpAny_pure (h h₂ tk he)) (by rw [hrl, sizeLine_eq]; omega))
section
variable {X : Cx}
theorem pgs_star {t : Expr} {g : TG} {p : Pos} (h : PG X t g) (hs : (assignEach [.Starred t p] X.env).map (·.2) = [assign t X.env] := by rfl) : PGs X [.Starred t p] (gCons g gNil) := by
  refine ⟨fun pins s σ H vs us Q I r h' => ?_⟩
  obtain ⟨v, vr, e1, h'⟩ := h'
  subst e1
  cases r with
  | cons r rr =>
    rw [hs]
    refine assignInOrder_cons (thn (h.run pins s σ H _ _ _ I r h') fun _ s1 ⟨σ1, H1, I1, q1⟩ => ?_)
    obtain ⟨e, q1⟩ := q1
    subst e
    cases rr
    exact assignInOrder_nil ⟨σ1, H1, I1, q1⟩
def gStar (K : PySem.W.Frag) (i : Nat) (t : TGs) : TG := fun v σ H Q => ∃ a xs, v = .ref a ∧ SqT K H a xs ∧ i ≤ xs.length ∧ xs.length ≤ 1000 ∧ ∀ D, H D = none → t (xs.take i ++ [.ref D]) σ (upd H D (.lst (xs.drop i))) Q
theorem pg_star {es : List Expr} {k : Nat} {t : TGs} {i : Nat} {pos : Pos} (hc : X.calm = true) (h : PGs X es t) (hn : (assignEach es X.env).length = i + 1 := by rfl) (hst : (assignEach es X.env).findIdx? (·.1) = some i := by rfl) : PG X (.Tuple es k pos) (gStar X.K i t) := by
  refine ⟨fun pins s σ H v u Q I r hw => ?_⟩
  obtain ⟨a, xs, e1, hq, hi, hl, hw⟩ := hw
  subst e1
  cases r
  obtain ⟨its, rv, ht, hz⟩ := I.tuple hq
  rw [assign_Tuple]
  refine wpAny_bind (wpAny_standAt ?_)
  unfold unpack
  rw [hn, hst]
  have hlen : its.length = xs.length := rv.length.symm
  refine wpAny_bind (wpAny_holding (un_starT ht (I.ok.hd hc) (by simp [hlen, hi]) (by simp [hlen]; omega) fun h₂ tk he => ?_))
  have I1 : Inv X pins σ H { s with heap := h₂, toks := tk } := I.kept (t' := tk) fun b o e => he b o (Nat.ne_of_lt (Heap.lt_size e)) e
  have vd : Vals (xs.drop i) (its.drop i) := rv.drop i
  have hD : H h₂.objs.size = none := I1.hok.fresh (Nat.le_refl _)
  have I2 : Inv X pins σ (upd H h₂.objs.size (.lst (xs.drop i))) { s with heap := h₂.push (seqObj "list" (its.drop i).toArray 0), toks := tk } := I1.laid (t' := tk) (fun b u e => Heap.get?_push_of_some _ e) (Nat.le_refl _)
    (show ObjOk X.prog X.w _ _ _ (.lst (xs.drop i)) from ⟨by rw [List.length_drop, sizeLine_eq]; omega, its.drop i, 0, vd, Heap.get?_push_size _ rfl⟩)
  have vt : Vals (xs.take i ++ [.ref h₂.objs.size]) (its.take i ++ [.ref h₂.objs.size]) := (rv.take i).append (.cons rfl .nil)
  exact h.run pins _ σ _ _ _ Q I2 (by simpa using vt) (hw _ hD)
end
/-! ### dicts of ints -/
theorem seq_nat {n k : Nat} (h : k < n) : seqIndex? (k : Int) n = some k := by
  refine (ixN_seq (n := n) (i := k) (j := k) ?_).1
  unfold ixN
  rw [if_pos (by omega), if_pos (by omega), Int.toNat_natCast]
/-- a key that a row of pairs over a list without doubles does not have yet -/
theorem valV_none_of {f : Int → V} {ys : List Int} {y : Int} (h : y ∉ ys) : valV (ys.map fun z => ((Sum.inl z : Key), f z)) (Sum.inl y) = none := by
  induction ys with
  | nil => rfl
  | cons z r ih =>
    rw [List.map_cons, valV_neg (fun e => h (List.mem_cons.mpr (Or.inl (Sum.inl.inj e).symm))), ih (fun e => h (List.mem_cons_of_mem _ e))]
theorem not_in_take {ys : List Int} {i : Nat} {y : Int} (hn : ys.Nodup) (h : ys[i]? = some y) : y ∉ ys.take i := by
  intro hm
  obtain ⟨j, hj⟩ := List.mem_iff_getElem?.mp hm
  obtain ⟨hi, e⟩ := List.getElem?_eq_some_iff.mp h
  rw [List.getElem?_take] at hj
  split at hj
  · rename_i hlt
    obtain ⟨hj', e2⟩ := List.getElem?_eq_some_iff.mp hj
    have z : ys[j] = ys[i] := by rw [e2, e]
    have := (List.getElem_inj hn).mp z
    omega
  · cases hj
/-- a dict block over any walk -/
theorem dc_it {J : It} {n : Nat} {G : Hp → Prop} {Y : Nat → Hp → V → Hp → Prop} (w : Walk J n G Y) {g : TG} {tt : TT} {tk tv : TE} {vs : List Nat} {σ : L2.St} {H1 : Hp} {D : Addr} {Qd : Hp → Prop} (Pv : Nat → Hp → Prop) (h0 : Pv 0 (upd H1 D (.dK []))) (hG : ∀ i H, i ≤ n → Pv i H → G H)
    (hs : ∀ i x H H', i < n → Pv i H → Y i H x H' → g x (wipe σ vs) H' fun σ2 H2 => wipe σ2 vs = wipe σ vs ∧ tt σ2 H2 fun b H3 =>
      if b = true then tk σ2 H3 fun y H4 => tv σ2 H4 fun z H5 => ∃ kvs k, y = kV k ∧ H5 D = some (.dK kvs) ∧ kvs.length < sizeLine ∧ Pv (i + 1) (upd H5 D (.dK (putK kvs k z))) else Pv (i + 1) H3) (hd : ∀ H, Pv n H → Qd H) :
    ∃ W : Nat → Nat → Hp → Prop, (∃ m, W 0 m (upd H1 D (.dK []))) ∧ ∀ i m H, W i m H →
      (J.stop i H ∧ Qd H) ∨ (J.go i H ∧ ∃ Nx : Hp → Prop, (∀ H', Nx H' → ∃ m', m' < m ∧ W (i + 1) m' H') ∧ ∀ x H', J.yld i H x H' → g x (wipe σ vs) H' fun σ2 H2 => wipe σ2 vs = wipe σ vs ∧ tt σ2 H2 fun b H3 =>
        if b = true then tk σ2 H3 fun y H4 => tv σ2 H4 fun z H5 => ∃ kvs k, y = kV k ∧ H5 D = some (.dK kvs) ∧ kvs.length < sizeLine ∧ Nx (upd H5 D (.dK (putK kvs k z))) else Nx H3) := by
  refine ⟨fun i m H => i + m = n ∧ Pv i H, ⟨n, Nat.zero_add n, h0⟩, fun i m H hp => ?_⟩
  have q := hG i H (hp.1 ▸ Nat.le_add_right i m) hp.2
  cases m with
  | zero =>
    obtain ⟨rfl, p⟩ := hp
    exact .inl ⟨w.stops H q, hd H p⟩
  | succ m =>
    obtain ⟨e, p⟩ := hp
    have hi : i < n := by omega
    exact .inr ⟨w.goes i H hi q, Pv (i + 1), fun H' p' => ⟨m, Nat.lt_succ_self m, by omega, p'⟩, fun x H' y => hs i x H H' hi p (w.yields i H x H' hi q y)⟩
/-- a dict block over a list that the block leaves as it is -/
theorem dc_list {K : PySem.W.Frag} {a : Addr} {xs : List V} {g : TG} {tt : TT} {tk tv : TE} {vs : List Nat} {σ : L2.St} {H1 : Hp} {D : Addr} {Qd : Hp → Prop} (Pv : Nat → Hp → Prop) (h0 : Pv 0 (upd H1 D (.dK []))) (hl : ∀ i H, i ≤ xs.length → Pv i H → SqL K H a xs)
    (hs : ∀ i x H, xs[i]? = some x → Pv i H → g x (wipe σ vs) H fun σ2 H2 => wipe σ2 vs = wipe σ vs ∧ tt σ2 H2 fun b H3 =>
      if b = true then tk σ2 H3 fun y H4 => tv σ2 H4 fun z H5 => ∃ kvs k, y = kV k ∧ H5 D = some (.dK kvs) ∧ kvs.length < sizeLine ∧ Pv (i + 1) (upd H5 D (.dK (putK kvs k z))) else Pv (i + 1) H3) (hd : ∀ H, Pv xs.length H → Qd H) :
    ∃ W : Nat → Nat → Hp → Prop, (∃ m, W 0 m (upd H1 D (.dK []))) ∧ ∀ i m H, W i m H →
      ((Itl K a).stop i H ∧ Qd H) ∨ ((Itl K a).go i H ∧ ∃ Nx : Hp → Prop, (∀ H', Nx H' → ∃ m', m' < m ∧ W (i + 1) m' H') ∧ ∀ x H', (Itl K a).yld i H x H' → g x (wipe σ vs) H' fun σ2 H2 => wipe σ2 vs = wipe σ vs ∧ tt σ2 H2 fun b H3 =>
        if b = true then tk σ2 H3 fun y H4 => tv σ2 H4 fun z H5 => ∃ kvs k, y = kV k ∧ H5 D = some (.dK kvs) ∧ kvs.length < sizeLine ∧ Nx (upd H5 D (.dK (putK kvs k z))) else Nx H3) :=
  dc_it walk_list Pv h0 hl (fun i x H H' _ p y => by
    obtain ⟨rfl, e⟩ := y
    exact hs i x _ e p) hd
/-- an expression over a dict that is locked meanwhile -/
def tLock (te : TE) : TE := fun σ H Q => ∃ (d : Addr) (kvs : List (Key × V)), H d = some (.dK kvs) ∧ ∀ od, te σ (upd H d (.frz od (.dK kvs))) fun x H' => H' d = some (.frz od (.dK kvs)) ∧ Q x (upd H' d (.dK kvs))
theorem pe_lock {X : Cx} {e : Expr} {te : TE} (he : PE X e te) : PE X e (tLock te) := by
  refine ⟨fun pins s σ H Q I h => ?_⟩
  obtain ⟨d, kvs, hd, q⟩ := h
  have nf := I.nofrz hd trivial
  obtain ⟨od, J⟩ := I.lock hd trivial
  exact thn (he.run pins s σ _ _ J (q od)) fun u s1 ⟨x, H1, I1, r, h1, q1⟩ => ⟨x, _, I1.unlock h1 nf, r, q1⟩
/-! ### own errors: made, raised, caught, asked; defs called from a suite -/
/-- o.m(..) where what leaves it is wished for at the caller's slots -/
def tMethN (C : Addr) (m : Str) (sp : Sp) (E : L2.St → XK) (ta : TE) (t : TA) : TE := fun σ H Q => ta σ H fun x H1 => ∃ a dx fs, x = .ref a ∧ H1 a = some (.ins C dx fs) ∧ fs.lookup m = none ∧ t σ H1 fun vs H2 => sp (x :: vs) H2 Q (E σ)
section
variable {X : Cx} {CX : CXT} {lv : Nat} {g C : Addr} {gd : FuncData} {pn : List Str} {sp : Sp} {W : L2.St → XK} {x m : Str} {q0 q1 q2 : Pos} {u0 ob : Expr} {ur : List Expr} {to : TE} {ta : TA}
theorem pe_methN {pl : Sem Bool} (hob : PE X ob to) (cl : Cls X.K C) (me : Meth X.K C m g) (fn : FnOk X.prog X.w X.K X.mg X.base CX lv g gd pn sp) (room : Room lv X.A) (bi : Binds X.K gd pn []) (pass : ∀ σ, PassesAt CX X σ (W σ)) (har : PA X (u0 :: ur) ta)
    (st : starEach (u0 :: ur) X.env = (false, eval u0 X.env) :: starEach ur X.env := by rfl) (nokw : (backTo q2 (starEach ur X.env)).any (·.1) = false := by rfl)
    (ev : eval (.Call (.Attribute ob m q1) (u0 :: ur) [] q2) X.env = (do
      let r ← eval ob X.env
      standAt q1.atName
      let (k, fst) ← holding [r] (getMethod r m pl)
      callWith q2 k fst (backTo q2 (starEach (u0 :: ur) X.env)) (backToKw q2 (keywordEach [] X.env))) := by rfl) :
    PE X (.Call (.Attribute ob m q1) (u0 :: ur) [] q2) (tMethN C m sp W to ta) := by
  refine ⟨fun pins s σ H Q inv wish => ?_⟩
  refine PySem.W.methodCall_KW (pl := pl) (thn (hob.run pins s σ H _ inv wish) fun v s1 ⟨y, H1, inv1, rel, a, dx, fs, ey, ea, no, wish1⟩ => ?_) ev
  subst ey
  obtain rfl : v = Value.ref a := rel
  refine getmeth_ok inv1 ea cl me no ?_
  refine PySem.W.callWith_K (first := [.ref a]) (h₀ := X.base) inv.ok.mod.kin me.kp (thn (har.run q2 pins s1 σ H1 _ inv1 wish1) fun us s2 ⟨ys, H2, inv2, rels, wish2⟩ => ⟨inv2.kIn, ?_⟩) st nokw
  exact run_fnS (us := .ref a :: us) (vs := .ref a :: ys) fn room bi (pass σ) inv2 (.cons rfl rels) wish2
end
/-- C(e, ..): an own error by its own __init__, where nothing is handled -/
theorem pmkN {X : Cx} {CX : CXT} {x : Str} {u0 : Expr} {ur : List Expr} {ta : TA} {q0 q1 : Pos} {C ini : Addr} {lv : Nat} {fd : FuncData} {pn : List Str} {sp : Sp} (cl : OexC X.K C) (hin : PySem.W.findIn X.K (.ref C) "__init__" = some (some (.ref ini))) (ity : PySem.W.typeIn X.K (.ref ini) = some (.type "function"))
    (fn : FnOk X.prog X.w X.K X.mg X.base CX lv ini fd pn sp) (room : Room (lv + 1) X.A) (bi : Binds X.K fd pn []) (pass : Passes CX X (fun _ _ _ => False)) (gl : Gl X x) (mx : X.mg x = some (.ref C)) (har : PA X (u0 :: ur) ta)
    (nd0 : (x == ("__debug__" : Str)) = false := by decide) (st : starEach (u0 :: ur) X.env = (false, eval u0 X.env) :: starEach ur X.env := by rfl) (nokw : (backTo q1 (starEach ur X.env)).any (·.1) = false := by rfl) :
    L2N.PMk X (.Call (.Name x q0) (u0 :: ur) [] q1) (tMkO C sp [] ta) := by
  intro pins s σ H Q inv wish
  obtain ⟨_, _, _, _, bm, _, _, _, _, _, _, _, _, _, _, hC, hbm⟩ := cl.cls
  refine wpAny_Call_Name_kw (ld_glob inv gl mx ?_ nd0)
  refine PySem.W.callWith_K (h₀ := X.base) inv.ok.mod.kin cl.kC (thn (har.run q1 pins s σ H _ inv wish) fun us s1 ⟨ys, H1, inv1, rels, hz, wish1⟩ => ⟨inv1.kIn, ?_⟩) st nokw
  show wpAny _ _ (call (.ref C) us) _ _ _
  obtain ⟨hp, gs, dr, tk, os⟩ := s1
  have big : hp.objs.size ≤ hp.objs.size + 1 := Nat.le_succ _
  have wish2 := wish1 (hp.objs.size + 1) (inv1.hok.fresh big)
  rw [List.append_nil] at wish2
  have keep : ∀ b o, hp.get? b = some o → ((hp.push (PySem.W.kdv_tup us)).push (PySem.HandSPX.excO C hp.objs.size)).get? b = some o := fun b o e => Heap.get?_push_of_some _ (Heap.get?_push_of_some _ e)
  have there : ((hp.push (PySem.W.kdv_tup us)).push (PySem.HandSPX.excO C hp.objs.size)).get? (hp.objs.size + 1) = some (PySem.HandSPX.excO C hp.objs.size) := by heap_get
  have inv2 : Inv X pins σ (upd H1 (hp.objs.size + 1) (exo (hp.objs.size + 1) C none)) ⟨(hp.push (PySem.W.kdv_tup us)).push (PySem.HandSPX.excO C hp.objs.size), gs, dr, tk, os⟩ :=
    inv1.laid (t' := tk) (a := hp.objs.size + 1) (o := exo (hp.objs.size + 1) C none) (h' := (hp.push (PySem.W.kdv_tup us)).push (PySem.HandSPX.excO C hp.objs.size)) keep big (exo_ok there)
  have rels2 : Vals (V.ref (hp.objs.size + 1) :: ys) (Value.ref (hp.objs.size + 1) :: us) := .cons rfl rels
  have ln : (Value.ref (hp.objs.size + 1) :: us ++ []).length = pn.length := by
    have e := rels2.length
    rw [fn.len _ _ _ _ wish2] at e
    rw [List.append_nil]
    exact e.symm
  have few : us.length ≤ sizeLine := by
    rw [← Paired.length rels, sizeLine_eq]
    omega
  have bnd := bi _ (Value.ref (hp.objs.size + 1) :: us) inv2.kIn ln
  rw [List.append_nil] at bnd
  refine wpAny_call (PySem.HandSPX.call_own F.excBase_ValueError (fun Y => PySem.HandSPX.refsVE_contains Y bm hbm) (inv1.kIn _ _ hC) (PySem.W.looks_findIn inv1.kIn hin) (fun me => PySem.W.bind_fn inv1.kIn me ity) few
    (codeAny_mono (fn.run _ X.stack _ _ ⟨Value.ref (hp.objs.size + 1) :: us, []⟩ (Value.ref (hp.objs.size + 1) :: us) _ _ (fun _ _ _ => False) (room.make C us []) (inv2.env0.make C us []) bnd rels2 wish2) fun r s' post => ?_))
  cases r with
  | error er => exact pass pins σ _ _ er s' inv2 post
  | ok fl =>
    cases fl with
    | ret u =>
      obtain ⟨v, H2, os2, bare2, un2, hok2, rv, ev, d, fs, ea, ed, hd1, wish3⟩ := post
      subst ev
      obtain ⟨h2, gs2, dr2, tk2, os3⟩ := s'
      obtain ⟨t0, G, J, kG, ge, hoe, na⟩ := mk_end0 (d2 := dr2) (t2 := tk2) inv1 big keep un2 hok2 os2 bare2 ea ed hd1
      refine ⟨rv, hp.objs.size + 1, _, _, ⟨G, gs2, dr2, tk2, os3⟩, _, .ref C, some d, rfl, J, kG, ge, hoe, ⟨rfl, rfl, fun zs hv => ?_⟩, rfl, rfl, na, rfl, bare2, raises_own cl.exC cl.tyC, wish3⟩
      cases hv
      rfl
    | next => exact False.elim post
    | brk => exact False.elim post
    | cont => exact False.elim post
section
variable {P : Program} {w : World} {K : PySem.W.Frag} {mg : Str → Option Value} {base : Heap}
/-- a def that may raise own errors -/
theorem Fun_okN {x qual : Str} {st : Stmt} {f : Addr} {fd : FuncData} {N ps : List Str} {k : Nat} {sp : Sp} (F : Fun K x qual st f fd) (S : FnScope N ps (defScope st)) (len : ∀ vs H Q E, sp vs H Q E → vs.length = ps.length)
    (body : ∀ (cdv : Value) (A : Around) (outer : List Env) (s : Shared) (H : Hp) (vs : List V) (Q : VK) (E : XK), Room k (A.deeper (envOfC qual (defScope st) s.heap.objs.size f cdv)) → sp vs H Q E →
      ∃ t, PSs (cxOf (L2N.CX P w) P w K mg base N qual (defScope st) f cdv A outer s H E) (defBody st) t ∧ t { nx := fun _ H' => Q .non H', rt := Q } (start N vs) H) : FnOk P w K mg base (L2N.CX P w) (k + 1) f fd ps sp := by
  obtain ⟨oc, od, kV, doc, pm, an, cdv, ct, osl, rfl, lk, hcd⟩ := F.ex
  exact fn_of lk hcd S len fun A outer s H vs Q E room wish => body cdv A outer s H vs Q E room wish
/-- a def that lets nothing out may stand where one that raises is asked for -/
theorem calmN {f : Addr} {fd : FuncData} {ps : List Str} {k : Nat} {sp : Sp} (G : FnOk P w K mg base CX0 k f fd ps sp) : FnOk P w K mg base (L2N.CX P w) k f fd ps sp :=
  ⟨G.len, fun A outer s H args us vs Q E a b c d e => codeAny_mono (G.run A outer s H args us vs Q E a b c d e) fun r s' z => match r, z with
    | .ok (.ret u), z => z
    | .ok .next, z => z.elim
    | .ok .brk, z => z.elim
    | .ok .cont, z => z.elim
    | .error _, z => z.elim⟩
theorem takesN {X : Cx} : L2N.Takes X (fun _ _ _ _ => False) := fun _ _ z => by
  obtain ⟨_, _, _, _, _, _, _, _, _, _, _, _, _, _, _, _, z⟩ := z
  exact z.elim
/-! a def that is called while p is handled -/
structure FnP (P : Program) (w : World) (K : PySem.W.Frag) (mg : Str → Option Value) (base : Heap) (k : Nat) (f : Addr) (fd : FuncData) (ps : List Str) (sp : Addr × Obj → Sp) : Prop where
  len : ∀ p vs H Q E, sp p vs H Q E → vs.length = ps.length
  run : ∀ (A : Around) (outer : List Env) (s : Shared) (H : Hp) (args : Args) (us : List Value) (vs : List V) (Q : VK) (E : XK) (p : Addr × Obj), L2H.RoomH k A → L2H.Hot1 A p → L2H.PinOk outer H s p → Env0 P w K mg base A outer s H → BindsTo s fd args (ps.zip us) → Vals vs us → sp p vs H Q E →
    codeAny (model P w) A (.call (.ref f) args) (CR CX0 outer P w H s Q E) s
theorem FnP.mono {j k : Nat} {f : Addr} {fd : FuncData} {ps : List Str} {sp : Addr × Obj → Sp} (F : FnP P w K mg base j f fd ps sp) (h : j ≤ k) : FnP P w K mg base k f fd ps sp :=
  ⟨F.len, fun A outer s H args us vs Q E p r => F.run A outer s H args us vs Q E p (r.mono h)⟩
/-- the body, walked while p is handled: X.pn = [p] -/
theorem Fun_okP {x qual : Str} {st : Stmt} {f : Addr} {fd : FuncData} {N ps : List Str} {k : Nat} {sp : Addr × Obj → Sp} (F : Fun K x qual st f fd) (S : FnScope N ps (defScope st)) (len : ∀ p vs H Q E, sp p vs H Q E → vs.length = ps.length)
    (body : ∀ (cdv : Value) (A : Around) (outer : List Env) (s : Shared) (H : Hp) (vs : List V) (Q : VK) (E : XK) (p : Addr × Obj), L2H.Hot1 A p → L2H.RoomH k (A.deeper (envOfC qual (defScope st) s.heap.objs.size f cdv)) → sp p vs H Q E →
      ∃ t, PSs (L2H.cxH CX0 P w K mg base N qual (defScope st) f cdv A outer s H E p) (defBody st) t ∧ t { nx := fun _ H' => Q .non H', rt := Q } (start N vs) H) : FnP P w K mg base (k + 1) f fd ps sp := by
  obtain ⟨oc, od, kV, doc, pm, an, cdv, ct, osl, rfl, lk, hcd⟩ := F.ex
  refine ⟨len, fun A outer s H args us vs Q E p room hot pin e0 bnd rels wish => ?_⟩
  have ln := len _ _ _ _ _ wish
  have inK : K.In s.heap := e0.mod.kin.keeps fun b o e => (e0.bs b o e).1
  have lim : s.heap.NoLimit := e0.mod.nolimit.keeps fun b o e => (e0.bs b o e).1
  have kinds : ∀ y ∈ ps.zip us, (defScope st).names.lookup y.1 = some .local ∨ ((defScope st).names.lookup y.1 = some .cell ∧ ((cellsFrom (s.heap.objs.size + 1) (defScope st).names []).lookup y.1).isSome = true) := by
    rintro ⟨n, v⟩ hy
    have mem := (List.of_mem_zip hy).1
    rcases S.par n mem with q | q
    · exact .inl q
    · exact .inr ⟨q, PySem.W.cellsFrom_some _ _ _ (.inl q)⟩
  refine codeAny_call_function room.depth (inK _ _ lk) rfl S.co S.gen rfl (PySem.W.codeRec_of inK hcd) (bnd _ _ _ _ ?_)
  refine wpAny_newFunctionEnv_cells S.kind kinds fun env he s1 ic => ?_
  subst he
  refine ⟨lim.keeps ic.toInCall.keep, codeAny_func ?_⟩
  obtain ⟨t, ht, hq⟩ := body cdv A outer s H vs Q E p hot (room.deeper _) wish
  have inv : Inv (L2H.cxH CX0 P w K mg base N qual (defScope st) f cdv A outer s H E p) [] (L2.start N vs) H s1 := L2H.inv_startH S pin e0 ln rels ic
  refine wpAny_mono (ht.run [] s1 (L2.start N vs) H _ inv hq) (fun fl s' z => ?_) fun e s' z => z
  cases fl with
  | ret u =>
    obtain ⟨v, σ', H', J, rv, q⟩ := z
    exact ⟨v, H', J.os, J.bare, J.base, J.hok, rv, q⟩
  | next =>
    obtain ⟨σ', H', J, q⟩ := z
    exact ⟨.non, H', J.os, J.bare, J.base, J.hok, rfl, q⟩
  | brk =>
    obtain ⟨_, _, _, q⟩ := z
    exact q.elim
  | cont =>
    obtain ⟨_, _, _, q⟩ := z
    exact q.elim
end
/-- p is handled in X -/
def HotP (X : Cx) (p : Addr × Obj) : Prop := L2H.Hot1 X.A p ∧ p ∈ X.pn
theorem HotP.c {X : Cx} {p : Addr × Obj} (h : HotP X p) : L2H.HotC X := ⟨p, h.1, h.2⟩
theorem hotS {X : Cx} {a : Addr} {oe : Obj} {cls : Value} {d : Option Addr} {pn : List (Addr × Obj)} (hz : L2N.Zn cls d oe) (hf : ∃ vs, oe.data = .fields vs) : HotP (X.suite a ((a, oe) :: pn)) (a, oe) :=
  ⟨⟨rfl, let ⟨vs, e⟩ := hf; ⟨vs, e, hz.2.2 vs e⟩⟩, List.mem_cons_self⟩
def tCallP (sp : Sp) (t : TA) : TE := fun σ H Q => t σ H fun vs H1 => sp vs H1 Q (fun _ _ _ => False)
theorem pe_callP {X : Cx} {k : Nat} {f : Addr} {fd : FuncData} {ps : List Str} {sp : Addr × Obj → Sp} {p : Addr × Obj} {x : Str} {u0 : Expr} {ur : List Expr} {ta : TA} {q0 q1 : Pos} (F : FnP X.prog X.w X.K X.mg X.base k f fd ps sp) (room : L2H.RoomH k X.A) (hp : HotP X p) (gl : Gl X x) (mx : X.mg x = some (.ref f)) (hk : PySem.W.keepIn X.K (.ref f) = true)
    (bi : Binds X.K fd ps []) (har : PA X (u0 :: ur) ta) (nd0 : (x == ("__debug__" : Str)) = false := by decide) (st : starEach (u0 :: ur) X.env = (false, eval u0 X.env) :: starEach ur X.env := by rfl) (nokw : (backTo q1 (starEach ur X.env)).any (·.1) = false := by rfl) :
    PE X (.Call (.Name x q0) (u0 :: ur) [] q1) (tCallP (sp p) ta) := by
  refine ⟨fun pins s σ H Q inv wish => ?_⟩
  refine wpAny_Call_Name_kw (ld_glob inv gl mx ?_ nd0)
  refine PySem.W.callWith_K (h₀ := X.base) inv.ok.mod.kin hk (thn (har.run q1 pins s σ H _ inv wish) fun us s1 ⟨ys, H1, inv1, rels, wish1⟩ => ⟨inv1.kIn, ?_⟩) st nokw
  have ln : us.length = ps.length := by rw [← rels.length]; exact F.len _ _ _ _ _ wish1
  have bnd := bi s1 us inv1.kIn (by rw [List.append_nil]; exact ln)
  rw [List.append_nil] at bnd
  have pp := inv1.pin p (List.mem_append_left _ hp.2)
  have pin : L2H.PinOk X.stack H1 s1 p := ⟨pp.1, pp.2.1, fun hm => (List.mem_cons.mp (inv1.stkSub p.1 hm)).elim pp.2.2.1 pp.2.2.2.1, pp.2.2.2.2⟩
  refine wpAny_call (codeAny_mono (F.run X.A X.stack s1 H1 ⟨us, []⟩ us ys Q _ p room hp.1 pin inv1.env0 bnd rels wish1) fun r s' post => ?_)
  cases r with
  | error e => exact post.elim
  | ok fl =>
    cases fl with
    | ret u => exact inv1.after post
    | next => exact False.elim post
    | brk => exact False.elim post
    | cont => exact False.elim post
/-- the error p: of the class at D, its fields fs at d -/
structure ErrAt (D : Addr) (d : Addr) (fs : List (Str × V)) (p : Addr × Obj) (H : Hp) : Prop where
  cls : p.2.cls = .ref D
  dic : p.2.dict = some d
  fld : ∃ vs, p.2.data = .fields vs
  at_ : H d = some (.xd fs)
theorem ErrAt.same {D d : Addr} {fs : List (Str × V)} {p : Addr × Obj} {H H' : Hp} (e : ErrAt D d fs p H) (s : Same H H') : ErrAt D d fs p H' := ⟨e.cls, e.dic, e.fld, s _ _ e.at_⟩
theorem errS {D d a : Addr} {fs : List (Str × V)} {oe : Obj} {H : Hp} (hz : L2N.Zn (.ref D) (some d) oe) (hf : ∃ vs, oe.data = .fields vs) (h : H d = some (.xd fs)) : ErrAt D d fs (a, oe) H := ⟨hz.1, hz.2.1, hf, h⟩
/-- isinstance(e, T), e the error in hand -/
def rIsP (K : PySem.W.Frag) (p : Addr × Obj) : List V → Hp → VK → Prop := fun xs H Q => ∃ (c : V) (cv : Value) (b : Bool) (D d : Addr) (fs : List (Str × V)), xs = [.ref p.1, c] ∧ (∀ u, RelV c u → u = cv) ∧ ErrC K D ∧ ErrAt D d fs p H ∧ PySem.W.kitOne K (.ref D) cv = some b ∧ Q (.bl b) H
theorem call_isP {X : Cx} {p : Addr × Obj} (hp : p ∈ X.pn) : CallR X (.builtin "isinstance") (rIsP X.K p) := by
  intro pins s σ H xs us Q inv rels wish
  obtain ⟨c, cv, b, D, d, fs, rfl, one, C, e, kit, q⟩ := wish
  cases rels with
  | cons r0 rr =>
    cases rr with
    | cons r1 rr =>
      cases rr
      cases r0
      cases one _ r1
      obtain ⟨mA, hns, _⟩ : ObjOk X.prog X.w H s.heap d (.xd fs) := inv.hok d _ e.at_
      obtain ⟨od, ho, _⟩ := lookIn_ns hns
      obtain ⟨vs, hv⟩ := e.fld
      have J : PySem.W.InstAt s.heap p.1 p.2 D (some od) := ⟨(inv.pin p (List.mem_append_left _ hp)).1, e.cls, by unfold PySem.W.notCls; rw [hv] <;> rfl, by rw [e.dic]; exact ho⟩
      exact PySem.W.kia_one (PySem.W.kitx_exc C.cl C.ga C.gg C.ex C.ca C.cn C.ct C.mo) inv.kIn J kit (fun z => nomatch z) fun tk => ⟨.bl b, H, inv.kept (t' := tk) fun _ _ z => z, rfl, q⟩
/-- e.f, e the error in hand -/
def tXp (K : PySem.W.Frag) (p : Addr × Obj) (n : Str) (te : TE) : TE := fun σ H Q => te σ H fun x H1 => ∃ (D d : Addr) (fs : List (Str × V)) (v : V), x = .ref p.1 ∧ ErrC K D ∧ PySem.W.findIn K (.ref D) n = some none ∧ ErrAt D d fs p H1 ∧ fs.lookup n = some v ∧ Q v H1
theorem pe_xp {X : Cx} {p : Addr × Obj} {ex : Expr} {te : TE} {pos : Pos} {n : Str} (hp : p ∈ X.pn) (he : PE X ex te) (hb : attributeBase ex n X.env (eval ex X.env) = eval ex X.env := by rfl) : PE X (.Attribute ex n pos) (tXp X.K p n te) := by
  refine ⟨fun pins s σ H Q inv wish => attr_of hb (thn (he.run pins s σ H _ inv wish) fun u s1 post => ?_)⟩
  obtain ⟨x, H1, inv1, rx, D, d, fs, v, rfl, C, no, e, l, q⟩ := post
  obtain rfl : u = Value.ref p.1 := rx
  obtain ⟨mA, hns, hr⟩ : ObjOk X.prog X.w H1 s1.heap d (.xd fs) := inv1.hok d _ e.at_
  obtain ⟨od, ho, hl⟩ := lookIn_ns hns
  obtain ⟨z, hz, rz⟩ := RelO.some_of (v := v) (o := mA n) (by rw [← l]; exact hr n)
  obtain ⟨vs, hv⟩ := e.fld
  have J : PySem.W.InstAt s1.heap p.1 p.2 D (some od) := ⟨(inv1.pin p (List.mem_append_left _ hp)).1, e.cls, by unfold PySem.W.notCls; rw [hv] <;> rfl, by rw [e.dic]; exact ho⟩
  exact HandSPX.exc_get inv1.kIn J C.ga C.gg C.ex (PySem.W.findObj_own C.hd no rfl (by rw [hl, hz])) (handed_of rz) ⟨v, H1, inv1.tok _, rz, q⟩
/-! try with several clauses, with or without a name -/
/-- what the clauses wish of an error of the body -/
def wM (K : PySem.W.Frag) (Wout : WX) (D : Ends) : List (Value × Option Nat × (Addr → Value → Option Addr → TS)) → WX
  | [] => Wout
  | (c, none, ts) :: r => fun cls d σ H => ∃ b, PySem.W.exmOne K cls c = some b ∧ (b = true → ∀ a, H a = none → ts a cls d D σ H) ∧ (b = false → wM K Wout D r cls d σ H)
  | (c, some i, ts) :: r => fun cls d σ H => ∃ b, PySem.W.exmOne K cls c = some b ∧
      (b = true → ∀ a, H a = none → ts a cls d { nx := fun σ' H' => D.nx (σ'.set i none) H', rt := D.rt, bk := fun σ' H' => D.bk (σ'.set i none) H', ct := fun σ' H' => D.ct (σ'.set i none) H' } (σ.set i (some (.ref a))) H) ∧ (b = false → wM K Wout D r cls d σ H)
inductive HdM (X : Cx) : List ExceptHandler → List (Value × Option Nat × (Addr → Value → Option Addr → TS)) → Prop
  | nil : HdM X [] []
  | bare {x : Str} {c : Value} {ts : Addr → Value → Option Addr → TS} {st : Stmt} {suite : List Stmt} {np p' : Pos} {hds : List ExceptHandler} {l : List (Value × Option Nat × (Addr → Value → Option Addr → TS))} (nm : Names X x c)
      (su : ∀ (a : Addr) (oe : Obj) (cls : Value) (d : Option Addr) (pn : List (Addr × Obj)), L2N.Zn cls d oe → (∃ vs, oe.data = .fields vs) → PSs (X.suite a ((a, oe) :: pn)) (st :: suite) (ts a cls d)) (r : HdM X hds l) :
      HdM X (.ExceptHandler (some (.Name x np)) none (st :: suite) p' :: hds) ((c, none, ts) :: l)
  | name {x n : Str} {i : Nat} {c : Value} {ts : Addr → Value → Option Addr → TS} {st : Stmt} {suite : List Stmt} {np p' : Pos} {hds : List ExceptHandler} {l : List (Value × Option Nat × (Addr → Value → Option Addr → TS))} (two : X.N.Nodup) (slot : X.N[i]? = some n) (loc : X.env.kindOf n = some .local) (nm : Names X x c)
      (su : ∀ (a : Addr) (oe : Obj) (cls : Value) (d : Option Addr) (pn : List (Addr × Obj)), L2N.Zn cls d oe → (∃ vs, oe.data = .fields vs) → PSs (X.suite a ((a, oe) :: pn)) (st :: suite) (ts a cls d)) (r : HdM X hds l) :
      HdM X (.ExceptHandler (some (.Name x np)) (some n) (st :: suite) p' :: hds) ((c, some i, ts) :: l)
theorem ps_tryM {X : Cx} {body : List Stmt} {h0 : ExceptHandler} {hds : List ExceptHandler} {l : List (Value × Option Nat × (Addr → Value → Option Addr → TS))} {pos : Pos} {tb : WX → TS} {Wout : WX} (stk : X.stack = X.env :: X.outer) (frm : X.env.frame = some X.env.locals) (tk : L2N.Takes X Wout)
    (bd : ∀ (W : WX) (pn : List (Addr × Obj)) (xe : Value → Shared → Prop), L2N.Takes (X.tr pn xe) W → PassesOwn (model X.prog X.w) X.A X.env xe → PSs (X.tr pn xe) body (tb W))
    (hh : HdM X (h0 :: hds) l) : PS X (.Try body (h0 :: hds) [] [] pos) (fun D σ H => tb (wM X.K Wout D l) D σ H) := by
  refine ⟨fun pins s σ H D inv wish => ?_⟩
  have ok := inv.ok
  have frs0 : X.A.frames = some (X.env :: X.outer) := by rw [ok.frames, stk]
  refine wpAny_Try_except ?_
  refine wpAny_mono ((bd (wM X.K Wout D l) (X.pn ++ pins) (fun e sa => wpAny (model X.prog X.w) X.A (noteFrame e X.env) (fun _ sb => wpAny (model X.prog X.w) X.A (setFlight e none) (fun _ sc => wpAny (model X.prog X.w) X.A (handleBy e X.env (h0 :: hds)) (SP X pins D) X.xe sc) X.xe sb) X.xe sa)
    (fun u s' air => ?_) PassesOwn.looking).run [] s σ H D (inv.toTry _) wish) (fun f s1 post => ?_) (fun e s1 he => he)
  · obtain ⟨a, B, sI, pins', σ', H', cls, d, rfl, inv', nb, up, sky, na, os, ag, wish'⟩ := air
    have inv0 : Inv X pins σ' H' sI := inv'.ofTry ok
    have sky0 : Sky B (X.env :: X.outer) a (L2N.Zn cls d) X.env.locals s'.heap := by rw [← stk]; exact sky
    show wpAny (model X.prog X.w) X.A (noteFrame (.ref a) X.env) _ _ _
    refine L2N.Sky.land L2N.Zn.steady frs0 frm sky0 fun hA flA upA => ?_
    have invA : Inv X pins σ' H' { s' with heap := hA } := inv0.landed nb flA.1 (up.trans upA) os ag
    obtain ⟨oA, vA, geA, zA, dA⟩ := flA.there
    have off : a ∉ frs (X.env :: X.outer) := fun hm => by
      obtain ⟨_, o', e', hnf⟩ := flA.2.2.1.mem hm
      rw [geA] at e'
      cases e'
      exact hnf _ dA
    have offL : a ≠ X.env.locals := fun z => off (List.mem_filterMap.mpr ⟨X.env, List.mem_cons_self, by rw [frm, z]⟩)
    have offF : a ∉ X.fs := fun hm => by
      obtain ⟨e, he, q⟩ := List.mem_filterMap.mp hm
      exact off (List.mem_filterMap.mpr ⟨e, List.mem_cons_of_mem _ he, q⟩)
    have invS := invA.suite geA dA na offL offF
    have asks : ∀ {x : Str} {c : Value} {np : Pos}, Names X x c → ∀ {Q : Value → Shared → Prop} {E : Value → Shared → Prop}, Q c { s' with heap := hA } → wpAny (model X.prog X.w) (X.A.mark (some (.ref a))) (eval (.Name x np) X.env) Q E { s' with heap := hA } := fun {x c np} nm {Q E} q => by
      obtain ⟨hg, hdbg, hm | ⟨hm, hv, hnn⟩⟩ := nm
      · exact ld_glob (X := X.suite a ((a, oA) :: (X.pn ++ pins))) invS hg hm q hdbg
      · exact ld_blt (X := X.suite a ((a, oA) :: (X.pn ++ pins))) invS hg hm hv q hnn hdbg
    have LT : PySem.W.Looks (model X.prog X.w) hA (typeOf (.ref a)) cls := fun A Q E s k q => wpAny_typeOf_ref (k _ _ geA) (by rw [zA.1]; exact q)
    suffices go : ∀ {hs : List ExceptHandler} {ls : List (Value × Option Nat × (Addr → Value → Option Addr → TS))}, HdM X hs ls → wM X.K Wout D ls cls d σ' H' → wpAny (model X.prog X.w) X.A (handleBy (.ref a) X.env hs) (SP X pins D) X.xe { s' with heap := hA } from go hh wish'
    intro hs ls hk
    induction hk with
    | nil =>
      intro wo
      refine wpAny_handleBy_nil ?_
      obtain ⟨_, _, _, oB, vB, TB, _, _, geB, _, dB, fldB, _⟩ := id flA
      unfold PySem.passOn
      refine wpAny_bind (wpAny_field geB dB fldB ?_)
      rw [if_neg (by simp : ¬ ((Value.ref TB == Value.none) = true))]
      have fin : wpAny (model X.prog X.w) X.A (setFlight (.ref a) X.env.frame) (fun _ sx => wpAny (model X.prog X.w) X.A (throw (.ref a) : Sem Flow) (SP X pins D) X.xe sx) X.xe { s' with heap := hA } := by
        rw [frm]
        refine HandSPX.setFlight_upZ flA fun hB heB upB => wpAny_throw (tk _ _ ?_)
        exact ⟨a, B, sI, pins, σ', H', cls, d, rfl, inv0, nb, (up.trans upA).trans upB, .inr (.inr (by rw [stk]; exact heB)), na, os, ag, wo⟩
      first
        | exact wpAny_bind (wpAny_pure (wpAny_bind fin))
        | exact wpAny_bind fin
    | @bare x c ts st suite np p' hs2 l2 nm su r ih =>
      intro wo
      obtain ⟨b, hb1, yes, no⟩ := wo
      refine wpAny_handleBy_cons (codeAny_handlers_test (asks nm ((PySem.W.exm_one (M := model X.prog X.w) invA.kIn LT hb1).here ?_))) (by intro q; cases q)
      cases b with
      | false => exact ih (no rfl)
      | true =>
        refine codeAny_handlers_suite ?_
        refine HandSPX.lands_againZ flA fun hB flB upB => ?_
        have invB : Inv X pins σ' H' { s' with heap := hB } := inv0.landed nb flB.1 ((up.trans upA).trans upB) os ag
        obtain ⟨oB, vB, geB, zB, dB⟩ := flB.there
        refine wpAny_mono ((su a oB cls d (X.pn ++ pins) zB ⟨_, dB⟩).run [] _ _ H' _ (invB.suite geB dB na offL offF) (yes rfl a na)) (fun f s6 post => ?_) (fun _ _ z => False.elim z)
        cases f with
        | next => exact let ⟨_, _, I6, q6⟩ := post; ⟨_, _, I6.unsuite ok, q6⟩
        | brk => exact let ⟨_, _, I6, q6⟩ := post; ⟨_, _, I6.unsuite ok, q6⟩
        | cont => exact let ⟨_, _, I6, q6⟩ := post; ⟨_, _, I6.unsuite ok, q6⟩
        | ret u => exact let ⟨_, _, _, I6, r6, q6⟩ := post; ⟨_, _, _, I6.unsuite ok, r6, q6⟩
    | @name x n i c ts st suite np p' hs2 l2 two slot loc nm su r ih =>
      intro wo
      obtain ⟨b, hb1, yes, no⟩ := wo
      refine wpAny_handleBy_cons (codeAny_handlers_test (asks nm ((PySem.W.exm_one (M := model X.prog X.w) invA.kIn LT hb1).here ?_))) (by intro q; cases q)
      cases b with
      | false => exact ih (no rfl)
      | true =>
        refine codeAny_handlers_suite_as ?_
        refine HandSPX.lands_againZ flA fun hB flB upB => ?_
        have invB : Inv X pins σ' H' { s' with heap := hB } := inv0.landed nb flB.1 ((up.trans upA).trans upB) os ag
        obtain ⟨oB, vB, geB, zB, dB⟩ := flB.there
        refine store_ok (X := X.suite a ((a, oB) :: (X.pn ++ pins))) (v := .ref a) (invB.suite geB dB na offL offF) two slot (.inl loc) rfl (fun s5 inv5 => ?_) (.inr loc)
        refine wpAny_mono ((su a oB cls d (X.pn ++ pins) zB ⟨_, dB⟩).run [] s5 _ H' _ inv5 (yes rfl a na)) (fun f s6 post => ?_) (fun _ _ z => False.elim z)
        have gone : ∀ {σ6 : L2.St} {H6 : Hp} {Q : Shared → Prop}, Inv (X.suite a ((a, oB) :: (X.pn ++ pins))) [] σ6 H6 s6 → (∀ s7, Inv X pins (σ6.set i none) H6 s7 → Q s7) →
            wpAny (model X.prog X.w) X.A (do bindName X.env n .none; unbindBehindTheSuite X.env n p') (fun _ s7 => Q s7) X.xe s6 := fun {σ6 H6 Q} I6 hq => gone_ok (I6.unsuite ok) two slot loc hq
        cases f with
        | next => exact let ⟨_, _, I6, q6⟩ := post; gone I6 fun s7 I7 => ⟨_, _, I7, q6⟩
        | brk => exact let ⟨_, _, I6, q6⟩ := post; gone I6 fun s7 I7 => ⟨_, _, I7, q6⟩
        | cont => exact let ⟨_, _, I6, q6⟩ := post; gone I6 fun s7 I7 => ⟨_, _, I7, q6⟩
        | ret u => exact let ⟨_, _, _, I6, r6, q6⟩ := post; gone I6 fun s7 I7 => ⟨_, _, _, I7, r6, q6⟩
  · cases f with
    | next => exact let ⟨_, _, I1, q⟩ := post; wpAny_execs_nil ⟨_, _, I1.ofTry ok, q⟩
    | brk => exact let ⟨_, _, I1, q⟩ := post; ⟨_, _, I1.ofTry ok, q⟩
    | cont => exact let ⟨_, _, I1, q⟩ := post; ⟨_, _, I1.ofTry ok, q⟩
    | ret u => exact let ⟨_, _, _, I1, r, q⟩ := post; ⟨_, _, _, I1.ofTry ok, r, q⟩
/-- xs.count(b) of bools -/
theorem eqb_count {k : Bool} : ∀ {us : List Value} {bs : List Bool}, Vals (bs.map V.bl) us → us.countP (fun v => match v with | .bool c => c == k | _ => false) = bs.count k
  | [], [], _ => rfl
  | _ :: _, [], h => nomatch h
  | [], _ :: _, h => nomatch h
  | u :: us, b :: bs, h => by
    cases h with
    | cons r t =>
      have e : u = Value.bool b := r
      subst e
      rw [List.countP_cons, List.count_cons, eqb_count t]
def rCntB (K : PySem.W.Frag) : V → List V → Hp → VK → Prop := fun x xs H Q => ∃ (p : Addr) (bs : List Bool) (k : Bool), x = .ref p ∧ xs = [.bl k] ∧ SqL K H p (bs.map V.bl) ∧ Q (.int (bs.count k : Nat)) H
theorem mt_lcountB {X : Cx} : MtR X "list.count" (rCntB X.K) := by
  intro pins s σ H x xs v us Q inv rx rxs wish
  obtain ⟨p, bs, k, rfl, rfl, hs, q⟩ := wish
  cases rx
  obtain ⟨u, rfl, ru⟩ := rxs.one
  have eu : u = Value.bool k := ru
  subst eu
  obtain ⟨its, rv, ⟨⟨cls, dd, data, sl⟩, n, ho, hc, hdn, hd⟩, hlen⟩ := inv.list hs
  simp only at hc hd
  subst hc hd
  have all : ∀ {us : List Value} {bs : List Bool}, Vals (bs.map V.bl) us → ∀ y ∈ us, ∃ b, y = Value.bool b := by
    intro us
    induction us with
    | nil => exact fun _ y hy => nomatch hy
    | cons u us ih =>
      intro bs h y hy
      cases bs with
      | nil => cases h
      | cons b bs =>
        cases h with
        | cons r t =>
          rcases List.mem_cons.mp hy with e | e
          · exact ⟨b, e.trans r⟩
          · exact ih t y e
  refine call_meets PySem.F.slot_list_count ⟨_, ho, rfl⟩ PySem.F.entry_list_count (PySem.F.args_list_count_2 _ _)
    (SeqAt.list_countAt p its.toArray n dd sl (.bool k) (fun v => match v with | .bool c => c == k | _ => false)) ⟨ho, fun y hy => ?_, ?_⟩
  · obtain ⟨b, rfl⟩ := all rv y (by simpa using hy)
    exact SeqAt.EqAt.bool_bool b k
  · refine ⟨.int (bs.count k : Nat), H, inv.tok _, ⟨s.toks, ?_⟩, q⟩
    show Value.int ((its.toArray.toList.countP _ : Nat) : Int) s.toks = Value.int ((bs.count k : Nat) : Int) s.toks
    rw [show its.toArray.toList = its from rfl, eqb_count rv]
theorem exm_sub {K : PySem.W.Frag} {R D : Addr} {b : Bool} (h1 : PySem.W.subIn K (.ref D) (.type "BaseException") = some true) (h2 : PySem.W.isClsIn K D = true) (h3 : PySem.W.typeIn K (.ref D) = some (.type "type")) (h4 : PySem.W.subIn K (.ref R) (.ref D) = some b) : PySem.W.exmOne K (.ref R) (.ref D) = some b := by
  have i : (PySem.W.clsIn K D).isSome = true := h2
  unfold PySem.W.exmOne PySem.W.kitCls
  rw [if_pos (by rw [h1]; rfl)]
  show (if ((PySem.W.clsIn K D).isSome && PySem.W.typeIn K (.ref D) == some (.type "type")) = true then PySem.W.subIn K (.ref R) (.ref D) else none) = some b
  rw [if_pos (by rw [i, h3]; rfl)]
  exact h4
/-- what the top has of a class whose errors are raised -/
theorem errC_mk {K : PySem.W.Frag} {D : Addr} (cl : PySem.W.isClsIn K D = true) (ga : PySem.W.findIn K (.ref D) "__getattribute__" = some (some (.builtin "BaseException.__getattribute__"))) (gg : PySem.W.findIn K (.ref D) "__getattr__" = some none) (ex : PySem.W.subIn K (.ref D) (.type "BaseException") = some true)
    (hd : PySem.W.hasDictIn K D = true) (ca : PySem.W.findIn K (.ref D) "__class__" = some (some (.builtin "object.__class__"))) (cn : PySem.W.specialIn K (.builtin "object.__class__") "__get__" = some (some (.builtin "getset_descriptor.__get__")))
    (ct : PySem.W.takesIn K (.builtin "object.__class__") = some true) (mo : PySem.W.mroIn K D (.type "object") = some true) : ErrC K D := ⟨cl, ga, gg, ex, hd, ca, cn, ct, mo⟩
/-- __init__ of an error with one field; with two -/
def sp_err1 (f : Str) (C : Addr) : Sp := fun vs H Q _ => ∃ (a : Addr) (v : V), vs = [.ref a, v] ∧ H a = some (exo a C none) ∧ ∀ d, H d = none → d ≠ a → Q .non (upd (upd H d (exd d [(f, v)])) a (exo a C (some d)))
def sp_err2 (f g : Str) (C : Addr) : Sp := fun vs H Q _ => ∃ (a : Addr) (v u : V), vs = [.ref a, v, u] ∧ H a = some (exo a C none) ∧ ∀ d, H d = none → d ≠ a → Q .non (upd (upd (upd H d (exd d [(f, v)])) a (exo a C (some d))) d (exd d [(g, u), (f, v)]))
theorem del_upds {H : Hp} {a d : Addr} {o1 o2 : HO} {x : HO} (na : H a = none) (ne : d ≠ a) : upd (del (upd (upd H d o1) a o2) a) d x = upd H d x := by
  funext b
  by_cases h : b = d
  · rw [h, upd_same, upd_same]
  · rw [upd_ne h, upd_ne h]
    by_cases h2 : b = a
    · rw [h2, del_same, na]
    · rw [del_ne h2, upd_ne h2, upd_ne h]
theorem raise1 {C : Addr} {f : Str} {H : Hp} {v : V} {Q : XK} (h : ∀ d, H d = none → Q (.ref C) (some d) (upd H d (.xd [(f, v)]))) : [v].length ≤ 1000 ∧ ∀ a, H a = none → sp_err1 f C (.ref a :: ([v] ++ [])) (upd H a (exo a C none))
    (fun u H2 => u = .non ∧ ∃ (d : Addr) (fs : List (Str × V)), H2 a = some (exo a C (some d)) ∧ H2 d = some (exd d fs) ∧ H d = none ∧ Q (.ref C) (some d) (upd (del H2 a) d (.xd fs))) (fun _ _ _ => False) := by
  refine ⟨by show 1 ≤ 1000; decide, fun a na => ⟨a, v, rfl, upd_same, fun d nd ne => ⟨rfl, d, _, upd_same, (upd_ne ne).trans upd_same, ?_, ?_⟩⟩⟩
  · rw [upd_ne ne] at nd
    exact nd
  · have e : upd (del (upd (upd (upd H a (exo a C none)) d (exd d [(f, v)])) a (exo a C (some d))) a) d (.xd [(f, v)]) = upd H d (.xd [(f, v)]) := by
      funext b
      by_cases h1 : b = d
      · rw [h1, upd_same, upd_same]
      · rw [upd_ne h1, upd_ne h1]
        by_cases h2 : b = a
        · rw [h2, del_same, na]
        · rw [del_ne h2, upd_ne h2, upd_ne h1, upd_ne h2]
    rw [e]
    refine h d ?_
    rw [upd_ne ne] at nd
    exact nd
theorem raise2 {C : Addr} {f g : Str} {H : Hp} {v u : V} {Q : XK} (h : ∀ d, H d = none → Q (.ref C) (some d) (upd H d (.xd [(g, u), (f, v)]))) : [v, u].length ≤ 1000 ∧ ∀ a, H a = none → sp_err2 f g C (.ref a :: ([v, u] ++ [])) (upd H a (exo a C none))
    (fun z H2 => z = .non ∧ ∃ (d : Addr) (fs : List (Str × V)), H2 a = some (exo a C (some d)) ∧ H2 d = some (exd d fs) ∧ H d = none ∧ Q (.ref C) (some d) (upd (del H2 a) d (.xd fs))) (fun _ _ _ => False) := by
  refine ⟨by show 2 ≤ 1000; decide, fun a na => ⟨a, v, u, rfl, upd_same, fun d nd ne => ⟨rfl, d, _, (upd_ne ne.symm).trans upd_same, upd_same, ?_, ?_⟩⟩⟩
  · rw [upd_ne ne] at nd
    exact nd
  · have e : upd (del (upd (upd (upd (upd H a (exo a C none)) d (exd d [(f, v)])) a (exo a C (some d))) d (exd d [(g, u), (f, v)])) a) d (.xd [(g, u), (f, v)]) = upd H d (.xd [(g, u), (f, v)]) := by
      funext b
      by_cases h1 : b = d
      · rw [h1, upd_same, upd_same]
      · rw [upd_ne h1, upd_ne h1]
        by_cases h2 : b = a
        · rw [h2, del_same, na]
        · rw [del_ne h2, upd_ne h1, upd_ne h2, upd_ne h1, upd_ne h2]
    rw [e]
    refine h d ?_
    rw [upd_ne ne] at nd
    exact nd
/-! the same, for a suite: its reading may not name the pinned object -/
def rIsS (K : PySem.W.Frag) (a : Addr) (cls : Value) (d : Option Addr) : List V → Hp → VK → Prop := fun xs H Q => ∃ (c : V) (cv : Value) (b : Bool) (D dd : Addr) (fs : List (Str × V)), xs = [.ref a, c] ∧ (∀ u, RelV c u → u = cv) ∧ cls = .ref D ∧ d = some dd ∧ ErrC K D ∧ H dd = some (.xd fs) ∧ PySem.W.kitOne K (.ref D) cv = some b ∧ Q (.bl b) H
theorem call_isS {X : Cx} {a : Addr} {oe : Obj} {cls : Value} {d : Option Addr} {pn : List (Addr × Obj)} (hz : L2N.Zn cls d oe) (hf : ∃ vs, oe.data = .fields vs) : CallR (X.suite a ((a, oe) :: pn)) (.builtin "isinstance") (rIsS X.K a cls d) := fun pins s σ H xs us Q inv rels wish => by
  obtain ⟨c, cv, b, D, dd, fs, e, one, rfl, rfl, C, h, kit, q⟩ := wish
  exact call_isP (X := X.suite a ((a, oe) :: pn)) (p := (a, oe)) List.mem_cons_self pins s σ H xs us Q inv rels ⟨c, cv, b, D, dd, fs, e, one, C, ⟨hz.1, hz.2.1, hf, h⟩, kit, q⟩
def tXs (K : PySem.W.Frag) (a : Addr) (cls : Value) (d : Option Addr) (n : Str) (te : TE) : TE := fun σ H Q => te σ H fun x H1 => ∃ (D dd : Addr) (fs : List (Str × V)) (v : V), x = .ref a ∧ cls = .ref D ∧ d = some dd ∧ ErrC K D ∧ PySem.W.findIn K (.ref D) n = some none ∧ H1 dd = some (.xd fs) ∧ fs.lookup n = some v ∧ Q v H1
theorem pe_xs {X : Cx} {a : Addr} {oe : Obj} {cls : Value} {d : Option Addr} {pn : List (Addr × Obj)} {ex : Expr} {te : TE} {pos : Pos} {n : Str} (hz : L2N.Zn cls d oe) (hf : ∃ vs, oe.data = .fields vs) (he : PE (X.suite a ((a, oe) :: pn)) ex te)
    (hb : attributeBase ex n X.env (eval ex X.env) = eval ex X.env := by rfl) : PE (X.suite a ((a, oe) :: pn)) (.Attribute ex n pos) (tXs X.K a cls d n te) := by
  refine ⟨fun pins s σ H Q inv wish => attr_of hb (thn (he.run pins s σ H _ inv wish) fun u s1 post => ?_)⟩
  obtain ⟨x, H1, inv1, rx, D, dd, fs, v, rfl, rfl, rfl, C, no, eh, l, q⟩ := post
  obtain rfl : u = Value.ref a := rx
  obtain ⟨mA, hns, hr⟩ : ObjOk X.prog X.w H1 s1.heap dd (.xd fs) := inv1.hok dd _ eh
  obtain ⟨od, ho, hl⟩ := lookIn_ns hns
  obtain ⟨z, hz1, rz⟩ := RelO.some_of (v := v) (o := mA n) (by rw [← l]; exact hr n)
  obtain ⟨vs, hv⟩ := hf
  have J : PySem.W.InstAt s1.heap a oe D (some od) := ⟨(inv1.pin (a, oe) (List.mem_append_left _ List.mem_cons_self)).1, hz.1, by unfold PySem.W.notCls; rw [hv] <;> rfl, by rw [hz.2.1]; exact ho⟩
  exact HandSPX.exc_get inv1.kIn J C.ga C.gg C.ex (PySem.W.findObj_own C.hd no rfl (by rw [hl, hz1])) (handed_of rz) ⟨v, H1, inv1.tok _, rz, q⟩
/-- a call from a suite -/
def tCallS1 (sp : Addr × Obj → Sp) (a : Addr) (cls : Value) (d : Option Addr) (t : TA) : TE := fun σ H Q => t σ H fun vs H1 => ∀ oe, L2N.Zn cls d oe → (∃ vs, oe.data = .fields vs) → sp (a, oe) vs H1 Q (fun _ _ _ => False)
theorem pe_callS1 {X : Cx} {a : Addr} {oe : Obj} {cls : Value} {d : Option Addr} {pn : List (Addr × Obj)} {k : Nat} {f : Addr} {fd : FuncData} {ps : List Str} {sp : Addr × Obj → Sp} {x : Str} {u0 : Expr} {ur : List Expr} {ta : TA} {q0 q1 : Pos} (F : FnP X.prog X.w X.K X.mg X.base k f fd ps sp) (room : Room k X.A)
    (hz : L2N.Zn cls d oe) (hf : ∃ vs, oe.data = .fields vs) (gl : Gl X x) (mx : X.mg x = some (.ref f)) (hk : PySem.W.keepIn X.K (.ref f) = true) (bi : Binds X.K fd ps []) (har : PA (X.suite a ((a, oe) :: pn)) (u0 :: ur) ta) (nd0 : (x == ("__debug__" : Str)) = false := by decide)
    (st : starEach (u0 :: ur) X.env = (false, eval u0 X.env) :: starEach ur X.env := by rfl) (nokw : (backTo q1 (starEach ur X.env)).any (·.1) = false := by rfl) : PE (X.suite a ((a, oe) :: pn)) (.Call (.Name x q0) (u0 :: ur) [] q1) (tCallS1 sp a cls d ta) := by
  have har2 : PA (X.suite a ((a, oe) :: pn)) (u0 :: ur) (fun σ H Q => ∃ R, ta σ H R ∧ ∀ vs H1, R vs H1 → Q vs H1) :=
    ⟨fun pos pins s σ H Q inv ⟨R, w, i⟩ => thn (har.run pos pins s σ H R inv w) fun us s' ⟨vs, H', J, r, q⟩ => ⟨vs, H', J, r, i vs H' q⟩⟩
  exact ⟨fun pins s σ H Q inv wish => (pe_callP (X := X.suite a ((a, oe) :: pn)) (p := (a, oe)) F (L2H.roomH_mark room _) (hotS hz hf) gl mx hk bi har2 nd0 st nokw).run pins s σ H Q inv ⟨_, wish, fun vs H1 q => q oe hz hf⟩⟩
theorem hotD {P : Program} {w : World} {K : PySem.W.Frag} {mg : Str → Option Value} {base : Heap} {N : List Str} {qual : Str} {sc : Scope} {f : Addr} {cd : Value} {A : Around} {outer : List Env} {s : Shared} {H : Hp} {E : XK} {p : Addr × Obj} (hot : L2H.Hot1 A p) :
    HotP (L2H.cxH CX0 P w K mg base N qual sc f cd A outer s H E p) p := ⟨hot, List.mem_cons_self⟩
/-! ### the tape of drawn numbers -/
/-- all that was tracked stays, but what stands at t -/
def Kp (t : Addr) (H H' : Hp) : Prop := ∀ b o, b ≠ t → H b = some o → H' b = some o
theorem Kp.refl (t : Addr) (H : Hp) : Kp t H H := fun _ _ _ h => h
theorem Kp.trans {t : Addr} {H H1 H2 : Hp} (a : Kp t H H1) (b : Kp t H1 H2) : Kp t H H2 := fun c o n h => b c o n (a c o n h)
theorem Kp.of_same {t : Addr} {H H' : Hp} (a : Same H H') : Kp t H H' := fun c o _ h => a c o h
theorem Kp.put {t : Addr} {H : Hp} {o : HO} : Kp t H (upd H t o) := fun b u n h => by rw [upd_ne n]; exact h
theorem same_upd {H : Hp} {p : Addr} {o : HO} (h : H p = none) : Same H (upd H p o) := fun b x e => by
  rw [upd_ne (ne_of_none e h)]
  exact e
theorem Kp.new {t : Addr} {H H' : Hp} {p : Addr} {o : HO} (a : Kp t H H') (h : H' p = none) : Kp t H (upd H' p o) := a.trans (.of_same (same_upd h))
def Tape (H : Hp) (t c : Addr) : Prop := ∃ (cs : List Int) (a : Nat) (b k r : Int), H t = some (.lst [.ref c, .int a, .int b, .int k, .int r]) ∧ H c = some (.lst (cs.map V.int)) ∧ c ≠ t ∧ a < cs.length
theorem Tape.same {H H' : Hp} {t c : Addr} (h : Tape H t c) (s : Same H H') : Tape H' t c := by
  obtain ⟨cs, a, b, k, r, h1, h2, h3, h4⟩ := h
  exact ⟨cs, a, b, k, r, s _ _ h1, s _ _ h2, h3, h4⟩
theorem Tape.off {H : Hp} {t c m : Addr} (h : Tape H t c) (n : H m = none) : m ≠ t ∧ m ≠ c := by
  obtain ⟨cs, a, b, k, r, h1, h2, h3, h4⟩ := h
  exact ⟨fun e => ne_of_none h1 n e.symm, fun e => ne_of_none h2 n e.symm⟩
theorem Tape.put {H : Hp} {t c m : Addr} {o : HO} (h : Tape H t c) (n : m ≠ t ∧ m ≠ c) : Tape (upd H m o) t c := by
  obtain ⟨cs, a, b, k, r, h1, h2, h3, h4⟩ := h
  exact ⟨cs, a, b, k, r, by rw [upd_ne n.1.symm]; exact h1, by rw [upd_ne n.2.symm]; exact h2, h3, h4⟩
theorem Tape.set {H : Hp} {t c : Addr} {cs : List Int} {a : Nat} {b k r : Int} (h2 : H c = Option.some (.lst (cs.map V.int))) (h3 : c ≠ t) (h4 : a < cs.length) : Tape (upd H t (.lst [.ref c, .int a, .int b, .int k, .int r])) t c :=
  ⟨cs, a, b, k, r, upd_same, by rw [upd_ne h3]; exact h2, h3, h4⟩
theorem ix5 (a b c d e : V) : ixN [a, b, c, d, e].length 0 = Option.some 0 ∧ ixN [a, b, c, d, e].length 1 = Option.some 1 ∧ ixN [a, b, c, d, e].length 2 = Option.some 2 ∧ ixN [a, b, c, d, e].length 3 = Option.some 3 ∧ ixN [a, b, c, d, e].length 4 = Option.some 4 := ⟨rfl, rfl, rfl, rfl, rfl⟩
theorem sz5 (a b c d e : V) : [a, b, c, d, e].length ≤ sizeLine := by show 5 ≤ sizeLine; decide
section
variable {P : Program} {w : World} {K : PySem.W.Frag} {mg : Str → Option Value} {base : Heap}
def sp__law_tape (K : PySem.W.Frag) : Sp := fun vs H Q _ => ∃ (a : Addr) (ns : List Int), vs = [.ref a] ∧ SqL K H a (ns.map V.int) ∧ ns.length ≤ 1000 ∧ ∀ H' t c, Same H H' → H t = none → Tape H' t c → Q (.ref t) H'
theorem T0.ok__law_tape (T : T0 K mg) : FnOk P w K mg base CX0 1 T.a__law_tape T.fd__law_tape ["script"] (sp__law_tape K) := by
  refine T.F__law_tape.ok sc__law_tape (fun vs H Q E h => ?_) (fun cdv A outer s H vs Q E hr h => ?_)
  · obtain ⟨a, ns, rfl, _⟩ := h
    rfl
  · obtain ⟨a, ns, rfl, hS, hlen, q⟩ := h
    refine ⟨_, (pss_cons (ps_setLc (i := 1) (own := [("cell", 2)]) (g := gName 2) (by rfl) sc__law_tape.nd rfl rfl (sw_true rfl rfl rfl (by decide +kernel)) (pi_list (pv 0)) (blkOk_by (own := [("cell", 2)]) (N := ["script", "cells", "cell"]) (sc := defScope s__law_tape) (by decide +kernel)) (fun _ _ _ _ _ => pg_name (i := 2) sc__law_tape.nd rfl (Or.inl rfl)) (fun _ _ _ _ _ => pts_nil) (fun _ _ _ _ _ => (pe_callB call_abs (by rfl) T.m_abs (by decide +kernel) (pa_cons (pe_callTy call_int1 (by rfl) T.m_int (by decide +kernel) (pa_cons (pv 2) pa_nil)) pa_nil))))
        (C8.pss_cut (ps_if (pt_cmpR op_eq (pe_callB (call_lenK (K := K)) (by rfl) T.m_len PySem.boot_len (pa_cons (pv 1) pa_nil)) pe_int (nomark _)) (pss_one (ps_set (i := 1) sc__law_tape.nd rfl (Or.inl rfl) (pe_lst (pa_cons pe_int pa_nil)))) pss_nil)
        (pss_one (ps_ret (pe_lst (pa_cons (pv 1) (pa_cons pe_int (pa_cons (pe_ix (ix_listK (K := K)) (pv 1) pe_int (fun _ _ => rfl)) (pa_cons pe_int (pa_cons pe_int pa_nil)))))))))), ?_⟩
    -- cells = [..]
    refine ⟨.ref a, rfl, a, rfl, ⟨_, hS⟩, fun D hD => lc_list (K := K) (a := a) (xs := ns.map V.int) (fun i H' => Same H H' ∧ ∃ ms : List Int, ms.length = i ∧ H' D = some (.lst (ms.map V.int))) ⟨same_upd hD, [], rfl, upd_same⟩ (fun i H' _ p => p.1.seq hS) (fun i x H' hx p => ?_) (fun H1 p => ?_)⟩
    · obtain ⟨sm, ms, e1, e2⟩ := p
      rw [List.getElem?_map] at hx
      obtain ⟨n, hn, rfl⟩ := Option.map_eq_some_iff.mp hx
      refine ⟨rfl, ?_⟩
      refine ⟨_, rfl, .inl ⟨_, rfl, _, rfl, ms.map V.int, e2, ?_, ?_⟩⟩
      · have hi : i < ns.length := (List.getElem?_eq_some_iff.mp hn).1
        rw [List.length_map]
        exact small1000' (by omega)
      · refine ⟨fun b o h => ?_, ms ++ [if n < 0 then -n else n], ?_, ?_⟩
        · rw [upd_ne (ne_of_none h hD)]
          exact sm b o h
        · rw [List.length_append, e1]
          rfl
        · rw [upd_same, List.map_append]
          rfl
    · obtain ⟨sm, ms, e1, e2⟩ := p
      rw [List.length_map] at e1
      -- if len(cells) == 0
      refine ⟨fun σ' H' => ∃ (c : Addr) (cs : List Int) (x2 : Option V), σ' = [some (.ref a), some (.ref c), x2] ∧ Same H H' ∧ H c = none ∧ H' c = some (.lst (cs.map V.int)) ∧ 0 < cs.length, ?_, fun σ' H' hM => ?_⟩
      · refine ⟨.ref D, rfl, D, ms.map V.int, rfl, .inl (SqL.of e2), rfl, _, rfl, ite2 (fun e => ?_) (fun e => ?_)⟩
        · refine ⟨by decide, fun p np => ?_⟩
          refine ⟨p, [0], none, rfl, ?_, ?_, upd_same, by decide⟩
          · exact sm.trans (same_upd np)
          · exact sm.free np
        · have h0 : ((ms.map V.int).length : Int) ≠ 0 := fun z => e (decide_eq_true (congrArg V.int z))
          rw [List.length_map] at h0
          exact ⟨D, ms, none, rfl, sm, hD, e2, by omega⟩
      · obtain ⟨c, cs, x2, rfl, sm2, nc, e3, hp⟩ := hM
        refine ⟨.ref c, rfl, .ref c, rfl, c, cs.map V.int, 0, .int (cs[0]), rfl, rfl, SqL.of e3, at_ints hp, sz5 _ _ _ _ _, fun t nt => ?_⟩
        refine q _ t c (sm2.trans (same_upd nt)) (sm2.free nt) (Tape.set (a := 0) e3 (ne_of_none e3 nt) hp)
def sp__law_pick (K : PySem.W.Frag) : Sp := fun vs H Q _ => ∃ (t c : Addr) (n : Int), vs = [.ref t, .int n] ∧ Tape H t c ∧ 0 < n ∧ n ≤ 4000000000 ∧ ∀ x H', 0 ≤ x → x < n → Kp t H H' → Tape H' t c → Q (.int x) H'
theorem T0.ok__law_pick (T : T0 K mg) : FnOk P w K mg base CX0 1 T.a__law_pick T.fd__law_pick ["tape", "size"] (sp__law_pick K) := by
  refine T.F__law_pick.ok sc__law_pick (fun vs H Q E h => ?_) (fun cdv A outer s H vs Q E hr h => ?_)
  · obtain ⟨t, c, n, rfl, _⟩ := h
    rfl
  · obtain ⟨t, c, n, rfl, ⟨cs, a, b, k, r, hT, hC, nct, ha⟩, hn0, hn1, q⟩ := h
    refine ⟨_, (pss_cons (ps_set (i := 2) sc__law_pick.nd rfl (Or.inl rfl) (pe_ix (ix_listK (K := K)) (pv 0) pe_int (fun _ _ => rfl)))
        (pss_cons (ps_set (i := 3) sc__law_pick.nd rfl (Or.inl rfl) (pe_ix (ix_listK (K := K)) (pv 2) (pe_ix (ix_listK (K := K)) (pv 0) pe_int (fun _ _ => rfl)) (fun _ _ => rfl)))
        (pss_cons (ps_set (i := 4) sc__law_pick.nd rfl (Or.inl rfl) (pe_op op_add (pe_ix (ix_listK (K := K)) (pv 0) pe_int (fun _ _ => rfl)) (pe_op op_mul pe_int (pe_ix (ix_listK (K := K)) (pv 0) pe_int (fun _ _ => rfl)))))
        (C8.pss_cut (ps_if (PW.pt (pw_and (pt_cmpR op_ge (pv 3) (pe_op op_pow pe_int pe_int) (nomark _)) (pw_and1 (pt_cmpR op_eq (pe_ix (ix_listK (K := K)) (pv 0) pe_int (fun _ _ => rfl)) pe_int (nomark _))))) (pss_cons (ps_set (i := 5) sc__law_pick.nd rfl (Or.inl rfl) (pe_op op_modN (pe_callTy call_int1 (by rfl) T.m_int (by decide +kernel) (pa_cons (pe_ix (ix_listK (K := K)) (pv 0) pe_int (fun _ _ => rfl)) pa_nil)) (pv 1)))
        (pss_cons (ps_asg ((pe_op op_fdivW (pe_ix (ix_listK (K := K)) (pv 0) pe_int (fun _ _ => rfl)) (pv 1))) (pg_sub (pv 0) pe_int set_list))
        (pss_one (ps_set (i := 6) sc__law_pick.nd rfl (Or.inl rfl) (pe_cmpR op_eq (pe_ix (ix_listK (K := K)) (pv 0) pe_int (fun _ _ => rfl)) pe_int (nomark _)))))) (pss_cons (ps_set (i := 7) sc__law_pick.nd rfl (Or.inl rfl) (pe_op op_modN (pe_callTy call_int1 (by rfl) T.m_int (by decide +kernel) (pa_cons (pe_op op_add (pe_op op_add (pv 3) (pe_op op_mul pe_int (pv 4))) pe_int) pa_nil)) pe_int))
        (pss_cons (ps_set (i := 7) sc__law_pick.nd rfl (Or.inl rfl) (pe_op op_modN (pe_callTy call_int1 (by rfl) T.m_int (by decide +kernel) (pa_cons (pe_op op_mul (pv 7) (pe_op op_add (pv 7) pe_int)) pa_nil)) pe_int))
        (pss_cons (ps_set (i := 7) sc__law_pick.nd rfl (Or.inl rfl) (pe_op op_modN (pe_callTy call_int1 (by rfl) T.m_int (by decide +kernel) (pa_cons (pe_op op_add (pe_op op_mul (pv 7) (pe_op op_add (pv 7) pe_int)) (pe_op op_mul pe_int (pv 4))) pa_nil)) pe_int))
        (pss_cons (ps_set (i := 5) sc__law_pick.nd rfl (Or.inl rfl) (pe_op op_modN (pe_callTy call_int1 (by rfl) T.m_int (by decide +kernel) (pa_cons (pe_op op_fdivN (pv 7) pe_int) pa_nil)) (pv 1)))
        (pss_one (ps_set (i := 6) sc__law_pick.nd rfl (Or.inl rfl) (pe_cmpR op_eq (pe_op op_modN (pe_callTy call_int1 (by rfl) T.m_int (by decide +kernel) (pa_cons (pv 4) pa_nil)) pe_int) pe_int (nomark _)))))))))
        (pss_cons (ps_asg (pe_op op_add (pe_ix (ix_listK (K := K)) (pv 0) pe_int (fun _ _ => rfl)) pe_int) (pg_sub (pv 0) pe_int set_list))
        (C8.pss_cut (ps_if (pt_val (pv 6)) (pss_cons (ps_asg pe_int (pg_sub (pv 0) pe_int set_list))
        (pss_cons (ps_asg (pe_op op_add (pe_ix (ix_listK (K := K)) (pv 0) pe_int (fun _ _ => rfl)) pe_int) (pg_sub (pv 0) pe_int set_list))
        (C8.pss_cut (ps_if (pt_cmpR op_eq (pe_ix (ix_listK (K := K)) (pv 0) pe_int (fun _ _ => rfl)) (pe_callB (call_lenK (K := K)) (by rfl) T.m_len PySem.boot_len (pa_cons (pv 2) pa_nil)) (nomark _)) (pss_cons (ps_asg pe_int (pg_sub (pv 0) pe_int set_list))
        (pss_one (ps_asg (pe_op op_add (pe_ix (ix_listK (K := K)) (pv 0) pe_int (fun _ _ => rfl)) pe_int) (pg_sub (pv 0) pe_int set_list)))) pss_nil)
        (pss_one (ps_asg (pe_ix (ix_listK (K := K)) (pv 2) (pe_ix (ix_listK (K := K)) (pv 0) pe_int (fun _ _ => rfl)) (fun _ _ => rfl)) (pg_sub (pv 0) pe_int set_list)))))) pss_nil)
        (pss_one (ps_ret (pv 5))))))))), ?_⟩
    have st : SqL K H t [.ref c, .int a, .int b, .int k, .int r] := SqL.of hT
    have sc : SqL K H c (cs.map V.int) := SqL.of hC
    -- cells = tape[0]; cell = cells[tape[1]]
    refine ⟨.ref t, rfl, t, _, 0, .ref c, rfl, rfl, st, rfl, ?_⟩
    refine ⟨.ref c, rfl, .ref t, rfl, t, _, 1, .int a, rfl, rfl, st, rfl, c, _, a, .int (cs[a]), rfl, rfl, sc, at_ints ha, ?_⟩
    -- k = tape[3] + 61 * tape[4]
    refine ⟨.ref t, rfl, t, _, 3, .int k, rfl, rfl, st, rfl, .ref t, rfl, t, _, 4, .int r, rfl, rfl, st, rfl, 61, r, rfl, rfl, .inl (by decide), _, _, rfl, rfl, ?_⟩
    refine ⟨fun σ' H' => ∃ (x : Int) (u : Bool) (b' : Int) (y : Option V), σ' = [some (.ref t), some (.int n), some (.ref c), some (.int cs[a]), some (.int (k + 61 * r)), some (.int x), some (.bl u), y] ∧ 0 ≤ x ∧ x < n ∧ H' = upd H t (.lst [.ref c, .int a, .int b', .int k, .int r]), ?_, fun σ' H' hM => ?_⟩
    · -- if cell >= 10 ** 18 and tape[4] == 0
      have hn : n ≠ 0 := by omega
      have fm : ∀ x : Int, 0 ≤ x.fmod n ∧ x.fmod n < n := fun x => fmod_range x hn0
      refine ⟨.int cs[a], rfl, 10, 18, rfl, rfl, ⟨by decide, by decide, by decide⟩, _, _, rfl, rfl, _, rfl, ite2 (fun _ => ?A) (fun _ => ?no1)⟩
      case' A => refine ⟨.ref t, rfl, t, _, 4, .int r, rfl, rfl, st, rfl, rfl, _, rfl, ite2 (fun _ => ?yes) (fun _ => ?no2)⟩
      case yes =>
        walk_at "go"
        exact ⟨_, _, _, none, rfl, (fm _).1, (fm _).2, rfl⟩
      case no1 | no2 =>
        walk_at "go"
        exact ⟨_, _, b, _, rfl, (fm _).1, (fm _).2, upd_self hT⟩
    · obtain ⟨x, u, b', y, rfl, hx0, hx1, rfl⟩ := hM
      have sc' : ∀ xs, SqL K (upd H t (.lst xs)) c (cs.map V.int) := fun xs => SqL.of ((upd_ne nct).trans hC)
      -- tape[3] = tape[3] + 1
      walk_at "go"
      rw [upd_upd]
      refine ⟨fun σ' H' => ∃ (a' : Nat) (b2 k2 r2 : Int), a' < cs.length ∧ σ' = [some (.ref t), some (.int n), some (.ref c), some (.int cs[a]), some (.int (k + 61 * r)), some (.int x), some (.bl u), y] ∧ H' = upd H t (.lst [.ref c, .int a', .int b2, .int k2, .int r2]), ?_, fun σ' H' hM => ?_⟩
      · refine ⟨_, rfl, _, rfl, ?_⟩
        cases u with
        | false => exact iteF ⟨a, b', k + 1, r, ha, rfl, rfl⟩
        | true =>
          refine iteT ?_
          -- tape[3] = 0; tape[1] = tape[1] + 1
          walk_at "go"
          rw [upd_upd]
          walk_at "go"
          rw [upd_upd]
          refine ⟨fun σ' H' => ∃ (a' : Nat) (r2 : Int), a' < cs.length ∧ σ' = [some (.ref t), some (.int n), some (.ref c), some (.int cs[a]), some (.int (k + 61 * r)), some (.int x), some (.bl true), y] ∧ H' = upd H t (.lst [.ref c, .int a', .int b', .int 0, .int r2]), ?_, fun σ' H' hM => ?_⟩
          · -- if tape[1] == len(cells)
            refine ⟨_, rfl, t, _, 1, .int (a + 1), rfl, rfl, SqL.of upd_same, rfl, ?_⟩
            refine ⟨_, rfl, c, _, rfl, .inl (sc' _), rfl, _, rfl, ite2 (fun e => ?_) (fun e => ?_)⟩
            · walk_at "go"
              rw [upd_upd]
              walk_at "go"
              rw [upd_upd]
              exact ⟨0, r + 1, by omega, rfl, rfl⟩
            · rw [List.length_map] at e
              refine ⟨a + 1, r, ?_, rfl, rfl⟩
              have h0 : ((a : Int) + 1) ≠ (cs.length : Int) := fun z => e (decide_eq_true (congrArg V.int z))
              omega
          · obtain ⟨a', r2, ha2, rfl, rfl⟩ := hM
            -- tape[2] = cells[tape[1]]
            refine ⟨_, rfl, _, rfl, t, _, 1, .int a', rfl, rfl, SqL.of upd_same, rfl, c, _, a', .int cs[a'], rfl, rfl, sc' _, at_ints ha2, ?_⟩
            walk_at "go"
            exact ⟨a', _, _, _, ha2, rfl, upd_upd⟩
      · obtain ⟨a', b2, k2, r2, ha2, rfl, rfl⟩ := hM
        exact ⟨_, rfl, q _ _ hx0 hx1 .put (Tape.set hC nct ha2)⟩
local macro_rules | `(tactic| walk_at "kp") => `(tactic| first
  | exact Kp.refl _ _
  | assumption
  | (refine Kp.trans ?_ (by assumption); walk_at "kp"))
local macro_rules | `(tactic| walk_at "pick") => `(tactic|
  refine ⟨_, _, _, rfl, (by assumption), (by first | decide | omega), (by first | decide | omega), fun x H' h0 h1 kp hT => ?_⟩)
def sp__law_size (K : PySem.W.Frag) : Sp := fun vs H Q _ => ∃ (t c : Addr) (n : Int), vs = [.ref t, .int n] ∧ Tape H t c ∧ n ≤ 100 ∧ ∀ x H', 1 ≤ x → n ≤ x → x ≤ 1000000000 → Kp t H H' → Tape H' t c → Q (.int x) H'
theorem T0.ok__law_size (T : T0 K mg) : FnOk P w K mg base CX0 2 T.a__law_size T.fd__law_size ["tape", "count"] (sp__law_size K) := by
  refine T.F__law_size.ok sc__law_size (fun vs H Q E h => ?_) (fun cdv A outer s H vs Q E hr h => ?_)
  · obtain ⟨t, c, n, rfl, _⟩ := h
    rfl
  · obtain ⟨t, c, n, rfl, hT, hn, q⟩ := h
    refine ⟨_, (pss_cons (ps_set (i := 2) sc__law_size.nd rfl (Or.inl rfl) (pe_call T.ok__law_pick hr (by rfl) T.g__law_pick T.k__law_pick T.b__law_pick .nil pass0 (pa_cons (pv 0) (pa_cons pe_int pa_nil))))
        (pss_cons (ps_set (i := 3) sc__law_size.nd rfl (Or.inl rfl) (pe_callB (call_max2 rfl) (by rfl) T.m_max (by decide +kernel) (pa_cons pe_int (pa_cons (pv 1) pa_nil))))
        (pss_cons (ps_if (pt_cmpR op_eq (pv 2) pe_int (nomark _)) (pss_one (ps_ret (pv 3))) pss_nil)
        (pss_cons (ps_if (pt_cmpR op_eq (pv 2) pe_int (nomark _)) (pss_one (ps_ret (pe_op op_add (pv 3) (pe_call T.ok__law_pick hr (by rfl) T.g__law_pick T.k__law_pick T.b__law_pick .nil pass0 (pa_cons (pv 0) (pa_cons pe_int pa_nil)))))) pss_nil)
        (pss_cons (ps_if (pt_cmpR op_eq (pv 2) pe_int (nomark _)) (pss_one (ps_ret (pe_op op_add (pv 3) (pe_call T.ok__law_pick hr (by rfl) T.g__law_pick T.k__law_pick T.b__law_pick .nil pass0 (pa_cons (pv 0) (pa_cons pe_int pa_nil)))))) pss_nil)
        (pss_one (ps_ret (pe_op op_add (pe_op op_add (pv 3) pe_int) (pe_call T.ok__law_pick hr (by rfl) T.g__law_pick T.k__law_pick T.b__law_pick .nil pass0 (pa_cons (pv 0) (pa_cons pe_int pa_nil))))))))))), ?_⟩
    refine ⟨_, rfl, ?_⟩
    walk_at "pick"
    rename_i x H1 h0 h1 kp hT1
    refine ⟨.int n, rfl, 1, n, rfl, ?_⟩
    have l1 : 1 ≤ (if n > 1 then n else (1 : Int)) ∧ n ≤ (if n > 1 then n else (1 : Int)) ∧ (if n > 1 then n else (1 : Int)) ≤ 100 := by split <;> omega
    revert l1
    generalize (if n > 1 then n else (1 : Int)) = l
    intro l1
    refine ⟨_, rfl, rfl, _, rfl, ite2 (fun _ => ?_) (fun _ => ?_)⟩
    · exact ⟨_, rfl, q _ _ (by omega) (by omega) (by omega) (by walk_at "kp") hT1⟩
    refine ⟨_, rfl, rfl, _, rfl, ite2 (fun _ => ?_) (fun _ => ?_)⟩
    · refine ⟨_, rfl, _, rfl, ?_⟩
      walk_at "pick"
      exact ⟨_, _, rfl, rfl, q _ _ (by omega) (by omega) (by omega) (by walk_at "kp") (by assumption)⟩
    refine ⟨_, rfl, rfl, _, rfl, ite2 (fun _ => ?_) (fun _ => ?_)⟩
    · refine ⟨_, rfl, _, rfl, ?_⟩
      walk_at "pick"
      exact ⟨_, _, rfl, rfl, q _ _ (by omega) (by omega) (by omega) (by walk_at "kp") (by assumption)⟩
    · refine ⟨_, rfl, _, _, rfl, rfl, _, rfl, ?_⟩
      walk_at "pick"
      exact ⟨_, _, rfl, rfl, q _ _ (by omega) (by omega) (by omega) (by walk_at "kp") (by assumption)⟩
/-! ### _law_same -/
theorem op_isB {X : Cx} : OpR X (compareOp .Is) (fun x y H Q => ∃ b, y = .bl b ∧ Q (.bl (decide (x = .bl b))) H) := by
  intro pins s σ H x y v u Q I rx ry h
  obtain ⟨b, rfl, q⟩ := h
  cases (show u = Value.bool b from ry)
  cases x with
  | bl c =>
    cases (show v = Value.bool c from rx)
    refine is_bool (fin_bl I q ?_)
    cases b <;> cases c <;> rfl
  | non => cases rx; exact wpAny_is_plain rfl (fin_bl I q rfl)
  | int _ => obtain ⟨t, rfl⟩ := rx; exact wpAny_is_plain rfl (fin_bl I q rfl)
  | str _ => obtain ⟨t, rfl⟩ := rx; exact wpAny_is_plain rfl (fin_bl I q rfl)
  | byt _ => obtain ⟨t, rfl⟩ := rx; exact wpAny_is_plain rfl (fin_bl I q rfl)
  | flt _ => obtain ⟨t, rfl⟩ := rx; exact wpAny_is_plain rfl (fin_bl I q rfl)
  | ref _ => cases rx; exact wpAny_is_plain rfl (fin_bl I q rfl)
  | ty _ => cases rx; exact wpAny_is_plain rfl (fin_bl I q rfl)
def atomV : V → Bool
  | .non => true
  | .bl _ => true
  | .int _ => true
  | .str _ => true
  | _ => false
/-- the same data, of at most this depth -/
inductive Sm (K : PySem.W.Frag) : Nat → Hp → V → V → Prop
  | atom {d : Nat} {H : Hp} {x : V} : atomV x = true → Sm K (d + 1) H x x
  | lst {d : Nat} {H : Hp} {a b : Addr} {xs ys : List V} : SqL K H a xs → SqL K H b ys → xs.length = ys.length → ys.length ≤ 100000 → (∀ (i : Nat) x y, xs[i]? = some x → ys[i]? = some y → Sm K d H x y) → Sm K (d + 1) H (.ref a) (.ref b)
  | tup {d : Nat} {H : Hp} {a b : Addr} {xs ys : List V} : SqT K H a xs → SqT K H b ys → xs.length = ys.length → ys.length ≤ 100000 → (∀ (i : Nat) x y, xs[i]? = some x → ys[i]? = some y → Sm K d H x y) → Sm K (d + 1) H (.ref a) (.ref b)
  | dic {d : Nat} {H : Hp} {a b : Addr} {xs ys : List (Key × V)} : H a = some (.dK xs) → H b = some (.dK ys) → xs.length = ys.length → ys.length ≤ 100000 → (∀ (i : Nat) x y, xs[i]? = some x → ys[i]? = some y → x.1 = y.1) →
      (∀ (i : Nat) x y, xs[i]? = some x → ys[i]? = some y → Sm K (d + 1) H x.2 y.2) → Sm K (d + 4) H (.ref a) (.ref b)
theorem same_t {K : PySem.W.Frag} {H H' : Hp} {a : Addr} {xs : List V} (e : Same H H') (h : SqT K H a xs) : SqT K H' a xs := by
  rcases h with (h | ⟨o, h⟩) | h
  · exact .inl (.inl (e _ _ h))
  · exact .inl (.inr ⟨o, e _ _ h⟩)
  · exact .inr h
theorem Sm.same {K : PySem.W.Frag} {d : Nat} {H : Hp} {x y : V} (h : Sm K d H x y) : ∀ {H' : Hp}, Same H H' → Sm K d H' x y := by
  induction h with
  | atom h => exact fun _ => .atom h
  | lst h1 h2 h3 h4 _ ih => exact fun s => .lst (s.seq h1) (s.seq h2) h3 h4 fun i x y e1 e2 => ih i x y e1 e2 s
  | tup h1 h2 h3 h4 _ ih => exact fun s => .tup (same_t s h1) (same_t s h2) h3 h4 fun i x y e1 e2 => ih i x y e1 e2 s
  | dic h1 h2 h3 h4 h5 _ ih => exact fun s => .dic (s _ _ h1) (s _ _ h2) h3 h4 h5 fun i x y e1 e2 => ih i x y e1 e2 s
theorem Sm.succ {K : PySem.W.Frag} {d : Nat} {H : Hp} {x y : V} (h : Sm K d H x y) : Sm K (d + 1) H x y := by
  induction h with
  | atom h => exact .atom h
  | lst h1 h2 h3 h4 _ ih => exact .lst h1 h2 h3 h4 ih
  | tup h1 h2 h3 h4 _ ih => exact .tup h1 h2 h3 h4 ih
  | dic h1 h2 h3 h4 h5 _ ih => exact .dic h1 h2 h3 h4 h5 ih
theorem Sm.int {K : PySem.W.Frag} {d : Nat} {H : Hp} {i j : Int} (h : i = j) : Sm K (d + 1) H (.int i) (.int j) := by subst h; exact .atom rfl
theorem Sm.bl {K : PySem.W.Frag} {d : Nat} {H : Hp} {i j : Bool} (h : i = j) : Sm K (d + 1) H (.bl i) (.bl j) := by subst h; exact .atom rfl
theorem tyx_l {K : PySem.W.Frag} {H : Hp} {a : Addr} {xs : List V} (h : SqL K H a xs) : TyX K H (.ref a) (.type "list") := by
  rcases h with (h | ⟨o, h⟩) | ⟨o, its, n, h1, h2, _⟩
  · exact .base (.lst h)
  · exact .base (.frz h)
  · exact .kList h1 h2
theorem tyx_t {K : PySem.W.Frag} {H : Hp} {a : Addr} {xs : List V} (h : SqT K H a xs) : TyX K H (.ref a) (.type "tuple") := by
  rcases h with (h | ⟨o, h⟩) | ⟨o, its, n, h1, h2, _⟩
  · exact .base (.tup h)
  · exact .fTuple h
  · exact .kTuple h1 h2
theorem pair_ix {R : V → V → Prop} : ∀ {xs ys : List V}, Paired R xs ys → ∀ (i : Nat) x y, xs[i]? = some x → ys[i]? = some y → R x y
  | _, _, .nil, i, x, y, h, _ => by simp at h
  | _, _, .cons r _, 0, x, y, h, g => by
    cases h
    cases g
    exact r
  | _, _, .cons _ t, i + 1, x, y, h, g => pair_ix t i x y h g
theorem Sm.lstP {K : PySem.W.Frag} {d : Nat} {H : Hp} {a b : Addr} {xs ys : List V} (h1 : SqL K H a xs) (h2 : SqL K H b ys) (h3 : ys.length ≤ 100000) (p : Paired (Sm K d H) xs ys) : Sm K (d + 1) H (.ref a) (.ref b) :=
  .lst h1 h2 p.length h3 (pair_ix p)
theorem Sm.tupP {K : PySem.W.Frag} {d : Nat} {H : Hp} {a b : Addr} {xs ys : List V} (h1 : SqT K H a xs) (h2 : SqT K H b ys) (h3 : ys.length ≤ 100000) (p : Paired (Sm K d H) xs ys) : Sm K (d + 1) H (.ref a) (.ref b) :=
  .tup h1 h2 p.length h3 (pair_ix p)
def sp__law_same (d : Nat) (K : PySem.W.Frag) : Sp := fun vs H Q _ => ∃ x y, vs = [x, y] ∧ Sm K d H x y ∧ ∀ H', Same H H' → Q (.bl true) H'
theorem fnok_never {CX : CXT} {k : Nat} {f : Addr} {fd : FuncData} {ps : List Str} {sp : Sp} (h : ∀ vs H Q E, ¬ sp vs H Q E) : FnOk P w K mg base CX k f fd ps sp where
  len := fun vs H Q E z => (h vs H Q E z).elim
  run := fun A outer s H args us vs Q E hr h0 hb hv z => (h vs H Q E z).elim
theorem T0.ok__law_same_succ (T : T0 K mg) {d : Nat} (G : FnOk P w K mg base CX0 d T.a__law_same T.fd__law_same ["actual", "due"] (sp__law_same d K)) : FnOk P w K mg base CX0 (d + 1) T.a__law_same T.fd__law_same ["actual", "due"] (sp__law_same (d + 1) K) := by
  refine T.F__law_same.ok sc__law_same (fun vs H Q E h => ?_) (fun cdv A outer s H vs Q E hr h => ?_)
  · obtain ⟨x, y, rfl, _⟩ := h
    rfl
  · obtain ⟨x, y, rfl, hS, q⟩ := h
    refine ⟨_, (pss_cons (ps_if (pt_cmpR op_isN (pv 1) pe_non (nomark _)) (pss_one (ps_ret (pe_cmpR op_isN (pv 0) pe_non (nomark _)))) pss_nil)
        (pss_cons (ps_if (pt_cmpR op_isB (pv 1) pe_bl (nomark _)) (pss_one (ps_ret (pe_cmpR op_isB (pv 0) pe_bl (nomark _)))) pss_nil)
        (pss_cons (ps_if (pt_cmpR op_isB (pv 1) pe_bl (nomark _)) (pss_one (ps_ret (pe_cmpR op_isB (pv 0) pe_bl (nomark _)))) pss_nil)
        (pss_cons (ps_if (pt_val (pe_callB (call_isinstK (K := K)) (by rfl) T.m_isinstance (by decide +kernel) (pa_cons (pv 1) (pa_cons (pe_bltn (v := .ty "int") (by rfl) T.m_int (by decide +kernel) rfl) pa_nil)))) (pss_one (ps_ret (pe_and (pe_callB (call_isinstK (K := K)) (by rfl) T.m_isinstance (by decide +kernel) (pa_cons (pv 0) (pa_cons (pe_bltn (v := .ty "int") (by rfl) T.m_int (by decide +kernel) rfl) pa_nil))) (pe_and (pe_not (pe_callB (call_isinstK (K := K)) (by rfl) T.m_isinstance (by decide +kernel) (pa_cons (pv 0) (pa_cons (pe_bltn (v := .ty "bool") (by rfl) T.m_bool (by decide +kernel) rfl) pa_nil)))) (pe_one (pe_cmpR op_eq (pv 0) (pv 1) (nomark _))))))) pss_nil)
        (pss_cons (ps_if (pt_val (pe_callB (call_isinstK (K := K)) (by rfl) T.m_isinstance (by decide +kernel) (pa_cons (pv 1) (pa_cons (pe_bltn (v := .ty "str") (by rfl) T.m_str (by decide +kernel) rfl) pa_nil)))) (pss_one (ps_ret (pe_and (pe_callB (call_isinstK (K := K)) (by rfl) T.m_isinstance (by decide +kernel) (pa_cons (pv 0) (pa_cons (pe_bltn (v := .ty "str") (by rfl) T.m_str (by decide +kernel) rfl) pa_nil))) (pe_one (pe_cmpR op_eq (pv 0) (pv 1) (nomark _)))))) pss_nil)
        (pss_cons (ps_if (pt_val (pe_callB (call_isinstK (K := K)) (by rfl) T.m_isinstance (by decide +kernel) (pa_cons (pv 1) (pa_cons (pe_bltn (v := .ty "dict") (by rfl) T.m_dict (by decide +kernel) rfl) pa_nil)))) (pss_one (ps_ret (pe_and (pe_callB (call_isinstK (K := K)) (by rfl) T.m_isinstance (by decide +kernel) (pa_cons (pv 0) (pa_cons (pe_bltn (v := .ty "dict") (by rfl) T.m_dict (by decide +kernel) rfl) pa_nil))) (pe_one (pe_call G hr (by rfl) T.g__law_same T.k__law_same T.b__law_same .nil pass0 (pa_cons (LiI.pe_listItems rfl (pv 0) (by rfl) T.m_list (by decide +kernel)) (pa_cons (LiI.pe_listItems rfl (pv 1) (by rfl) T.m_list (by decide +kernel)) pa_nil))))))) pss_nil)
        (C8.pss_cut (ps_if (PW.pt (pw_and (pt_val (pe_callB (call_isinstK (K := K)) (by rfl) T.m_isinstance (by decide +kernel) (pa_cons (pv 1) (pa_cons (pe_bltn (v := .ty "tuple") (by rfl) T.m_tuple (by decide +kernel) rfl) pa_nil)))) (pw_and1 (pt_not (pt_val (pe_callB (call_isinstK (K := K)) (by rfl) T.m_isinstance (by decide +kernel) (pa_cons (pv 0) (pa_cons (pe_bltn (v := .ty "tuple") (by rfl) T.m_tuple (by decide +kernel) rfl) pa_nil)))))))) (pss_one (ps_ret pe_bl)) pss_nil)
        (C8.pss_cut (ps_if (PW.pt (pw_and (pt_val (pe_callB (call_isinstK (K := K)) (by rfl) T.m_isinstance (by decide +kernel) (pa_cons (pv 1) (pa_cons (pe_bltn (v := .ty "list") (by rfl) T.m_list (by decide +kernel) rfl) pa_nil)))) (pw_and1 (pt_not (pt_val (pe_callB (call_isinstK (K := K)) (by rfl) T.m_isinstance (by decide +kernel) (pa_cons (pv 0) (pa_cons (pe_bltn (v := .ty "list") (by rfl) T.m_list (by decide +kernel) rfl) pa_nil)))))))) (pss_one (ps_ret pe_bl)) pss_nil)
        (pss_cons (ps_if (pt_cmpR op_ne (pe_callB (call_lenK (K := K)) (by rfl) T.m_len PySem.boot_len (pa_cons (pv 0) pa_nil)) (pe_callB (call_lenK (K := K)) (by rfl) T.m_len PySem.boot_len (pa_cons (pv 1) pa_nil)) (nomark _)) (pss_one (ps_ret pe_bl)) pss_nil)
        (pss_cons (ps_for PassesOwn.never rfl (pi_range1 (by rfl) T.m_range (pa_cons (pe_callB (call_lenK (K := K)) (by rfl) T.m_len PySem.boot_len (pa_cons (pv 1) pa_nil)) pa_nil)) (pg_name (i := 2) sc__law_same.nd rfl (Or.inl rfl)) (pss_one (ps_if (pt_not (pt_val (pe_call G hr (by rfl) T.g__law_same T.k__law_same T.b__law_same .nil pass0 (pa_cons (pe_ix ix_seq (pv 0) (pv 2) (fun _ _ => rfl)) (pa_cons (pe_ix ix_seq (pv 1) (pv 2) (fun _ _ => rfl)) pa_nil))))) (pss_one (ps_ret pe_bl)) pss_nil)))
        (pss_one (ps_ret pe_bl)))))))))))), ?_⟩
    refine ⟨_, rfl, rfl, _, rfl, ite2 (fun e => ?_) (fun e => ?_)⟩
    · have e := of_decide_eq_true e
      subst e
      cases hS with
      | atom _ => exact ⟨_, rfl, rfl, q _ (.refl _)⟩
    refine ⟨_, rfl, _, rfl, _, rfl, ite2 (fun e => ?_) (fun e => ?_)⟩
    · have e := of_decide_eq_true e
      subst e
      cases hS with
      | atom _ => exact ⟨_, rfl, _, rfl, q _ (.refl _)⟩
    refine ⟨_, rfl, _, rfl, _, rfl, ite2 (fun e => ?_) (fun e => ?_)⟩
    · have e := of_decide_eq_true e
      subst e
      cases hS with
      | atom _ => exact ⟨_, rfl, _, rfl, q _ (.refl _)⟩
    rename_i hn ht
    have hS' : (x = y ∧ atomV x = true) ∨ (∃ (T : String) (a b : Addr) (xs ys : List V), x = .ref a ∧ y = .ref b ∧ (T = "list" ∧ SqL K H a xs ∧ SqL K H b ys ∨ T = "tuple" ∧ SqT K H a xs ∧ SqT K H b ys) ∧ xs.length = ys.length ∧ ys.length ≤ 100000 ∧ ∀ (i : Nat) x y, xs[i]? = some x → ys[i]? = some y → Sm K d H x y) ∨
        (∃ (e : Nat) (a b : Addr) (xs ys : List (Key × V)), d = e + 3 ∧ x = .ref a ∧ y = .ref b ∧ H a = some (.dK xs) ∧ H b = some (.dK ys) ∧ xs.length = ys.length ∧ ys.length ≤ 100000 ∧ (∀ (i : Nat) x y, xs[i]? = some x → ys[i]? = some y → x.1 = y.1) ∧
          ∀ (i : Nat) x y, xs[i]? = some x → ys[i]? = some y → Sm K (e + 1) H x.2 y.2) := by
      cases hS with
      | atom h => exact .inl ⟨rfl, h⟩
      | lst h1 h2 h3 h4 h5 => exact .inr (.inl ⟨"list", _, _, _, _, rfl, rfl, .inl ⟨rfl, h1, h2⟩, h3, h4, h5⟩)
      | tup h1 h2 h3 h4 h5 => exact .inr (.inl ⟨"tuple", _, _, _, _, rfl, rfl, .inr ⟨rfl, h1, h2⟩, h3, h4, h5⟩)
      | dic h1 h2 h3 h4 h5 h6 => exact .inr (.inr ⟨_, _, _, _, _, rfl, rfl, rfl, h1, h2, h3, h4, h5, h6⟩)
    rcases hS' with ⟨rfl, hx⟩ | ⟨t, a, b, xs, ys, rfl, rfl, hk, hl, hz, hi⟩ | ⟨c, a, b, xs, ys, rfl, rfl, rfl, h1, h2, hl, hz, hk, hi⟩
    · cases x with
      | non => exact absurd (decide_eq_true rfl) hn
      | bl b => cases b with
        | true => exact absurd (decide_eq_true rfl) ht
        | false => exact absurd (decide_eq_true rfl) e
      | int i =>
        refine ⟨_, rfl, _, _, _, _, true, rfl, .ty "int", .base (.int _), kit_ty (by decide +kernel), _, rfl, iteT ?_⟩
        refine ⟨_, rfl, _, _, _, _, true, rfl, .ty "int", .base (.int _), kit_ty (by decide +kernel), _, rfl, iteT ?_⟩
        refine ⟨_, rfl, _, _, _, _, false, rfl, .ty "bool", .base (.int _), kit_ty (by decide +kernel), _, rfl, _, rfl, iteT ?_⟩
        refine ⟨_, rfl, _, rfl, rfl, ?_⟩
        rw [decide_eq_true rfl]
        exact q _ (.refl _)
      | str i =>
        refine ⟨_, rfl, _, _, _, _, false, rfl, .ty "int", .base (.str _), kit_ty (by decide +kernel), _, rfl, iteF ?_⟩
        refine ⟨_, rfl, _, _, _, _, true, rfl, .ty "str", .base (.str _), kit_ty (by decide +kernel), _, rfl, iteT ?_⟩
        refine ⟨_, rfl, _, _, _, _, true, rfl, .ty "str", .base (.str _), kit_ty (by decide +kernel), _, rfl, iteT ?_⟩
        refine ⟨_, rfl, _, rfl, rfl, ?_⟩
        rw [decide_eq_true rfl]
        exact q _ (.refl _)
      | _ => cases hx
    · have tb : TyX K H (.ref b) (.type t) := by
        rcases hk with ⟨rfl, _, h⟩ | ⟨rfl, _, h⟩
        · exact tyx_l h
        · exact tyx_t h
      have ta : TyX K H (.ref a) (.type t) := by
        rcases hk with ⟨rfl, h, _⟩ | ⟨rfl, h, _⟩
        · exact tyx_l h
        · exact tyx_t h
      have tt : t = "list" ∨ t = "tuple" := hk.imp (fun h => h.1) (fun h => h.1)
      refine ⟨_, rfl, _, _, _, _, false, rfl, .ty "int", tb, kit_ty (by rcases tt with rfl | rfl <;> decide +kernel), _, rfl, iteF ?_⟩
      refine ⟨_, rfl, _, _, _, _, false, rfl, .ty "str", tb, kit_ty (by rcases tt with rfl | rfl <;> decide +kernel), _, rfl, iteF ?_⟩
      refine ⟨_, rfl, _, _, _, _, false, rfl, .ty "dict", tb, kit_ty (by rcases tt with rfl | rfl <;> decide +kernel), _, rfl, iteF ?_⟩
      refine ⟨fun σ' H' => σ' = [some (.ref a), some (.ref b), none] ∧ H = H', ?_, ?_⟩
      · rcases tt with rfl | rfl
        · refine ⟨_, rfl, _, _, _, _, false, rfl, .ty "tuple", tb, kit_ty (by decide +kernel), _, rfl, iteF (iteF ⟨rfl, rfl⟩)⟩
        · refine ⟨_, rfl, _, _, _, _, true, rfl, .ty "tuple", tb, kit_ty (by decide +kernel), _, rfl, iteT ?_⟩
          refine ⟨_, rfl, _, _, _, _, true, rfl, .ty "tuple", ta, kit_ty (by decide +kernel), _, rfl, iteF ⟨rfl, rfl⟩⟩
      rintro _ _ ⟨rfl, rfl⟩
      refine ⟨fun σ' H' => σ' = [some (.ref a), some (.ref b), none] ∧ H = H', ?_, ?_⟩
      · rcases tt with rfl | rfl
        · refine ⟨_, rfl, _, _, _, _, true, rfl, .ty "list", tb, kit_ty (by decide +kernel), _, rfl, iteT ?_⟩
          refine ⟨_, rfl, _, _, _, _, true, rfl, .ty "list", ta, kit_ty (by decide +kernel), _, rfl, iteF ⟨rfl, rfl⟩⟩
        · refine ⟨_, rfl, _, _, _, _, false, rfl, .ty "list", tb, kit_ty (by decide +kernel), _, rfl, iteF (iteF ⟨rfl, rfl⟩)⟩
      rintro _ _ ⟨rfl, rfl⟩
      have la : SqL K H a xs ∨ SqT K H a xs := hk.imp (fun h => h.2.1) (fun h => h.2.1)
      have lb : SqL K H b ys ∨ SqT K H b ys := hk.imp (fun h => h.2.2) (fun h => h.2.2)
      refine ⟨_, rfl, a, xs, rfl, la, _, rfl, b, ys, rfl, lb, rfl, _, rfl, ?_⟩
      rw [hl, decide_eq_true rfl]
      refine iteF ?_
      -- for k in range(len(due))
      refine ⟨_, rfl, b, ys, rfl, lb, (ys.length : Int), rfl, by omega, by omega, ?_⟩
      rw [Int.toNat_natCast]
      refine for_range (lo := 0) (n := ys.length) (fun _ σ' H' => (∃ o, σ' = [some (.ref a), some (.ref b), o]) ∧ Same H H') ⟨⟨none, rfl⟩, .refl _⟩ (fun i σ' H' hlt p => ?_) (fun σ' H' p => ?_)
      · obtain ⟨⟨o, rfl⟩, sm⟩ := p
        obtain ⟨u, hu⟩ : ∃ u, xs[i]? = some u := ⟨_, List.getElem?_eq_getElem (by omega)⟩
        obtain ⟨v, hv⟩ : ∃ v, ys[i]? = some v := ⟨_, List.getElem?_eq_getElem (by omega)⟩
        rw [Int.zero_add]
        have sa : ∀ Q : VK, Q u H' → rIx K (.ref a) (.int (i : Int)) H' Q := fun Q h => by
          rcases la with l | l
          · exact .inl ⟨a, xs, i, u, rfl, rfl, sm.seq l, atI_nat hu, h⟩
          · exact .inr (.inl ⟨a, xs, i, u, rfl, rfl, same_t sm l, atI_nat hu, h⟩)
        have sb : ∀ Q : VK, Q v H' → rIx K (.ref b) (.int (i : Int)) H' Q := fun Q h => by
          rcases lb with l | l
          · exact .inl ⟨b, ys, i, v, rfl, rfl, sm.seq l, atI_nat hv, h⟩
          · exact .inr (.inl ⟨b, ys, i, v, rfl, rfl, same_t sm l, atI_nat hv, h⟩)
        refine ⟨_, rfl, _, rfl, sa _ ⟨_, rfl, _, rfl, sb _ ⟨u, v, rfl, (hi i u v hu hv).same sm, fun H2 s2 => ⟨true, rfl, iteF ?_⟩⟩⟩⟩
        exact ⟨⟨_, rfl⟩, sm.trans s2⟩
      · obtain ⟨⟨o, rfl⟩, sm⟩ := p
        exact q _ sm
    · have tb : TyX K H (.ref b) (.type "dict") := .base (.dK h2)
      have ta : TyX K H (.ref a) (.type "dict") := .base (.dK h1)
      refine ⟨_, rfl, _, _, _, _, false, rfl, .ty "int", tb, kit_ty (by decide +kernel), _, rfl, iteF ?_⟩
      refine ⟨_, rfl, _, _, _, _, false, rfl, .ty "str", tb, kit_ty (by decide +kernel), _, rfl, iteF ?_⟩
      refine ⟨_, rfl, _, _, _, _, true, rfl, .ty "dict", tb, kit_ty (by decide +kernel), _, rfl, iteT ?_⟩
      refine ⟨_, rfl, _, _, _, _, true, rfl, .ty "dict", ta, kit_ty (by decide +kernel), _, rfl, iteT ?_⟩
      refine ⟨_, rfl, a, xs, rfl, h1, fun H2 p1 t1 s2 n1 nt1 np1 e1 pr1 => ?_⟩
      refine ⟨_, rfl, b, ys, rfl, s2 _ _ h2, fun H3 p2 t2 s3 n2 nt2 np2 e2 pr2 => ?_⟩
      have l1 : t1.length = xs.length := pr1.length
      have l2 : t2.length = ys.length := pr2.length
      refine ⟨_, _, rfl, .lst (SqL.of (s3 _ _ e1)) (SqL.of e2) (by rw [List.length_map, List.length_map]; omega) (by rw [List.length_map]; omega) (fun i u v hu hv => ?_), fun H4 s4 => q _ (Same.trans (Same.trans s2 s3) s4)⟩
      rw [List.getElem?_map] at hu hv
      obtain ⟨u1, hu1, rfl⟩ := Option.map_eq_some_iff.mp hu
      obtain ⟨v1, hv1, rfl⟩ := Option.map_eq_some_iff.mp hv
      obtain ⟨x1, hx1, r1⟩ := paired_get pr1 hu1
      obtain ⟨x2, hx2, r2⟩ := paired_get pr2 hv1
      refine .tup (SqT.of (s3 _ _ r1)) (SqT.of r2) rfl (by show 2 ≤ 100000; decide) (fun j y z hy hz => ?_)
      have e12 := hk i x1 x2 hx1 hx2
      match j with
      | 0 =>
        cases hy
        cases hz
        rw [e12]
        exact .atom (by cases x2.1 <;> rfl)
      | 1 =>
        cases hy
        cases hz
        exact (hi i x1 x2 hx1 hx2).same (Same.trans s2 s3)
      | j + 2 => cases hy
theorem T0.ok__law_same (T : T0 K mg) : ∀ d : Nat, FnOk P w K mg base CX0 d T.a__law_same T.fd__law_same ["actual", "due"] (sp__law_same d K)
  | 0 => fnok_never fun vs H Q E h => by
    obtain ⟨x, y, _, h, _⟩ := h
    cases h
  | d + 1 => T.ok__law_same_succ (T.ok__law_same d)
/-! ### _law_same while an error is handled -/
theorem fnp_never {k : Nat} {f : Addr} {fd : FuncData} {ps : List Str} {sp : Addr × Obj → Sp} (h : ∀ p vs H Q E, ¬ sp p vs H Q E) : FnP P w K mg base k f fd ps sp where
  len := fun p vs H Q E z => (h p vs H Q E z).elim
  run := fun A outer s H args us vs Q E p h1 h2 h3 h4 h5 h6 z => (h p vs H Q E z).elim
theorem T0.okp__law_same_succ (T : T0 K mg) {d : Nat} (hd3 : d + 1 ≤ 3) (G : FnP P w K mg base d T.a__law_same T.fd__law_same ["actual", "due"] (fun _ => sp__law_same d K)) : FnP P w K mg base (d + 1) T.a__law_same T.fd__law_same ["actual", "due"] (fun _ => sp__law_same (d + 1) K) := by
  refine Fun_okP T.F__law_same sc__law_same (fun p vs H Q E h => ?_) (fun cdv A outer s H vs Q E p hot hr h => ?_)
  · obtain ⟨x, y, rfl, _⟩ := h
    rfl
  · obtain ⟨x, y, rfl, hS, q⟩ := h
    refine ⟨_, (pss_cons (ps_if (pt_cmpR op_isN (pv 1) pe_non (nomark _)) (pss_one (ps_ret (pe_cmpR op_isN (pv 0) pe_non (nomark _)))) pss_nil)
        (pss_cons (ps_if (pt_cmpR op_isB (pv 1) pe_bl (nomark _)) (pss_one (ps_ret (pe_cmpR op_isB (pv 0) pe_bl (nomark _)))) pss_nil)
        (pss_cons (ps_if (pt_cmpR op_isB (pv 1) pe_bl (nomark _)) (pss_one (ps_ret (pe_cmpR op_isB (pv 0) pe_bl (nomark _)))) pss_nil)
        (pss_cons (ps_if (pt_val (pe_callB (call_isinstK (K := K)) (by rfl) T.m_isinstance (by decide +kernel) (pa_cons (pv 1) (pa_cons (pe_bltn (v := .ty "int") (by rfl) T.m_int (by decide +kernel) rfl) pa_nil)))) (pss_one (ps_ret (pe_and (pe_callB (call_isinstK (K := K)) (by rfl) T.m_isinstance (by decide +kernel) (pa_cons (pv 0) (pa_cons (pe_bltn (v := .ty "int") (by rfl) T.m_int (by decide +kernel) rfl) pa_nil))) (pe_and (pe_not (pe_callB (call_isinstK (K := K)) (by rfl) T.m_isinstance (by decide +kernel) (pa_cons (pv 0) (pa_cons (pe_bltn (v := .ty "bool") (by rfl) T.m_bool (by decide +kernel) rfl) pa_nil)))) (pe_one (pe_cmpR op_eq (pv 0) (pv 1) (nomark _))))))) pss_nil)
        (pss_cons (ps_if (pt_val (pe_callB (call_isinstK (K := K)) (by rfl) T.m_isinstance (by decide +kernel) (pa_cons (pv 1) (pa_cons (pe_bltn (v := .ty "str") (by rfl) T.m_str (by decide +kernel) rfl) pa_nil)))) (pss_one (ps_ret (pe_and (pe_callB (call_isinstK (K := K)) (by rfl) T.m_isinstance (by decide +kernel) (pa_cons (pv 0) (pa_cons (pe_bltn (v := .ty "str") (by rfl) T.m_str (by decide +kernel) rfl) pa_nil))) (pe_one (pe_cmpR op_eq (pv 0) (pv 1) (nomark _)))))) pss_nil)
        (pss_cons (ps_if (pt_val (pe_callB (call_isinstK (K := K)) (by rfl) T.m_isinstance (by decide +kernel) (pa_cons (pv 1) (pa_cons (pe_bltn (v := .ty "dict") (by rfl) T.m_dict (by decide +kernel) rfl) pa_nil)))) (pss_one (ps_never)) pss_nil)
        (C8.pss_cut (ps_if (PW.pt (pw_and (pt_val (pe_callB (call_isinstK (K := K)) (by rfl) T.m_isinstance (by decide +kernel) (pa_cons (pv 1) (pa_cons (pe_bltn (v := .ty "tuple") (by rfl) T.m_tuple (by decide +kernel) rfl) pa_nil)))) (pw_and1 (pt_not (pt_val (pe_callB (call_isinstK (K := K)) (by rfl) T.m_isinstance (by decide +kernel) (pa_cons (pv 0) (pa_cons (pe_bltn (v := .ty "tuple") (by rfl) T.m_tuple (by decide +kernel) rfl) pa_nil)))))))) (pss_one (ps_ret pe_bl)) pss_nil)
        (C8.pss_cut (ps_if (PW.pt (pw_and (pt_val (pe_callB (call_isinstK (K := K)) (by rfl) T.m_isinstance (by decide +kernel) (pa_cons (pv 1) (pa_cons (pe_bltn (v := .ty "list") (by rfl) T.m_list (by decide +kernel) rfl) pa_nil)))) (pw_and1 (pt_not (pt_val (pe_callB (call_isinstK (K := K)) (by rfl) T.m_isinstance (by decide +kernel) (pa_cons (pv 0) (pa_cons (pe_bltn (v := .ty "list") (by rfl) T.m_list (by decide +kernel) rfl) pa_nil)))))))) (pss_one (ps_ret pe_bl)) pss_nil)
        (pss_cons (ps_if (pt_cmpR op_ne (pe_callB (call_lenK (K := K)) (by rfl) T.m_len PySem.boot_len (pa_cons (pv 0) pa_nil)) (pe_callB (call_lenK (K := K)) (by rfl) T.m_len PySem.boot_len (pa_cons (pv 1) pa_nil)) (nomark _)) (pss_one (ps_ret pe_bl)) pss_nil)
        (pss_cons (L2H.ps_forH PassesOwn.leaving (hotD hot).c (L2H.pi_range1H rfl T.m_range (pa_cons (pe_callB (call_lenK (K := K)) (by rfl) T.m_len PySem.boot_len (pa_cons (pv 1) pa_nil)) pa_nil)) (pg_name (i := 2) sc__law_same.nd rfl (Or.inl rfl)) (pss_one (ps_if (pt_not (pt_val (pe_callP G hr (hotD hot) rfl T.g__law_same T.k__law_same T.b__law_same (pa_cons (pe_ix ix_seq (pv 0) (pv 2) (fun _ _ => rfl)) (pa_cons (pe_ix ix_seq (pv 1) (pv 2) (fun _ _ => rfl)) pa_nil))))) (pss_one (ps_ret pe_bl)) pss_nil)))
        (pss_one (ps_ret pe_bl)))))))))))), ?_⟩
    refine ⟨_, rfl, rfl, _, rfl, ite2 (fun e => ?_) (fun e => ?_)⟩
    · have e := of_decide_eq_true e
      subst e
      cases hS with
      | atom _ => exact ⟨_, rfl, rfl, q _ (.refl _)⟩
    refine ⟨_, rfl, _, rfl, _, rfl, ite2 (fun e => ?_) (fun e => ?_)⟩
    · have e := of_decide_eq_true e
      subst e
      cases hS with
      | atom _ => exact ⟨_, rfl, _, rfl, q _ (.refl _)⟩
    refine ⟨_, rfl, _, rfl, _, rfl, ite2 (fun e => ?_) (fun e => ?_)⟩
    · have e := of_decide_eq_true e
      subst e
      cases hS with
      | atom _ => exact ⟨_, rfl, _, rfl, q _ (.refl _)⟩
    rename_i hn ht
    have hS' : (x = y ∧ atomV x = true) ∨ (∃ (T : String) (a b : Addr) (xs ys : List V), x = .ref a ∧ y = .ref b ∧ (T = "list" ∧ SqL K H a xs ∧ SqL K H b ys ∨ T = "tuple" ∧ SqT K H a xs ∧ SqT K H b ys) ∧ xs.length = ys.length ∧ ys.length ≤ 100000 ∧ ∀ (i : Nat) x y, xs[i]? = some x → ys[i]? = some y → Sm K d H x y) ∨
        (∃ (e : Nat) (a b : Addr) (xs ys : List (Key × V)), d = e + 3 ∧ x = .ref a ∧ y = .ref b ∧ H a = some (.dK xs) ∧ H b = some (.dK ys) ∧ xs.length = ys.length ∧ ys.length ≤ 100000 ∧ (∀ (i : Nat) x y, xs[i]? = some x → ys[i]? = some y → x.1 = y.1) ∧
          ∀ (i : Nat) x y, xs[i]? = some x → ys[i]? = some y → Sm K (e + 1) H x.2 y.2) := by
      cases hS with
      | atom h => exact .inl ⟨rfl, h⟩
      | lst h1 h2 h3 h4 h5 => exact .inr (.inl ⟨"list", _, _, _, _, rfl, rfl, .inl ⟨rfl, h1, h2⟩, h3, h4, h5⟩)
      | tup h1 h2 h3 h4 h5 => exact .inr (.inl ⟨"tuple", _, _, _, _, rfl, rfl, .inr ⟨rfl, h1, h2⟩, h3, h4, h5⟩)
      | dic h1 h2 h3 h4 h5 h6 => exact .inr (.inr ⟨_, _, _, _, _, rfl, rfl, rfl, h1, h2, h3, h4, h5, h6⟩)
    rcases hS' with ⟨rfl, hx⟩ | ⟨t, a, b, xs, ys, rfl, rfl, hk, hl, hz, hi⟩ | ⟨c, a, b, xs, ys, rfl, rfl, rfl, h1, h2, hl, hz, hk, hi⟩
    · cases x with
      | non => exact absurd (decide_eq_true rfl) hn
      | bl b => cases b with
        | true => exact absurd (decide_eq_true rfl) ht
        | false => exact absurd (decide_eq_true rfl) e
      | int i =>
        refine ⟨_, rfl, _, _, _, _, true, rfl, .ty "int", .base (.int _), kit_ty (by decide +kernel), _, rfl, iteT ?_⟩
        refine ⟨_, rfl, _, _, _, _, true, rfl, .ty "int", .base (.int _), kit_ty (by decide +kernel), _, rfl, iteT ?_⟩
        refine ⟨_, rfl, _, _, _, _, false, rfl, .ty "bool", .base (.int _), kit_ty (by decide +kernel), _, rfl, _, rfl, iteT ?_⟩
        refine ⟨_, rfl, _, rfl, rfl, ?_⟩
        rw [decide_eq_true rfl]
        exact q _ (.refl _)
      | str i =>
        refine ⟨_, rfl, _, _, _, _, false, rfl, .ty "int", .base (.str _), kit_ty (by decide +kernel), _, rfl, iteF ?_⟩
        refine ⟨_, rfl, _, _, _, _, true, rfl, .ty "str", .base (.str _), kit_ty (by decide +kernel), _, rfl, iteT ?_⟩
        refine ⟨_, rfl, _, _, _, _, true, rfl, .ty "str", .base (.str _), kit_ty (by decide +kernel), _, rfl, iteT ?_⟩
        refine ⟨_, rfl, _, rfl, rfl, ?_⟩
        rw [decide_eq_true rfl]
        exact q _ (.refl _)
      | _ => cases hx
    · have tb : TyX K H (.ref b) (.type t) := by
        rcases hk with ⟨rfl, _, h⟩ | ⟨rfl, _, h⟩
        · exact tyx_l h
        · exact tyx_t h
      have ta : TyX K H (.ref a) (.type t) := by
        rcases hk with ⟨rfl, h, _⟩ | ⟨rfl, h, _⟩
        · exact tyx_l h
        · exact tyx_t h
      have tt : t = "list" ∨ t = "tuple" := hk.imp (fun h => h.1) (fun h => h.1)
      refine ⟨_, rfl, _, _, _, _, false, rfl, .ty "int", tb, kit_ty (by rcases tt with rfl | rfl <;> decide +kernel), _, rfl, iteF ?_⟩
      refine ⟨_, rfl, _, _, _, _, false, rfl, .ty "str", tb, kit_ty (by rcases tt with rfl | rfl <;> decide +kernel), _, rfl, iteF ?_⟩
      refine ⟨_, rfl, _, _, _, _, false, rfl, .ty "dict", tb, kit_ty (by rcases tt with rfl | rfl <;> decide +kernel), _, rfl, iteF ?_⟩
      refine ⟨fun σ' H' => σ' = [some (.ref a), some (.ref b), none] ∧ H = H', ?_, ?_⟩
      · rcases tt with rfl | rfl
        · refine ⟨_, rfl, _, _, _, _, false, rfl, .ty "tuple", tb, kit_ty (by decide +kernel), _, rfl, iteF (iteF ⟨rfl, rfl⟩)⟩
        · refine ⟨_, rfl, _, _, _, _, true, rfl, .ty "tuple", tb, kit_ty (by decide +kernel), _, rfl, iteT ?_⟩
          refine ⟨_, rfl, _, _, _, _, true, rfl, .ty "tuple", ta, kit_ty (by decide +kernel), _, rfl, iteF ⟨rfl, rfl⟩⟩
      rintro _ _ ⟨rfl, rfl⟩
      refine ⟨fun σ' H' => σ' = [some (.ref a), some (.ref b), none] ∧ H = H', ?_, ?_⟩
      · rcases tt with rfl | rfl
        · refine ⟨_, rfl, _, _, _, _, true, rfl, .ty "list", tb, kit_ty (by decide +kernel), _, rfl, iteT ?_⟩
          refine ⟨_, rfl, _, _, _, _, true, rfl, .ty "list", ta, kit_ty (by decide +kernel), _, rfl, iteF ⟨rfl, rfl⟩⟩
        · refine ⟨_, rfl, _, _, _, _, false, rfl, .ty "list", tb, kit_ty (by decide +kernel), _, rfl, iteF (iteF ⟨rfl, rfl⟩)⟩
      rintro _ _ ⟨rfl, rfl⟩
      have la : SqL K H a xs ∨ SqT K H a xs := hk.imp (fun h => h.2.1) (fun h => h.2.1)
      have lb : SqL K H b ys ∨ SqT K H b ys := hk.imp (fun h => h.2.2) (fun h => h.2.2)
      refine ⟨_, rfl, a, xs, rfl, la, _, rfl, b, ys, rfl, lb, rfl, _, rfl, ?_⟩
      rw [hl, decide_eq_true rfl]
      refine iteF ?_
      -- for k in range(len(due))
      refine ⟨_, rfl, b, ys, rfl, lb, (ys.length : Int), rfl, by omega, by omega, ?_⟩
      rw [Int.toNat_natCast]
      refine for_range (lo := 0) (n := ys.length) (fun _ σ' H' => (∃ o, σ' = [some (.ref a), some (.ref b), o]) ∧ Same H H') ⟨⟨none, rfl⟩, .refl _⟩ (fun i σ' H' hlt p => ?_) (fun σ' H' p => ?_)
      · obtain ⟨⟨o, rfl⟩, sm⟩ := p
        obtain ⟨u, hu⟩ : ∃ u, xs[i]? = some u := ⟨_, List.getElem?_eq_getElem (by omega)⟩
        obtain ⟨v, hv⟩ : ∃ v, ys[i]? = some v := ⟨_, List.getElem?_eq_getElem (by omega)⟩
        rw [Int.zero_add]
        have sa : ∀ Q : VK, Q u H' → rIx K (.ref a) (.int (i : Int)) H' Q := fun Q h => by
          rcases la with l | l
          · exact .inl ⟨a, xs, i, u, rfl, rfl, sm.seq l, atI_nat hu, h⟩
          · exact .inr (.inl ⟨a, xs, i, u, rfl, rfl, same_t sm l, atI_nat hu, h⟩)
        have sb : ∀ Q : VK, Q v H' → rIx K (.ref b) (.int (i : Int)) H' Q := fun Q h => by
          rcases lb with l | l
          · exact .inl ⟨b, ys, i, v, rfl, rfl, sm.seq l, atI_nat hv, h⟩
          · exact .inr (.inl ⟨b, ys, i, v, rfl, rfl, same_t sm l, atI_nat hv, h⟩)
        refine ⟨_, rfl, _, rfl, sa _ ⟨_, rfl, _, rfl, sb _ ⟨u, v, rfl, (hi i u v hu hv).same sm, fun H2 s2 => ⟨true, rfl, iteF ?_⟩⟩⟩⟩
        exact ⟨⟨_, rfl⟩, sm.trans s2⟩
      · obtain ⟨⟨o, rfl⟩, sm⟩ := p
        exact q _ sm
    · exact absurd hd3 (by omega)
theorem T0.okp__law_same (T : T0 K mg) : ∀ d : Nat, d ≤ 3 → FnP P w K mg base d T.a__law_same T.fd__law_same ["actual", "due"] (fun _ => sp__law_same d K)
  | 0, _ => fnp_never fun p vs H Q E h => by
    obtain ⟨x, y, _, h, _⟩ := h
    cases h
  | d + 1, h => T.okp__law_same_succ h (T.okp__law_same d (Nat.le_of_succ_le h))
/-! ### far -/
def farL (n a b : Int) : Int := (b - a - 1).fmod n + 1
def sp_far (K : PySem.W.Frag) : Sp := fun vs H Q _ => ∃ n a b : Int, vs = [.int n, .int a, .int b] ∧ 0 < n ∧ Q (.int (farL n a b)) H
theorem T0.ok_far (T : T0 K mg) : FnOk P w K mg base CX0 1 T.a_far T.fd_far ["size", "start", "end"] (sp_far K) := by
  refine T.F_far.ok sc_far (fun vs H Q E h => ?_) (fun cdv A outer s H vs Q E hr h => ?_)
  · obtain ⟨n, a, b, rfl, _⟩ := h
    rfl
  · obtain ⟨n, a, b, rfl, hn, q⟩ := h
    refine ⟨_, (pss_one (ps_ret (pe_op op_add (pe_op op_modN (pe_op op_sub (pe_op op_sub (pv 2) (pv 1)) pe_int) (pv 0)) pe_int))), ?_⟩
    exact ⟨_, rfl, _, rfl, _, _, rfl, rfl, _, _, rfl, rfl, _, rfl, _, _, rfl, rfl, by omega, _, _, rfl, rfl, q⟩
theorem far_range (a b : Int) {n : Int} (h : 0 < n) : 1 ≤ farL n a b ∧ farL n a b ≤ n := by
  have := fmod_range (b - a - 1) h
  unfold farL
  omega
theorem far_emod (a b : Int) {n : Int} (h : 0 < n) : farL n a b = (b - a - 1) % n + 1 := by
  unfold farL
  rw [Int.fmod_eq_emod_of_nonneg _ (by omega)]
theorem far_eq (a b : Int) {n : Int} (h : 0 < n) : farL n a b = if (b - a).fmod n = 0 then n else (b - a).fmod n := by
  rw [far_emod a b h, Int.fmod_eq_emod_of_nonneg _ (by omega)]
  have e := Int.emod_add_mul_ediv (b - a) n
  have h0 := Int.emod_nonneg (b - a) (by omega : n ≠ 0)
  have h1 := Int.emod_lt_of_pos (b - a) h
  by_cases z : (b - a) % n = 0
  · rw [if_pos z]
    rw [z] at e
    rw [show b - a - 1 = (n - 1) + n * ((b - a) / n - 1) by rw [Int.mul_sub]; omega, Int.add_mul_emod_self_left, Int.emod_eq_of_lt (by omega) (by omega)]
    omega
  · rw [if_neg z]
    rw [show b - a - 1 = ((b - a) % n - 1) + n * ((b - a) / n) by omega, Int.add_mul_emod_self_left, Int.emod_eq_of_lt (by omega) (by omega)]
    omega
def sp_between (K : PySem.W.Frag) : Sp := fun vs H Q _ => ∃ n a p b : Int, vs = [.int n, .int a, .int p, .int b] ∧ 0 < n ∧ Q (.bl (decide (farL n a p < farL n a b))) H
theorem T0.ok_between (T : T0 K mg) : FnOk P w K mg base CX0 2 T.a_between T.fd_between ["size", "start", "place", "end"] (sp_between K) := by
  refine T.F_between.ok sc_between (fun vs H Q E h => ?_) (fun cdv A outer s H vs Q E hr h => ?_)
  · obtain ⟨n, a, p, b, rfl, _⟩ := h
    rfl
  · obtain ⟨n, a, p, b, rfl, hn, q⟩ := h
    refine ⟨_, (pss_one (ps_ret (pe_cmpR op_lt (pe_call T.ok_far hr (by rfl) T.g_far T.k_far T.b_far .nil pass0 (pa_cons (pv 0) (pa_cons (pv 1) (pa_cons (pv 2) pa_nil)))) (pe_call T.ok_far hr (by rfl) T.g_far T.k_far T.b_far .nil pass0 (pa_cons (pv 0) (pa_cons (pv 1) (pa_cons (pv 3) pa_nil)))) (nomark _)))), ?_⟩
    exact ⟨_, rfl, _, rfl, _, rfl, _, _, _, rfl, hn, _, rfl, _, rfl, _, rfl, _, _, _, rfl, hn, _, _, rfl, rfl, q⟩
/-! ### a house -/
def hf (n p x : Int) (b : V) : List (Str × V) := [("size", .int n), ("place", .int p), ("next_house", .int x), ("before", b)]
theorem hf_size {n p x : Int} {b : V} : (hf n p x b).lookup ("size" : Str) = some (.int n) := by unfold hf; walk_at "lk"
theorem hf_place {n p x : Int} {b : V} : (hf n p x b).lookup ("place" : Str) = some (.int p) := by unfold hf; walk_at "lk"
theorem hf_next {n p x : Int} {b : V} : (hf n p x b).lookup ("next_house" : Str) = some (.int x) := by unfold hf; walk_at "lk"
theorem hf_before {n p x : Int} {b : V} : (hf n p x b).lookup ("before" : Str) = some b := by unfold hf; walk_at "lk"
def HouseAt (C : Addr) (H : Hp) (a : Addr) (n p x : Int) (b : V) : Prop := ∃ dx, H a = some (.ins C dx (hf n p x b))
def sp_House__init (C : Addr) : Sp := fun vs H Q _ => ∃ (h dx : Addr) (n p x : Int) (b : V), vs = [.ref h, .int n, .int p, .int x, b] ∧ H h = some (.ins C dx []) ∧ ∀ H', HouseAt C H' h n p x b → Kp h H H' → Q .non H'
theorem T0.ok_House__init (T : T0 K mg) : FnOk P w K mg base CX0 1 T.a_House__init T.fd_House__init ["self", "size", "place", "next_house", "before"] (sp_House__init T.C_House) := by
  refine T.F_House__init.ok sc_House__init (fun vs H Q E h => ?_) (fun cdv A outer s H vs Q E hr h => ?_)
  · obtain ⟨h, dx, n, p, x, b, rfl, _⟩ := h
    rfl
  · obtain ⟨h, dx, n, p, x, b, rfl, hh, q⟩ := h
    refine ⟨_, (pss_cons (ps_fld (pv 0) (pv 1) rfl)
        (pss_cons (ps_fld (pv 0) (pv 2) rfl)
        (pss_cons (ps_fld (pv 0) (pv 3) rfl)
        (pss_one (ps_fld (pv 0) (pv 4) rfl))))), ?_⟩
    refine ⟨_, rfl, _, rfl, h, _, dx, [], rfl, hh, T.cl_House, T.na_House_size, (by show 0 < 1000; decide), ?_⟩
    refine ⟨_, rfl, _, rfl, h, _, dx, _, rfl, upd_same, T.cl_House, T.na_House_place, (by show 1 < 1000; decide), ?_⟩
    refine ⟨_, rfl, _, rfl, h, _, dx, _, rfl, upd_same, T.cl_House, T.na_House_next_house, (by show 2 < 1000; decide), ?_⟩
    refine ⟨_, rfl, _, rfl, h, _, dx, _, rfl, upd_same, T.cl_House, T.na_House_before, (by show 3 < 1000; decide), ?_⟩
    refine q _ ⟨dx, ?_⟩ (fun b' o ne e => ?_)
    · rw [upd_same]
      have e : putF "before" b (putF "next_house" (.int x) (putF "place" (.int p) (putF "size" (.int n) []))) = hf n p x b := by
        walk_at "pf"
        rfl
      exact congrArg (fun z => some (HO.ins _ _ z)) e
    · rw [upd_ne ne, upd_ne ne, upd_ne ne, upd_ne ne]
      exact e
def sp_letter (C : Addr) (z : Str) : Sp := fun vs H Q _ => ∃ (h : Addr) (n p x : Int) (b : V), vs = [.ref h] ∧ HouseAt C H h n p x b ∧ ∀ l, H l = none → Q (.ref l) (upd H l (.tup [.str z, .int x, .int p]))
theorem T0.ok_House__tell_letter (T : T0 K mg) : FnOk P w K mg base CX0 1 T.a_House__tell_letter T.fd_House__tell_letter ["self"] (sp_letter T.C_House "tell") := by
  refine T.F_House__tell_letter.ok sc_House__tell_letter (fun vs H Q E h => ?_) (fun cdv A outer s H vs Q E hr h => ?_)
  · obtain ⟨h, n, p, x, b, rfl, _⟩ := h
    rfl
  · obtain ⟨h, n, p, x, b, rfl, ⟨dx, hh⟩, q⟩ := h
    refine ⟨_, (pss_one (ps_ret (pe_tup (pa_cons pe_str (pa_cons (show PE _ _ (tFld K _ _) from pe_fld (pv 0) rfl) (pa_cons (show PE _ _ (tFld K _ _) from pe_fld (pv 0) rfl) pa_nil)))))), ?_⟩
    refine ⟨_, rfl, h, _, dx, _, _, rfl, hh, T.cl_House, T.na_House_next_house, hf_next, ?_⟩
    refine ⟨_, rfl, h, _, dx, _, _, rfl, hh, T.cl_House, T.na_House_place, hf_place, lenL (by show 3 ≤ 100000; decide), q⟩
theorem T0.ok_House__ask_letter (T : T0 K mg) : FnOk P w K mg base CX0 1 T.a_House__ask_letter T.fd_House__ask_letter ["self"] (sp_letter T.C_House "ask") := by
  refine T.F_House__ask_letter.ok sc_House__ask_letter (fun vs H Q E h => ?_) (fun cdv A outer s H vs Q E hr h => ?_)
  · obtain ⟨h, n, p, x, b, rfl, _⟩ := h
    rfl
  · obtain ⟨h, n, p, x, b, rfl, ⟨dx, hh⟩, q⟩ := h
    refine ⟨_, (pss_one (ps_ret (pe_tup (pa_cons pe_str (pa_cons (show PE _ _ (tFld K _ _) from pe_fld (pv 0) rfl) (pa_cons (show PE _ _ (tFld K _ _) from pe_fld (pv 0) rfl) pa_nil)))))), ?_⟩
    refine ⟨_, rfl, h, _, dx, _, _, rfl, hh, T.cl_House, T.na_House_next_house, hf_next, ?_⟩
    refine ⟨_, rfl, h, _, dx, _, _, rfl, hh, T.cl_House, T.na_House_place, hf_place, lenL (by show 3 ≤ 100000; decide), q⟩
/-- what a house without a before, or with one, answers -/
def okB (b : V) : Prop := b = .non ∨ ∃ z : Int, b = .int z
def sp_House__answer_to (C : Addr) : Sp := fun vs H Q _ => ∃ (h : Addr) (n p x u : Int) (b : V), vs = [.ref h, .int u] ∧ HouseAt C H h n p x b ∧ (b = .non → Q .non H) ∧ (∀ z : Int, b = .int z → ∀ l, H l = none → Q (.ref l) (upd H l (.tup [.str "answer", .int u, .int p, .int z]))) ∧ okB b
theorem T0.ok_House__answer_to (T : T0 K mg) : FnOk P w K mg base CX0 1 T.a_House__answer_to T.fd_House__answer_to ["self", "sender"] (sp_House__answer_to T.C_House) := by
  refine T.F_House__answer_to.ok sc_House__answer_to (fun vs H Q E h => ?_) (fun cdv A outer s H vs Q E hr h => ?_)
  · obtain ⟨h, n, p, x, u, b, rfl, _⟩ := h
    rfl
  · obtain ⟨h, n, p, x, u, b, rfl, ⟨dx, hh⟩, q0, q1, ob⟩ := h
    refine ⟨_, (pss_cons (ps_if (pt_cmpR op_isN (show PE _ _ (tFld K _ _) from pe_fld (pv 0) rfl) pe_non (nomark _)) (pss_one (ps_ret pe_non)) pss_nil)
        (pss_one (ps_ret (pe_tup (pa_cons pe_str (pa_cons (pv 1) (pa_cons (show PE _ _ (tFld K _ _) from pe_fld (pv 0) rfl) (pa_cons (show PE _ _ (tFld K _ _) from pe_fld (pv 0) rfl) pa_nil)))))))), ?_⟩
    refine ⟨_, rfl, h, _, dx, _, _, rfl, hh, T.cl_House, T.na_House_before, hf_before, rfl, _, rfl, ite2 (fun e => ?_) (fun e => ?_)⟩
    · exact q0 (of_decide_eq_true e)
    · rcases ob with rfl | ⟨z, rfl⟩
      · exact absurd (decide_eq_true rfl) e
      · refine ⟨_, rfl, _, rfl, h, _, dx, _, _, rfl, hh, T.cl_House, T.na_House_place, hf_place, ?_⟩
        exact ⟨_, rfl, h, _, dx, _, _, rfl, hh, T.cl_House, T.na_House_before, hf_before, lenL (by show 4 ≤ 100000; decide), q1 z rfl⟩
def hTell (n p u : Int) (b : V) : V := match b with
  | .int z => if farL n z u < farL n z p then .int u else .int z
  | _ => .int u
def hAns (n p x u m : Int) : Int := if x = u ∧ farL n p m < farL n p u then m else x
theorem hf_pb {n p x : Int} {b c : V} : putF "before" c (hf n p x b) = hf n p x c := by
  unfold hf
  walk_at "pf"
theorem hf_pn {n p x y : Int} {b : V} : putF "next_house" (.int y) (hf n p x b) = hf n p y b := by
  unfold hf
  walk_at "pf"
def sp_House__hear_tell (C : Addr) : Sp := fun vs H Q _ => ∃ (h : Addr) (n p x u : Int) (b : V), vs = [.ref h, .int u] ∧ HouseAt C H h n p x b ∧ okB b ∧ 0 < n ∧ ∀ H', HouseAt C H' h n p x (hTell n p u b) → Kp h H H' → Q .non H'
theorem T0.ok_House__hear_tell (T : T0 K mg) : FnOk P w K mg base CX0 3 T.a_House__hear_tell T.fd_House__hear_tell ["self", "sender"] (sp_House__hear_tell T.C_House) := by
  refine T.F_House__hear_tell.ok sc_House__hear_tell (fun vs H Q E h => ?_) (fun cdv A outer s H vs Q E hr h => ?_)
  · obtain ⟨h, n, p, x, u, b, rfl, _⟩ := h
    rfl
  · obtain ⟨h, n, p, x, u, b, rfl, ⟨dx, hh⟩, ob, hn, q⟩ := h
    refine ⟨_, (pss_one (ps_if (PW.pt (pw_or (pt_cmpR op_isN (show PE _ _ (tFld K _ _) from pe_fld (pv 0) rfl) pe_non (nomark _)) (pw_or1 (pt_val (pe_call T.ok_between hr (by rfl) T.g_between T.k_between T.b_between .nil pass0 (pa_cons (show PE _ _ (tFld K _ _) from pe_fld (pv 0) rfl) (pa_cons (show PE _ _ (tFld K _ _) from pe_fld (pv 0) rfl) (pa_cons (pv 1) (pa_cons (show PE _ _ (tFld K _ _) from pe_fld (pv 0) rfl) pa_nil))))))))) (pss_one (ps_fld (pv 0) (pv 1) rfl)) pss_nil)), ?_⟩
    have set : ∀ Q' : L2.St → Hp → Prop, (∀ H', HouseAt T.C_House H' h n p x (.int u) → Kp h H H' → Q' [some (.ref h), some (.int u)] H') → sFld K (tVar 0) (tVar 1) "before" { nx := Q', rt := Q } [some (.ref h), some (.int u)] H := fun Q' k =>
      ⟨_, rfl, _, rfl, h, _, dx, _, rfl, hh, T.cl_House, T.na_House_before, (by show 4 < 1000; decide), k _ ⟨dx, by rw [upd_same, hf_pb]⟩ .put⟩
    refine ⟨_, rfl, h, _, dx, _, _, rfl, hh, T.cl_House, T.na_House_before, hf_before, rfl, _, rfl, ite2 (fun e => ?_) (fun e => ?_)⟩
    · have e := of_decide_eq_true e
      subst e
      exact iteT (set _ fun H' h1 h2 => q H' h1 h2)
    · rcases ob with rfl | ⟨z, rfl⟩
      · exact absurd (decide_eq_true rfl) e
      · refine ⟨_, rfl, h, _, dx, _, _, rfl, hh, T.cl_House, T.na_House_size, hf_size, _, rfl, h, _, dx, _, _, rfl, hh, T.cl_House, T.na_House_before, hf_before, ?_⟩
        refine ⟨_, rfl, _, rfl, h, _, dx, _, _, rfl, hh, T.cl_House, T.na_House_place, hf_place, n, z, u, p, rfl, hn, _, rfl, ite2 (fun f => ?_) (fun f => ?_)⟩
        · refine set _ fun H' h1 h2 => q H' ?_ h2
          have f := of_decide_eq_true f
          rw [show hTell n p u (.int z) = .int u from if_pos f]
          exact h1
        · have f : ¬ (farL n z u < farL n z p) := fun g => f (decide_eq_true g)
          refine q H ?_ (.refl _ _)
          rw [show hTell n p u (.int z) = .int z from if_neg f]
          exact ⟨dx, hh⟩
def sp_House__hear_answer (C : Addr) : Sp := fun vs H Q _ => ∃ (h : Addr) (n p x u m : Int) (b : V), vs = [.ref h, .int u, .int m] ∧ HouseAt C H h n p x b ∧ 0 < n ∧ ∀ H', HouseAt C H' h n p (hAns n p x u m) b → Kp h H H' → Q .non H'
theorem T0.ok_House__hear_answer (T : T0 K mg) : FnOk P w K mg base CX0 3 T.a_House__hear_answer T.fd_House__hear_answer ["self", "sender", "named"] (sp_House__hear_answer T.C_House) := by
  refine T.F_House__hear_answer.ok sc_House__hear_answer (fun vs H Q E h => ?_) (fun cdv A outer s H vs Q E hr h => ?_)
  · obtain ⟨h, n, p, x, u, m, b, rfl, _⟩ := h
    rfl
  · obtain ⟨h, n, p, x, u, m, b, rfl, ⟨dx, hh⟩, hn, q⟩ := h
    refine ⟨_, (pss_one (ps_if (PW.pt (pw_and (pt_cmpR op_eq (show PE _ _ (tFld K _ _) from pe_fld (pv 0) rfl) (pv 1) (nomark _)) (pw_and1 (pt_val (pe_call T.ok_between hr (by rfl) T.g_between T.k_between T.b_between .nil pass0 (pa_cons (show PE _ _ (tFld K _ _) from pe_fld (pv 0) rfl) (pa_cons (show PE _ _ (tFld K _ _) from pe_fld (pv 0) rfl) (pa_cons (pv 2) (pa_cons (pv 1) pa_nil))))))))) (pss_one (ps_fld (pv 0) (pv 2) rfl)) pss_nil)), ?_⟩
    refine ⟨_, rfl, h, _, dx, _, _, rfl, hh, T.cl_House, T.na_House_next_house, hf_next, _, rfl, rfl, _, rfl, ite2 (fun e => ?_) (fun e => ?_)⟩
    · have e := V.int.inj (of_decide_eq_true e)
      refine ⟨_, rfl, h, _, dx, _, _, rfl, hh, T.cl_House, T.na_House_size, hf_size, _, rfl, h, _, dx, _, _, rfl, hh, T.cl_House, T.na_House_place, hf_place, ?_⟩
      refine ⟨_, rfl, _, rfl, n, p, m, u, rfl, hn, _, rfl, ite2 (fun f => ?_) (fun f => ?_)⟩
      · have f := of_decide_eq_true f
        have g : hAns n p x u m = m := if_pos ⟨e, f⟩
        rw [g] at q
        exact ⟨_, rfl, _, rfl, h, _, dx, _, rfl, hh, T.cl_House, T.na_House_next_house, (by show 4 < 1000; decide), q _ ⟨dx, by rw [upd_same, hf_pn]⟩ .put⟩
      · have f : ¬ (farL n p m < farL n p u) := fun g => f (decide_eq_true g)
        have g : hAns n p x u m = x := if_neg (fun z => f z.2)
        rw [g] at q
        exact q H ⟨dx, hh⟩ (.refl _ _)
    · have e : ¬ x = u := fun g => e (decide_eq_true (congrArg V.int g))
      have g : hAns n p x u m = x := if_neg (fun z => e z.1)
      rw [g] at q
      exact q H ⟨dx, hh⟩ (.refl _ _)
/-- a letter as a row of values -/
inductive Let where
  | tell (r u : Int) | ask (r u : Int) | answer (r u m : Int)
def Let.vals : Let → List V
  | .tell r u => [.str "tell", .int r, .int u]
  | .ask r u => [.str "ask", .int r, .int u]
  | .answer r u m => [.str "answer", .int r, .int u, .int m]
/-- the before, the next behind the letter, and the answer -/
def hB (n p : Int) (b : V) : Let → V
  | .tell _ u => hTell n p u b
  | _ => b
def hN (n p x : Int) : Let → Int
  | .answer _ u m => hAns n p x u m
  | _ => x
def hA (p : Int) (b : V) : Let → Option (List V)
  | .ask _ u => match b with
    | .int z => some [.str "answer", .int u, .int p, .int z]
    | _ => none
  | _ => none
def sp_House__hear (K : PySem.W.Frag) (C : Addr) : Sp := fun vs H Q _ => ∃ (h l : Addr) (n p x : Int) (b : V) (L : Let), vs = [.ref h, .ref l] ∧ HouseAt C H h n p x b ∧ okB b ∧ 0 < n ∧ SqT K H l L.vals ∧
  ∀ v H', HouseAt C H' h n p (hN n p x L) (hB n p b L) → Kp h H H' → (match hA p b L with | none => v = .non | some ys => ∃ a, v = .ref a ∧ H' a = some (.tup ys)) → Q v H'
theorem T0.ok_House__hear (T : T0 K mg) : FnOk P w K mg base CX0 4 T.a_House__hear T.fd_House__hear ["self", "letter"] (sp_House__hear K T.C_House) := by
  refine T.F_House__hear.ok sc_House__hear (fun vs H Q E h => ?_) (fun cdv A outer s H vs Q E hr h => ?_)
  · obtain ⟨h, l, n, p, x, b, L, rfl, _⟩ := h
    rfl
  · obtain ⟨h, l, n, p, x, b, L, rfl, hh, ob, hn, hl, q⟩ := h
    refine ⟨_, (pss_cons (ps_set (i := 2) sc_House__hear.nd rfl (Or.inl rfl) (pe_ix (ix_tupK (K := K)) (pv 1) pe_int (fun _ _ => rfl)))
        (pss_cons (ps_set (i := 3) sc_House__hear.nd rfl (Or.inl rfl) (pe_ix (ix_tupK (K := K)) (pv 1) pe_int (fun _ _ => rfl)))
        (pss_cons (ps_if (pt_cmpR op_eq (pv 2) pe_str (nomark _)) (pss_one (ps_ret (pe_meth (pv 0) T.cl_House T.me_House__answer_to T.ok_House__answer_to (hr.mono (by decide)) T.b_House__answer_to .nil pass0 (pa_cons (pv 3) pa_nil)))) pss_nil)
        (pss_cons (ps_if (pt_cmpR op_eq (pv 2) pe_str (nomark _)) (pss_one (ps_expr (pe_meth (pv 0) T.cl_House T.me_House__hear_tell T.ok_House__hear_tell hr T.b_House__hear_tell .nil pass0 (pa_cons (pv 3) pa_nil)))) (pss_one (ps_expr (pe_meth (pv 0) T.cl_House T.me_House__hear_answer T.ok_House__hear_answer hr T.b_House__hear_answer .nil pass0 (pa_cons (pv 3) (pa_cons (pe_ix (ix_tupK (K := K)) (pv 1) pe_int (fun _ _ => rfl)) pa_nil))))))
        (pss_one (ps_ret pe_non)))))), ?_⟩
    cases L with
    | tell r u =>
      refine ⟨_, rfl, l, _, 0, .str "tell", rfl, rfl, hl, rfl, _, rfl, l, _, 2, .int u, rfl, rfl, hl, rfl, ?_⟩
      refine ⟨_, rfl, rfl, _, rfl, ?_⟩
      rw [show decide (V.str "tell" = V.str "ask") = false by decide +kernel]
      refine iteF ⟨_, rfl, rfl, _, rfl, ?_⟩
      rw [show decide (V.str "tell" = V.str "tell") = true by decide +kernel]
      obtain ⟨dx, hh'⟩ := hh
      refine iteT ⟨_, rfl, h, dx, _, rfl, hh', ?_, _, rfl, h, n, p, x, u, b, rfl, ⟨dx, hh'⟩, ob, hn, fun H' h1 h2 => ?_⟩
      · unfold hf; walk_at "lk"
      · exact q .non H' h1 h2 rfl
    | ask r u =>
      refine ⟨_, rfl, l, _, 0, .str "ask", rfl, rfl, hl, rfl, _, rfl, l, _, 2, .int u, rfl, rfl, hl, rfl, ?_⟩
      refine ⟨_, rfl, rfl, _, rfl, ?_⟩
      rw [show decide (V.str "ask" = V.str "ask") = true by decide +kernel]
      obtain ⟨dx, hh'⟩ := hh
      refine iteT ⟨_, rfl, h, dx, _, rfl, hh', ?_, _, rfl, h, n, p, x, u, b, rfl, ⟨dx, hh'⟩, fun e => ?_, fun z e l' nl => ?_, ob⟩
      · unfold hf; walk_at "lk"
      · subst e
        exact q .non H ⟨dx, hh'⟩ (.refl _ _) rfl
      · subst e
        refine q (.ref l') _ ⟨dx, ?_⟩ (Kp.of_same (same_upd nl)) ⟨l', rfl, upd_same⟩
        rw [upd_ne (ne_of_none hh' nl)]
        exact hh'
    | answer r u m =>
      refine ⟨_, rfl, l, _, 0, .str "answer", rfl, rfl, hl, rfl, _, rfl, l, _, 2, .int u, rfl, rfl, hl, rfl, ?_⟩
      refine ⟨_, rfl, rfl, _, rfl, ?_⟩
      rw [show decide (V.str "answer" = V.str "ask") = false by decide +kernel]
      refine iteF ⟨_, rfl, rfl, _, rfl, ?_⟩
      rw [show decide (V.str "answer" = V.str "tell") = false by decide +kernel]
      obtain ⟨dx, hh'⟩ := hh
      refine iteF ⟨_, rfl, h, dx, _, rfl, hh', ?_, _, rfl, _, rfl, l, _, 3, .int m, rfl, rfl, hl, rfl, h, n, p, x, u, m, b, rfl, ⟨dx, hh'⟩, hn, fun H' h1 h2 => ?_⟩
      · unfold hf; walk_at "lk"
      · exact q .non H' h1 h2 rfl
--CUT
--CUT
/-! ### a net -/
def nf (n : Int) (dn db dl : Addr) : List (Str × V) := [("size", .int n), ("_nexts", .ref dn), ("_befores", .ref db), ("_letters", .ref dl)]
theorem nf_size {n : Int} {dn db dl : Addr} : (nf n dn db dl).lookup ("size" : Str) = some (.int n) := by unfold nf; walk_at "lk"
theorem nf_nexts {n : Int} {dn db dl : Addr} : (nf n dn db dl).lookup ("_nexts" : Str) = some (.ref dn) := by unfold nf; walk_at "lk"
theorem nf_befores {n : Int} {dn db dl : Addr} : (nf n dn db dl).lookup ("_befores" : Str) = some (.ref db) := by unfold nf; walk_at "lk"
theorem nf_letters {n : Int} {dn db dl : Addr} : (nf n dn db dl).lookup ("_letters" : Str) = some (.ref dl) := by unfold nf; walk_at "lk"
/-- the net at a; ks its houses in the order in which they came -/
structure NetAt (C : Addr) (H : Hp) (a : Addr) (n : Int) (dn db dl : Addr) (nx bf : List (Key × V)) (ls : List V) : Prop where
  me : ∃ dx, H a = some (.ins C dx (nf n dn db dl))
  hn : H dn = some (.dK nx)
  hb : H db = some (.dK bf)
  hl : H dl = some (.lst ls)
theorem none_back {H H1 : Hp} {p : Addr} (s : Same H H1) (h : H1 p = none) : H p = none := by
  cases e : H p with
  | none => rfl
  | some o => rw [s _ _ e] at h; cases h
theorem NetAt.same {C a dn db dl : Addr} {H H' : Hp} {n : Int} {nx bf : List (Key × V)} {ls : List V} (N : NetAt C H a n dn db dl nx bf ls) (s : Same H H') : NetAt C H' a n dn db dl nx bf ls :=
  ⟨let ⟨dx, e⟩ := N.me; ⟨dx, s _ _ e⟩, s _ _ N.hn, s _ _ N.hb, s _ _ N.hl⟩
def sp_Net__houses (C : Addr) : Sp := fun vs H Q _ => ∃ (h dn db dl : Addr) (n : Int) (nx bf : List (Key × V)) (ls : List V) (ks : List Int), vs = [.ref h] ∧ NetAt C H h n dn db dl nx bf ls ∧ nx.map (·.1) = ks.map Sum.inl ∧ ks.length < 64 ∧
  ∀ (ys : List Int) (p : Addr), ys.Perm ks → ys.Pairwise (· ≤ ·) → H p = none → Q (.ref p) (upd H p (.lst (ys.map V.int)))
theorem T0.ok_Net__houses (T : T0 K mg) : FnOk P w K mg base CX0 1 T.a_Net__houses T.fd_Net__houses ["self"] (sp_Net__houses T.C_Net) := by
  refine T.F_Net__houses.ok sc_Net__houses (fun vs H Q E h => ?_) (fun cdv A outer s H vs Q E hr h => ?_)
  · obtain ⟨h, dn, db, dl, n, nx, bf, ls, ks, rfl, _⟩ := h
    rfl
  · obtain ⟨h, dn, db, dl, n, nx, bf, ls, ks, rfl, hN, hk, h64, q⟩ := h
    obtain ⟨dx, hh⟩ := hN.me
    refine ⟨_, (pss_one (ps_ret (pe_callB (call_sortedDI rfl) (by rfl) T.m_sorted (by decide +kernel) (pa_cons (show PE _ _ (tFld K _ _) from pe_fld (pv 0) rfl) pa_nil)))), ?_⟩
    exact ⟨_, rfl, h, _, dx, _, _, rfl, hh, T.cl_Net, T.na_Net__nexts, nf_nexts, dn, nx, ks, rfl, .inl hN.hn, hk, h64, q⟩
def sp_Net__check_house (C : Addr) : Sp := fun vs H Q _ => ∃ (h dn db dl : Addr) (n p : Int) (nx bf : List (Key × V)) (ls : List V), vs = [.ref h, .int p] ∧ NetAt C H h n dn db dl nx bf ls ∧ (valV nx (.inl p)).isSome = true ∧ Q .non H
theorem T0.ok_Net__check_house (T : T0 K mg) : FnOk P w K mg base CX0 1 T.a_Net__check_house T.fd_Net__check_house ["self", "place"] (sp_Net__check_house T.C_Net) := by
  refine T.F_Net__check_house.ok sc_Net__check_house (fun vs H Q E h => ?_) (fun cdv A outer s H vs Q E hr h => ?_)
  · obtain ⟨h, dn, db, dl, n, p, nx, bf, ls, rfl, _⟩ := h
    rfl
  · obtain ⟨h, dn, db, dl, n, p, nx, bf, ls, rfl, hN, hk, q⟩ := h
    obtain ⟨dx, hh⟩ := hN.me
    refine ⟨_, (pss_one (ps_if (pt_cmp (pc_dnotin (un1 hr) (pv 1) (show PE _ _ (tFld K _ _) from pe_fld (pv 0) rfl))) (pss_one (ps_never)) pss_nil)), ?_⟩
    refine ⟨_, rfl, _, rfl, h, _, dx, _, _, rfl, hh, T.cl_Net, T.na_Net__nexts, nf_nexts, dn, _, rfl, DGet.k (k := Sum.inl p) hN.hn, _, rfl, ?_⟩
    rw [hk]
    exact iteF q
def sp_check_on_circle : Sp := fun vs H Q _ => ∃ (n p : Int), vs = [.int n, .int p] ∧ 0 ≤ p ∧ p < n ∧ Q .non H
theorem T0.ok_check_on_circle (T : T0 K mg) : FnOk P w K mg base CX0 1 T.a_check_on_circle T.fd_check_on_circle ["size", "place"] sp_check_on_circle := by
  refine T.F_check_on_circle.ok sc_check_on_circle (fun vs H Q E h => ?_) (fun cdv A outer s H vs Q E hr h => ?_)
  · obtain ⟨n, p, rfl, _⟩ := h
    rfl
  · obtain ⟨n, p, rfl, p0, p1, q⟩ := h
    refine ⟨_, (pss_one (ps_if (PW.pt (pw_or (pt_cmpR op_lt (pv 1) pe_int (nomark _)) (pw_or1 (pt_cmpR op_ge (pv 1) (pv 0) (nomark _))))) (pss_one (ps_never)) pss_nil)), ?_⟩
    refine ⟨_, rfl, _, _, rfl, rfl, _, rfl, ite2 (fun e => absurd (of_decide_eq_true e) (by omega)) (fun _ => ?_)⟩
    refine ⟨_, rfl, _, rfl, _, _, rfl, rfl, _, rfl, ite2 (fun e => absurd (of_decide_eq_true e) (by omega)) (fun _ => ?_)⟩
    exact q
def sp_Net__check_letter (C : Addr) : Sp := fun vs H Q _ => ∃ (h dn db dl : Addr) (n p : Int) (nx bf : List (Key × V)) (ls : List V), vs = [.ref h, .int p] ∧ NetAt C H h n dn db dl nx bf ls ∧ 0 ≤ p ∧ p < ls.length ∧ Q .non H
theorem T0.ok_Net__check_letter (T : T0 K mg) : FnOk P w K mg base CX0 1 T.a_Net__check_letter T.fd_Net__check_letter ["self", "at"] (sp_Net__check_letter T.C_Net) := by
  refine T.F_Net__check_letter.ok sc_Net__check_letter (fun vs H Q E h => ?_) (fun cdv A outer s H vs Q E hr h => ?_)
  · obtain ⟨h, dn, db, dl, n, p, nx, bf, ls, rfl, _⟩ := h
    rfl
  · obtain ⟨h, dn, db, dl, n, p, nx, bf, ls, rfl, hN, p0, p1, q⟩ := h
    obtain ⟨dx, hh⟩ := hN.me
    refine ⟨_, (pss_one (ps_if (PW.pt (pw_or (pt_cmpR op_lt (pv 1) pe_int (nomark _)) (pw_or1 (pt_cmpR op_ge (pv 1) (pe_callB (call_lenK (K := K)) (by rfl) T.m_len PySem.boot_len (pa_cons (show PE _ _ (tFld K _ _) from pe_fld (pv 0) rfl) pa_nil)) (nomark _))))) (pss_one (ps_never)) pss_nil)), ?_⟩
    refine ⟨_, rfl, _, _, rfl, rfl, _, rfl, ite2 (fun e => absurd (of_decide_eq_true e) (by omega)) (fun _ => ?_)⟩
    refine ⟨_, rfl, _, rfl, h, _, dx, _, _, rfl, hh, T.cl_Net, T.na_Net__letters, nf_letters, dl, ls, rfl, .inl (SqL.of hN.hl), _, _, rfl, rfl, _, rfl, ite2 (fun e => absurd (of_decide_eq_true e) (by omega)) (fun _ => ?_)⟩
    exact q
theorem dget_of {H : Hp} {a : Addr} {kvs : List (Key × V)} {k : Key} {v : V} (e : H a = some (.dK kvs)) (h : valV kvs k = some v) : DGet H a (kV k) (some v) := h ▸ DGet.k e
def sp_Net__house_at (C D : Addr) : Sp := fun vs H Q _ => ∃ (h dn db dl : Addr) (n p x : Int) (b : V) (nx bf : List (Key × V)) (ls : List V), vs = [.ref h, .int p] ∧ NetAt C H h n dn db dl nx bf ls ∧ valV nx (.inl p) = some (.int x) ∧ valV bf (.inl p) = some b ∧
  ∀ H' r, Same H H' → H r = none → HouseAt D H' r n p x b → Q (.ref r) H'
theorem T0.ok_Net__house_at (T : T0 K mg) : FnOk P w K mg base CX0 3 T.a_Net__house_at T.fd_Net__house_at ["self", "place"] (sp_Net__house_at T.C_Net T.C_House) := by
  refine T.F_Net__house_at.ok sc_Net__house_at (fun vs H Q E h => ?_) (fun cdv A outer s H vs Q E hr h => ?_)
  · obtain ⟨h, dn, db, dl, n, p, x, b, nx, bf, ls, rfl, _⟩ := h
    rfl
  · obtain ⟨h, dn, db, dl, n, p, x, b, nx, bf, ls, rfl, hN, hx, hb, q⟩ := h
    obtain ⟨dx, hh⟩ := hN.me
    refine ⟨_, (pss_one (ps_ret (pe_make T.mk_House T.ok_House__init hr (by rfl) T.mc_House T.b_House__init .nil pass0 (pa_cons (show PE _ _ (tFld K _ _) from pe_fld (pv 0) rfl) (pa_cons (pv 1) (pa_cons (pe_dget (un1 hr) (show PE _ _ (tFld K _ _) from pe_fld (pv 0) rfl) (pv 1) (fun _ _ => rfl)) (pa_cons (pe_dget (un1 hr) (show PE _ _ (tFld K _ _) from pe_fld (pv 0) rfl) (pv 1) (fun _ _ => rfl)) pa_nil))))))), ?_⟩
    refine ⟨_, rfl, h, _, dx, _, _, rfl, hh, T.cl_Net, T.na_Net_size, nf_size, _, rfl, ?_⟩
    refine ⟨_, rfl, h, _, dx, _, _, rfl, hh, T.cl_Net, T.na_Net__nexts, nf_nexts, _, rfl, dn, _, rfl, dget_of hN.hn hx, ?_⟩
    refine ⟨_, rfl, h, _, dx, _, _, rfl, hh, T.cl_Net, T.na_Net__befores, nf_befores, _, rfl, db, _, rfl, dget_of hN.hb hb, ?_⟩
    refine fun r dx' nr ndx ne => ⟨r, dx', n, p, x, b, rfl, upd_same, fun H' hA k => ⟨rfl, q H' r (fun c o e => ?_) nr hA⟩⟩
    refine k c o (ne_of_none e nr) ?_
    rw [upd_ne (ne_of_none e nr), upd_ne (ne_of_none e ndx)]
    exact e
def sp_Net__send (C : Addr) : Sp := fun vs H Q _ => ∃ (h dn db dl : Addr) (n : Int) (nx bf : List (Key × V)) (ls : List V) (v : V), vs = [.ref h, v] ∧ NetAt C H h n dn db dl nx bf ls ∧ ls.length ≤ 100000 ∧ Q v (upd H dl (.lst (ls ++ [v])))
theorem T0.ok_Net__send (T : T0 K mg) : FnOk P w K mg base CX0 1 T.a_Net__send T.fd_Net__send ["self", "letter"] (sp_Net__send T.C_Net) := by
  refine T.F_Net__send.ok sc_Net__send (fun vs H Q E h => ?_) (fun cdv A outer s H vs Q E hr h => ?_)
  · obtain ⟨h, dn, db, dl, n, nx, bf, ls, v, rfl, _⟩ := h
    rfl
  · obtain ⟨h, dn, db, dl, n, nx, bf, ls, v, rfl, hN, hz, q⟩ := h
    obtain ⟨dx, hh⟩ := hN.me
    refine ⟨_, (pss_cons (ps_expr (pe_bm PySem.F.plainAttrs_list PySem.F.slot_list_append PySem.F.type_list_append mt_append (show PE _ _ (tFld K _ _) from pe_fld (pv 0) rfl) (pa_cons (pv 1) pa_nil)))
        (pss_one (ps_ret (pv 1)))), ?_⟩
    refine ⟨_, rfl, h, _, dx, _, _, rfl, hh, T.cl_Net, T.na_Net__letters, nf_letters, ?_⟩
    exact ⟨.inl ⟨rfl, _, SqL.of hN.hl⟩, _, rfl, dl, ls, v, rfl, rfl, hN.hl, small1000' hz, _, rfl, q⟩
def sp_Net__letters (C : Addr) : Sp := fun vs H Q _ => ∃ (h dn db dl : Addr) (n : Int) (nx bf : List (Key × V)) (ls : List V), vs = [.ref h] ∧ NetAt C H h n dn db dl nx bf ls ∧ ∀ p, H p = none → Q (.ref p) (upd H p (.lst ls))
theorem T0.ok_Net__letters (T : T0 K mg) : FnOk P w K mg base CX0 1 T.a_Net__letters T.fd_Net__letters ["self"] (sp_Net__letters T.C_Net) := by
  refine T.F_Net__letters.ok sc_Net__letters (fun vs H Q E h => ?_) (fun cdv A outer s H vs Q E hr h => ?_)
  · obtain ⟨h, dn, db, dl, n, nx, bf, ls, rfl, _⟩ := h
    rfl
  · obtain ⟨h, dn, db, dl, n, nx, bf, ls, rfl, hN, q⟩ := h
    obtain ⟨dx, hh⟩ := hN.me
    refine ⟨_, (pss_one (ps_ret (pe_callTy (call_list_ofK (K := K)) (by rfl) T.m_list (by decide +kernel) (pa_cons (show PE _ _ (tFld K _ _) from pe_fld (pv 0) rfl) pa_nil)))), ?_⟩
    exact ⟨_, rfl, h, _, dx, _, _, rfl, hh, T.cl_Net, T.na_Net__letters, nf_letters, dl, ls, rfl, .inl (SqL.of hN.hl), q⟩
def sp_Net__say (C : Addr) (z : Str) : Sp := fun vs H Q _ => ∃ (h dn db dl : Addr) (n p x : Int) (b : V) (nx bf : List (Key × V)) (ls : List V), vs = [.ref h, .int p] ∧ NetAt C H h n dn db dl nx bf ls ∧ valV nx (.inl p) = some (.int x) ∧ valV bf (.inl p) = some b ∧ ls.length ≤ 1000 ∧
  ∀ H' l, Same H H' → H l = none → H' l = some (.tup [.str z, .int x, .int p]) → Q (.ref l) (upd H' dl (.lst (ls ++ [.ref l])))
theorem T0.ok_Net__tell (T : T0 K mg) : FnOk P w K mg base CX0 4 T.a_Net__tell T.fd_Net__tell ["self", "house"] (sp_Net__say T.C_Net "tell") := by
  refine T.F_Net__tell.ok sc_Net__tell (fun vs H Q E h => ?_) (fun cdv A outer s H vs Q E hr h => ?_)
  · obtain ⟨h, dn, db, dl, n, p, x, b, nx, bf, ls, rfl, _⟩ := h
    rfl
  · obtain ⟨h, dn, db, dl, n, p, x, b, nx, bf, ls, rfl, hN, hx, hb, hz, q⟩ := h
    obtain ⟨dx, hh⟩ := hN.me
    refine ⟨_, (pss_cons (ps_expr (pe_meth (pv 0) T.cl_Net T.me_Net__check_house T.ok_Net__check_house (hr.mono (by decide)) T.b_Net__check_house .nil pass0 (pa_cons (pv 1) pa_nil)))
        (pss_one (ps_ret (pe_meth (pv 0) T.cl_Net T.me_Net__send T.ok_Net__send (hr.mono (by decide)) T.b_Net__send .nil pass0 (pa_cons (pe_meth0 (pe_meth (pv 0) T.cl_Net T.me_Net__house_at T.ok_Net__house_at hr T.b_Net__house_at .nil pass0 (pa_cons (pv 1) pa_nil)) T.cl_House T.me_House__tell_letter T.ok_House__tell_letter (hr.mono (by decide)) T.b_House__tell_letter .nil pass0) pa_nil))))), ?_⟩
    refine ⟨_, rfl, h, dx, _, rfl, hh, (by unfold nf; walk_at "lk"), _, rfl, h, dn, db, dl, n, p, nx, bf, ls, rfl, hN, (by rw [hx]; rfl), ?_⟩
    refine ⟨_, rfl, h, dx, _, rfl, hh, (by unfold nf; walk_at "lk"), _, rfl, h, dx, _, rfl, hh, (by unfold nf; walk_at "lk"), _, rfl, h, dn, db, dl, n, p, x, b, nx, bf, ls, rfl, hN, hx, hb, fun H1 r sm nr hA => ?_⟩
    obtain ⟨d2, hA2⟩ := id hA
    refine ⟨r, d2, _, rfl, hA2, (by unfold hf; walk_at "lk"), r, n, p, x, b, rfl, hA, fun l nl => ?_⟩
    refine ⟨h, dn, db, dl, n, nx, bf, ls, .ref l, rfl, (hN.same sm).same (same_upd nl), by omega, q _ l (Same.trans sm (same_upd nl)) ?_ upd_same⟩
    cases e : H l with
    | none => rfl
    | some o => rw [sm _ _ e] at nl; cases nl
theorem T0.ok_Net__ask (T : T0 K mg) : FnOk P w K mg base CX0 4 T.a_Net__ask T.fd_Net__ask ["self", "house"] (sp_Net__say T.C_Net "ask") := by
  refine T.F_Net__ask.ok sc_Net__ask (fun vs H Q E h => ?_) (fun cdv A outer s H vs Q E hr h => ?_)
  · obtain ⟨h, dn, db, dl, n, p, x, b, nx, bf, ls, rfl, _⟩ := h
    rfl
  · obtain ⟨h, dn, db, dl, n, p, x, b, nx, bf, ls, rfl, hN, hx, hb, hz, q⟩ := h
    obtain ⟨dx, hh⟩ := hN.me
    refine ⟨_, (pss_cons (ps_expr (pe_meth (pv 0) T.cl_Net T.me_Net__check_house T.ok_Net__check_house (hr.mono (by decide)) T.b_Net__check_house .nil pass0 (pa_cons (pv 1) pa_nil)))
        (pss_one (ps_ret (pe_meth (pv 0) T.cl_Net T.me_Net__send T.ok_Net__send (hr.mono (by decide)) T.b_Net__send .nil pass0 (pa_cons (pe_meth0 (pe_meth (pv 0) T.cl_Net T.me_Net__house_at T.ok_Net__house_at hr T.b_Net__house_at .nil pass0 (pa_cons (pv 1) pa_nil)) T.cl_House T.me_House__ask_letter T.ok_House__ask_letter (hr.mono (by decide)) T.b_House__ask_letter .nil pass0) pa_nil))))), ?_⟩
    refine ⟨_, rfl, h, dx, _, rfl, hh, (by unfold nf; walk_at "lk"), _, rfl, h, dn, db, dl, n, p, nx, bf, ls, rfl, hN, (by rw [hx]; rfl), ?_⟩
    refine ⟨_, rfl, h, dx, _, rfl, hh, (by unfold nf; walk_at "lk"), _, rfl, h, dx, _, rfl, hh, (by unfold nf; walk_at "lk"), _, rfl, h, dn, db, dl, n, p, x, b, nx, bf, ls, rfl, hN, hx, hb, fun H1 r sm nr hA => ?_⟩
    obtain ⟨d2, hA2⟩ := id hA
    refine ⟨r, d2, _, rfl, hA2, (by unfold hf; walk_at "lk"), r, n, p, x, b, rfl, hA, fun l nl => ?_⟩
    refine ⟨h, dn, db, dl, n, nx, bf, ls, .ref l, rfl, (hN.same sm).same (same_upd nl), by omega, q _ l (Same.trans sm (same_upd nl)) ?_ upd_same⟩
    cases e : H l with
    | none => rfl
    | some o => rw [sm _ _ e] at nl; cases nl
def sp_Net__lose (C : Addr) : Sp := fun vs H Q _ => ∃ (h dn db dl : Addr) (n : Int) (k : Nat) (v : V) (nx bf : List (Key × V)) (ls : List V), vs = [.ref h, .int k] ∧ NetAt C H h n dn db dl nx bf ls ∧ ls[k]? = some v ∧ ls.length ≤ 1000 ∧ Q v (upd H dl (.lst (ls.eraseIdx k)))
theorem T0.ok_Net__lose (T : T0 K mg) : FnOk P w K mg base CX0 2 T.a_Net__lose T.fd_Net__lose ["self", "at"] (sp_Net__lose T.C_Net) := by
  refine T.F_Net__lose.ok sc_Net__lose (fun vs H Q E h => ?_) (fun cdv A outer s H vs Q E hr h => ?_)
  · obtain ⟨h, dn, db, dl, n, k, v, nx, bf, ls, rfl, _⟩ := h
    rfl
  · obtain ⟨h, dn, db, dl, n, k, v, nx, bf, ls, rfl, hN, hv, hz, q⟩ := h
    obtain ⟨dx, hh⟩ := hN.me
    have hk := (List.getElem?_eq_some_iff.mp hv).1
    refine ⟨_, (pss_cons (ps_expr (pe_meth (pv 0) T.cl_Net T.me_Net__check_letter T.ok_Net__check_letter hr T.b_Net__check_letter .nil pass0 (pa_cons (pv 1) pa_nil)))
        (pss_one (ps_ret (pe_bm PySem.F.plainAttrs_list PySem.F.slot_list_pop PySem.F.type_list_pop mt_popAt (show PE _ _ (tFld K _ _) from pe_fld (pv 0) rfl) (pa_cons (pv 1) pa_nil))))), ?_⟩
    refine ⟨_, rfl, h, dx, _, rfl, hh, (by unfold nf; walk_at "lk"), _, rfl, h, dn, db, dl, n, k, nx, bf, ls, rfl, hN, by omega, by omega, ?_⟩
    refine ⟨_, rfl, h, _, dx, _, _, rfl, hh, T.cl_Net, T.na_Net__letters, nf_letters, .inl ⟨rfl, _, SqL.of hN.hl⟩, _, rfl, dl, ls, k, k, v, rfl, rfl, hN.hl, by omega, by omega, seq_nat hk, hv, q⟩
def sp_Net__repeat (C : Addr) : Sp := fun vs H Q _ => ∃ (h dn db dl : Addr) (n : Int) (k : Nat) (v : V) (nx bf : List (Key × V)) (ls : List V), vs = [.ref h, .int k] ∧ NetAt C H h n dn db dl nx bf ls ∧ ls[k]? = some v ∧ ls.length ≤ 1000 ∧ Q v (upd H dl (.lst (ls ++ [v])))
theorem T0.ok_Net__repeat (T : T0 K mg) : FnOk P w K mg base CX0 2 T.a_Net__repeat T.fd_Net__repeat ["self", "at"] (sp_Net__repeat T.C_Net) := by
  refine T.F_Net__repeat.ok sc_Net__repeat (fun vs H Q E h => ?_) (fun cdv A outer s H vs Q E hr h => ?_)
  · obtain ⟨h, dn, db, dl, n, k, v, nx, bf, ls, rfl, _⟩ := h
    rfl
  · obtain ⟨h, dn, db, dl, n, k, v, nx, bf, ls, rfl, hN, hv, hz, q⟩ := h
    obtain ⟨dx, hh⟩ := hN.me
    have hk := (List.getElem?_eq_some_iff.mp hv).1
    refine ⟨_, (pss_cons (ps_expr (pe_meth (pv 0) T.cl_Net T.me_Net__check_letter T.ok_Net__check_letter hr T.b_Net__check_letter .nil pass0 (pa_cons (pv 1) pa_nil)))
        (pss_one (ps_ret (pe_meth (pv 0) T.cl_Net T.me_Net__send T.ok_Net__send hr T.b_Net__send .nil pass0 (pa_cons (pe_ix (ix_listK (K := K)) (show PE _ _ (tFld K _ _) from pe_fld (pv 0) rfl) (pv 1) (fun _ _ => rfl)) pa_nil))))), ?_⟩
    refine ⟨_, rfl, h, dx, _, rfl, hh, (by unfold nf; walk_at "lk"), _, rfl, h, dn, db, dl, n, k, nx, bf, ls, rfl, hN, by omega, by omega, ?_⟩
    refine ⟨_, rfl, h, dx, _, rfl, hh, (by unfold nf; walk_at "lk"), _, rfl, h, _, dx, _, _, rfl, hh, T.cl_Net, T.na_Net__letters, nf_letters, _, rfl, dl, ls, k, v, rfl, rfl, SqL.of hN.hl, atI_nat hv, ?_⟩
    exact ⟨h, dn, db, dl, n, nx, bf, ls, v, rfl, hN, by omega, q⟩
def sp_Net__nexts (C : Addr) : Sp := fun vs H Q _ => ∃ (h dn db dl : Addr) (n : Int) (nx bf : List (Key × V)) (ls : List V) (ks : List Int) (f : Int → V), vs = [.ref h] ∧ NetAt C H h n dn db dl nx bf ls ∧ nx.map (·.1) = ks.map Sum.inl ∧ ks.length < 64 ∧ ks.Nodup ∧ (∀ k ∈ ks, valV nx (.inl k) = some (f k)) ∧
  ∀ (ys : List Int) (p : Addr) (H' : Hp), ys.Perm ks → ys.Pairwise (· ≤ ·) → Same H H' → H p = none → H' p = some (.dK (ys.map fun y => (.inl y, f y))) → Q (.ref p) H'
theorem T0.ok_Net__nexts (T : T0 K mg) : FnOk P w K mg base CX0 2 T.a_Net__nexts T.fd_Net__nexts ["self"] (sp_Net__nexts T.C_Net) := by
  refine T.F_Net__nexts.ok sc_Net__nexts (fun vs H Q E h => ?_) (fun cdv A outer s H vs Q E hr h => ?_)
  · obtain ⟨h, dn, db, dl, n, nx, bf, ls, ks, f, rfl, _⟩ := h
    rfl
  · obtain ⟨h, dn, db, dl, n, nx, bf, ls, ks, f, rfl, hN, hk, h64, hnd, hf, q⟩ := h
    obtain ⟨dx, hh⟩ := hN.me
    refine ⟨_, (pss_one (ps_ret (pe_dc (own := [("house", 1)]) (g := gName 1) (by rfl) sc_Net__nexts.nd (pi_list (pe_meth0 (pv 0) T.cl_Net T.me_Net__houses T.ok_Net__houses hr T.b_Net__houses .nil pass0)) (blkOk_by (own := [("house", 1)]) (N := ["self", "house"]) (sc := defScope s_Net__nexts) (by decide +kernel)) (fun _ _ _ _ _ => pg_name (i := 1) sc_Net__nexts.nd rfl (Or.inl rfl)) (fun _ _ _ _ _ => pts_nil) (fun _ _ _ _ _ => (pv 1)) (fun _ _ _ _ _ => (pe_dget (un1 hr) (show PE _ _ (tFld K _ _) from pe_fld (pv 0) rfl) (pv 1) (fun _ _ => rfl)))))), ?_⟩
    refine ⟨_, rfl, h, dx, _, rfl, hh, (by unfold nf; walk_at "lk"), h, dn, db, dl, n, nx, bf, ls, ks, rfl, hN, hk, h64, fun ys l perm pw nl => ?_⟩
    have hl : upd H l (.lst (ys.map V.int)) l = some (.lst (ys.map V.int)) := upd_same
    have sm := same_upd (o := .lst (ys.map V.int)) nl
    generalize upd H l (.lst (ys.map V.int)) = H1 at hl sm
    have ynd : ys.Nodup := perm.nodup_iff.mpr hnd
    have ylen := perm.length_eq
    refine ⟨l, rfl, ⟨_, SqL.of hl⟩, fun D hD => ?_⟩
    refine dc_list (K := K) (a := l) (xs := ys.map V.int) (fun i H' => Same H1 H' ∧ H' D = some (.dK ((ys.take i).map fun y => (.inl y, f y)))) ⟨same_upd hD, upd_same⟩ (fun i H' _ p => SqL.of (p.1 _ _ hl)) (fun i x H' hx pv => ?_) (fun H2 pv => ?_)
    · obtain ⟨s2, e2⟩ := pv
      rw [List.getElem?_map] at hx
      obtain ⟨y, hy, rfl⟩ := Option.map_eq_some_iff.mp hx
      have hN2 := (hN.same sm).same s2
      obtain ⟨dx, hh⟩ := hN2.me
      refine ⟨rfl, lc_yes ?_⟩
      refine ⟨_, rfl, _, rfl, h, _, dx, _, _, rfl, hh, T.cl_Net, T.na_Net__nexts, nf_nexts, _, rfl, dn, _, rfl, dget_of (k := Sum.inl y) hN2.hn (hf y (perm.mem_iff.mp (List.mem_of_getElem? hy))), _, Sum.inl y, rfl, e2, small1000' (by rw [List.length_map, List.length_take]; omega), fun b o e => ?_, ?_⟩
      · rw [upd_ne (ne_of_none e hD)]
        exact s2 b o e
      · rw [upd_same, putK_new _ (valV_none_of (not_in_take ynd hy)), List.take_add_one, hy, List.map_append]
        rfl
    · obtain ⟨s2, e2⟩ := pv
      rw [List.length_map, List.take_length] at e2
      exact q ys D H2 perm pw (Same.trans sm s2) (none_back sm hD) e2
def sp_Net__befores (C : Addr) : Sp := fun vs H Q _ => ∃ (h dn db dl : Addr) (n : Int) (nx bf : List (Key × V)) (ls : List V) (ks : List Int) (f : Int → V), vs = [.ref h] ∧ NetAt C H h n dn db dl nx bf ls ∧ nx.map (·.1) = ks.map Sum.inl ∧ ks.length < 64 ∧ ks.Nodup ∧ (∀ k ∈ ks, valV bf (.inl k) = some (f k)) ∧
  ∀ (ys : List Int) (p : Addr) (H' : Hp), ys.Perm ks → ys.Pairwise (· ≤ ·) → Same H H' → H p = none → H' p = some (.dK ((ys.filter fun y => decide (f y ≠ .non)).map fun y => (.inl y, f y))) → Q (.ref p) H'
theorem filter_step {f : Int → V} {ys : List Int} {i : Nat} {y : Int} (h : ys[i]? = some y) : (ys.take (i + 1)).filter (fun y => decide (f y ≠ .non)) = if f y = .non then (ys.take i).filter (fun y => decide (f y ≠ .non)) else (ys.take i).filter (fun y => decide (f y ≠ .non)) ++ [y] := by
  rw [List.take_add_one, h, List.filter_append]
  show _ ++ List.filter _ [y] = _
  by_cases e : f y = .non
  · rw [if_pos e]
    simp only [List.filter_cons, List.filter_nil, e, ne_eq, not_true_eq_false, decide_false, Bool.false_eq_true, if_false, List.append_nil]
  · rw [if_neg e]
    simp only [List.filter_cons, List.filter_nil, e, ne_eq, not_false_eq_true, decide_true, if_true]
theorem T0.ok_Net__befores (T : T0 K mg) : FnOk P w K mg base CX0 2 T.a_Net__befores T.fd_Net__befores ["self"] (sp_Net__befores T.C_Net) := by
  refine T.F_Net__befores.ok sc_Net__befores (fun vs H Q E h => ?_) (fun cdv A outer s H vs Q E hr h => ?_)
  · obtain ⟨h, dn, db, dl, n, nx, bf, ls, ks, f, rfl, _⟩ := h
    rfl
  · obtain ⟨h, dn, db, dl, n, nx, bf, ls, ks, f, rfl, hN, hk, h64, hnd, hf, q⟩ := h
    obtain ⟨dx, hh⟩ := hN.me
    refine ⟨_, (pss_cons (ps_set (i := 1) sc_Net__befores.nd rfl (Or.inr rfl) (show PE _ _ (tFld K _ _) from pe_fld (pv 0) rfl))
        (pss_one (ps_ret (pe_dc (own := [("house", 2)]) (g := gName 2) (by rfl) sc_Net__befores.nd (pi_list (pe_meth0 (pv 0) T.cl_Net T.me_Net__houses T.ok_Net__houses hr T.b_Net__houses .nil pass0)) (blkOk_by (own := [("house", 2)]) (N := ["self", "befores", "house"]) (sc := defScope s_Net__befores) (by decide +kernel)) (fun _ _ _ _ _ => pg_name (i := 2) sc_Net__befores.nd rfl (Or.inl rfl)) (fun _ _ _ _ _ => pts_one (pt_cmpR op_notN (pe_dget (un1 hr) (pv 1) (pv 2) (fun _ _ => rfl)) pe_non (nomark _))) (fun _ _ _ _ _ => (pv 2)) (fun _ _ _ _ _ => (pe_dget (un1 hr) (pv 1) (pv 2) (fun _ _ => rfl))))))), ?_⟩
    refine ⟨_, rfl, h, _, dx, _, _, rfl, hh, T.cl_Net, T.na_Net__befores, nf_befores, ?_⟩
    refine ⟨_, rfl, h, dx, _, rfl, hh, (by unfold nf; walk_at "lk"), h, dn, db, dl, n, nx, bf, ls, ks, rfl, hN, hk, h64, fun ys l perm pw nl => ?_⟩
    have hl : upd H l (.lst (ys.map V.int)) l = some (.lst (ys.map V.int)) := upd_same
    have sm := same_upd (o := .lst (ys.map V.int)) nl
    generalize upd H l (.lst (ys.map V.int)) = H1 at hl sm
    have ynd : ys.Nodup := perm.nodup_iff.mpr hnd
    have ylen := perm.length_eq
    refine ⟨l, rfl, ⟨_, SqL.of hl⟩, fun D hD => ?_⟩
    refine dc_list (K := K) (a := l) (xs := ys.map V.int) (fun i H' => Same H1 H' ∧ H' D = some (.dK (((ys.take i).filter fun y => decide (f y ≠ .non)).map fun y => (.inl y, f y)))) ⟨same_upd hD, upd_same⟩ (fun i H' _ p => SqL.of (p.1 _ _ hl)) (fun i x H' hx pv => ?_) (fun H2 pv => ?_)
    · obtain ⟨s2, e2⟩ := pv
      rw [List.getElem?_map] at hx
      obtain ⟨y, hy, rfl⟩ := Option.map_eq_some_iff.mp hx
      have hN2 := (hN.same sm).same s2
      have g := dget_of (k := Sum.inl y) hN2.hb (hf y (perm.mem_iff.mp (List.mem_of_getElem? hy)))
      have fs := filter_step (f := f) hy
      refine ⟨rfl, _, rfl, _, rfl, db, _, rfl, g, ?_⟩
      refine ⟨rfl, _, rfl, ?_⟩
      by_cases e : f y = .non
      · rw [if_pos e] at fs
        refine iteF' (by rw [decide_eq_true e]; rfl) ?_
        rw [fs]
        exact ⟨s2, e2⟩
      · rw [if_neg e] at fs
        refine iteT' (by rw [decide_eq_false e]; rfl) ?_
        have nin : y ∉ (ys.take i).filter fun y => decide (f y ≠ .non) := fun m => not_in_take ynd hy (List.mem_filter.mp m).1
        refine ⟨_, rfl, _, rfl, _, rfl, db, _, rfl, g, _, Sum.inl y, rfl, e2, small1000' ?_, fun b o e => ?_, ?_⟩
        · rw [List.length_map]
          refine Nat.le_trans (List.length_filter_le _ _) ?_
          rw [List.length_take]
          omega
        · rw [upd_ne (ne_of_none e hD)]
          exact s2 b o e
        · rw [upd_same, putK_new _ (valV_none_of nin), fs, List.map_append]
          rfl
    · obtain ⟨s2, e2⟩ := pv
      rw [List.length_map, List.take_length] at e2
      exact q ys D H2 perm pw (Same.trans sm s2) (none_back sm hD) e2
theorem NetAt.setl {C a dn db dl : Addr} {H : Hp} {n : Int} {nx bf : List (Key × V)} {ls ls' : List V} (N : NetAt C H a n dn db dl nx bf ls) : NetAt C (upd H dl (.lst ls')) a n dn db dl nx bf ls' where
  me := let ⟨dx, e⟩ := N.me; ⟨dx, (upd_ne (fun z => by rw [z, N.hl] at e; cases e)).trans e⟩
  hn := (upd_ne (fun z => by have e := N.hn; rw [z, N.hl] at e; cases e)).trans N.hn
  hb := (upd_ne (fun z => by have e := N.hb; rw [z, N.hl] at e; cases e)).trans N.hb
  hl := upd_same
theorem NetAt.setb {C a dn db dl : Addr} {H : Hp} {n : Int} {nx bf bf' : List (Key × V)} {ls : List V} (N : NetAt C H a n dn db dl nx bf ls) (ne : db ≠ dn) : NetAt C (upd H db (.dK bf')) a n dn db dl nx bf' ls where
  me := let ⟨dx, e⟩ := N.me; ⟨dx, (upd_ne (fun z => by rw [z, N.hb] at e; cases e)).trans e⟩
  hn := (upd_ne (Ne.symm ne)).trans N.hn
  hb := upd_same
  hl := (upd_ne (fun z => by have e := N.hl; rw [z, N.hb] at e; cases e)).trans N.hl
theorem NetAt.setn {C a dn db dl : Addr} {H : Hp} {n : Int} {nx nx' bf : List (Key × V)} {ls : List V} (N : NetAt C H a n dn db dl nx bf ls) (ne : db ≠ dn) : NetAt C (upd H dn (.dK nx')) a n dn db dl nx' bf ls where
  me := let ⟨dx, e⟩ := N.me; ⟨dx, (upd_ne (fun z => by rw [z, N.hn] at e; cases e)).trans e⟩
  hn := upd_same
  hb := (upd_ne ne).trans N.hb
  hl := (upd_ne (fun z => by have e := N.hl; rw [z, N.hn] at e; cases e)).trans N.hl
theorem scal_ok {x y : V} (h : okB x) (g : okB y) : scal x y = true := by
  rcases h with rfl | ⟨i, rfl⟩ <;> rcases g with rfl | ⟨j, rfl⟩ <;> rfl
theorem okB_hB {n p : Int} {b : V} {L : Let} (h : okB b) : okB (hB n p b L) := by
  cases L with
  | tell r u =>
    show okB (hTell n p u b)
    unfold hTell
    split <;> first | exact .inr ⟨_, rfl⟩ | assumption | (split <;> first | exact .inr ⟨_, rfl⟩ | assumption)
  | ask r u => exact h
  | answer r u m => exact h
def Let.to : Let → Int
  | .tell r _ => r
  | .ask r _ => r
  | .answer r _ _ => r
theorem Let.at1 (L : Let) : atI L.vals (1 : Int) = some (.int L.to) := by cases L <;> rfl
/-- what reading leaves: the two dicts, the letters, what is returned -/
structure RdPost (C h dn db dl : Addr) (n r x : Int) (b : V) (L : Let) (nx bf : List (Key × V)) (ls : List V) (H H' : Hp) (v : V) : Prop where
  keep : ∀ a o, a ≠ dn → a ≠ db → a ≠ dl → H a = some o → H' a = some o
  net : NetAt C H' h n dn db dl (if hA r b L = none ∧ hB n r b L = b ∧ hN n r x L ≠ x then putK nx (.inl r) (.int (hN n r x L)) else nx) (if hA r b L = none ∧ hB n r b L ≠ b then putK bf (.inl r) (hB n r b L) else bf) ls
  told : ∃ a, v = .ref a ∧ H' a = some (.tup (if hA r b L ≠ none then [.str "wrote", .int r, hB n r b L] else if hB n r b L ≠ b then [.str "before", .int r, hB n r b L] else if hN n r x L ≠ x then [.str "next", .int r, .int (hN n r x L)] else [.str "kept", .int r, .non]))
def sp_Net__read (K : PySem.W.Frag) (C : Addr) : Sp := fun vs H Q _ => ∃ (h dn db dl lt : Addr) (n x : Int) (b : V) (k : Nat) (L : Let) (nx bf : List (Key × V)) (ls : List V), vs = [.ref h, .int k] ∧ NetAt C H h n dn db dl nx bf ls ∧ ls[k]? = some (.ref lt) ∧ H lt = some (.tup L.vals) ∧ valV nx (.inl L.to) = some (.int x) ∧ valV bf (.inl L.to) = some b ∧ okB b ∧ 0 < n ∧ db ≠ dn ∧ nx.length ≤ 1000 ∧ bf.length ≤ 1000 ∧ ls.length ≤ 1000 ∧
  ∀ H' v ls', (match hA L.to b L with | none => ls' = ls.eraseIdx k | some ys => ∃ a, ls' = ls.eraseIdx k ++ [.ref a] ∧ H' a = some (.tup ys)) → RdPost C h dn db dl n L.to x b L nx bf ls' H H' v → Q v H'
theorem T0.ok_Net__read (T : T0 K mg) : FnOk P w K mg base CX0 5 T.a_Net__read T.fd_Net__read ["self", "at"] (sp_Net__read K T.C_Net) := by
  refine T.F_Net__read.ok sc_Net__read (fun vs H Q E h => ?_) (fun cdv A outer s H vs Q E hr h => ?_)
  · obtain ⟨h, dn, db, dl, lt, n, x, b, k, L, nx, bf, ls, rfl, _⟩ := h
    rfl
  · obtain ⟨h, dn, db, dl, lt, n, x, b, k, L, nx, bf, ls, rfl, hN, hv, hlt, hx, hb, ob, hn, ne, z1, z2, z3, q⟩ := h
    obtain ⟨dx, hh⟩ := hN.me
    have hk := (List.getElem?_eq_some_iff.mp hv).1
    refine ⟨_, (pss_cons (ps_expr (pe_meth (pv 0) T.cl_Net T.me_Net__check_letter T.ok_Net__check_letter (hr.mono (by decide)) T.b_Net__check_letter .nil pass0 (pa_cons (pv 1) pa_nil)))
        (pss_cons (ps_set (i := 2) sc_Net__read.nd rfl (Or.inl rfl) (pe_bm PySem.F.plainAttrs_list PySem.F.slot_list_pop PySem.F.type_list_pop mt_popAt (show PE _ _ (tFld K _ _) from pe_fld (pv 0) rfl) (pa_cons (pv 1) pa_nil)))
        (pss_cons (ps_set (i := 3) sc_Net__read.nd rfl (Or.inl rfl) (pe_ix (ix_tupK (K := K)) (pv 2) pe_int (fun _ _ => rfl)))
        (pss_cons (ps_set (i := 4) sc_Net__read.nd rfl (Or.inl rfl) (pe_meth (pv 0) T.cl_Net T.me_Net__house_at T.ok_Net__house_at (hr.mono (by decide)) T.b_Net__house_at .nil pass0 (pa_cons (pv 3) pa_nil)))
        (pss_cons (ps_set (i := 5) sc_Net__read.nd rfl (Or.inl rfl) (pe_meth (pv 4) T.cl_House T.me_House__hear T.ok_House__hear hr T.b_House__hear .nil pass0 (pa_cons (pv 2) pa_nil)))
        (pss_cons (ps_if (pt_cmpR op_notN (pv 5) pe_non (nomark _)) (pss_cons (ps_expr (pe_meth (pv 0) T.cl_Net T.me_Net__send T.ok_Net__send (hr.mono (by decide)) T.b_Net__send .nil pass0 (pa_cons (pv 5) pa_nil)))
        (pss_one (ps_ret (pe_tup (pa_cons pe_str (pa_cons (pv 3) (pa_cons (show PE _ _ (tFld K _ _) from pe_fld (pv 4) rfl) pa_nil))))))) pss_nil)
        (pss_cons (ps_if (pt_cmpR op_ne (show PE _ _ (tFld K _ _) from pe_fld (pv 4) rfl) (pe_dget (un1 hr) (show PE _ _ (tFld K _ _) from pe_fld (pv 0) rfl) (pv 3) (fun _ _ => rfl)) (nomark _)) (pss_cons (ps_asg (show PE _ _ (tFld K _ _) from pe_fld (pv 4) rfl) (pg_sub (show PE _ _ (tFld K _ _) from pe_fld (pv 0) rfl) (pv 3) (set_dict (un1 hr))))
        (pss_one (ps_ret (pe_tup (pa_cons pe_str (pa_cons (pv 3) (pa_cons (show PE _ _ (tFld K _ _) from pe_fld (pv 4) rfl) pa_nil))))))) pss_nil)
        (pss_cons (ps_if (pt_cmpR op_ne (show PE _ _ (tFld K _ _) from pe_fld (pv 4) rfl) (pe_dget (un1 hr) (show PE _ _ (tFld K _ _) from pe_fld (pv 0) rfl) (pv 3) (fun _ _ => rfl)) (nomark _)) (pss_cons (ps_asg (show PE _ _ (tFld K _ _) from pe_fld (pv 4) rfl) (pg_sub (show PE _ _ (tFld K _ _) from pe_fld (pv 0) rfl) (pv 3) (set_dict (un1 hr))))
        (pss_one (ps_ret (pe_tup (pa_cons pe_str (pa_cons (pv 3) (pa_cons (show PE _ _ (tFld K _ _) from pe_fld (pv 4) rfl) pa_nil))))))) pss_nil)
        (pss_one (ps_ret (pe_tup (pa_cons pe_str (pa_cons (pv 3) (pa_cons pe_non pa_nil)))))))))))))), ?_⟩
    refine ⟨_, rfl, h, dx, _, rfl, hh, (by unfold nf; walk_at "lk"), _, rfl, h, dn, db, dl, n, k, nx, bf, ls, rfl, hN, by omega, by omega, ?_⟩
    refine ⟨_, rfl, h, _, dx, _, _, rfl, hh, T.cl_Net, T.na_Net__letters, nf_letters, .inl ⟨rfl, _, SqL.of hN.hl⟩, _, rfl, dl, ls, k, k, .ref lt, rfl, rfl, hN.hl, by omega, by omega, seq_nat hk, hv, ?_⟩
    have off : ∀ {a : Addr} {o : HO}, H a = some o → (∀ xs, o ≠ .lst xs) → a ≠ dl := fun e no z => by rw [z, hN.hl] at e; exact no _ (Option.some.inj e).symm
    have k1 : ∀ a o, a ≠ dl → H a = some o → upd H dl (.lst (ls.eraseIdx k)) a = some o := fun a o na e => (upd_ne na).trans e
    have N1 : NetAt T.C_Net (upd H dl (.lst (ls.eraseIdx k))) h n dn db dl nx bf (ls.eraseIdx k) := ⟨⟨dx, k1 _ _ (off hh fun _ z => nomatch z) hh⟩, k1 _ _ (off hN.hn fun _ z => nomatch z) hN.hn, k1 _ _ (off hN.hb fun _ z => nomatch z) hN.hb, upd_same⟩
    have lt1 := k1 _ _ (off hlt fun _ z => nomatch z) hlt
    generalize upd H dl (.lst (ls.eraseIdx k)) = H1 at k1 N1 lt1
    obtain ⟨dx, hh1⟩ := N1.me
    refine ⟨_, rfl, lt, _, 1, _, rfl, rfl, SqT.of lt1, L.at1, ?_⟩
    refine ⟨_, rfl, h, dx, _, rfl, hh1, (by unfold nf; walk_at "lk"), _, rfl, h, dn, db, dl, n, L.to, x, b, nx, bf, _, rfl, N1, hx, hb, fun H2 r2 sm nr hA1 => ?_⟩
    obtain ⟨d2, hA2⟩ := id hA1
    refine ⟨_, rfl, r2, d2, _, rfl, hA2, (by unfold hf; walk_at "lk"), _, rfl, r2, lt, n, L.to, x, b, L, rfl, hA1, ob, hn, SqT.of (sm _ _ lt1), fun v H3 hA3 k3 post => ?_⟩
    have k2 : ∀ a o, a ≠ dl → H a = some o → H3 a = some o := fun a o na e => k3 _ _ (ne_of_none (k1 _ _ na e) nr) (sm _ _ (k1 _ _ na e))
    have kp3 : Same H1 H3 := fun a o e => k3 _ _ (ne_of_none e nr) (sm _ _ e)
    have N3 := N1.same kp3
    obtain ⟨dx, hh3⟩ := N3.me
    have nd : r2 ≠ dl := fun z => by rw [z, N1.hl] at nr; cases nr
    have ndb : r2 ≠ db := fun z => by rw [z, N1.hb] at nr; cases nr
    have ndn : r2 ≠ dn := fun z => by rw [z, N1.hn] at nr; cases nr
    have le : (ls.eraseIdx k).length ≤ 1000 := Nat.le_trans (List.length_eraseIdx_le _ _) z3
    obtain ⟨d3, hA3'⟩ := id hA3
    cases eA : hA L.to b L with
    | some ys =>
      rw [eA] at post
      obtain ⟨a, rfl, hy⟩ := post
      refine ⟨_, rfl, rfl, _, rfl, ?_⟩
      refine iteT' (by rw [decide_eq_false (fun z => nomatch z)]; rfl) ?_
      refine ⟨_, rfl, h, dx, _, rfl, hh3, (by unfold nf; walk_at "lk"), _, rfl, h, dn, db, dl, n, nx, bf, _, .ref a, rfl, N3, by omega, ?_⟩
      refine ⟨_, rfl, _, rfl, r2, _, d3, _, _, rfl, (upd_ne nd).trans hA3', T.cl_House, T.na_House_before, hf_before, lenL (by show 3 ≤ 100000; decide), fun p np => ?_⟩
      have ap : a ≠ dl := fun z => by rw [z, N3.hl] at hy; cases hy
      have hy4 : upd H3 dl (.lst (ls.eraseIdx k ++ [.ref a])) a = some (.tup ys) := (upd_ne ap).trans hy
      refine q _ _ (ls.eraseIdx k ++ [.ref a]) ?_ ⟨fun c o n1 n2 n3 e => ?_, ?_, p, rfl, ?_⟩
      · rw [eA]
        exact ⟨a, rfl, (upd_ne (ne_of_none hy4 np)).trans hy4⟩
      · have e4 : upd H3 dl (.lst (ls.eraseIdx k ++ [.ref a])) c = some o := (upd_ne n3).trans (k2 c o n3 e)
        exact (upd_ne (ne_of_none e4 np)).trans e4
      · rw [eA]
        rw [if_neg (fun z => nomatch z.1), if_neg (fun z => nomatch z.1)]
        exact (N3.setl).same (same_upd np)
      · rw [eA, upd_same, if_pos (fun z => nomatch z)]
    | none =>
      rw [eA] at post
      subst post
      refine ⟨_, rfl, rfl, _, rfl, ?_⟩
      refine iteF' (by rfl) ?_
      have okb := okB_hB (n := n) (p := L.to) (L := L) ob
      refine ⟨_, rfl, r2, _, d3, _, _, rfl, hA3', T.cl_House, T.na_House_before, hf_before, _, rfl, h, _, dx, _, _, rfl, hh3, T.cl_Net, T.na_Net__befores, nf_befores, _, rfl, db, b, rfl, dget_of N3.hb hb, scal_ok okb ob, _, rfl, ?_⟩
      by_cases eb : hB n L.to b L = b
      · refine iteF' (by rw [decide_eq_true eb]; rfl) ?_
        refine ⟨_, rfl, r2, _, d3, _, _, rfl, hA3', T.cl_House, T.na_House_next_house, hf_next, _, rfl, h, _, dx, _, _, rfl, hh3, T.cl_Net, T.na_Net__nexts, nf_nexts, _, rfl, dn, _, rfl, dget_of N3.hn hx, rfl, _, rfl, ?_⟩
        by_cases ex : Z.hN n L.to x L = x
        · refine iteF' (by rw [decide_eq_true (congrArg V.int ex)]; rfl) ?_
          refine ⟨_, rfl, lenL (by show 3 ≤ 100000; decide), fun p np => q _ _ (ls.eraseIdx k) (by rw [eA]) ⟨fun c o n1 n2 n3 e => ?_, ?_, p, rfl, ?_⟩⟩
          · exact (upd_ne (ne_of_none (k2 c o n3 e) np)).trans (k2 c o n3 e)
          · rw [if_neg (fun z => z.2.2 ex), if_neg (fun z => z.2 eb)]
            exact N3.same (same_upd np)
          · rw [upd_same, if_neg (fun z => z eA), if_neg (fun z => z eb), if_neg (fun z => z ex)]
        · refine iteT' (by rw [decide_eq_false (fun z => ex (V.int.inj z))]; rfl) ?_
          refine ⟨_, rfl, r2, _, d3, _, _, rfl, hA3', T.cl_House, T.na_House_next_house, hf_next, ?_⟩
          refine ⟨_, rfl, h, _, dx, _, _, rfl, hh3, T.cl_Net, T.na_Net__nexts, nf_nexts, _, rfl, dn, _, rfl, DPut.k (k := Sum.inl L.to) N3.hn (small1000' (by omega)), ?_⟩
          refine ⟨_, rfl, _, rfl, r2, _, d3, _, _, rfl, (upd_ne ndn).trans hA3', T.cl_House, T.na_House_next_house, hf_next, lenL (by show 3 ≤ 100000; decide), fun p np => q _ _ (ls.eraseIdx k) (by rw [eA]) ⟨fun c o n1 n2 n3 e => ?_, ?_, p, rfl, ?_⟩⟩
          · have e4 := (upd_ne (o := .dK (putK nx (Sum.inl L.to) (.int (Z.hN n L.to x L)))) n1).trans (k2 c o n3 e)
            exact (upd_ne (ne_of_none e4 np)).trans e4
          · rw [if_pos ⟨eA, eb, ex⟩, if_neg (fun z => z.2 eb)]
            exact (N3.setn ne).same (same_upd np)
          · rw [upd_same, if_neg (fun z => z eA), if_neg (fun z => z eb), if_pos ex]
      · refine iteT' (by rw [decide_eq_false eb]; rfl) ?_
        refine ⟨_, rfl, r2, _, d3, _, _, rfl, hA3', T.cl_House, T.na_House_before, hf_before, ?_⟩
        refine ⟨_, rfl, h, _, dx, _, _, rfl, hh3, T.cl_Net, T.na_Net__befores, nf_befores, _, rfl, db, _, rfl, DPut.k (k := Sum.inl L.to) N3.hb (small1000' (by omega)), ?_⟩
        refine ⟨_, rfl, _, rfl, r2, _, d3, _, _, rfl, (upd_ne ndb).trans hA3', T.cl_House, T.na_House_before, hf_before, lenL (by show 3 ≤ 100000; decide), fun p np => q _ _ (ls.eraseIdx k) (by rw [eA]) ⟨fun c o n1 n2 n3 e => ?_, ?_, p, rfl, ?_⟩⟩
        · have e4 := (upd_ne (o := .dK (putK bf (Sum.inl L.to) (hB n L.to b L))) n2).trans (k2 c o n3 e)
          exact (upd_ne (ne_of_none e4 np)).trans e4
        · rw [if_neg (fun z => eb z.2.1), if_pos ⟨eA, eb⟩]
          exact (N3.setb ne).same (same_upd np)
        · rw [upd_same, if_neg (fun z => z eA), if_pos eb]
def sp_Net__check_letters (K : PySem.W.Frag) (C : Addr) : Sp := fun vs H Q _ => ∃ (h dn db dl : Addr) (n : Int) (nx bf : List (Key × V)) (ls : List V), vs = [.ref h] ∧ NetAt C H h n dn db dl nx bf ls ∧ ls.length ≤ 1000 ∧ (∀ v ∈ ls, ∃ (a : Addr) (z : Str) (qs : List Int), v = .ref a ∧ H a = some (.tup (.str z :: qs.map V.int)) ∧ ∀ q ∈ qs, (valV nx (.inl q)).isSome = true) ∧ ∀ H', Same H H' → Q .non H'
theorem T0.ok_Net__check_letters (T : T0 K mg) : FnOk P w K mg base CX0 2 T.a_Net__check_letters T.fd_Net__check_letters ["self"] (sp_Net__check_letters K T.C_Net) := by
  refine T.F_Net__check_letters.ok sc_Net__check_letters (fun vs H Q E h => ?_) (fun cdv A outer s H vs Q E hr h => ?_)
  · obtain ⟨h, dn, db, dl, n, nx, bf, ls, rfl, _⟩ := h
    rfl
  · obtain ⟨h, dn, db, dl, n, nx, bf, ls, rfl, hN, hz, hl, q⟩ := h
    obtain ⟨dx, hh⟩ := hN.me
    refine ⟨_, (pss_one (ps_for PassesOwn.never rfl (pi_list (show PE _ _ (tFld K _ _) from pe_fld (pv 0) rfl)) (pg_name (i := 1) sc_Net__check_letters.nd rfl (Or.inl rfl)) (pss_one (ps_for PassesOwn.never rfl (pi_tup (pe_slice (sl_tupK (K := K)) (pv 1) (po_some pe_int) po_none)) (pg_name (i := 2) sc_Net__check_letters.nd rfl (Or.inl rfl)) (pss_one (ps_expr (pe_meth (pv 0) T.cl_Net T.me_Net__check_house T.ok_Net__check_house hr T.b_Net__check_house .nil pass0 (pa_cons (pv 2) pa_nil)))))))), ?_⟩
    refine ⟨_, rfl, h, _, dx, _, _, rfl, hh, T.cl_Net, T.na_Net__letters, nf_letters, dl, rfl, ⟨_, SqL.of hN.hl⟩, ?_⟩
    refine for_list (K := K) (a := dl) (xs := ls) (fun i σ' H' => ∃ o1 o2, σ' = [some (.ref h), o1, o2] ∧ Same H H') ⟨none, none, rfl, fun _ _ e => e⟩ (fun i σ' H' _ p => by obtain ⟨_, _, _, s⟩ := p; exact SqL.of (s _ _ hN.hl)) (fun i v σ' H1 hv p => ?_) (fun σ' H1 p => ?_)
    · obtain ⟨o1, o2, rfl, s1⟩ := p
      obtain ⟨a, z, qs, rfl, ha, hq⟩ := hl v (List.mem_of_getElem? hv)
      have i1 : HT.sIx (V.str z :: qs.map V.int).length 0 (some (1 : Int)) = 1 := by rw [show (1 : Int) = ((1 : Nat) : Int) from rfl, HT.sIx_nat, List.length_cons]; omega
      have cut : cutV (V.str z :: qs.map V.int) (some 1) none = qs.map V.int := by
        unfold cutV
        rw [i1, HT.sIx_none, List.take_of_length_le (by rw [List.length_drop]; exact Nat.le_refl _)]
        rfl
      refine ⟨_, rfl, 1, rfl, a, _, rfl, SqT.of (s1 _ _ ha), (fun y => by rw [i1] at y; exact absurd y.1 (by decide)), fun u nu => ?_⟩
      rw [cut]
      have hu : upd H1 u (.tup (qs.map V.int)) u = some (.tup (qs.map V.int)) := upd_same
      have s2 := Same.trans s1 (same_upd (o := .tup (qs.map V.int)) nu)
      generalize upd H1 u (.tup (qs.map V.int)) = H2 at hu s2
      refine ⟨u, rfl, ⟨_, SqT.of hu⟩, ?_⟩
      refine for_tup (K := K) (a := u) (xs := qs.map V.int) (fun j σ' H' => ∃ o2, σ' = [some (.ref h), some (.ref a), o2] ∧ Same H2 H') ⟨o2, rfl, fun _ _ e => e⟩ (fun j σ' H' _ p => by obtain ⟨_, _, s⟩ := p; exact SqT.of (s _ _ hu)) (fun j v σ' H3 hv p => ?_) (fun σ' H3 p => ?_)
      · obtain ⟨o2, rfl, s3⟩ := p
        rw [List.getElem?_map] at hv
        obtain ⟨y, hy, rfl⟩ := Option.map_eq_some_iff.mp hv
        have N3 := hN.same (Same.trans s2 s3)
        obtain ⟨dx, hh⟩ := N3.me
        exact ⟨_, rfl, h, dx, _, rfl, hh, (by unfold nf; walk_at "lk"), _, rfl, h, dn, db, dl, n, y, nx, bf, ls, rfl, N3, hq y (List.mem_of_getElem? hy), _, rfl, s3⟩
      · obtain ⟨o2, rfl, s3⟩ := p
        exact ⟨_, _, rfl, Same.trans s2 s3⟩
    · obtain ⟨o1, o2, rfl, s1⟩ := p
      exact q H1 s1
def sp_Net__check_places (C : Addr) : Sp := fun vs H Q _ => ∃ (h dn db dl : Addr) (n : Int) (nx bf : List (Key × V)) (ls : List V) (ks : List Int), vs = [.ref h] ∧ NetAt C H h n dn db dl nx bf ls ∧ nx.map (·.1) = ks.map Sum.inl ∧ ks.length < 64 ∧ (∀ k ∈ ks, 0 ≤ k ∧ k < n ∧ ∃ x, valV nx (.inl k) = some (.int x) ∧ (valV nx (.inl x)).isSome = true) ∧ ∀ H', Same H H' → Q .non H'
theorem T0.ok_Net__check_places (T : T0 K mg) : FnOk P w K mg base CX0 2 T.a_Net__check_places T.fd_Net__check_places ["self"] (sp_Net__check_places T.C_Net) := by
  refine T.F_Net__check_places.ok sc_Net__check_places (fun vs H Q E h => ?_) (fun cdv A outer s H vs Q E hr h => ?_)
  · obtain ⟨h, dn, db, dl, n, nx, bf, ls, ks, rfl, _⟩ := h
    rfl
  · obtain ⟨h, dn, db, dl, n, nx, bf, ls, ks, rfl, hN, hk, h64, hv, q⟩ := h
    obtain ⟨dx, hh⟩ := hN.me
    refine ⟨_, (pss_cons (ps_for PassesOwn.never rfl (pi_list (pe_meth0 (pv 0) T.cl_Net T.me_Net__houses T.ok_Net__houses hr T.b_Net__houses .nil pass0)) (pg_name (i := 1) sc_Net__check_places.nd rfl (Or.inl rfl)) (pss_one (ps_expr (pe_call T.ok_check_on_circle hr (by rfl) T.g_check_on_circle T.k_check_on_circle T.b_check_on_circle .nil pass0 (pa_cons (show PE _ _ (tFld K _ _) from pe_fld (pv 0) rfl) (pa_cons (pv 1) pa_nil))))))
        (pss_one (ps_for PassesOwn.never rfl (pi_list (pe_meth0 (pv 0) T.cl_Net T.me_Net__houses T.ok_Net__houses hr T.b_Net__houses .nil pass0)) (pg_name (i := 1) sc_Net__check_places.nd rfl (Or.inl rfl)) (pss_one (ps_expr (pe_meth (pv 0) T.cl_Net T.me_Net__check_house T.ok_Net__check_house hr T.b_Net__check_house .nil pass0 (pa_cons (pe_dget (un1 hr) (show PE _ _ (tFld K _ _) from pe_fld (pv 0) rfl) (pv 1) (fun _ _ => rfl)) pa_nil))))))), ?_⟩
    refine ⟨_, rfl, h, dx, _, rfl, hh, (by unfold nf; walk_at "lk"), h, dn, db, dl, n, nx, bf, ls, ks, rfl, hN, hk, h64, fun ys l perm pw nl => ?_⟩
    have hl : upd H l (.lst (ys.map V.int)) l = some (.lst (ys.map V.int)) := upd_same
    have sm := same_upd (o := .lst (ys.map V.int)) nl
    generalize upd H l (.lst (ys.map V.int)) = H1 at hl sm
    refine ⟨l, rfl, ⟨_, SqL.of hl⟩, ?_⟩
    refine for_list (K := K) (a := l) (xs := ys.map V.int) (fun i σ' H' => ∃ o1, σ' = [some (.ref h), o1] ∧ H1 = H') ⟨none, rfl, rfl⟩ (fun i σ' H' _ p => by obtain ⟨_, _, rfl⟩ := p; exact SqL.of hl) (fun i v σ' H' hv' p => ?_) (fun σ' H' p => ?_)
    · obtain ⟨o1, rfl, rfl⟩ := p
      rw [List.getElem?_map] at hv'
      obtain ⟨y, hy, rfl⟩ := Option.map_eq_some_iff.mp hv'
      have N1 := hN.same sm
      obtain ⟨dx, hh⟩ := N1.me
      obtain ⟨y0, y1, _⟩ := hv y (perm.mem_iff.mp (List.mem_of_getElem? hy))
      exact ⟨_, rfl, h, _, dx, _, _, rfl, hh, T.cl_Net, T.na_Net_size, nf_size, _, rfl, n, y, rfl, y0, y1, _, rfl, rfl⟩
    obtain ⟨o1, rfl, rfl⟩ := p
    have N1 := hN.same sm
    obtain ⟨dx, hh⟩ := N1.me
    refine ⟨_, rfl, h, dx, _, rfl, hh, (by unfold nf; walk_at "lk"), h, dn, db, dl, n, nx, bf, ls, ks, rfl, N1, hk, h64, fun ys l perm pw nl => ?_⟩
    have hl : upd H1 l (.lst (ys.map V.int)) l = some (.lst (ys.map V.int)) := upd_same
    have sm2 := Same.trans sm (same_upd (o := .lst (ys.map V.int)) nl)
    generalize upd H1 l (.lst (ys.map V.int)) = H2 at hl sm2
    refine ⟨l, rfl, ⟨_, SqL.of hl⟩, ?_⟩
    refine for_list (K := K) (a := l) (xs := ys.map V.int) (fun i σ' H' => ∃ o1, σ' = [some (.ref h), o1] ∧ H2 = H') ⟨_, rfl, rfl⟩ (fun i σ' H' _ p => by obtain ⟨_, _, rfl⟩ := p; exact SqL.of hl) (fun i v σ' H' hv' p => ?_) (fun σ' H' p => ?_)
    · obtain ⟨o1, rfl, rfl⟩ := p
      rw [List.getElem?_map] at hv'
      obtain ⟨y, hy, rfl⟩ := Option.map_eq_some_iff.mp hv'
      have N2 := hN.same sm2
      obtain ⟨dx, hh⟩ := N2.me
      obtain ⟨_, _, x, hx, hx2⟩ := hv y (perm.mem_iff.mp (List.mem_of_getElem? hy))
      refine ⟨_, rfl, h, dx, _, rfl, hh, (by unfold nf; walk_at "lk"), _, rfl, h, _, dx, _, _, rfl, hh, T.cl_Net, T.na_Net__nexts, nf_nexts, _, rfl, dn, _, rfl, dget_of (k := Sum.inl y) N2.hn hx, h, dn, db, dl, n, x, nx, bf, ls, rfl, N2, hx2, _, rfl, rfl⟩
    · obtain ⟨o1, rfl, rfl⟩ := p
      exact q _ sm2
def sp_Net__take_befores (C : Addr) : Sp := fun vs H Q _ => ∃ (h dn db dl d : Addr) (n : Int) (nx bf bs : List (Key × V)) (ls : List V) (js : List Int), vs = [.ref h, .ref d] ∧ NetAt C H h n dn db dl nx bf ls ∧ H d = some (.dK bs) ∧ bs.map (·.1) = js.map Sum.inl ∧ js.length < 64 ∧ (∀ j ∈ js, (valV nx (.inl j)).isSome = true ∧ ∃ x, valV bs (.inl j) = some (.int x) ∧ (valV nx (.inl x)).isSome = true) ∧ d ≠ db ∧ db ≠ dn ∧ bf.length ≤ 1000 ∧
  ∀ H' bf', NetAt C H' h n dn db dl nx bf' ls → (∀ a o, a ≠ db → H a = some o → H' a = some o) → (∀ p : Int, valV bf' (.inl p) = if p ∈ js then valV bs (.inl p) else valV bf (.inl p)) → bf'.length ≤ bf.length + js.length → Q .non H'
theorem T0.ok_Net__take_befores (T : T0 K mg) : FnOk P w K mg base CX0 2 T.a_Net__take_befores T.fd_Net__take_befores ["self", "befores"] (sp_Net__take_befores T.C_Net) := by
  refine T.F_Net__take_befores.ok sc_Net__take_befores (fun vs H Q E h => ?_) (fun cdv A outer s H vs Q E hr h => ?_)
  · obtain ⟨h, dn, db, dl, d, n, nx, bf, bs, ls, js, rfl, _⟩ := h
    rfl
  · obtain ⟨h, dn, db, dl, d, n, nx, bf, bs, ls, js, rfl, hN, hd, hk, h64, hv, ned, ne, hz, q⟩ := h
    refine ⟨_, (pss_one (ps_for PassesOwn.never rfl (pi_list (pe_callB (call_sortedDI rfl) (by rfl) T.m_sorted (by decide +kernel) (pa_cons (pv 1) pa_nil))) (pg_name (i := 2) sc_Net__take_befores.nd rfl (Or.inl rfl)) (pss_cons (ps_expr (pe_meth (pv 0) T.cl_Net T.me_Net__check_house T.ok_Net__check_house hr T.b_Net__check_house .nil pass0 (pa_cons (pv 2) pa_nil)))
        (pss_cons (ps_expr (pe_meth (pv 0) T.cl_Net T.me_Net__check_house T.ok_Net__check_house hr T.b_Net__check_house .nil pass0 (pa_cons (pe_dget (un1 hr) (pv 1) (pv 2) (fun _ _ => rfl)) pa_nil)))
        (pss_one (ps_asg (pe_dget (un1 hr) (pv 1) (pv 2) (fun _ _ => rfl)) (pg_sub (show PE _ _ (tFld K _ _) from pe_fld (pv 0) rfl) (pv 2) (set_dict (un1 hr))))))))), ?_⟩
    refine ⟨_, rfl, d, bs, js, rfl, .inl hd, hk, h64, fun ys l perm pw nl => ?_⟩
    have hl : upd H l (.lst (ys.map V.int)) l = some (.lst (ys.map V.int)) := upd_same
    have sm := same_upd (o := .lst (ys.map V.int)) nl
    generalize upd H l (.lst (ys.map V.int)) = H1 at hl sm
    have ylen := perm.length_eq
    have nldb : l ≠ db := fun z => by rw [z, hN.hb] at nl; cases nl
    refine ⟨l, rfl, ⟨_, SqL.of hl⟩, ?_⟩
    refine for_list (K := K) (a := l) (xs := ys.map V.int) (fun i σ' H' => ∃ o1 bf', σ' = [some (.ref h), some (.ref d), o1] ∧ NetAt T.C_Net H' h n dn db dl nx bf' ls ∧ (∀ a o, a ≠ db → H1 a = some o → H' a = some o) ∧ (∀ p : Int, valV bf' (.inl p) = if p ∈ ys.take i then valV bs (.inl p) else valV bf (.inl p)) ∧ bf'.length ≤ bf.length + i)
      ⟨none, bf, rfl, hN.same sm, fun _ _ _ e => e, fun p => by rw [List.take_zero, if_neg (List.not_mem_nil)], Nat.le_refl _⟩ (fun i σ' H' _ p => by obtain ⟨_, _, _, _, k, _⟩ := p; exact SqL.of (k _ _ nldb hl)) (fun i v σ' H' hv' p => ?_) (fun σ' H' p => ?_)
    · obtain ⟨o1, bf', rfl, N1, k1, vl, ln⟩ := p
      rw [List.getElem?_map] at hv'
      obtain ⟨y, hy, rfl⟩ := Option.map_eq_some_iff.mp hv'
      have hi : i < ys.length := (List.getElem?_eq_some_iff.mp hy).1
      obtain ⟨dx, hh⟩ := N1.me
      obtain ⟨y0, x, hx, hx2⟩ := hv y (perm.mem_iff.mp (List.mem_of_getElem? hy))
      have hd1 := k1 _ _ ned (sm _ _ hd)
      refine ⟨_, rfl, h, dx, _, rfl, hh, (by unfold nf; walk_at "lk"), _, rfl, h, dn, db, dl, n, y, nx, bf', ls, rfl, N1, y0, ?_⟩
      refine ⟨_, rfl, h, dx, _, rfl, hh, (by unfold nf; walk_at "lk"), _, rfl, _, rfl, d, _, rfl, dget_of (k := Sum.inl y) hd1 hx, h, dn, db, dl, n, x, nx, bf', ls, rfl, N1, hx2, ?_⟩
      refine ⟨_, rfl, _, rfl, d, _, rfl, dget_of (k := Sum.inl y) hd1 hx, ?_⟩
      refine ⟨_, rfl, h, _, dx, _, _, rfl, hh, T.cl_Net, T.na_Net__befores, nf_befores, _, rfl, db, _, rfl, DPut.k (k := Sum.inl y) N1.hb (small1000' (by omega)), ?_⟩
      refine ⟨_, _, rfl, N1.setb ne, fun a o na e => (upd_ne na).trans (k1 _ _ na e), fun p => ?_, ?_⟩
      · rw [valV_put, vl p, List.take_add_one, hy, Option.toList_some]
        by_cases e : p = y
        · subst e
          rw [if_pos rfl, if_pos (List.mem_append_right _ (List.mem_singleton.mpr rfl)), hx]
        · have e1 : ¬ (Sum.inl p : Key) = Sum.inl y := fun z => e (Sum.inl.inj z)
          rw [if_neg e1]
          by_cases g : p ∈ ys.take i
          · rw [if_pos g, if_pos (List.mem_append_left _ g)]
          · rw [if_neg g, if_neg (fun z => (List.mem_append.mp z).elim g (fun z => e (List.mem_singleton.mp z)))]
      · have := length_putK bf' (Sum.inl y : Key) (.int x)
        omega
    · obtain ⟨o1, bf', rfl, N1, k1, vl, ln⟩ := p
      refine q H' bf' N1 (fun a o na e => k1 a o na (sm _ _ e)) (fun p => ?_) (by rw [List.length_map] at ln; omega)
      rw [vl p, List.length_map, List.take_length]
      by_cases g : p ∈ ys
      · rw [if_pos g, if_pos (perm.mem_iff.mp g)]
      · rw [if_neg g, if_neg (fun z => g (perm.mem_iff.mpr z))]
def bef (bs : List (Key × V)) (k : Int) : V := (valV bs (.inl k)).getD .non
theorem valV_none_keys {kvs : List (Key × V)} {js : List Int} {p : Int} (h : kvs.map (·.1) = js.map Sum.inl) (hp : p ∉ js) : valV kvs (.inl p) = none := by
  induction kvs generalizing js with
  | nil => rfl
  | cons kv r ih =>
    cases js with
    | nil => cases h
    | cons j js =>
      obtain ⟨k, v⟩ := kv
      have h1 : k = Sum.inl j := (List.cons.inj h).1
      rw [valV_neg (fun e => hp (by rw [h1] at e; rw [Sum.inl.inj e]; exact List.mem_cons_self)), ih (List.cons.inj h).2 (fun m => hp (List.mem_cons_of_mem _ m))]
theorem valV_all_non {ks : List Int} {k : Int} (h : k ∈ ks) : valV (ks.map fun z => ((Sum.inl z : Key), V.non)) (Sum.inl k) = some .non := by
  induction ks with
  | nil => cases h
  | cons z r ih =>
    rw [List.map_cons]
    by_cases e : z = k
    · subst e
      exact valV_pos (p := ((Sum.inl z : Key), V.non)) rfl
    · rw [valV_neg (fun g => e (Sum.inl.inj g))]
      exact ih ((List.mem_cons.mp h).resolve_left (fun g => e g.symm))
def sp_Net__init (K : PySem.W.Frag) (C : Addr) : Sp := fun vs H Q _ => ∃ (h dx d1 d2 pl : Addr) (n : Int) (nx bs : List (Key × V)) (ls : List V) (ks js : List Int), vs = [.ref h, .int n, .ref d1, .ref d2, .ref pl] ∧ H h = some (.ins C dx []) ∧ H d1 = some (.dK nx) ∧ H d2 = some (.dK bs) ∧ H pl = some (.lst ls) ∧
  nx.map (·.1) = ks.map Sum.inl ∧ ks.length < 64 ∧ ks.Nodup ∧ bs.map (·.1) = js.map Sum.inl ∧ js.length < 64 ∧ ls.length ≤ 1000 ∧
  (∀ k ∈ ks, 0 ≤ k ∧ k < n ∧ ∃ x, valV nx (.inl k) = some (.int x) ∧ (valV nx (.inl x)).isSome = true) ∧ (∀ j ∈ js, (valV nx (.inl j)).isSome = true ∧ ∃ x, valV bs (.inl j) = some (.int x) ∧ (valV nx (.inl x)).isSome = true) ∧
  (∀ v ∈ ls, ∃ (a : Addr) (z : Str) (qs : List Int), v = .ref a ∧ H a = some (.tup (.str z :: qs.map V.int)) ∧ ∀ q ∈ qs, (valV nx (.inl q)).isSome = true) ∧
  ∀ H' dn db dl bf, NetAt C H' h n dn db dl nx bf ls → (∀ a o, a ≠ h → H a = some o → H' a = some o) → H dn = none → H db = none → H dl = none → db ≠ dn → (∀ p ∈ ks, valV bf (.inl p) = some (bef bs p)) → bf.length ≤ ks.length + js.length → Q .non H'
theorem T0.ok_Net__init (T : T0 K mg) : FnOk P w K mg base CX0 3 T.a_Net__init T.fd_Net__init ["self", "size", "nexts", "befores", "letters"] (sp_Net__init K T.C_Net) := by
  refine T.F_Net__init.ok sc_Net__init (fun vs H Q E h => ?_) (fun cdv A outer s H vs Q E hr h => ?_)
  · obtain ⟨h, dx, d1, d2, pl, n, nx, bs, ls, ks, js, rfl, _⟩ := h
    rfl
  · obtain ⟨h, dx, d1, d2, pl, n, nx, bs, ls, ks, js, rfl, hh, h1, h2, hpl, hk, h64, hnd, hj, hj64, hz, hv, hw, hu, q⟩ := h
    refine ⟨_, (pss_cons (ps_fld (pv 0) (pv 1) rfl)
        (pss_cons (ps_fld (pv 0) (pe_callTy call_dictD (by rfl) T.m_dict (by decide +kernel) (pa_cons (pv 2) pa_nil)) rfl)
        (pss_cons (ps_fld (pv 0) (pe_lock <| pe_dc (own := [("house", 5)]) (g := gName 5) (by rfl) sc_Net__init.nd (pi_keys (show PE _ _ (tFld K _ _) from pe_fld (pv 0) rfl)) (blkOk_by (own := [("house", 5)]) (N := ["self", "size", "nexts", "befores", "letters", "house"]) (sc := defScope s_Net__init) (by decide +kernel)) (fun _ _ _ _ _ => pg_name (i := 5) sc_Net__init.nd rfl (Or.inl rfl)) (fun _ _ _ _ _ => pts_nil) (fun _ _ _ _ _ => (pv 5)) (fun _ _ _ _ _ => pe_non)) rfl)
        (C8.pss_cut (ps_fld (pv 0) (pe_callTy (call_list_ofK (K := K)) (by rfl) T.m_list (by decide +kernel) (pa_cons (show PE _ _ (tOrT K _ _) from pe_orT (pv 4) (pe_one (pe_lst pa_nil))) pa_nil)) rfl)
        (pss_cons (ps_expr (pe_meth0 (pv 0) T.cl_Net T.me_Net__check_places T.ok_Net__check_places hr T.b_Net__check_places .nil pass0))
        (C8.pss_cut (ps_expr (pe_meth (pv 0) T.cl_Net T.me_Net__take_befores T.ok_Net__take_befores hr T.b_Net__take_befores .nil pass0 (pa_cons (show PE _ _ (tOrT K _ _) from pe_orT (pv 3) (pe_one pe_dnewK)) pa_nil)))
        (pss_one (ps_expr (pe_meth0 (pv 0) T.cl_Net T.me_Net__check_letters T.ok_Net__check_letters hr T.b_Net__check_letters .nil pass0))))))))), ?_⟩
    have nd1 : h ≠ d1 := fun e => by rw [e, h1] at hh; cases hh
    have nd2 : h ≠ d2 := fun e => by rw [e, h2] at hh; cases hh
    have npl : h ≠ pl := fun e => by rw [e, hpl] at hh; cases hh
    refine ⟨_, rfl, _, rfl, h, _, dx, [], rfl, hh, T.cl_Net, T.na_Net_size, (by show 0 < 1000; decide), ?_⟩
    refine ⟨_, rfl, d1, nx, rfl, .inl ((upd_ne nd1.symm).trans h1), fun dn ndn => ?_⟩
    have e1 : h ≠ dn := fun e => by rw [← e, upd_same] at ndn; cases ndn
    have ndn0 : H dn = none := by rw [upd_ne e1.symm] at ndn; exact ndn
    refine ⟨_, rfl, h, _, dx, _, rfl, (upd_ne e1).trans upd_same, T.cl_Net, T.na_Net__nexts, (by show 1 < 1000; decide), ?_⟩
    have k3 : ∀ a o, a ≠ h → H a = some o → upd (upd (upd H h (.ins T.C_Net dx (putF "size" (.int n) []))) dn (.dK nx)) h (.ins T.C_Net dx (putF "_nexts" (.ref dn) (putF "size" (.int n) []))) a = some o := fun a o na e => by
      rw [upd_ne na, upd_ne (ne_of_none e ndn0), upd_ne na]
      exact e
    have hdn : upd (upd (upd H h (.ins T.C_Net dx (putF "size" (.int n) []))) dn (.dK nx)) h (.ins T.C_Net dx (putF "_nexts" (.ref dn) (putF "size" (.int n) []))) dn = some (.dK nx) := (upd_ne e1.symm).trans upd_same
    have hh3 : upd (upd (upd H h (.ins T.C_Net dx (putF "size" (.int n) []))) dn (.dK nx)) h (.ins T.C_Net dx (putF "_nexts" (.ref dn) (putF "size" (.int n) []))) h = some (.ins T.C_Net dx (putF "_nexts" (.ref dn) (putF "size" (.int n) []))) := upd_same
    generalize upd (upd (upd H h (.ins T.C_Net dx (putF "size" (.int n) []))) dn (.dK nx)) h (.ins T.C_Net dx (putF "_nexts" (.ref dn) (putF "size" (.int n) []))) = H3 at k3 hdn hh3
    refine ⟨dn, nx, hdn, fun od => ?_⟩
    refine ⟨_, rfl, h, _, dx, _, _, rfl, (upd_ne e1).trans hh3, T.cl_Net, T.na_Net__nexts, (by walk_at "pf"; walk_at "lk"), dn, od, rfl, .inl ⟨nx, upd_same, fun D hD => ?_⟩⟩
    have nDdn : D ≠ dn := fun z => by rw [z, upd_same] at hD; cases hD
    refine dc_it walk_keys (fun i H' => Same (upd H3 dn (.frz od (.dK nx))) H' ∧ H' D = some (.dK ((ks.take i).map fun k => (.inl k, .non)))) ⟨same_upd hD, upd_same⟩ (fun i H' _ p => p.1 _ _ upd_same) (fun i x H4 H5 hi pv hy => ?_) (fun H4 pv => ?_)
    · obtain ⟨rfl, k, v, hkv, rfl⟩ := hy
      obtain ⟨s4, e4⟩ := pv
      have hki : ks[i]?.map (Sum.inl : Int → Key) = some k := by rw [← List.getElem?_map, ← hk, List.getElem?_map, hkv]; rfl
      obtain ⟨y, hy, rfl⟩ := Option.map_eq_some_iff.mp hki
      refine ⟨rfl, lc_yes ?_⟩
      refine ⟨_, rfl, _, Sum.inl y, rfl, e4, small1000' (by rw [List.length_map, List.length_take]; omega), fun b o e => ?_, ?_⟩
      · rw [upd_ne (ne_of_none e hD)]
        exact s4 b o e
      · rw [upd_same, putK_new _ (valV_none_of (f := fun _ => V.non) (not_in_take hnd hy)), List.take_add_one, hy, List.map_append]
        rfl
    · obtain ⟨s4, e4⟩ := pv
      refine ⟨s4 _ _ upd_same, ?_⟩
      have nl : nx.length = ks.length := by have := congrArg List.length hk; rw [List.length_map, List.length_map] at this; exact this
      rw [nl, List.take_length] at e4
      have h5 := (upd_ne (o := .dK nx) e1).trans (s4 _ _ ((upd_ne e1).trans hh3))
      have k5 : ∀ a o, a ≠ h → H a = some o → upd H4 dn (.dK nx) a = some o := fun a o na e => (upd_ne (ne_of_none e ndn0)).trans (s4 _ _ ((upd_ne (ne_of_none e ndn0)).trans (k3 a o na e)))
      have d5 : upd H4 dn (.dK nx) dn = some (.dK nx) := upd_same
      have D5 := (upd_ne (o := .dK nx) nDdn).trans e4
      have nDh : D ≠ h := fun z => by rw [z, (upd_ne e1 : upd H3 dn _ h = _), hh3] at hD; cases hD
      have nD0 : H D = none := by
        cases e : H D with
        | none => rfl
        | some o => rw [upd_ne nDdn, k3 D o nDh e] at hD; cases hD
      generalize upd H4 dn (.dK nx) = H5 at h5 k5 d5 D5
      refine ⟨_, rfl, h, _, dx, _, rfl, h5, T.cl_Net, T.na_Net__befores, (by show 2 < 1000; decide), ?_⟩
      have h6 : upd H5 h (.ins T.C_Net dx (putF "_befores" (.ref D) (putF "_nexts" (.ref dn) (putF "size" (.int n) [])))) h = _ := upd_same
      have k6 : ∀ a o, a ≠ h → H a = some o → upd H5 h (.ins T.C_Net dx (putF "_befores" (.ref D) (putF "_nexts" (.ref dn) (putF "size" (.int n) [])))) a = some o := fun a o na e => (upd_ne na).trans (k5 a o na e)
      have d6 := (upd_ne (o := .ins T.C_Net dx (putF "_befores" (.ref D) (putF "_nexts" (.ref dn) (putF "size" (.int n) [])))) e1.symm).trans d5
      have D6 := (upd_ne (o := .ins T.C_Net dx (putF "_befores" (.ref D) (putF "_nexts" (.ref dn) (putF "size" (.int n) [])))) nDh).trans D5
      generalize upd H5 h (.ins T.C_Net dx (putF "_befores" (.ref D) (putF "_nexts" (.ref dn) (putF "size" (.int n) [])))) = H6 at h6 k6 d6 D6
      have nn : (bef [] 0 : V) = .non := rfl
      refine ⟨fun σ' H' => σ' = [some (.ref h), some (.int n), some (.ref d1), some (.ref d2), some (.ref pl), none] ∧ ∃ dl, NetAt T.C_Net H' h n dn D dl nx (ks.map fun k => (.inl k, .non)) ls ∧ (∀ a o, a ≠ h → H a = some o → H' a = some o) ∧ H dl = none, ?_, ?_⟩
      · have fin : ∀ (Hq : Hp) (l : Addr), Same H6 Hq → Hq l = none → ∃ dl, NetAt T.C_Net (upd (upd Hq l (.lst ls)) h (.ins T.C_Net dx (putF "_letters" (.ref l) (putF "_befores" (.ref D) (putF "_nexts" (.ref dn) (putF "size" (.int n) [])))))) h n dn D dl nx (ks.map fun k => (.inl k, .non)) ls ∧ (∀ a o, a ≠ h → H a = some o → upd (upd Hq l (.lst ls)) h (.ins T.C_Net dx (putF "_letters" (.ref l) (putF "_befores" (.ref D) (putF "_nexts" (.ref dn) (putF "size" (.int n) []))))) a = some o) ∧ H dl = none := fun Hq l sq nl => by
          have nlh : l ≠ h := fun z => by rw [z, sq _ _ h6] at nl; cases nl
          have nD : D ≠ l := fun z => by rw [← z, sq _ _ D6] at nl; cases nl
          have ndl : dn ≠ l := fun z => by rw [← z, sq _ _ d6] at nl; cases nl
          refine ⟨l, ⟨⟨dx, ?_⟩, (upd_ne e1.symm).trans ((upd_ne ndl).trans (sq _ _ d6)), (upd_ne nDh).trans ((upd_ne nD).trans (sq _ _ D6)), (upd_ne nlh).trans upd_same⟩, fun a o na e => ?_, ?_⟩
          · rw [upd_same]
            have e : putF "_letters" (.ref l) (putF "_befores" (.ref D) (putF "_nexts" (.ref dn) (putF "size" (.int n) []))) = nf n dn D l := by
              walk_at "pf"
              rfl
            exact congrArg (fun z => some (HO.ins _ _ z)) e
          · have e2 := sq _ _ (k6 a o na e)
            exact (upd_ne na).trans ((upd_ne (ne_of_none e2 nl)).trans e2)
          · cases e : H l with
            | none => rfl
            | some o => rw [sq _ _ (k6 l o nlh e)] at nl; cases nl
        refine ⟨_, rfl, !ls.isEmpty, .inl ⟨ls, SqL.of (k6 _ _ npl.symm hpl), rfl⟩, ite2 (fun e => ?_) (fun e => ?_)⟩
        · refine ⟨pl, ls, rfl, .inl (SqL.of (k6 _ _ npl.symm hpl)), fun l nl => ?_⟩
          have nlh : h ≠ l := fun z => by rw [← z, h6] at nl; cases nl
          exact ⟨_, rfl, h, _, dx, _, rfl, (upd_ne nlh).trans h6, T.cl_Net, T.na_Net__letters, (by show 3 < 1000; decide), rfl, fin H6 l (fun _ _ e => e) nl⟩
        · have e : ls = [] := by
            cases ls with
            | nil => rfl
            | cons a b => exact absurd rfl e
          subst e
          refine ⟨Nat.zero_le _, fun p np => ?_⟩
          have s7 := same_upd (o := .lst []) np
          have p7 : upd H6 p (.lst []) p = some (.lst []) := upd_same
          generalize upd H6 p (.lst []) = H7 at s7 p7
          refine ⟨p, [], rfl, .inl (SqL.of p7), fun l nl => ?_⟩
          have nlh : h ≠ l := fun z => by rw [← z, s7 _ _ h6] at nl; cases nl
          exact ⟨_, rfl, h, _, dx, _, rfl, (upd_ne nlh).trans (s7 _ _ h6), T.cl_Net, T.na_Net__letters, (by show 3 < 1000; decide), rfl, fin H7 l s7 nl⟩
      rintro _ H8 ⟨rfl, dl, N8, k8, ndl0⟩
      have nDn : D ≠ dn := nDdn
      obtain ⟨dx8, hh8⟩ := N8.me
      refine ⟨_, rfl, h, dx8, _, rfl, hh8, (by unfold nf; walk_at "lk"), h, dn, D, dl, n, nx, _, ls, ks, rfl, N8, hk, h64, hv, fun H9 s9 => ?_⟩
      have N9 := N8.same s9
      have k9 : ∀ a o, a ≠ h → H a = some o → H9 a = some o := fun a o na e => s9 _ _ (k8 a o na e)
      obtain ⟨dx9, hh9⟩ := N9.me
      refine ⟨fun σ' H' => σ' = [some (.ref h), some (.int n), some (.ref d1), some (.ref d2), some (.ref pl), none] ∧ ∃ bf, NetAt T.C_Net H' h n dn D dl nx bf ls ∧ (∀ a o, a ≠ h → H a = some o → H' a = some o) ∧ (∀ p ∈ ks, valV bf (.inl p) = some (bef bs p)) ∧ bf.length ≤ ks.length + js.length, ?_, ?_⟩
      · have lj : bs.length = js.length := by have := congrArg List.length hj; rw [List.length_map, List.length_map] at this; exact this
        refine ⟨_, rfl, h, dx9, _, rfl, hh9, (by unfold nf; walk_at "lk"), _, rfl, !bs.isEmpty, .inr (.inr ⟨bs, k9 _ _ nd2.symm h2, rfl⟩), ite2 (fun e => ?_) (fun e => ?_)⟩
        · refine ⟨h, dn, D, dl, d2, n, nx, _, bs, ls, js, rfl, N9, k9 _ _ nd2.symm h2, hj, hj64, hw, fun z => ?_, nDn, by rw [List.length_map]; omega, fun H' bf' N' k' v' l' => ⟨rfl, bf', N', fun a o na e => k' _ _ (fun z => by rw [z] at e; rw [e] at nD0; cases nD0) (k9 a o na e), fun p hp => ?_, by rw [List.length_map] at l'; exact l'⟩⟩
          · rw [z] at h2; rw [h2] at nD0; cases nD0
          · rw [v' p]
            by_cases g : p ∈ js
            · obtain ⟨_, x, hx, _⟩ := hw p g
              rw [if_pos g, bef, hx]; rfl
            · rw [if_neg g, bef, valV_none_keys hj g, valV_all_non hp]; rfl
        · have e : bs = [] := by
            cases bs with
            | nil => rfl
            | cons a b => exact absurd rfl e
          subst e
          have ej : js = [] := by
            cases js with
            | nil => rfl
            | cons a b => cases lj
          subst ej
          intro p np
          have s10 := same_upd (o := .dK []) np
          have p10 : upd H9 p (.dK []) p = some (.dK []) := upd_same
          have npD : p ≠ D := fun z => by rw [z, N9.hb] at np; cases np
          generalize upd H9 p (.dK []) = H10 at s10 p10
          refine ⟨h, dn, D, dl, p, n, nx, _, [], ls, [], rfl, N9.same s10, p10, rfl, by decide, (fun j hj => nomatch hj), npD, nDn, by rw [List.length_map]; omega, fun H' bf' N' k' v' l' => ⟨rfl, bf', N', fun a o na e => k' _ _ (fun z => by rw [z] at e; rw [e] at nD0; cases nD0) (s10 _ _ (k9 a o na e)), fun p hp => ?_, by rw [List.length_map] at l'; exact l'⟩⟩
          rw [v' p, if_neg (fun z => nomatch z), valV_all_non hp]
          rfl
      rintro _ H11 ⟨rfl, bf, N11, k11, v11, l11⟩
      obtain ⟨dx11, hh11⟩ := N11.me
      refine ⟨_, rfl, h, dx11, _, rfl, hh11, (by unfold nf; walk_at "lk"), h, dn, D, dl, n, nx, bf, ls, rfl, N11, hz, fun v hv => ?_, fun H12 s12 => ?_⟩
      · obtain ⟨a, z, qs, rfl, ha, hq⟩ := hu v hv
        exact ⟨a, z, qs, rfl, k11 _ _ (fun e => by rw [e, hh] at ha; cases ha) ha, hq⟩
      · exact q H12 dn D dl bf (N11.same s12) (fun a o na e => s12 _ _ (k11 a o na e)) ndn0 nD0 ndl0 nDn v11 l11
def sp_Net__check_free (C : Addr) : Sp := fun vs H Q _ => ∃ (h dn db dl : Addr) (n p : Int) (nx bf : List (Key × V)) (ls : List V), vs = [.ref h, .int p] ∧ NetAt C H h n dn db dl nx bf ls ∧ 0 ≤ p ∧ p < n ∧ valV nx (.inl p) = none ∧ Q .non H
theorem T0.ok_Net__check_free (T : T0 K mg) : FnOk P w K mg base CX0 2 T.a_Net__check_free T.fd_Net__check_free ["self", "place"] (sp_Net__check_free T.C_Net) := by
  refine T.F_Net__check_free.ok sc_Net__check_free (fun vs H Q E h => ?_) (fun cdv A outer s H vs Q E hr h => ?_)
  · obtain ⟨h, dn, db, dl, n, p, nx, bf, ls, rfl, _⟩ := h
    rfl
  · obtain ⟨h, dn, db, dl, n, p, nx, bf, ls, rfl, hN, p0, p1, hp, q⟩ := h
    obtain ⟨dx, hh⟩ := hN.me
    refine ⟨_, (pss_cons (ps_expr (pe_call T.ok_check_on_circle hr (by rfl) T.g_check_on_circle T.k_check_on_circle T.b_check_on_circle .nil pass0 (pa_cons (show PE _ _ (tFld K _ _) from pe_fld (pv 0) rfl) (pa_cons (pv 1) pa_nil))))
        (pss_one (ps_if (pt_cmp (pc_din (un1 hr) (pv 1) (show PE _ _ (tFld K _ _) from pe_fld (pv 0) rfl))) (pss_one (ps_never)) pss_nil))), ?_⟩
    refine ⟨_, rfl, h, _, dx, _, _, rfl, hh, T.cl_Net, T.na_Net_size, nf_size, _, rfl, n, p, rfl, p0, p1, ?_⟩
    refine ⟨_, rfl, _, rfl, h, _, dx, _, _, rfl, hh, T.cl_Net, T.na_Net__nexts, nf_nexts, dn, _, rfl, DGet.k (k := Sum.inl p) hN.hn, _, rfl, ?_⟩
    rw [hp]
    exact iteF q
def sp_Net__admit (C : Addr) : Sp := fun vs H Q _ => ∃ (h dn db dl : Addr) (n p x : Int) (nx bf : List (Key × V)) (ls : List V), vs = [.ref h, .int p, .int x] ∧ NetAt C H h n dn db dl nx bf ls ∧ 0 ≤ p ∧ p < n ∧ valV nx (.inl p) = none ∧ (x ≠ p → (valV nx (.inl x)).isSome = true) ∧ db ≠ dn ∧ nx.length ≤ 1000 ∧ bf.length ≤ 1000 ∧
  Q .non (upd (upd H dn (.dK (putK nx (.inl p) (.int x)))) db (.dK (putK bf (.inl p) .non)))
theorem T0.ok_Net__admit (T : T0 K mg) : FnOk P w K mg base CX0 3 T.a_Net__admit T.fd_Net__admit ["self", "place", "host"] (sp_Net__admit T.C_Net) := by
  refine T.F_Net__admit.ok sc_Net__admit (fun vs H Q E h => ?_) (fun cdv A outer s H vs Q E hr h => ?_)
  · obtain ⟨h, dn, db, dl, n, p, x, nx, bf, ls, rfl, _⟩ := h
    rfl
  · obtain ⟨h, dn, db, dl, n, p, x, nx, bf, ls, rfl, hN, p0, p1, hp, hx, ne, l1, l2, q⟩ := h
    obtain ⟨dx, hh⟩ := hN.me
    refine ⟨_, (pss_cons (ps_expr (pe_meth (pv 0) T.cl_Net T.me_Net__check_free T.ok_Net__check_free hr T.b_Net__check_free .nil pass0 (pa_cons (pv 1) pa_nil)))
        (pss_cons (ps_if (pt_cmpR op_ne (pv 2) (pv 1) (nomark _)) (pss_one (ps_expr (pe_meth (pv 0) T.cl_Net T.me_Net__check_house T.ok_Net__check_house (hr.mono (by decide)) T.b_Net__check_house .nil pass0 (pa_cons (pv 2) pa_nil)))) pss_nil)
        (pss_cons (ps_asg (pv 2) (pg_sub (show PE _ _ (tFld K _ _) from pe_fld (pv 0) rfl) (pv 1) (set_dict (un1 hr))))
        (pss_one (ps_asg pe_non (pg_sub (show PE _ _ (tFld K _ _) from pe_fld (pv 0) rfl) (pv 1) (set_dict (un1 hr)))))))), ?_⟩
    refine ⟨_, rfl, h, dx, _, rfl, hh, (by unfold nf; walk_at "lk"), _, rfl, h, dn, db, dl, n, p, nx, bf, ls, rfl, hN, p0, p1, hp, ?_⟩
    have ndn : h ≠ dn := fun e => by rw [e, hN.hn] at hh; cases hh
    have hh2 : upd H dn (.dK (putK nx (.inl p) (.int x))) h = some (.ins T.C_Net dx (nf n dn db dl)) := (upd_ne ndn).trans hh
    have hb2 : upd H dn (.dK (putK nx (.inl p) (.int x))) db = some (.dK bf) := (upd_ne ne).trans hN.hb
    refine ⟨_, rfl, _, rfl, rfl, _, rfl, ite2 (fun e => ?_) (fun e => ?_)⟩
    · have e : x ≠ p := fun z => by rw [z, decide_eq_true rfl] at e; cases e
      refine ⟨_, rfl, h, dx, _, rfl, hh, (by unfold nf; walk_at "lk"), _, rfl, h, dn, db, dl, n, x, nx, bf, ls, rfl, hN, hx e, ?_⟩
      refine ⟨_, rfl, _, rfl, h, _, dx, _, _, rfl, hh, T.cl_Net, T.na_Net__nexts, nf_nexts, _, rfl, dn, _, rfl, DPut.k (k := Sum.inl p) hN.hn (small1000' (by omega)), ?_⟩
      exact ⟨_, rfl, h, _, dx, _, _, rfl, hh2, T.cl_Net, T.na_Net__befores, nf_befores, _, rfl, db, _, rfl, DPut.k (k := Sum.inl p) hb2 (small1000' (by omega)), q⟩
    · refine ⟨_, rfl, _, rfl, h, _, dx, _, _, rfl, hh, T.cl_Net, T.na_Net__nexts, nf_nexts, _, rfl, dn, _, rfl, DPut.k (k := Sum.inl p) hN.hn (small1000' (by omega)), ?_⟩
      exact ⟨_, rfl, h, _, dx, _, _, rfl, hh2, T.cl_Net, T.na_Net__befores, nf_befores, _, rfl, db, _, rfl, DPut.k (k := Sum.inl p) hb2 (small1000' (by omega)), q⟩
theorem T0.ok_NoHouse__init (T : T0 K mg) : FnOk P w K mg base CX0 1 T.a_NoHouse__init T.fd_NoHouse__init ["self", "place"] (sp_err1 "place" T.C_NoHouse) := by
  refine T.F_NoHouse__init.ok sc_NoHouse__init (fun vs H Q E h => ?_) (fun cdv A outer s H vs Q E hr h => ?_)
  · obtain ⟨a, v, rfl, _⟩ := h
    rfl
  · obtain ⟨a, v, rfl, ha, q⟩ := h
    refine ⟨_, (pss_one (ps_ost (pv 0) (pv 1))), ?_⟩
    exact ⟨_, rfl, _, rfl, a, _, rfl, T.ox_NoHouse, T.na_NoHouse_place, .inl ⟨ha, fun dx nd ne => q dx nd ne⟩⟩
theorem T0.ok_OffCircle__init (T : T0 K mg) : FnOk P w K mg base CX0 1 T.a_OffCircle__init T.fd_OffCircle__init ["self", "place"] (sp_err1 "place" T.C_OffCircle) := by
  refine T.F_OffCircle__init.ok sc_OffCircle__init (fun vs H Q E h => ?_) (fun cdv A outer s H vs Q E hr h => ?_)
  · obtain ⟨a, v, rfl, _⟩ := h
    rfl
  · obtain ⟨a, v, rfl, ha, q⟩ := h
    refine ⟨_, (pss_one (ps_ost (pv 0) (pv 1))), ?_⟩
    exact ⟨_, rfl, _, rfl, a, _, rfl, T.ox_OffCircle, T.na_OffCircle_place, .inl ⟨ha, fun dx nd ne => q dx nd ne⟩⟩
/-! ### what a net raises: a house that is none -/
def sp_rNet__house (C CE : Addr) : Sp := fun vs H _ E => ∃ (h dn db dl : Addr) (n p : Int) (nx bf : List (Key × V)) (ls : List V), vs = [.ref h, .int p] ∧ NetAt C H h n dn db dl nx bf ls ∧ valV nx (.inl p) = none ∧ ∀ d, H d = none → E (.ref CE) (some d) (upd H d (.xd [("place", .int p)]))
theorem orN {k : Nat} {f : Addr} {fd : FuncData} {ps : List Str} {sp sp' : Sp} (F : FnOk P w K mg base CX0 k f fd ps sp) (G : FnOk P w K mg base (L2N.CX P w) k f fd ps sp') : FnOk P w K mg base (L2N.CX P w) k f fd ps (fun vs H Q E => sp vs H Q E ∨ sp' vs H Q E) :=
  ⟨fun vs H Q E h => h.elim (F.len vs H Q E) (G.len vs H Q E), fun A outer s H args us vs Q E a b c d e => e.elim (fun e => (calmN F).run A outer s H args us vs Q E a b c d e) (fun e => G.run A outer s H args us vs Q E a b c d e)⟩
theorem T0.okr_Net__check_house (T : T0 K mg) : FnOk P w K mg base (L2N.CX P w) 3 T.a_Net__check_house T.fd_Net__check_house ["self", "place"] (sp_rNet__house T.C_Net T.C_NoHouse) := by
  refine Fun_okN T.F_Net__check_house sc_Net__check_house (fun vs H Q E h => ?_) (fun cdv A outer s H vs Q E hr h => ?_)
  · obtain ⟨h, dn, db, dl, n, p, nx, bf, ls, rfl, _⟩ := h
    rfl
  · obtain ⟨h, dn, db, dl, n, p, nx, bf, ls, rfl, hN, hp, q⟩ := h
    obtain ⟨dx, hh⟩ := hN.me
    refine ⟨_, (pss_one (ps_if (pt_cmp (pc_dnotin (un1 hr) (pv 1) (show PE _ _ (tFld K _ _) from pe_fld (pv 0) rfl))) (pss_one (L2N.ps_raise rfl (L2N.takes_of rfl rfl rfl rfl) (pmkN T.ox_NoHouse T.mi_NoHouse T.ti_NoHouse T.ok_NoHouse__init hr T.b_NoHouse__init pass0 rfl T.mc_NoHouse (pa_cons (pv 1) pa_nil)))) pss_nil)), ?_⟩
    refine ⟨_, rfl, _, rfl, h, _, dx, _, _, rfl, hh, T.cl_Net, T.na_Net__nexts, nf_nexts, dn, _, rfl, DGet.k (k := Sum.inl p) hN.hn, _, rfl, ?_⟩
    rw [hp]
    exact iteT ⟨_, rfl, raise1 q⟩
theorem T0.okx_Net__check_house (T : T0 K mg) : FnOk P w K mg base (L2N.CX P w) 3 T.a_Net__check_house T.fd_Net__check_house ["self", "place"] (fun vs H Q E => sp_Net__check_house T.C_Net vs H Q E ∨ sp_rNet__house T.C_Net T.C_NoHouse vs H Q E) := orN (T.ok_Net__check_house.mono (by decide)) T.okr_Net__check_house
theorem T0.okr_Net__next_of (T : T0 K mg) : FnOk P w K mg base (L2N.CX P w) 4 T.a_Net__next_of T.fd_Net__next_of ["self", "house"] (sp_rNet__house T.C_Net T.C_NoHouse) := by
  refine Fun_okN T.F_Net__next_of sc_Net__next_of (fun vs H Q E h => ?_) (fun cdv A outer s H vs Q E hr h => ?_)
  · obtain ⟨h, dn, db, dl, n, p, nx, bf, ls, rfl, _⟩ := h
    rfl
  · obtain ⟨h, dn, db, dl, n, p, nx, bf, ls, rfl, hN, hp, q⟩ := h
    obtain ⟨dx, hh⟩ := hN.me
    refine ⟨_, (pss_cons (ps_expr (pe_methN (pv 0) T.cl_Net T.me_Net__check_house T.okx_Net__check_house hr T.b_Net__check_house (fun σ => L2N.passAt (L2N.takes_of rfl rfl rfl rfl) σ) (pa_cons (pv 1) pa_nil)))
        (pss_one (ps_ret (pe_dget (un1 hr) (show PE _ _ (tFld K _ _) from pe_fld (pv 0) rfl) (pv 1) (fun _ _ => rfl))))), ?_⟩
    exact ⟨_, rfl, h, dx, _, rfl, hh, (by unfold nf; walk_at "lk"), _, rfl, .inr ⟨h, dn, db, dl, n, p, nx, bf, ls, rfl, hN, hp, q⟩⟩
def sp_Net__next_of (C : Addr) : Sp := fun vs H Q _ => ∃ (h dn db dl : Addr) (n p : Int) (v : V) (nx bf : List (Key × V)) (ls : List V), vs = [.ref h, .int p] ∧ NetAt C H h n dn db dl nx bf ls ∧ valV nx (.inl p) = some v ∧ Q v H
theorem T0.ok_Net__next_of (T : T0 K mg) : FnOk P w K mg base CX0 2 T.a_Net__next_of T.fd_Net__next_of ["self", "house"] (sp_Net__next_of T.C_Net) := by
  refine T.F_Net__next_of.ok sc_Net__next_of (fun vs H Q E h => ?_) (fun cdv A outer s H vs Q E hr h => ?_)
  · obtain ⟨h, dn, db, dl, n, p, v, nx, bf, ls, rfl, _⟩ := h
    rfl
  · obtain ⟨h, dn, db, dl, n, p, v, nx, bf, ls, rfl, hN, hv, q⟩ := h
    obtain ⟨dx, hh⟩ := hN.me
    refine ⟨_, (pss_cons (ps_expr (pe_meth (pv 0) T.cl_Net T.me_Net__check_house T.ok_Net__check_house hr T.b_Net__check_house .nil pass0 (pa_cons (pv 1) pa_nil)))
        (pss_one (ps_ret (pe_dget (un1 hr) (show PE _ _ (tFld K _ _) from pe_fld (pv 0) rfl) (pv 1) (fun _ _ => rfl))))), ?_⟩
    refine ⟨_, rfl, h, dx, _, rfl, hh, (by unfold nf; walk_at "lk"), _, rfl, h, dn, db, dl, n, p, nx, bf, ls, rfl, hN, (by rw [hv]; rfl), ?_⟩
    exact ⟨_, rfl, h, _, dx, _, _, rfl, hh, T.cl_Net, T.na_Net__nexts, nf_nexts, _, rfl, dn, _, rfl, dget_of (k := Sum.inl p) hN.hn hv, q⟩
def sp_Net__before_of (C : Addr) : Sp := fun vs H Q _ => ∃ (h dn db dl : Addr) (n p : Int) (v : V) (nx bf : List (Key × V)) (ls : List V), vs = [.ref h, .int p] ∧ NetAt C H h n dn db dl nx bf ls ∧ (valV nx (.inl p)).isSome = true ∧ valV bf (.inl p) = some v ∧ Q v H
--CUT
theorem okB.atom {b : V} (h : okB b) : atomV b = true := by
  rcases h with rfl | ⟨z, rfl⟩ <;> rfl
theorem okB.tell {n p u : Int} {b : V} : okB (hTell n p u b) := by
  cases b with
  | int z =>
    unfold hTell
    dsimp only
    split
    · exact .inr ⟨_, rfl⟩
    · exact .inr ⟨_, rfl⟩
  | _ => exact .inr ⟨_, rfl⟩
theorem okB.hB {n p : Int} {b : V} (o : okB b) : ∀ L : Let, okB (hB n p b L)
  | .tell _ _ => okB.tell
  | .ask _ _ => o
  | .answer _ _ _ => o
theorem ans_atoms {p : Int} {b : V} {ys : List V} : ∀ L : Let, hA p b L = some ys → ys.length ≤ 100000 ∧ ∀ y ∈ ys, atomV y = true := by
  intro L h
  cases L with
  | ask r u =>
    cases b with
    | int z =>
      cases h
      refine ⟨by show 4 ≤ 100000; decide, fun y hy => ?_⟩
      simp only [List.mem_cons, List.not_mem_nil, or_false] at hy
      rcases hy with rfl | rfl | rfl | rfl <;> rfl
    | _ => cases h
  | tell _ _ => cases h
  | answer _ _ _ => cases h
/-- two answers are alike -/
theorem ans_same {H : Hp} {p : Int} {b : V} {L : Let} {v u : V} (h1 : match hA p b L with | none => v = .non | some ys => ∃ a, v = .ref a ∧ H a = some (.tup ys)) (h2 : match hA p b L with | none => u = .non | some ys => ∃ a, u = .ref a ∧ H a = some (.tup ys)) : Sm K 2 H v u := by
  cases e : hA p b L with
  | none =>
    rw [e] at h1 h2
    dsimp only at h1 h2
    rw [h1, h2]
    exact .atom rfl
  | some ys =>
    rw [e] at h1 h2
    obtain ⟨a, rfl, e1⟩ := h1
    obtain ⟨a2, rfl, e2⟩ := h2
    obtain ⟨l, m⟩ := ans_atoms L e
    refine .tup (SqT.of e1) (SqT.of e2) rfl l fun i x y hx hy => ?_
    rw [hx] at hy
    cases hy
    exact .atom (m x (List.mem_of_getElem? hx))
theorem ans_keep {H H' : Hp} {p : Int} {b : V} {L : Let} {v : V} (h : match hA p b L with | none => v = .non | some ys => ∃ a, v = .ref a ∧ H a = some (.tup ys)) (k : ∀ a ys, H a = some (.tup ys) → H' a = some (.tup ys)) :
    match hA p b L with | none => v = .non | some ys => ∃ a, v = .ref a ∧ H' a = some (.tup ys) := by
  cases e : hA p b L with
  | none => rw [e] at h; exact h
  | some ys =>
    rw [e] at h
    obtain ⟨a, rfl, e1⟩ := h
    exact ⟨a, rfl, k _ _ e1⟩
def sp__law_far (K : PySem.W.Frag) : Sp := fun vs H Q _ => ∃ n a b : Int, vs = [.int n, .int a, .int b] ∧ 0 < n ∧ Q (.int (farL n a b)) H
theorem T0.ok__law_far (T : T0 K mg) : FnOk P w K mg base CX0 1 T.a__law_far T.fd__law_far ["size", "start", "end"] (sp__law_far K) := by
  refine T.F__law_far.ok sc__law_far (fun vs H Q E h => ?_) (fun cdv A outer s H vs Q E hr h => ?_)
  · obtain ⟨n, a, b, rfl, _⟩ := h
    rfl
  · obtain ⟨n, a, b, rfl, hn, q⟩ := h
    refine ⟨_, (pss_cons (ps_set (i := 3) sc__law_far.nd rfl (Or.inl rfl) (pe_op op_modN (pe_callTy call_int1 (by rfl) T.m_int (by decide +kernel) (pa_cons (pe_op op_sub (pv 2) (pv 1)) pa_nil)) (pv 0)))
        (pss_cons (ps_if (pt_cmpR op_eq (pv 3) pe_int (nomark _)) (pss_one (ps_ret (pv 0))) pss_nil)
        (pss_one (ps_ret (pv 3))))), ?_⟩
    rw [far_eq a b hn] at q
    refine ⟨_, rfl, _, rfl, _, _, rfl, rfl, .inl ⟨_, rfl, _, rfl, _, _, rfl, rfl, by omega, ?_⟩⟩
    refine ⟨_, rfl, rfl, _, rfl, ite2 (fun e => ?_) (fun e => ?_)⟩
    · rw [if_pos (V.int.inj (of_decide_eq_true e))] at q
      exact ⟨_, rfl, q⟩
    · rw [if_neg (fun z => e (decide_eq_true (congrArg V.int z)))] at q
      exact ⟨_, rfl, q⟩
def sp__law_between (K : PySem.W.Frag) : Sp := fun vs H Q _ => ∃ n a p b : Int, vs = [.int n, .int a, .int p, .int b] ∧ 0 < n ∧ Q (.bl (decide (farL n a p < farL n a b))) H
theorem T0.ok__law_between (T : T0 K mg) : FnOk P w K mg base CX0 2 T.a__law_between T.fd__law_between ["size", "start", "place", "end"] (sp__law_between K) := by
  refine T.F__law_between.ok sc__law_between (fun vs H Q E h => ?_) (fun cdv A outer s H vs Q E hr h => ?_)
  · obtain ⟨n, a, p, b, rfl, _⟩ := h
    rfl
  · obtain ⟨n, a, p, b, rfl, hn, q⟩ := h
    refine ⟨_, (pss_cons (ps_if (PW.pt (pw_or (pt_cmpR op_eq (pv 2) (pv 1) (nomark _)) (pw_or1 (pt_cmpR op_eq (pv 2) (pv 3) (nomark _))))) (pss_one (ps_ret pe_bl)) pss_nil)
        (pss_one (ps_ret (pe_cmpR op_lt (pe_call T.ok__law_far hr (by rfl) T.g__law_far T.k__law_far T.b__law_far .nil pass0 (pa_cons (pv 0) (pa_cons (pv 1) (pa_cons (pv 2) pa_nil)))) (pe_call T.ok__law_far hr (by rfl) T.g__law_far T.k__law_far T.b__law_far .nil pass0 (pa_cons (pv 0) (pa_cons (pv 1) (pa_cons (pv 3) pa_nil)))) (nomark _))))), ?_⟩
    refine v_when (by walk_at "ans") (fun e => ?_) (fun e => ?_)
    · rw [dec_int, dec_int] at e
      have e : p = a ∨ p = b := by simpa using e
      have f : ¬ (farL n a p < farL n a b) := by
        rcases e with rfl | rfl
        · have h1 := far_range p b hn
          rw [far_eq p p hn, Int.sub_self, Int.zero_fmod, if_pos rfl]
          omega
        · omega
      rw [decide_eq_false f] at q
      exact q
    · exact ⟨_, rfl, _, rfl, _, rfl, n, a, p, rfl, hn, _, rfl, _, rfl, _, rfl, n, a, b, rfl, hn, _, _, rfl, rfl, q⟩
def Let.ns : Let → List Int
  | .tell r u => [r, u]
  | .ask r u => [r, u]
  | .answer r u m => [r, u, m]
def Let.fr : Let → Int
  | .tell _ u => u
  | .ask _ u => u
  | .answer _ u _ => u
def Let.wd : Let → Str
  | .tell _ _ => "tell"
  | .ask _ _ => "ask"
  | .answer _ _ _ => "answer"
theorem Let.at2 (L : Let) : atI L.vals (2 : Int) = some (.int L.fr) := by cases L <;> rfl
theorem Let.vals_eq (L : Let) : L.vals = .str L.wd :: L.ns.map V.int := by cases L <;> rfl
theorem Let.to_ns (L : Let) : L.to ∈ L.ns := by cases L <;> exact List.mem_cons_self
def nN (n r x : Int) (b : V) (L : Let) (nx : List (Key × V)) : List (Key × V) := if hA r b L = none ∧ hB n r b L = b ∧ hN n r x L ≠ x then putK nx (.inl r) (.int (hN n r x L)) else nx
def nB (n r : Int) (b : V) (L : Let) (bs : List (Key × V)) : List (Key × V) := if hA r b L = none ∧ hB n r b L ≠ b then putK bs (.inl r) (hB n r b L) else bs
def nT (n r x : Int) (b : V) (L : Let) : List V := if hA r b L ≠ none then [.str "wrote", .int r, hB n r b L] else if hB n r b L ≠ b then [.str "before", .int r, hB n r b L] else if hN n r x L ≠ x then [.str "next", .int r, .int (hN n r x L)] else [.str "kept", .int r, .non]
theorem far_self (z : Int) {n : Int} (hn : 0 < n) : farL n z z = n := by rw [far_eq z z hn, Int.sub_self, Int.zero_fmod, if_pos rfl]
theorem far_ne {n z u r : Int} (hn : 0 < n) (h : farL n z u < farL n z r) : u ≠ z := fun e => by
  subst e
  have := far_range u r hn
  have := far_self u hn
  omega
theorem far_ne2 {n z u r : Int} (h : farL n z u < farL n z r) : u ≠ r := fun e => by
  subst e
  omega
def sp__law_read (K : PySem.W.Frag) : Sp := fun vs H Q _ => ∃ (dN dB pO lt : Addr) (n x : Int) (k : Nat) (L : Let) (nx bs : List (Key × V)) (ps : List V), vs = [.int n, .ref dN, .ref dB, .ref pO, .int k] ∧ H dN = some (.dK nx) ∧ H dB = some (.dK bs) ∧ H pO = some (.lst ps) ∧ ps[k]? = some (.ref lt) ∧ H lt = some (.tup L.vals) ∧ valV nx (.inl L.to) = some (.int x) ∧ okB (bef bs L.to) ∧ 0 < n ∧ dN ≠ dB ∧ nx.length ≤ 1000 ∧ bs.length ≤ 1000 ∧ ps.length ≤ 1000 ∧
  ∀ H' v ps', (match hA L.to (bef bs L.to) L with | none => ps' = ps.eraseIdx k | some ys => ∃ a, ps' = ps.eraseIdx k ++ [.ref a] ∧ H' a = some (.tup ys)) → (∀ a o, a ≠ dN → a ≠ dB → a ≠ pO → H a = some o → H' a = some o) →
    H' dN = some (.dK (nN n L.to x (bef bs L.to) L nx)) → H' dB = some (.dK (nB n L.to (bef bs L.to) L bs)) → H' pO = some (.lst ps') → (∃ a, v = .ref a ∧ H' a = some (.tup (nT n L.to x (bef bs L.to) L))) → Q v H'
theorem T0.ok__law_read (T : T0 K mg) : FnOk P w K mg base CX0 3 T.a__law_read T.fd__law_read ["size", "nexts", "behinds", "post", "at"] (sp__law_read K) := by
  refine T.F__law_read.ok sc__law_read (fun vs H Q E h => ?_) (fun cdv A outer s H vs Q E hr h => ?_)
  · obtain ⟨dN, dB, pO, lt, n, x, k, L, nx, bs, ps, rfl, _⟩ := h
    rfl
  · obtain ⟨dN, dB, pO, lt, n, x, k, L, nx, bs, ps, rfl, hN, hB', hP, hv, hlt, hx, ob, hn, ne, z1, z2, z3, q⟩ := h
    have hk := (List.getElem?_eq_some_iff.mp hv).1
    refine ⟨_, (pss_cons (ps_set (i := 5) sc__law_read.nd rfl (Or.inl rfl) (pe_bm PySem.F.plainAttrs_list PySem.F.slot_list_pop PySem.F.type_list_pop mt_popAt (pv 3) (pa_cons (pv 4) pa_nil)))
        (pss_cons (ps_set (i := 6) sc__law_read.nd rfl (Or.inl rfl) (pe_ix (ix_tupK (K := K)) (pv 5) pe_int (fun _ _ => rfl)))
        (pss_cons (ps_set (i := 7) sc__law_read.nd rfl (Or.inl rfl) (pe_ix (ix_tupK (K := K)) (pv 5) pe_int (fun _ _ => rfl)))
        (pss_cons (ps_set (i := 8) sc__law_read.nd rfl (Or.inl rfl) (pe_dget1 (un1 hr) (pv 2) (pv 6) ⟨rfl, rfl, rfl, rfl⟩))
        (pss_cons (ps_if (pt_cmpR op_eq (pe_ix (ix_tupK (K := K)) (pv 5) pe_int (fun _ _ => rfl)) pe_str (nomark _)) (pss_one (ps_if (PW.pt (pw_or (pt_cmpR op_isN (pv 8) pe_non (nomark _)) (pw_or1 (pt_val (pe_call T.ok__law_between hr (by rfl) T.g__law_between T.k__law_between T.b__law_between .nil pass0 (pa_cons (pv 0) (pa_cons (pv 8) (pa_cons (pv 7) (pa_cons (pv 6) pa_nil))))))))) (pss_cons (ps_asg (pv 7) (pg_sub (pv 2) (pv 6) (set_dict (un1 hr))))
        (pss_one (ps_ret (pe_tup (pa_cons pe_str (pa_cons (pv 6) (pa_cons (pv 7) pa_nil))))))) pss_nil)) (pss_one (ps_if (pt_cmpR op_eq (pe_ix (ix_tupK (K := K)) (pv 5) pe_int (fun _ _ => rfl)) pe_str (nomark _)) (pss_one (ps_if (pt_cmpR op_notN (pv 8) pe_non (nomark _)) (pss_cons (ps_expr (pe_bm PySem.F.plainAttrs_list PySem.F.slot_list_append PySem.F.type_list_append mt_append (pv 3) (pa_cons (pe_tup (pa_cons pe_str (pa_cons (pv 7) (pa_cons (pv 6) (pa_cons (pv 8) pa_nil))))) pa_nil)))
        (pss_one (ps_ret (pe_tup (pa_cons pe_str (pa_cons (pv 6) (pa_cons (pv 8) pa_nil))))))) pss_nil)) (pss_one (ps_if (PW.pt (pw_and (pt_cmpR op_eq (pe_dget (un1 hr) (pv 1) (pv 6) (fun _ _ => rfl)) (pv 7) (nomark _)) (pw_and1 (pt_val (pe_call T.ok__law_between hr (by rfl) T.g__law_between T.k__law_between T.b__law_between .nil pass0 (pa_cons (pv 0) (pa_cons (pv 6) (pa_cons (pe_ix (ix_tupK (K := K)) (pv 5) pe_int (fun _ _ => rfl)) (pa_cons (pv 7) pa_nil))))))))) (pss_cons (ps_asg (pe_ix (ix_tupK (K := K)) (pv 5) pe_int (fun _ _ => rfl)) (pg_sub (pv 1) (pv 6) (set_dict (un1 hr))))
        (pss_one (ps_ret (pe_tup (pa_cons pe_str (pa_cons (pv 6) (pa_cons (pe_ix (ix_tupK (K := K)) (pv 5) pe_int (fun _ _ => rfl)) pa_nil))))))) pss_nil)))))
        (pss_one (ps_ret (pe_tup (pa_cons pe_str (pa_cons (pv 6) (pa_cons pe_non pa_nil))))))))))), ?_⟩
    refine ⟨_, rfl, .inl ⟨rfl, _, SqL.of hP⟩, _, rfl, pO, ps, k, k, .ref lt, rfl, rfl, hP, by omega, by omega, seq_nat hk, hv, ?_⟩
    have f1 : ∀ a o, a ≠ pO → H a = some o → upd H pO (.lst (ps.eraseIdx k)) a = some o := fun a o na e => (upd_ne na).trans e
    have N1 := f1 _ _ (ne_of hN hP (by intro z; cases z)) hN
    have B1 := f1 _ _ (ne_of hB' hP (by intro z; cases z)) hB'
    have lt1 := f1 _ _ (ne_of hlt hP (by intro z; cases z)) hlt
    have P1 : upd H pO (.lst (ps.eraseIdx k)) pO = some (.lst (ps.eraseIdx k)) := upd_same
    generalize upd H pO (.lst (ps.eraseIdx k)) = H1 at f1 N1 B1 lt1 P1
    have nNP : dN ≠ pO := ne_of hN hP (by intro z; cases z)
    have nBP : dB ≠ pO := ne_of hB' hP (by intro z; cases z)
    have nln : lt ≠ dN := ne_of hlt hN (by intro z; cases z)
    have le : (ps.eraseIdx k).length ≤ 1000 := Nat.le_trans (List.length_eraseIdx_le _ _) z3
    refine ⟨_, rfl, lt, _, 1, _, rfl, rfl, SqT.of lt1, L.at1, ?_⟩
    refine ⟨_, rfl, lt, _, 2, _, rfl, rfl, SqT.of lt1, L.at2, ?_⟩
    refine ⟨_, rfl, dB, rfl, .inl ⟨_, .inl B1⟩, _, rfl, _, DGet.k (k := Sum.inl L.to) B1, ?_⟩
    have kept : hA L.to (bef bs L.to) L = none → Z.hB n L.to (bef bs L.to) L = bef bs L.to → Z.hN n L.to x L = x → ∀ p, H1 p = none → Q (.ref p) (upd H1 p (.tup [.str "kept", .int L.to, .non])) := fun a1 a2 a3 p np => by
      refine q _ _ (ps.eraseIdx k) (by rw [a1]) (fun a o n1 n2 n3 e => (upd_ne (ne_of_none (f1 a o n3 e) np)).trans (f1 a o n3 e)) ?_ ?_ ((upd_ne (ne_of_none P1 np)).trans P1) ⟨p, rfl, ?_⟩
      · rw [nN, if_neg (fun z => z.2.2 a3)]
        exact (upd_ne (ne_of_none N1 np)).trans N1
      · rw [nB, if_neg (fun z => z.2 a2)]
        exact (upd_ne (ne_of_none B1 np)).trans B1
      · rw [upd_same, nT, if_neg (fun z => z a1), if_neg (fun z => z a2), if_neg (fun z => z a3)]
    cases L with
    | tell r u =>
      refine ⟨_, rfl, lt, _, 0, .str "tell", rfl, rfl, SqT.of lt1, rfl, rfl, _, rfl, ?_⟩
      rw [show decide (V.str "tell" = V.str "tell") = true by decide +kernel]
      refine iteT ?_
      have set : Z.hB n r (bef bs r) (.tell r u) = .int u → .int u ≠ bef bs r → rSetD (.ref dB) (.int r) (.int u) H1 fun H2 => ∀ p, H2 p = none → Q (.ref p) (upd H2 p (.tup [.str "before", .int r, .int u])) := fun e1 e2 => by
        refine ⟨dB, _, rfl, DPut.k (k := Sum.inl r) B1 (small1000' (by omega)), fun p np => ?_⟩
        have f2 : ∀ a o, a ≠ dB → H1 a = some o → upd (upd H1 dB (.dK (putK bs (.inl r) (.int u)))) p (.tup [.str "before", .int r, .int u]) a = some o := fun a o na e => (upd_ne (ne_of_none ((upd_ne na).trans e) np)).trans ((upd_ne na).trans e)
        refine q _ _ (ps.eraseIdx k) rfl (fun a o n1 n2 n3 e => f2 _ _ n2 (f1 a o n3 e)) ?_ ?_ (f2 _ _ nBP.symm P1) ⟨p, rfl, ?_⟩
        · rw [nN, if_neg (fun z => z.2.2 rfl)]
          exact f2 _ _ ne N1
        · rw [nB, if_pos ⟨rfl, fun z => e2 (e1.symm.trans z)⟩]
          rw [show Z.hB n (Let.tell r u).to (bef bs (Let.tell r u).to) (Let.tell r u) = .int u from e1]
          exact (upd_ne (ne_of_none (upd_same) np)).trans upd_same
        · rw [upd_same, nT, if_neg (fun z => z rfl), if_pos (show Z.hB n (Let.tell r u).to (bef bs (Let.tell r u).to) (Let.tell r u) ≠ bef bs (Let.tell r u).to from fun z => e2 (e1.symm.trans z))]
          rw [show Z.hB n (Let.tell r u).to (bef bs (Let.tell r u).to) (Let.tell r u) = .int u from e1]
          rfl
      refine ⟨_, rfl, rfl, _, rfl, ite2 (fun e => ?_) (fun e => ?_)⟩
      · have e : bef bs r = .non := of_decide_eq_true e
        refine iteT ?_
        obtain ⟨D', H2, e1, e2, st⟩ := set (by rw [e]; rfl) (by rw [e]; exact fun z => nomatch z)
        exact ⟨_, rfl, _, rfl, _, rfl, D', H2, e1, e2, _, rfl, _, rfl, lenL (by show 3 ≤ 100000; decide), st⟩
      · rcases ob with ob | ⟨z, ob⟩
        · exact absurd (decide_eq_true ob) e
        · have ob : bef bs r = .int z := ob
          refine ⟨_, rfl, _, rfl, _, rfl, _, rfl, n, z, u, r, by rw [← ob]; rfl, hn, _, rfl, ite2 (fun f => ?_) (fun f => ?_)⟩
          · have f := of_decide_eq_true f
            obtain ⟨D', H2, e1, e2, st⟩ := set (by rw [ob]; exact if_pos f) (by rw [ob]; exact fun z => far_ne hn f (V.int.inj z))
            exact ⟨_, rfl, _, rfl, _, rfl, D', H2, e1, e2, _, rfl, _, rfl, lenL (by show 3 ≤ 100000; decide), st⟩
          · refine ⟨_, rfl, lenL (by show 3 ≤ 100000; decide), kept rfl ?_ rfl⟩
            show hTell n r u (bef bs r) = bef bs r
            rw [ob]
            exact if_neg (fun g => f (decide_eq_true g))
    | ask r u =>
      refine ⟨_, rfl, lt, _, 0, .str "ask", rfl, rfl, SqT.of lt1, rfl, rfl, _, rfl, ?_⟩
      rw [show decide (V.str "ask" = V.str "tell") = false by decide +kernel]
      refine iteF ⟨_, rfl, lt, _, 0, .str "ask", rfl, rfl, SqT.of lt1, rfl, rfl, _, rfl, ?_⟩
      rw [show decide (V.str "ask" = V.str "ask") = true by decide +kernel]
      refine iteT ⟨_, rfl, rfl, _, rfl, ?_⟩
      rcases ob with ob | ⟨z, ob⟩
      · have ob : bef bs r = .non := ob
        refine iteF' (by show (!decide (bef bs r = .non)) = false; rw [decide_eq_true ob]; rfl) ?_
        exact ⟨_, rfl, lenL (by show 3 ≤ 100000; decide), kept (by show hA r (bef bs r) (.ask r u) = none; rw [ob]; rfl) rfl rfl⟩
      · have ob : bef bs r = .int z := ob
        have ea : hA r (bef bs r) (.ask r u) = some [.str "answer", .int u, .int r, .int z] := by rw [ob]; rfl
        refine iteT' (by show (!decide (bef bs r = .non)) = true; rw [ob]; rfl) ?_
        refine ⟨_, rfl, .inl ⟨rfl, _, SqL.of P1⟩, _, rfl, _, rfl, _, rfl, lenL (by show 4 ≤ 100000; decide), fun p np => ?_⟩
        have npP : p ≠ pO := fun e => by rw [e, P1] at np; cases np
        refine ⟨pO, _, _, rfl, rfl, (upd_ne npP.symm).trans P1, small1000' (by omega), ?_⟩
        have f2 : ∀ a o, a ≠ pO → H1 a = some o → upd (upd H1 p (.tup [.str "answer", .int u, .int r, bef bs r])) pO (.lst (ps.eraseIdx k ++ [.ref p])) a = some o := fun a o na e => (upd_ne na).trans ((upd_ne (ne_of_none e np)).trans e)
        have p2 : upd (upd H1 p (.tup [.str "answer", .int u, .int r, bef bs r])) pO (.lst (ps.eraseIdx k ++ [.ref p])) p = some (.tup [.str "answer", .int u, .int r, bef bs r]) := (upd_ne npP).trans upd_same
        have P2 : upd (upd H1 p (.tup [.str "answer", .int u, .int r, bef bs r])) pO (.lst (ps.eraseIdx k ++ [.ref p])) pO = some (.lst (ps.eraseIdx k ++ [.ref p])) := upd_same
        refine ⟨_, rfl, _, rfl, lenL (by show 3 ≤ 100000; decide), fun p3 np3 => ?_⟩
        have np3 : upd (upd H1 p (.tup [.str "answer", .int u, .int r, bef bs r])) pO (.lst (ps.eraseIdx k ++ [.ref p])) p3 = none := np3
        refine q _ _ (ps.eraseIdx k ++ [.ref p]) ?_ (fun a o n1 n2 n3 e => ?_) ?_ ?_ ?_ ⟨p3, rfl, ?_⟩
        · rw [show hA (Let.ask r u).to (bef bs (Let.ask r u).to) (.ask r u) = _ from ea]
          refine ⟨p, rfl, ?_⟩
          exact ((upd_ne (ne_of_none p2 np3)).trans p2).trans (by rw [ob])
        · have e2 := f2 _ _ n3 (f1 a o n3 e)
          exact (upd_ne (ne_of_none e2 np3)).trans e2
        · rw [nN, if_neg (fun z => z.2.2 rfl)]
          have e2 := f2 _ _ nNP N1
          exact (upd_ne (ne_of_none e2 np3)).trans e2
        · rw [nB, if_neg (fun z => z.2 rfl)]
          have e2 := f2 _ _ nBP B1
          exact (upd_ne (ne_of_none e2 np3)).trans e2
        · exact (upd_ne (ne_of_none P2 np3)).trans P2
        · rw [upd_same, nT, if_pos (fun z => by rw [show hA (Let.ask r u).to (bef bs (Let.ask r u).to) (.ask r u) = _ from ea] at z; cases z)]
          rfl
    | answer r u m =>
      refine ⟨_, rfl, lt, _, 0, .str "answer", rfl, rfl, SqT.of lt1, rfl, rfl, _, rfl, ?_⟩
      rw [show decide (V.str "answer" = V.str "tell") = false by decide +kernel]
      refine iteF ⟨_, rfl, lt, _, 0, .str "answer", rfl, rfl, SqT.of lt1, rfl, rfl, _, rfl, ?_⟩
      rw [show decide (V.str "answer" = V.str "ask") = false by decide +kernel]
      refine iteF ⟨_, rfl, _, rfl, dN, _, rfl, dget_of N1 hx, _, rfl, rfl, _, rfl, ite2 (fun e => ?_) (fun e => ?_)⟩
      · have e : x = u := V.int.inj (of_decide_eq_true e)
        refine ⟨_, rfl, _, rfl, _, rfl, lt, _, 3, .int m, rfl, rfl, SqT.of lt1, rfl, _, rfl, n, r, m, u, rfl, hn, _, rfl, ite2 (fun f => ?_) (fun f => ?_)⟩
        · have f := of_decide_eq_true f
          have g : Z.hN n r x (.answer r u m) = m := if_pos ⟨e, f⟩
          have mx : m ≠ x := by rw [e]; exact far_ne2 f
          refine ⟨_, rfl, lt, _, 3, .int m, rfl, rfl, SqT.of lt1, rfl, _, rfl, _, rfl, dN, _, rfl, DPut.k (k := Sum.inl r) N1 (small1000' (by omega)), ?_⟩
          have f2 : ∀ a o, a ≠ dN → H1 a = some o → upd H1 dN (.dK (putK nx (.inl r) (.int m))) a = some o := fun a o na e => (upd_ne na).trans e
          have N2 : upd H1 dN (.dK (putK nx (.inl r) (.int m))) dN = some (.dK (putK nx (.inl r) (.int m))) := upd_same
          have lt2 := f2 _ _ nln lt1
          refine ⟨_, rfl, _, rfl, lt, _, 3, .int m, rfl, rfl, SqT.of lt2, rfl, lenL (by show 3 ≤ 100000; decide), fun p np => ?_⟩
          have np : upd H1 dN (.dK (putK nx (.inl r) (.int m))) p = none := np
          refine q _ _ (ps.eraseIdx k) rfl (fun a o n1 n2 n3 e => ?_) ?_ ?_ ?_ ⟨p, rfl, ?_⟩
          · have e2 := f2 _ _ n1 (f1 a o n3 e)
            exact (upd_ne (ne_of_none e2 np)).trans e2
          · rw [nN, if_pos ⟨rfl, rfl, fun z => mx (by rw [← z]; exact g.symm)⟩, show Z.hN n (Let.answer r u m).to x (.answer r u m) = m from g]
            exact (upd_ne (ne_of_none N2 np)).trans N2
          · rw [nB, if_neg (fun z => z.2 rfl)]
            have e2 := f2 _ _ ne.symm B1
            exact (upd_ne (ne_of_none e2 np)).trans e2
          · have e2 := f2 _ _ nNP.symm P1
            exact (upd_ne (ne_of_none e2 np)).trans e2
          · rw [upd_same, nT, if_neg (fun z => z rfl), if_neg (fun z => z rfl), if_pos (fun z => mx (by rw [← z]; exact g.symm)), show Z.hN n (Let.answer r u m).to x (.answer r u m) = m from g]
        · exact ⟨_, rfl, lenL (by show 3 ≤ 100000; decide), kept rfl rfl (if_neg (fun z => f (decide_eq_true z.2)))⟩
      · exact ⟨_, rfl, lenL (by show 3 ≤ 100000; decide), kept rfl rfl (if_neg (fun z => e (decide_eq_true (congrArg V.int z.1))))⟩
def LetSame (H : Hp) (ks : List Int) (a b : V) : Prop := ∃ (p q : Addr) (L : Let), a = .ref p ∧ b = .ref q ∧ H p = some (.tup L.vals) ∧ H q = some (.tup L.vals) ∧ ∀ k ∈ L.ns, k ∈ ks
def Alike (R : V → V → Prop) (xs ys : List V) : Prop := xs.length = ys.length ∧ ∀ (i : Nat) x y, xs[i]? = some x → ys[i]? = some y → R x y
theorem Alike.mono {R R' : V → V → Prop} {xs ys : List V} (h : Alike R xs ys) (f : ∀ x y, R x y → R' x y) : Alike R' xs ys := ⟨h.1, fun i x y e1 e2 => f _ _ (h.2 i x y e1 e2)⟩
theorem Alike.erase {R : V → V → Prop} {xs ys : List V} (h : Alike R xs ys) (k : Nat) : Alike R (xs.eraseIdx k) (ys.eraseIdx k) := by
  refine ⟨by rw [List.length_eraseIdx, List.length_eraseIdx, h.1], fun i x y e1 e2 => ?_⟩
  rw [List.getElem?_eraseIdx] at e1 e2
  split at e1
  · rename_i g
    rw [if_pos g] at e2
    exact h.2 _ _ _ e1 e2
  · rename_i g
    rw [if_neg g] at e2
    exact h.2 _ _ _ e1 e2
theorem Alike.app {R : V → V → Prop} {xs ys : List V} {a b : V} (h : Alike R xs ys) (r : R a b) : Alike R (xs ++ [a]) (ys ++ [b]) := by
  refine ⟨by rw [List.length_append, List.length_append, h.1]; rfl, fun i x y e1 e2 => ?_⟩
  rw [List.getElem?_append] at e1 e2
  by_cases g : i < xs.length
  · rw [if_pos g] at e1
    rw [if_pos (by rw [← h.1]; exact g)] at e2
    exact h.2 _ _ _ e1 e2
  · rw [if_neg g] at e1
    rw [if_neg (by rw [← h.1]; exact g)] at e2
    have e0 : i - xs.length = 0 := by
      have := (List.getElem?_eq_some_iff.mp e1).1
      simp only [List.length_cons, List.length_nil] at this
      omega
    rw [e0] at e1
    rw [← h.1, e0] at e2
    cases e1
    cases e2
    exact r
theorem Alike.get {R : V → V → Prop} {xs ys : List V} (h : Alike R xs ys) {k : Nat} (hk : k < xs.length) : ∃ a b, xs[k]? = some a ∧ ys[k]? = some b ∧ R a b := by
  have h2 : k < ys.length := by rw [← h.1]; exact hk
  exact ⟨_, _, List.getElem?_eq_getElem hk, List.getElem?_eq_getElem h2, h.2 k _ _ (List.getElem?_eq_getElem hk) (List.getElem?_eq_getElem h2)⟩
theorem LetSame.mono {H H' : Hp} {ks ks' : List Int} {a b : V} (h : LetSame H ks a b) (f : ∀ p xs, H p = some (.tup xs) → H' p = some (.tup xs)) (g : ∀ k ∈ ks, k ∈ ks') : LetSame H' ks' a b :=
  let ⟨p, q, L, e1, e2, e3, e4, e5⟩ := h
  ⟨p, q, L, e1, e2, f _ _ e3, f _ _ e4, fun k hk => g _ (e5 k hk)⟩
theorem vals_atom (L : Let) : L.vals.length ≤ 100000 ∧ ∀ y ∈ L.vals, atomV y = true := by
  cases L <;> exact ⟨by simp only [Let.vals, List.length_cons, List.length_nil]; omega, by simp [Let.vals, atomV]⟩
theorem tup_same {H : Hp} {a b : Addr} {xs : List V} (h1 : H a = some (.tup xs)) (h2 : H b = some (.tup xs)) (hl : xs.length ≤ 100000) (ha : ∀ y ∈ xs, atomV y = true) : Sm K 2 H (.ref a) (.ref b) :=
  .tup (SqT.of h1) (SqT.of h2) rfl hl fun i x y hx hy => by
    rw [hx] at hy
    cases hy
    exact .atom (ha x (List.mem_of_getElem? hx))
theorem LetSame.sm {H : Hp} {ks : List Int} {a b : V} (h : LetSame H ks a b) : Sm K 2 H a b := by
  obtain ⟨p, q, L, rfl, rfl, e3, e4, _⟩ := h
  exact tup_same e3 e4 (vals_atom L).1 (vals_atom L).2
theorem LetSame.sm' {H : Hp} {ks : List Int} {a b : V} (h : LetSame H ks a b) : Sm K 2 H b a := by
  obtain ⟨p, q, L, rfl, rfl, e3, e4, _⟩ := h
  exact tup_same e4 e3 (vals_atom L).1 (vals_atom L).2
theorem bef_ok {bs : List (Key × V)} {k : Int} (h : ∀ (p : Int) v, valV bs (.inl p) = some v → ∃ x : Int, v = .int x) : okB (bef bs k) := by
  unfold bef
  cases e : valV bs (.inl k) with
  | none => exact .inl rfl
  | some v =>
    obtain ⟨x, rfl⟩ := h _ _ e
    exact .inr ⟨x, rfl⟩
theorem tape_at {H : Hp} {t c : Addr} (h : Tape H t c) : (∃ xs, H t = some (.lst xs)) ∧ ∃ xs, H c = some (.lst xs) := by
  obtain ⟨_, _, _, _, _, e1, e2, _⟩ := h
  exact ⟨⟨_, e1⟩, ⟨_, e2⟩⟩
theorem hf_nf {n n' p x : Int} {b : V} {dn db dl : Addr} (h : hf n p x b = nf n' dn db dl) : False := by
  unfold hf nf at h
  have h1 := (List.cons.inj (List.cons.inj h).2).1
  have h2 : ("place" : Str) = "_nexts" := (Prod.mk.inj h1).1
  exact absurd h2 (by decide +kernel)
theorem keys_putK_old {kvs : List (Key × V)} {k : Key} {v : V} (h : (valV kvs k).isSome = true) : (putK kvs k v).map (·.1) = kvs.map (·.1) := by
  unfold putK
  rw [if_pos (by rw [valV_any]; exact h), List.map_map]
  refine List.map_congr_left fun kv _ => ?_
  show (if kv.1 = k then (kv.1, v) else kv).1 = kv.1
  split <;> rfl
theorem nN_val {n r x j : Int} {b : V} {L : Let} {nx : List (Key × V)} (hx : valV nx (.inl r) = some (.int x)) : valV (nN n r x b L nx) (.inl j) = if j = r then some (.int (hN n r x L)) else valV nx (.inl j) := by
  unfold nN
  split
  · rw [valV_put]
    by_cases e : j = r
    · rw [if_pos e, if_pos (by rw [e])]
    · rw [if_neg e, if_neg (fun z => e (Sum.inl.inj z))]
  · rename_i g
    by_cases e : j = r
    · rw [if_pos e, e, hx]
      have : hN n r x L = x := by
        cases L with
        | tell _ _ => rfl
        | ask _ _ => rfl
        | answer r' u m' => exact Decidable.byContradiction fun z => g ⟨rfl, rfl, z⟩
      rw [this]
    · rw [if_neg e]
theorem nB_val {n r j : Int} {b : V} {L : Let} {bf : List (Key × V)} (hb : valV bf (.inl r) = some b) : valV (nB n r b L bf) (.inl j) = if j = r then some (hB n r b L) else valV bf (.inl j) := by
  unfold nB
  split
  · rw [valV_put]
    by_cases e : j = r
    · rw [if_pos e, if_pos (by rw [e])]
    · rw [if_neg e, if_neg (fun z => e (Sum.inl.inj z))]
  · rename_i g
    by_cases e : j = r
    · rw [if_pos e, e, hb]
      have : hB n r b L = b := by
        cases L with
        | tell r' u => exact Decidable.byContradiction fun z => g ⟨rfl, z⟩
        | ask _ _ => rfl
        | answer _ _ _ => rfl
      rw [this]
    · rw [if_neg e]
theorem nB_bef {n r j : Int} {L : Let} {bs : List (Key × V)} : bef (nB n r (bef bs r) L bs) j = if j = r then hB n r (bef bs r) L else bef bs j := by
  unfold nB
  split
  · rw [bef, valV_put]
    by_cases e : j = r
    · rw [if_pos e, if_pos (by rw [e])]
      rfl
    · rw [if_neg e, if_neg (fun z => e (Sum.inl.inj z))]
      rfl
  · rename_i g
    by_cases e : j = r
    · rw [if_pos e, e]
      have : hB n r (bef bs r) L = bef bs r := by
        cases L with
        | tell r' u => exact Decidable.byContradiction fun z => g ⟨rfl, z⟩
        | ask _ _ => rfl
        | answer _ _ _ => rfl
      rw [this]
    · rw [if_neg e]
theorem hN_mem {n r x : Int} {L : Let} : hN n r x L = x ∨ hN n r x L ∈ L.ns := by
  cases L with
  | tell _ _ => exact .inl rfl
  | ask _ _ => exact .inl rfl
  | answer r' u m =>
    show hAns n r x u m = x ∨ _
    show hAns n r x u m = x ∨ hAns n r x u m ∈ [r', u, m]
    unfold hAns
    split
    · exact .inr (by simp)
    · exact .inl rfl
theorem hB_mem {n r : Int} {b : V} {L : Let} (ob : okB b) : hB n r b L = b ∨ ∃ u ∈ L.ns, hB n r b L = .int u := by
  cases L with
  | tell r' u =>
    show hTell n r u b = b ∨ ∃ u' ∈ [r', u], hTell n r u b = .int u'
    rcases ob with rfl | ⟨z, rfl⟩
    · exact .inr ⟨u, by simp, rfl⟩
    · unfold hTell
      dsimp only
      split
      · exact .inr ⟨u, by simp, rfl⟩
      · exact .inl rfl
  | ask _ _ => exact .inl rfl
  | answer _ _ _ => exact .inl rfl
theorem ne_kind {H : Hp} {a b : Addr} {o u : HO} (h : H a = some o) (g : H b = some u) (e : o ≠ u) : a ≠ b := fun z => by
  rw [z, g] at h
  exact e (Option.some.inj h).symm
theorem nT_head (n r x : Int) (b : V) (L : Let) : ∃ z : Str, atI (nT n r x b L) (0 : Int) = some (.str z) ∧ decide (V.str z = V.str "wrote") = decide (hA r b L ≠ none) := by
  unfold nT
  by_cases e : hA r b L = none
  · rw [if_neg (fun z => z e), decide_eq_false (fun z => z e)]
    split
    · exact ⟨"before", rfl, by decide +kernel⟩
    · split
      · exact ⟨"next", rfl, by decide +kernel⟩
      · exact ⟨"kept", rfl, by decide +kernel⟩
  · rw [if_pos e, decide_eq_true e]
    exact ⟨"wrote", rfl, by decide +kernel⟩
theorem nT_atom {n r x : Int} {b : V} {L : Let} (ob : okB b) : (nT n r x b L).length ≤ 100000 ∧ ∀ y ∈ nT n r x b L, atomV y = true := by
  have ab : atomV (hB n r b L) = true := by
    rcases okB.hB (n := n) (p := r) ob L with h | ⟨z, h⟩ <;> rw [h] <;> rfl
  unfold nT
  split
  · exact ⟨by show 3 ≤ 100000; decide, fun y hy => by
      simp only [List.mem_cons, List.not_mem_nil, or_false] at hy
      rcases hy with rfl | rfl | rfl <;> first | rfl | exact ab⟩
  · split
    · exact ⟨by show 3 ≤ 100000; decide, fun y hy => by
        simp only [List.mem_cons, List.not_mem_nil, or_false] at hy
        rcases hy with rfl | rfl | rfl <;> first | rfl | exact ab⟩
    · split
      · exact ⟨by show 3 ≤ 100000; decide, by simp [atomV]⟩
      · exact ⟨by show 3 ≤ 100000; decide, by simp [atomV]⟩
theorem hA_let {ks : List Int} {r : Int} {b : V} {L : Let} {ys : List V} (h : hA r b L = some ys) (hL : ∀ k ∈ L.ns, k ∈ ks) (hr : r ∈ ks) (hb : ∀ z : Int, b = .int z → z ∈ ks) : ∃ L' : Let, ys = L'.vals ∧ ∀ k ∈ L'.ns, k ∈ ks := by
  cases L with
  | ask r' u =>
    cases b with
    | int z =>
      cases h
      refine ⟨.answer u r z, rfl, fun k hk => ?_⟩
      have hk : k ∈ [u, r, z] := hk
      simp only [List.mem_cons, List.not_mem_nil, or_false] at hk
      rcases hk with rfl | rfl | rfl
      · exact hL _ (by show k ∈ [r', k]; simp)
      · exact hr
      · exact hb _ rfl
    | _ => cases h
  | tell _ _ => cases h
  | answer _ _ _ => cases h
theorem NetAt.but {C a dn db dl z : Addr} {H H' : Hp} {n : Int} {nx bf : List (Key × V)} {ls : List V} (N : NetAt C H a n dn db dl nx bf ls) (k : Kp z H H') (h1 : a ≠ z) (h2 : dn ≠ z) (h3 : db ≠ z) (h4 : dl ≠ z) : NetAt C H' a n dn db dl nx bf ls :=
  ⟨let ⟨dx, e⟩ := N.me; ⟨dx, k _ _ h1 e⟩, k _ _ h2 N.hn, k _ _ h3 N.hb, k _ _ h4 N.hl⟩
theorem perm_sorted_eq : ∀ {xs ys : List Int}, xs.Perm ys → xs.Pairwise (· ≤ ·) → ys.Pairwise (· ≤ ·) → xs = ys
  | [], ys, p, _, _ => by rw [List.nil_perm.mp p]
  | a :: r, [], p, _, _ => by have := p.length_eq; cases this
  | a :: r, b :: s, p, h1, h2 => by
    have ha : a ∈ b :: s := p.mem_iff.mp List.mem_cons_self
    have hb : b ∈ a :: r := p.mem_iff.mpr List.mem_cons_self
    obtain ⟨h3, h4⟩ := List.pairwise_cons.mp h1
    obtain ⟨h5, h6⟩ := List.pairwise_cons.mp h2
    have e : a = b := by
      rcases List.mem_cons.mp ha with e | e
      · exact e
      · rcases List.mem_cons.mp hb with g | g
        · exact g.symm
        · have := h5 a e
          have := h3 b g
          omega
    subst e
    rw [perm_sorted_eq (List.Perm.cons_inv p) h4 h6]
theorem dic_same {K : PySem.W.Frag} {H : Hp} {a b : Addr} {kvs : List (Key × V)} (h1 : H a = some (.dK kvs)) (h2 : H b = some (.dK kvs)) (hl : kvs.length ≤ 100000) (ha : ∀ kv ∈ kvs, atomV kv.2 = true) : Sm K 5 H (.ref a) (.ref b) :=
  .dic h1 h2 rfl hl (fun i x y hx hy => by rw [hx] at hy; cases hy; rfl) fun i x y hx hy => by
    rw [hx] at hy
    cases hy
    exact .atom (ha x (List.mem_of_getElem? hx))
/-! ### ways along the nexts: houses met, lengths, laps -/
def itr (f : Int → Int) (s : Int) : Nat → Int
  | 0 => s
  | i + 1 => f (itr f s i)
def wl (n : Int) (f : Int → Int) (s : Int) : Nat → Int
  | 0 => 0
  | i + 1 => wl n f s i + farL n (itr f s i) (f (itr f s i))
structure Lasso (f : Int → Int) (s : Int) (m : Nat) : Prop where
  dis : ∀ i j, i < m → j < m → itr f s i = itr f s j → i = j
  back : ∃ g, g < m ∧ itr f s m = itr f s g
section
variable {n s d : Int} {f : Int → Int} {ks : List Int} {m : Nat}
theorem itr_mem (cl : ∀ k ∈ ks, f k ∈ ks) (hs : s ∈ ks) : ∀ i, itr f s i ∈ ks
  | 0 => hs
  | i + 1 => cl _ (itr_mem cl hs i)
theorem itr_add (i : Nat) : ∀ j, itr f s (i + j) = itr f (itr f s i) j
  | 0 => rfl
  | j + 1 => congrArg f (itr_add i j)
theorem wl_add (i : Nat) : ∀ j, wl n f s (i + j) = wl n f s i + wl n f (itr f s i) j
  | 0 => (Int.add_zero _).symm
  | j + 1 => by
    show wl n f s (i + j) + farL n (itr f s (i + j)) (f (itr f s (i + j))) = wl n f s i + (wl n f (itr f s i) j + farL n (itr f (itr f s i) j) (f (itr f (itr f s i) j)))
    rw [wl_add i j, itr_add i j]
    omega
theorem wl_pos (h : 0 < n) : ∀ j : Nat, (j : Int) ≤ wl n f s j
  | 0 => Int.le_refl _
  | j + 1 => by
    have := wl_pos h j
    have := (far_range (itr f s j) (f (itr f s j)) h).1
    show ((j + 1 : Nat) : Int) ≤ wl n f s j + farL n (itr f s j) (f (itr f s j))
    omega
theorem wl_lt (h : 0 < n) {i j : Nat} (l : i < j) : wl n f s i < wl n f s j := by
  obtain ⟨t, rfl⟩ : ∃ t, j = i + t := ⟨j - i, by omega⟩
  rw [wl_add]
  have := wl_pos (f := f) (s := itr f s i) h t
  omega
theorem wl_le (h : 0 < n) {i j : Nat} (l : i ≤ j) : wl n f s i ≤ wl n f s j := by
  rcases Nat.lt_or_eq_of_le l with l | rfl
  · exact Int.le_of_lt (wl_lt h l)
  · exact Int.le_refl _
theorem nodup_len : ∀ {l ks : List Int}, l.Nodup → (∀ x ∈ l, x ∈ ks) → l.length ≤ ks.length
  | [], _, _, _ => Nat.zero_le _
  | a :: r, ks, h, hs => by
    obtain ⟨h1, h2⟩ := List.nodup_cons.mp h
    have ha := hs a List.mem_cons_self
    have := nodup_len (l := r) (ks := ks.erase a) h2 fun x hx => (List.mem_erase_of_ne (fun e => h1 (by rw [← e]; exact hx))).mpr (hs x (List.mem_cons_of_mem _ hx))
    rw [List.length_erase_of_mem ha] at this
    have := List.length_pos_of_mem ha
    rw [List.length_cons]
    omega
/-- the houses met so far -/
def met (f : Int → Int) (s : Int) (i : Nat) : List Int := (List.range i).map (itr f s)
theorem met_succ (i : Nat) : met f s (i + 1) = met f s i ++ [itr f s i] := by
  unfold met
  rw [List.range_succ, List.map_append]
  rfl
theorem met_len (i : Nat) : (met f s i).length = i := by unfold met; rw [List.length_map, List.length_range]
theorem met_get {i j : Nat} (h : j < i) : (met f s i)[j]? = some (itr f s j) := by
  unfold met
  rw [List.getElem?_map, List.getElem?_range h]
  rfl
theorem met_mem {i : Nat} {x : Int} : x ∈ met f s i ↔ ∃ j, j < i ∧ itr f s j = x := by
  unfold met
  rw [List.mem_map]
  exact ⟨fun ⟨j, h, e⟩ => ⟨j, List.mem_range.mp h, e⟩, fun ⟨j, h, e⟩ => ⟨j, List.mem_range.mpr h, e⟩⟩
theorem met_nodup_of {i : Nat} (h : ∀ a b, a < i → b < i → itr f s a = itr f s b → a = b) : (met f s i).Nodup := by
  induction i with
  | zero => exact List.nodup_nil
  | succ i ih =>
    rw [met_succ]
    refine List.nodup_append.mpr ⟨ih fun a b ha hb => h a b (by omega) (by omega), by simp, fun x hx y hy e => ?_⟩
    rw [List.mem_singleton] at hy
    obtain ⟨j, hj, ej⟩ := met_mem.mp hx
    have := h j i (by omega) (by omega) (by rw [ej, e, hy])
    omega
theorem met_dis {i : Nat} (h : (met f s i).Nodup) : ∀ a b, a < i → b < i → itr f s a = itr f s b → a = b := fun a b ha hb e => by
  have h1 := met_get (f := f) (s := s) ha
  have h2 := met_get (f := f) (s := s) hb
  have l1 : a < (met f s i).length := by rw [met_len]; exact ha
  have l2 : b < (met f s i).length := by rw [met_len]; exact hb
  rw [List.getElem?_eq_getElem l1] at h1
  rw [List.getElem?_eq_getElem l2] at h2
  exact (List.getElem_inj h).mp (by rw [Option.some.inj h1, Option.some.inj h2, e])
theorem met_le (cl : ∀ k ∈ ks, f k ∈ ks) (hs : s ∈ ks) {i : Nat} (h : (met f s i).Nodup) : i ≤ ks.length := by
  have := nodup_len (ks := ks) h fun x hx => let ⟨j, _, e⟩ := met_mem.mp hx; e ▸ itr_mem cl hs j
  rw [met_len] at this
  exact this
theorem Lasso.of (h : (met f s m).Nodup) (hm : itr f s m ∈ met f s m) : Lasso f s m := ⟨met_dis h, let ⟨g, l, e⟩ := met_mem.mp hm; ⟨g, l, e.symm⟩⟩
theorem Lasso.nodup (L : Lasso f s m) : (met f s m).Nodup := met_nodup_of L.dis
theorem Lasso.le (L : Lasso f s m) (cl : ∀ k ∈ ks, f k ∈ ks) (hs : s ∈ ks) : m ≤ ks.length := met_le cl hs L.nodup
theorem Lasso.pos (L : Lasso f s m) : 0 < m := let ⟨_, l, _⟩ := L.back; by omega
theorem lap_itr {g m : Nat} (e : itr f s m = itr f s g) (t : Nat) : itr f s (m + t) = itr f s (g + t) := by rw [itr_add, itr_add, e]
theorem lap_wl {g m : Nat} (e : itr f s m = itr f s g) (t : Nat) : wl n f s (m + t) = wl n f s (g + t) + (wl n f s m - wl n f s g) := by
  rw [wl_add, wl_add, e]
  omega
theorem laps_itr {g p : Nat} (e : itr f s (g + p) = itr f s g) (t : Nat) : ∀ c : Nat, itr f s (g + t + c * p) = itr f s (g + t)
  | 0 => by rw [Nat.zero_mul, Nat.add_zero]
  | c + 1 => by
    rw [Nat.succ_mul, show g + t + (c * p + p) = g + p + (t + c * p) by omega, lap_itr e, show g + (t + c * p) = g + t + c * p by omega, laps_itr e t c]
theorem laps_wl {g p : Nat} (e : itr f s (g + p) = itr f s g) (t : Nat) : ∀ c : Nat, wl n f s (g + t + c * p) = wl n f s (g + t) + c * (wl n f s (g + p) - wl n f s g)
  | 0 => by rw [Nat.zero_mul, Nat.add_zero]; omega
  | c + 1 => by
    rw [Nat.succ_mul, show g + t + (c * p + p) = g + p + (t + c * p) by omega, lap_wl e, show g + (t + c * p) = g + t + c * p by omega, laps_wl e t c, Int.natCast_succ, Int.add_mul, Int.one_mul]
    omega
theorem Lasso.all (L : Lasso f s m) : ∀ k, ∃ i, i < m ∧ itr f s k = itr f s i
  | 0 => ⟨0, L.pos, rfl⟩
  | k + 1 => by
    obtain ⟨i, hi, e⟩ := L.all k
    by_cases h : i + 1 < m
    · exact ⟨i + 1, h, congrArg f e⟩
    · obtain ⟨g, hg, eg⟩ := L.back
      have : m = i + 1 := by omega
      subst this
      exact ⟨g, hg, (congrArg f e).trans eg⟩
theorem far_dvd (a b : Int) (h : 0 < n) : ∃ q, farL n a b = b - a + n * q := by
  rw [far_emod a b h]
  have e := Int.emod_add_mul_ediv (b - a - 1) n
  refine ⟨- ((b - a - 1) / n), ?_⟩
  rw [Int.mul_neg]
  omega
theorem wl_dvd (h : 0 < n) : ∀ j : Nat, ∃ q, wl n f s j = itr f s j - s + n * q
  | 0 => ⟨0, by show (0 : Int) = s - s + n * 0; omega⟩
  | j + 1 => by
    obtain ⟨q, e⟩ := wl_dvd h j
    obtain ⟨r, e2⟩ := far_dvd (itr f s j) (f (itr f s j)) h
    refine ⟨q + r, ?_⟩
    show wl n f s j + farL n (itr f s j) (f (itr f s j)) = f (itr f s j) - s + n * (q + r)
    rw [e, e2, Int.mul_add]
    omega
/-- as many steps as there are houses go round at least once -/
theorem wl_round (h : 0 < n) (cl : ∀ k ∈ ks, f k ∈ ks) (hs : s ∈ ks) : n ≤ wl n f s ks.length := by
  have : ¬ (met f s (ks.length + 1)).Nodup := fun z => by
    have := met_le cl hs z
    omega
  have : ∃ a b, a < b ∧ b ≤ ks.length ∧ itr f s a = itr f s b := by
    refine Classical.byContradiction fun no => this (met_nodup_of fun a b ha hb e => ?_)
    rcases Nat.lt_trichotomy a b with l | l | l
    · exact (no ⟨a, b, l, by omega, e⟩).elim
    · exact l
    · exact (no ⟨b, a, l, by omega, e.symm⟩).elim
  obtain ⟨a, b, hab, hb, e⟩ := this
  obtain ⟨q, eq⟩ := wl_dvd (f := f) (s := itr f s a) h (b - a)
  have e2 : itr f (itr f s a) (b - a) = itr f s a := by rw [← itr_add, show a + (b - a) = b by omega, e]
  have e3 : wl n f s b = wl n f s a + wl n f (itr f s a) (b - a) := by rw [← wl_add, show a + (b - a) = b by omega]
  have p1 := wl_pos (f := f) (s := itr f s a) h (b - a)
  have p2 := wl_pos (f := f) (s := s) h a
  have p3 := wl_le (f := f) (s := s) h hb
  have eq : wl n f (itr f s a) (b - a) = n * q := by omega
  have : 1 ≤ q := by
    refine Classical.byContradiction fun z => ?_
    have : n * q ≤ 0 := Int.mul_nonpos_of_nonneg_of_nonpos (by omega) (by omega)
    omega
  have : n * 1 ≤ n * q := Int.mul_le_mul_of_nonneg_left this (by omega)
  omega
theorem wl_rounds (h : 0 < n) (cl : ∀ k ∈ ks, f k ∈ ks) (hs : s ∈ ks) : ∀ q : Nat, n * q ≤ wl n f s (ks.length * q)
  | 0 => by rw [Nat.mul_zero]; show n * 0 ≤ 0; omega
  | q + 1 => by
    have h1 := wl_rounds h cl hs q
    have h2 := wl_round (f := f) h cl (itr_mem cl hs (ks.length * q))
    rw [Nat.mul_succ, wl_add, Int.natCast_succ, Int.mul_add]
    omega
/-- where the way has at least the distance d first -/
def FirstAt (n : Int) (f : Int → Int) (s d : Int) (K : Nat) : Prop := d ≤ wl n f s K ∧ ∀ k, k < K → wl n f s k < d
theorem FirstAt.uniq (h : 0 < n) {a b : Nat} (x : FirstAt n f s d a) (y : FirstAt n f s d b) : a = b := by
  rcases Nat.lt_trichotomy a b with l | l | l
  · have := y.2 a l
    have := x.1
    omega
  · exact l
  · have := x.2 b l
    have := y.1
    omega
theorem firstAt_of (h : 0 < n) {K : Nat} (h1 : d ≤ wl n f s K) (h2 : K = 0 ∨ wl n f s (K - 1) < d) : FirstAt n f s d K := by
  refine ⟨h1, fun k hk => ?_⟩
  rcases h2 with rfl | h2
  · omega
  · exact Int.lt_of_le_of_lt (wl_le h (by omega)) h2
/-- whole laps need not be walked -/
theorem laps_first (h : 0 < n) {g j : Nat} (hg : g < m) (e : itr f s m = itr f s g) (hj : j ≤ m) (h1 : ∀ i, i < j → wl n f s i + max 0 (d - wl n f s g) / (wl n f s m - wl n f s g) * (wl n f s m - wl n f s g) < d)
    (h2 : j < m → d ≤ wl n f s j + max 0 (d - wl n f s g) / (wl n f s m - wl n f s g) * (wl n f s m - wl n f s g)) :
    ∃ K, FirstAt n f s d K ∧ itr f s K = itr f s j ∧ wl n f s K = wl n f s j + max 0 (d - wl n f s g) / (wl n f s m - wl n f s g) * (wl n f s m - wl n f s g) := by
  have lp := wl_lt (f := f) (s := s) h hg
  generalize ew : wl n f s m - wl n f s g = lap at *
  have lp : 0 < lap := by omega
  have q0 : 0 ≤ max 0 (d - wl n f s g) / lap := Int.ediv_nonneg (by omega) (by omega)
  have qe := Int.emod_add_mul_ediv (max 0 (d - wl n f s g)) lap
  have r0 := Int.emod_nonneg (max 0 (d - wl n f s g)) (by omega : lap ≠ 0)
  have r1 := Int.emod_lt_of_pos (max 0 (d - wl n f s g)) lp
  generalize max 0 (d - wl n f s g) / lap = q at *
  generalize max 0 (d - wl n f s g) % lap = r at *
  obtain ⟨c, rfl⟩ : ∃ c : Nat, q = c := ⟨q.toNat, by omega⟩
  rw [Int.mul_comm lap] at qe
  generalize ec : (c : Int) * lap = skip at *
  have k2 : d ≤ wl n f s j + skip := by
    by_cases l : j < m
    · exact h2 l
    · have : j = m := by omega
      subst this
      omega
  by_cases c0 : c = 0
  · subst c0
    have : skip = 0 := by rw [← ec]; exact Int.zero_mul _
    subst this
    exact ⟨j, ⟨by omega, fun k hk => by have := h1 k hk; omega⟩, rfl, by omega⟩
  · have : lap ≤ skip := by
      rw [← ec]
      have : (1 : Int) * lap ≤ c * lap := Int.mul_le_mul_of_nonneg_right (by omega) (by omega)
      omega
    have dg : wl n f s g + skip ≤ d := by omega
    have jg : g ≤ j := by
      refine Classical.byContradiction fun z => ?_
      have := wl_lt (f := f) (s := s) h (show j < g by omega)
      omega
    obtain ⟨t, rfl⟩ : ∃ t, j = g + t := ⟨j - g, by omega⟩
    obtain ⟨p, rfl⟩ : ∃ p, m = g + p := ⟨m - g, by omega⟩
    have e1 := laps_itr e t c
    have e2 := laps_wl (n := n) e t c
    rw [ew, ec] at e2
    refine ⟨g + t + c * p, firstAt_of h (by omega) ?_, e1, e2⟩
    by_cases t0 : t = 0
    · subst t0
      right
      have := wl_lt (f := f) (s := s) h (show g + 0 + c * p - 1 < g + 0 + c * p by
        have : 0 < c * p := Nat.mul_pos (by omega) (by omega)
        omega)
      rw [e2] at this
      have e0 : wl n f s (g + 0) = wl n f s g := rfl
      omega
    · right
      have e3 := laps_wl (n := n) e (t - 1) c
      rw [ew, ec] at e3
      rw [show g + t + c * p - 1 = g + (t - 1) + c * p by omega, e3]
      exact h1 _ (by omega)
end
--CUT
/-! ### the two calm rounds, in plain words -/
def iN (nx : List (Key × V)) (y : Int) : Int := match valV nx (.inl y) with | some (.int x) => x | _ => 0
def zO : V → Int | .int z => z | _ => 0
theorem iN_of {nx : List (Key × V)} {y x : Int} (h : valV nx (.inl y) = some (.int x)) : iN nx y = x := by unfold iN; rw [h]
def tellB (n : Int) (nx bs : List (Key × V)) (y : Int) : List (Key × V) := nB n (iN nx y) (bef bs (iN nx y)) (.tell (iN nx y) y) bs
def tells (n : Int) (nx bs : List (Key × V)) (ys : List Int) : List (Key × V) := ys.foldl (tellB n nx) bs
def askL (bs nx : List (Key × V)) (y : Int) : Let := .answer y (iN nx y) (zO (bef bs (iN nx y)))
def askS (n : Int) (bs : List (Key × V)) (s : List (Key × V) × Int) (y : Int) : List (Key × V) × Int := (nN n y (iN s.1 y) (bef bs y) (askL bs s.1 y) s.1, if hN n y (iN s.1 y) (askL bs s.1 y) = iN s.1 y then s.2 else s.2 + 1)
def asks (n : Int) (bs nx : List (Key × V)) (ys : List Int) : List (Key × V) × Int := ys.foldl (askS n bs) (nx, 0)
/-- befores of houses alone -/
def GB (ks : List Int) (bs : List (Key × V)) : Prop := ∀ (p : Int) v, valV bs (.inl p) = some v → p ∈ ks ∧ ∃ x ∈ ks, v = .int x
def GN (ks : List Int) (nx : List (Key × V)) : Prop := nx.map (·.1) = ks.map Sum.inl ∧ ∀ k ∈ ks, ∃ x ∈ ks, valV nx (.inl k) = some (.int x)
def KB (bs : List (Key × V)) : Prop := ∃ js : List Int, bs.map (·.1) = js.map Sum.inl ∧ js.Nodup
theorem tells_succ {n : Int} {nx bs : List (Key × V)} {ys : List Int} {i : Nat} {y : Int} (h : ys[i]? = some y) : tells n nx bs (ys.take (i + 1)) = tellB n nx (tells n nx bs (ys.take i)) y := by
  unfold tells
  rw [List.take_add_one, h, Option.toList_some, List.foldl_append]
  rfl
theorem asks_succ {n : Int} {nx bs : List (Key × V)} {ys : List Int} {i : Nat} {y : Int} (h : ys[i]? = some y) : asks n bs nx (ys.take (i + 1)) = askS n bs (asks n bs nx (ys.take i)) y := by
  unfold asks
  rw [List.take_add_one, h, Option.toList_some, List.foldl_append]
  rfl
theorem GB.nB {ks : List Int} {bs : List (Key × V)} {n r : Int} {L : Let} (g : GB ks bs) (hL : ∀ k ∈ L.ns, k ∈ ks) (hr : r ∈ ks) : GB ks (nB n r (bef bs r) L bs) := fun p v e => by
  unfold Z.nB at e
  split at e
  · rename_i h
    rw [valV_put] at e
    by_cases z : p = r
    · rw [if_pos (by rw [z])] at e
      obtain ⟨u, mu, eu⟩ := (hB_mem (n := n) (r := r) (L := L) (bef_ok fun p v e => let ⟨_, x, _, e2⟩ := g p v e; ⟨x, e2⟩)).resolve_left h.2
      exact ⟨by rw [z]; exact hr, u, hL _ mu, by rw [← Option.some.inj e, eu]⟩
    · rw [if_neg (fun y => z (Sum.inl.inj y))] at e
      exact g p v e
  · exact g p v e
theorem GB.ok {ks : List Int} {bs : List (Key × V)} (g : GB ks bs) (k : Int) : okB (bef bs k) := bef_ok fun p v e => let ⟨_, x, _, e2⟩ := g p v e; ⟨x, e2⟩
theorem GB.some {ks : List Int} {bs : List (Key × V)} (g : GB ks bs) {k : Int} (h : bef bs k ≠ .non) : ∃ z ∈ ks, bef bs k = .int z := by
  unfold bef at h ⊢
  cases e : valV bs (.inl k) with
  | none => rw [e] at h; exact absurd rfl h
  | some v =>
    obtain ⟨_, x, mx, ex⟩ := g k v e
    exact ⟨x, mx, ex⟩
theorem valV_mem_keys {kvs : List (Key × V)} {js : List Int} {p : Int} (h : kvs.map (·.1) = js.map Sum.inl) (hp : p ∈ js) : (valV kvs (.inl p)).isSome = true := by
  induction kvs generalizing js with
  | nil =>
    cases js with
    | nil => cases hp
    | cons a b => cases h
  | cons kv r ih =>
    cases js with
    | nil => cases hp
    | cons j js =>
      obtain ⟨k, v⟩ := kv
      have h1 : k = Sum.inl j := (List.cons.inj h).1
      by_cases e : p = j
      · rw [valV_pos (by rw [h1, e])]
        rfl
      · rw [valV_neg (by rw [h1]; exact fun z => e (Sum.inl.inj z).symm)]
        exact ih (List.cons.inj h).2 ((List.mem_cons.mp hp).resolve_left e)
theorem KB.put {bs : List (Key × V)} {r : Int} {v : V} (h : KB bs) : KB (putK bs (.inl r) v) := by
  obtain ⟨js, e, nd⟩ := h
  by_cases m : r ∈ js
  · exact ⟨js, by rw [keys_putK_old (valV_mem_keys e m)]; exact e, nd⟩
  · refine ⟨js ++ [r], ?_, List.nodup_append.mpr ⟨nd, List.pairwise_singleton _ _, fun a ha b hb z => by rw [List.mem_singleton.mp hb] at z; rw [z] at ha; exact m ha⟩⟩
    rw [putK_new _ (valV_none_keys e m), List.map_append, List.map_append, e]
    rfl
theorem KB.nB {bs : List (Key × V)} {n r : Int} {b : V} {L : Let} (h : KB bs) : KB (nB n r b L bs) := by
  unfold Z.nB
  split
  · exact h.put
  · exact h
theorem GN.nN {ks : List Int} {nx : List (Key × V)} {n r x : Int} {b : V} {L : Let} (g : GN ks nx) (hL : ∀ k ∈ L.ns, k ∈ ks) (hr : r ∈ ks) (hx : valV nx (.inl r) = some (.int x)) : GN ks (nN n r x b L nx) := by
  refine ⟨?_, fun j hj => ?_⟩
  · unfold Z.nN
    split
    · rw [keys_putK_old (by rw [hx]; rfl)]
      exact g.1
    · exact g.1
  · rw [nN_val hx]
    by_cases e : j = r
    · rw [if_pos e]
      refine ⟨_, ?_, rfl⟩
      rcases hN_mem (n := n) (r := r) (x := x) (L := L) with z | z
      · rw [z]
        obtain ⟨y, my, ey⟩ := g.2 _ hr
        rw [hx] at ey
        rw [V.int.inj (Option.some.inj ey)]
        exact my
      · exact hL _ z
    · rw [if_neg e]
      exact g.2 j hj
theorem nodup_sub_len : ∀ {js ks : List Int}, js.Nodup → (∀ j ∈ js, j ∈ ks) → js.length ≤ ks.length
  | [], ks, _, _ => Nat.zero_le _
  | j :: js, ks, nd, h => by
    obtain ⟨h1, h2⟩ := List.nodup_cons.mp nd
    have m := h j List.mem_cons_self
    have := nodup_sub_len (js := js) (ks := ks.erase j) h2 fun k hk => (List.mem_erase_of_ne (fun z => h1 (by rw [← z]; exact hk))).mpr (h k (List.mem_cons_of_mem _ hk))
    rw [List.length_erase_of_mem m] at this
    have := List.length_pos_of_mem m
    show js.length + 1 ≤ ks.length
    omega
theorem KB.len {ks : List Int} {bs : List (Key × V)} (h : KB bs) (g : GB ks bs) : bs.length ≤ ks.length := by
  obtain ⟨js, e, nd⟩ := h
  have l : bs.length = js.length := by have := congrArg List.length e; rw [List.length_map, List.length_map] at this; exact this
  rw [l]
  refine nodup_sub_len nd fun j hj => ?_
  obtain ⟨v, hv⟩ := Option.isSome_iff_exists.mp (valV_mem_keys e hj)
  exact (g j v hv).1
theorem tell_bef {n : Int} {nx bs : List (Key × V)} {y k : Int} : bef (tellB n nx bs y) k = if k = iN nx y then hTell n (iN nx y) y (bef bs (iN nx y)) else bef bs k := nB_bef
theorem hTell_some {n p u : Int} {b : V} : hTell n p u b ≠ .non := by
  cases b with
  | int z =>
    unfold hTell
    dsimp only
    split <;> exact fun z => nomatch z
  | _ => exact fun z => nomatch z
theorem tells_keep {n : Int} {nx : List (Key × V)} {k : Int} : ∀ {ys : List Int} {bs : List (Key × V)}, bef bs k ≠ .non → bef (tells n nx bs ys) k ≠ .non
  | [], _, h => h
  | y :: ys, bs, h => by
    show bef (tells n nx (tellB n nx bs y) ys) k ≠ .non
    refine tells_keep ?_
    rw [tell_bef]
    split
    · exact hTell_some
    · exact h
theorem tells_has {n : Int} {nx : List (Key × V)} {y : Int} : ∀ {ys : List Int} {bs : List (Key × V)}, y ∈ ys → bef (tells n nx bs ys) (iN nx y) ≠ .non
  | a :: ys, bs, h => by
    show bef (tells n nx (tellB n nx bs a) ys) (iN nx y) ≠ .non
    by_cases e : y = a
    · subst e
      refine tells_keep ?_
      rw [tell_bef, if_pos rfl]
      exact hTell_some
    · exact tells_has ((List.mem_cons.mp h).resolve_left e)
section
variable {ks : List Int} {n : Int} {nx bs : List (Key × V)}
theorem tells_all (gn : GN ks nx) : ∀ {ys : List Int} {bs : List (Key × V)}, (∀ y ∈ ys, y ∈ ks) → GB ks bs → KB bs → GB ks (tells n nx bs ys) ∧ KB (tells n nx bs ys)
  | [], _, _, g, k => ⟨g, k⟩
  | y :: ys, bs, h, g, k => by
    have hy := h y List.mem_cons_self
    obtain ⟨x, mx, ex⟩ := gn.2 y hy
    show GB ks (tells n nx (tellB n nx bs y) ys) ∧ KB (tells n nx (tellB n nx bs y) ys)
    refine tells_all gn (ys := ys) (fun z hz => h z (List.mem_cons_of_mem _ hz)) (GB.nB g (fun k hk => ?_) (by rw [iN_of ex]; exact mx)) k.nB
    have hk : k ∈ [iN nx y, y] := hk
    simp only [List.mem_cons, List.not_mem_nil, or_false] at hk
    rcases hk with rfl | rfl
    · rw [iN_of ex]; exact mx
    · exact hy
/-- what the befores of the net and those beside say alike -/
def VF (ks : List Int) (bf bs : List (Key × V)) : Prop := ∀ k ∈ ks, valV bf (.inl k) = some (bef bs k)
theorem VF.nB {bf : List (Key × V)} {r : Int} {L : Let} (h : VF ks bf bs) (hr : r ∈ ks) : VF ks (nB n r (bef bs r) L bf) (nB n r (bef bs r) L bs) := fun j hj => by
  rw [nB_val (h _ hr), nB_bef]
  by_cases e : j = r
  · rw [if_pos e, if_pos e]
  · rw [if_neg e, if_neg e]
    exact h j hj
theorem nB_len {bf : List (Key × V)} {r : Int} {b : V} {L : Let} (h : (valV bf (.inl r)).isSome = true) : (nB n r b L bf).length = bf.length := by
  unfold Z.nB
  split
  · have := congrArg List.length (keys_putK_old (v := hB n r b L) h)
    rw [List.length_map, List.length_map] at this
    exact this
  · rfl
end
/-! ### a walk over a dict that has just been made -/
def tLk (td : TE) : TE := fun σ H Q => td σ H fun x H1 => ∃ (d : Addr) (kvs : List (Key × V)), x = .ref d ∧ H1 d = some (.dK kvs) ∧ ∀ o, Q x (upd H1 d (.frz o (.dK kvs)))
theorem pe_lk {X : Cx} {e : Expr} {td : TE} (he : PE X e td) : PE X e (tLk td) := by
  refine ⟨fun pins s σ H Q I h => ?_⟩
  refine thn (he.run pins s σ _ _ I h) fun u s1 ⟨x, H1, I1, r, d, kvs, ex, hd, q⟩ => ?_
  obtain ⟨od, I2⟩ := I1.lock hd trivial
  exact ⟨x, _, I2, r, q od⟩
/-- rows of tuples -/
def LAt {α : Type} (f : α → List V) (H : Hp) (vs : List V) (qs : List α) : Prop := vs.length = qs.length ∧ ∀ (i : Nat) v q, vs[i]? = some v → qs[i]? = some q → ∃ a, v = V.ref a ∧ H a = some (.tup (f q))
section
variable {α : Type} {f : α → List V} {H H' : Hp} {vs us : List V} {qs ps : List α}
theorem LAt.nil : LAt f H [] ([] : List α) := ⟨rfl, fun i v q h => by simp at h⟩
theorem LAt.mono (h : LAt f H vs qs) (k : ∀ a xs, H a = some (.tup xs) → H' a = some (.tup xs)) : LAt f H' vs qs := ⟨h.1, fun i v q e1 e2 => let ⟨a, e3, e4⟩ := h.2 i v q e1 e2; ⟨a, e3, k _ _ e4⟩⟩
theorem LAt.same (h : LAt f H vs qs) (s : Same H H') : LAt f H' vs qs := h.mono fun _ _ e => s _ _ e
theorem LAt.cat (h : LAt f H vs qs) (g : LAt f H us ps) : LAt f H (vs ++ us) (qs ++ ps) := by
  refine ⟨by rw [List.length_append, List.length_append, h.1, g.1], fun i v q e1 e2 => ?_⟩
  rw [List.getElem?_append] at e1 e2
  by_cases z : i < vs.length
  · rw [if_pos z] at e1
    rw [if_pos (by rw [← h.1]; exact z)] at e2
    exact h.2 i v q e1 e2
  · rw [if_neg z] at e1
    rw [if_neg (by rw [← h.1]; exact z), ← h.1] at e2
    exact g.2 _ v q e1 e2
theorem LAt.one {a : Addr} {q : α} (e : H a = some (.tup (f q))) : LAt f H [.ref a] [q] := ⟨rfl, fun i v q' e1 e2 => by
  match i with
  | 0 => cases e1; cases e2; exact ⟨a, rfl, e⟩
  | i + 1 => simp at e1⟩
theorem LAt.app {a : Addr} {q : α} (h : LAt f H vs qs) (e : H a = some (.tup (f q))) : LAt f H (vs ++ [.ref a]) (qs ++ [q]) := h.cat (.one e)
theorem LAt.at (h : LAt f H vs qs) {i : Nat} {v : V} (e : vs[i]? = some v) : ∃ a q, qs[i]? = some q ∧ v = .ref a ∧ H a = some (.tup (f q)) := by
  have hi : i < qs.length := by rw [← h.1]; exact (List.getElem?_eq_some_iff.mp e).1
  obtain ⟨a, e1, e2⟩ := h.2 i v _ e (List.getElem?_eq_getElem hi)
  exact ⟨a, _, List.getElem?_eq_getElem hi, e1, e2⟩
theorem LAt.sm {K : PySem.W.Frag} (h : LAt f H vs qs) (g : LAt f H us qs) (ha : ∀ q ∈ qs, (f q).length ≤ 100000 ∧ ∀ y ∈ f q, atomV y = true) : ∀ (i : Nat) x y, vs[i]? = some x → us[i]? = some y → Sm K 2 H x y := fun i x y hx hy => by
  obtain ⟨a, q, e0, rfl, e1⟩ := h.at hx
  obtain ⟨b, e2, e3⟩ := g.2 i y q hy e0
  rw [e2]
  exact tup_same e1 e3 (ha q (List.mem_of_getElem? e0)).1 (ha q (List.mem_of_getElem? e0)).2
end
def pV (q : Int × Int) : List V := [.int q.1, .int q.2]
def sV (n : Int) (q : Int × Int) : List V := [.int q.1, .int q.2, .int (farL n q.1 q.2)]
def rV (f g : Int → V) (y : Int) : List V := [.int y, f y, g y]
def LetP : Let → List (Int × Int)
  | .tell r u => [(u, r)]
  | .ask _ _ => []
  | .answer _ u m => [(m, u)]
/-- a snapshot -/
def Shot (n : Int) (f g : Int → V) (ys : List Int) (H : Hp) (p : Addr) (ls : List V) : Prop := ∃ (r l : Addr) (rs : List V), H p = some (.tup [.int n, .ref r, .ref l]) ∧ H l = some (.tup ls) ∧ H r = some (.tup rs) ∧ LAt (rV f g) H rs ys
def sp_Net__hold (C : Addr) : Sp := fun vs H Q _ => ∃ (h dn db dl : Addr) (n p x : Int) (v : V) (nx bf : List (Key × V)) (ls : List V), vs = [.ref h, .int p, .int x] ∧ NetAt C H h n dn db dl nx bf ls ∧ valV nx (.inl p) = some v ∧ (valV nx (.inl x)).isSome = true ∧ nx.length ≤ 1000 ∧ Q v (upd H dn (.dK (putK nx (.inl p) (.int x))))
theorem T0.ok_Net__hold (T : T0 K mg) : FnOk P w K mg base CX0 2 T.a_Net__hold T.fd_Net__hold ["self", "house", "target"] (sp_Net__hold T.C_Net) := by
  refine T.F_Net__hold.ok sc_Net__hold (fun vs H Q E h => ?_) (fun cdv A outer s H vs Q E hr h => ?_)
  · obtain ⟨h, dn, db, dl, n, p, x, v, nx, bf, ls, rfl, _⟩ := h
    rfl
  · obtain ⟨h, dn, db, dl, n, p, x, v, nx, bf, ls, rfl, hN, hp, hx, hz, q⟩ := h
    obtain ⟨dx, hh⟩ := hN.me
    refine ⟨_, (pss_cons (ps_expr (pe_meth (pv 0) T.cl_Net T.me_Net__check_house T.ok_Net__check_house hr T.b_Net__check_house .nil pass0 (pa_cons (pv 1) pa_nil)))
        (pss_cons (ps_expr (pe_meth (pv 0) T.cl_Net T.me_Net__check_house T.ok_Net__check_house hr T.b_Net__check_house .nil pass0 (pa_cons (pv 2) pa_nil)))
        (pss_cons (ps_set (i := 3) sc_Net__hold.nd rfl (Or.inl rfl) (pe_dget (un1 hr) (show PE _ _ (tFld K _ _) from pe_fld (pv 0) rfl) (pv 1) (fun _ _ => rfl)))
        (pss_cons (ps_asg (pv 2) (pg_sub (show PE _ _ (tFld K _ _) from pe_fld (pv 0) rfl) (pv 1) (set_dict (un1 hr))))
        (pss_one (ps_ret (pv 3))))))), ?_⟩
    refine ⟨_, rfl, h, dx, _, rfl, hh, (by unfold nf; walk_at "lk"), _, rfl, h, dn, db, dl, n, p, nx, bf, ls, rfl, hN, (by rw [hp]; rfl), ?_⟩
    refine ⟨_, rfl, h, dx, _, rfl, hh, (by unfold nf; walk_at "lk"), _, rfl, h, dn, db, dl, n, x, nx, bf, ls, rfl, hN, hx, ?_⟩
    refine ⟨_, rfl, h, _, dx, _, _, rfl, hh, T.cl_Net, T.na_Net__nexts, nf_nexts, _, rfl, dn, _, rfl, dget_of (k := Sum.inl p) hN.hn hp, ?_⟩
    refine ⟨_, rfl, _, rfl, h, _, dx, _, _, rfl, hh, T.cl_Net, T.na_Net__nexts, nf_nexts, _, rfl, dn, _, rfl, DPut.k (k := Sum.inl p) hN.hn (small1000' (by omega)), ?_⟩
    exact ⟨_, rfl, q⟩
def sp_Net__set_before (C : Addr) : Sp := fun vs H Q _ => ∃ (h dn db dl : Addr) (n p : Int) (b : V) (nx bf : List (Key × V)) (ls : List V), vs = [.ref h, .int p, b] ∧ NetAt C H h n dn db dl nx bf ls ∧ (valV nx (.inl p)).isSome = true ∧ (b = .non ∨ ∃ x : Int, b = .int x ∧ (valV nx (.inl x)).isSome = true) ∧ bf.length ≤ 1000 ∧ Q .non (upd H db (.dK (putK bf (.inl p) b)))
theorem T0.ok_Net__set_before (T : T0 K mg) : FnOk P w K mg base CX0 2 T.a_Net__set_before T.fd_Net__set_before ["self", "house", "before"] (sp_Net__set_before T.C_Net) := by
  refine T.F_Net__set_before.ok sc_Net__set_before (fun vs H Q E h => ?_) (fun cdv A outer s H vs Q E hr h => ?_)
  · obtain ⟨h, dn, db, dl, n, p, b, nx, bf, ls, rfl, _⟩ := h
    rfl
  · obtain ⟨h, dn, db, dl, n, p, b, nx, bf, ls, rfl, hN, hp, hb, hz, q⟩ := h
    obtain ⟨dx, hh⟩ := hN.me
    refine ⟨_, (pss_cons (ps_expr (pe_meth (pv 0) T.cl_Net T.me_Net__check_house T.ok_Net__check_house hr T.b_Net__check_house .nil pass0 (pa_cons (pv 1) pa_nil)))
        (pss_cons (ps_if (pt_cmpR op_notN (pv 2) pe_non (nomark _)) (pss_one (ps_expr (pe_meth (pv 0) T.cl_Net T.me_Net__check_house T.ok_Net__check_house hr T.b_Net__check_house .nil pass0 (pa_cons (pv 2) pa_nil)))) pss_nil)
        (pss_one (ps_asg (pv 2) (pg_sub (show PE _ _ (tFld K _ _) from pe_fld (pv 0) rfl) (pv 1) (set_dict (un1 hr))))))), ?_⟩
    refine ⟨_, rfl, h, dx, _, rfl, hh, (by unfold nf; walk_at "lk"), _, rfl, h, dn, db, dl, n, p, nx, bf, ls, rfl, hN, hp, ?_⟩
    refine ⟨_, rfl, rfl, _, rfl, ?_⟩
    rcases hb with rfl | ⟨x, rfl, hx⟩
    · refine iteF' (by rw [decide_eq_true rfl]; rfl) ?_
      exact ⟨_, rfl, _, rfl, h, _, dx, _, _, rfl, hh, T.cl_Net, T.na_Net__befores, nf_befores, _, rfl, db, _, rfl, DPut.k (k := Sum.inl p) hN.hb (small1000' (by omega)), q⟩
    · refine iteT' rfl ?_
      refine ⟨_, rfl, h, dx, _, rfl, hh, (by unfold nf; walk_at "lk"), _, rfl, h, dn, db, dl, n, x, nx, bf, ls, rfl, hN, hx, ?_⟩
      exact ⟨_, rfl, _, rfl, h, _, dx, _, _, rfl, hh, T.cl_Net, T.na_Net__befores, nf_befores, _, rfl, db, _, rfl, DPut.k (k := Sum.inl p) hN.hb (small1000' (by omega)), q⟩
def sp_Net__snapshot (C : Addr) : Sp := fun vs H Q _ => ∃ (h dn db dl : Addr) (n : Int) (nx bf : List (Key × V)) (ls : List V) (ks : List Int) (f g : Int → V), vs = [.ref h] ∧ NetAt C H h n dn db dl nx bf ls ∧ nx.map (·.1) = ks.map Sum.inl ∧ ks.length < 64 ∧ (∀ k ∈ ks, valV nx (.inl k) = some (f k) ∧ valV bf (.inl k) = some (g k)) ∧
  ∀ (ys : List Int) p H', ys.Perm ks → ys.Pairwise (· ≤ ·) → Same H H' → Shot n f g ys H' p ls → Q (.ref p) H'
theorem T0.ok_Net__snapshot (T : T0 K mg) : FnOk P w K mg base CX0 2 T.a_Net__snapshot T.fd_Net__snapshot ["self"] (sp_Net__snapshot T.C_Net) := by
  refine T.F_Net__snapshot.ok sc_Net__snapshot (fun vs H Q E h => ?_) (fun cdv A outer s H vs Q E hr h => ?_)
  · obtain ⟨h, dn, db, dl, n, nx, bf, ls, ks, f, g, rfl, _⟩ := h
    rfl
  · obtain ⟨h, dn, db, dl, n, nx, bf, ls, ks, f, g, rfl, hN, hk, h64, hv, q⟩ := h
    obtain ⟨dx, hh⟩ := hN.me
    refine ⟨_, (pss_cons (ps_setLc (i := 1) (own := [("house", 2)]) (g := gName 2) (by rfl) sc_Net__snapshot.nd rfl rfl (sw_true rfl rfl rfl (by decide +kernel)) (pi_list (pe_meth0 (pv 0) T.cl_Net T.me_Net__houses T.ok_Net__houses hr T.b_Net__houses .nil pass0)) (blkOk_by (own := [("house", 2)]) (N := ["self", "rows", "house"]) (sc := defScope s_Net__snapshot) (by decide +kernel)) (fun _ _ _ _ _ => pg_name (i := 2) sc_Net__snapshot.nd rfl (Or.inl rfl)) (fun _ _ _ _ _ => pts_nil) (fun _ _ _ _ _ => (pe_tup (pa_cons (pv 2) (pa_cons (pe_dget (un1 hr) (show PE _ _ (tFld K _ _) from pe_fld (pv 0) rfl) (pv 2) (fun _ _ => rfl)) (pa_cons (pe_dget (un1 hr) (show PE _ _ (tFld K _ _) from pe_fld (pv 0) rfl) (pv 2) (fun _ _ => rfl)) pa_nil))))))
        (pss_one (ps_ret (pe_tup (pa_cons (show PE _ _ (tFld K _ _) from pe_fld (pv 0) rfl) (pa_cons (pe_callTy (call_tuple_ofK (K := K)) (by rfl) T.m_tuple (by decide +kernel) (pa_cons (pv 1) pa_nil)) (pa_cons (pe_callTy (call_tuple_ofK (K := K)) (by rfl) T.m_tuple (by decide +kernel) (pa_cons (show PE _ _ (tFld K _ _) from pe_fld (pv 0) rfl) pa_nil)) pa_nil))))))), ?_⟩
    refine ⟨_, rfl, h, dx, _, rfl, hh, (by unfold nf; walk_at "lk"), h, dn, db, dl, n, nx, bf, ls, ks, rfl, hN, hk, h64, fun ys l perm pw nl => ?_⟩
    have hl : upd H l (.lst (ys.map V.int)) l = some (.lst (ys.map V.int)) := upd_same
    have sm := same_upd (o := .lst (ys.map V.int)) nl
    generalize upd H l (.lst (ys.map V.int)) = H1 at hl sm
    have ylen := perm.length_eq
    refine ⟨l, rfl, ⟨_, SqL.of hl⟩, fun D hD => ?_⟩
    refine lc_list (K := K) (a := l) (xs := ys.map V.int) (fun i H' => Same H1 H' ∧ ∃ rs, H' D = some (.lst rs) ∧ LAt (rV f g) H' rs (ys.take i)) ⟨same_upd hD, [], upd_same, .nil⟩ (fun i H' _ p => SqL.of (p.1 _ _ hl)) (fun i x H2 hx pv => ?_) (fun H2 pv => ?_)
    · obtain ⟨s2, rs, e2, la⟩ := pv
      rw [List.getElem?_map] at hx
      obtain ⟨y, hy, rfl⟩ := Option.map_eq_some_iff.mp hx
      obtain ⟨v1, v2⟩ := hv y (perm.mem_iff.mp (List.mem_of_getElem? hy))
      have hN2 := (hN.same sm).same s2
      obtain ⟨dx, hh⟩ := hN2.me
      have lr := la.1
      rw [List.length_take] at lr
      refine ⟨rfl, lc_yes ?_⟩
      refine ⟨_, rfl, _, rfl, h, _, dx, _, _, rfl, hh, T.cl_Net, T.na_Net__nexts, nf_nexts, _, rfl, dn, _, rfl, dget_of (k := Sum.inl y) hN2.hn v1, _, rfl, h, _, dx, _, _, rfl, hh, T.cl_Net, T.na_Net__befores, nf_befores, _, rfl, db, _, rfl, dget_of (k := Sum.inl y) hN2.hb v2, lenL (by show 3 ≤ 100000; decide), fun p np => ?_⟩
      have s3 := same_upd (o := .tup [.int y, f y, g y]) np
      have e3 := s3 _ _ e2
      refine ⟨_, e3, small1000' (by omega), fun b o e => ?_, rs ++ [.ref p], upd_same, ?_⟩
      · exact (upd_ne (ne_of_none e hD)).trans (s3 _ _ (s2 _ _ e))
      · rw [List.take_add_one, hy]
        exact ((la.same s3).app (q := y) upd_same).mono fun a xs e => (upd_ne (ne_kind e e3 (fun z => nomatch z))).trans e
    · obtain ⟨s2, rs, e2, la⟩ := pv
      rw [List.length_map, List.take_length] at la
      have hN2 := (hN.same sm).same s2
      obtain ⟨dx, hh⟩ := hN2.me
      refine ⟨_, rfl, h, _, dx, _, _, rfl, hh, T.cl_Net, T.na_Net_size, nf_size, _, rfl, D, rs, rfl, .inl ⟨SqL.of e2, fun r nr => ?_⟩⟩
      have s3 := same_upd (o := .tup rs) nr
      have hr' : upd H2 r (.tup rs) r = some (.tup rs) := upd_same
      generalize upd H2 r (.tup rs) = H3 at s3 hr'
      have hN3 := hN2.same s3
      obtain ⟨dx, hh⟩ := hN3.me
      refine ⟨_, rfl, h, _, dx, _, _, rfl, hh, T.cl_Net, T.na_Net__letters, nf_letters, dl, ls, rfl, .inl ⟨SqL.of hN3.hl, fun l4 nl4 => ?_⟩⟩
      have s4 := same_upd (o := .tup ls) nl4
      have hl4 : upd H3 l4 (.tup ls) l4 = some (.tup ls) := upd_same
      generalize upd H3 l4 (.tup ls) = H4 at s4 hl4
      refine ⟨lenL (by show 3 ≤ 100000; decide), fun p np => ?_⟩
      have s5 := same_upd (o := .tup [.int n, .ref r, .ref l4]) np
      exact q ys p _ perm pw (Same.trans sm (Same.trans s2 (Same.trans s3 (Same.trans s4 s5)))) ⟨r, l4, rs, upd_same, s5 _ _ hl4, s5 _ _ (s4 _ _ hr'), ((la.same s3).same s4).same s5⟩
def sp__pairs_said_by (K : PySem.W.Frag) : Sp := fun vs H Q _ => ∃ (a : Addr) (L : Let), vs = [.ref a] ∧ H a = some (.tup L.vals) ∧ ∀ p us H', Same H H' → H p = none → H' p = some (.lst us) → LAt pV H' us (LetP L) → Q (.ref p) H'
theorem T0.ok__pairs_said_by (T : T0 K mg) : FnOk P w K mg base CX0 1 T.a__pairs_said_by T.fd__pairs_said_by ["letter"] (sp__pairs_said_by K) := by
  refine T.F__pairs_said_by.ok sc__pairs_said_by (fun vs H Q E h => ?_) (fun cdv A outer s H vs Q E hr h => ?_)
  · obtain ⟨a, L, rfl, _⟩ := h
    rfl
  · obtain ⟨a, L, rfl, ha, q⟩ := h
    refine ⟨_, (pss_cons (ps_asg (pv 0) (pg_star rfl (pgs_cons (pg_name (i := 1) sc__pairs_said_by.nd rfl (Or.inl rfl)) (pgs_cons (pg_name (i := 2) sc__pairs_said_by.nd rfl (Or.inl rfl)) (pgs_cons (pg_name (i := 3) sc__pairs_said_by.nd rfl (Or.inl rfl)) (pgs_star (pg_name (i := 4) sc__pairs_said_by.nd rfl (Or.inl rfl))))))))
        (pss_cons (ps_if (pt_cmpR op_eq (pv 1) pe_str (nomark _)) (pss_one (ps_ret (pe_lst (pa_cons (pe_tup (pa_cons (pv 3) (pa_cons (pv 2) pa_nil))) pa_nil)))) pss_nil)
        (pss_cons (ps_if (pt_cmpR op_eq (pv 1) pe_str (nomark _)) (pss_one (ps_ret (pe_lst (pa_cons (pe_tup (pa_cons (pe_ix (ix_listK (K := K)) (pv 4) pe_int (fun _ _ => rfl)) (pa_cons (pv 3) pa_nil))) pa_nil)))) pss_nil)
        (pss_one (ps_ret (pe_lst pa_nil)))))), ?_⟩
    have end1 : ∀ (H1 : Hp) (x y : Int), Same H H1 → LetP L = [(x, y)] → ∀ p, H1 p = none → ∀ l, upd H1 p (.tup [.int x, .int y]) l = none → Q (.ref l) (upd (upd H1 p (.tup [.int x, .int y])) l (.lst [.ref p])) := fun H1 x y s1 e p np l nl => by
      have s2 := same_upd (o := .tup [.int x, .int y]) np
      have s3 := same_upd (o := .lst [.ref p]) nl
      refine q l [.ref p] _ (Same.trans s1 (Same.trans s2 s3)) (none_back (Same.trans s1 s2) nl) upd_same ?_
      rw [e]
      exact .one (f := pV) (q := (x, y)) (s3 _ _ upd_same)
    cases L with
    | tell r u =>
      refine ⟨_, rfl, a, _, rfl, SqT.of ha, by show 3 ≤ 3; decide, by show 3 ≤ 1000; decide, fun D nD => ?_⟩
      have s1 := same_upd (o := .lst []) nD
      refine ⟨_, _, rfl, _, _, rfl, _, _, rfl, _, _, rfl, rfl, ?_⟩
      refine ⟨_, rfl, rfl, _, rfl, ?_⟩
      rw [show decide (V.str "tell" = V.str "tell") = true by decide +kernel]
      refine iteT ⟨_, rfl, _, rfl, lenL (by show 2 ≤ 100000; decide), fun p np => ⟨lenL (by show 1 ≤ 100000; decide), fun l nl => end1 _ _ _ s1 rfl p np l nl⟩⟩
    | ask r u =>
      refine ⟨_, rfl, a, _, rfl, SqT.of ha, by show 3 ≤ 3; decide, by show 3 ≤ 1000; decide, fun D nD => ?_⟩
      have s1 := same_upd (o := .lst []) nD
      refine ⟨_, _, rfl, _, _, rfl, _, _, rfl, _, _, rfl, rfl, ?_⟩
      refine ⟨_, rfl, rfl, _, rfl, ?_⟩
      rw [show decide (V.str "ask" = V.str "tell") = false by decide +kernel]
      refine iteF ⟨_, rfl, rfl, _, rfl, ?_⟩
      rw [show decide (V.str "ask" = V.str "answer") = false by decide +kernel]
      refine iteF ⟨Nat.zero_le _, fun l nl => ?_⟩
      exact q l [] _ (Same.trans s1 (same_upd nl)) (none_back s1 nl) upd_same .nil
    | answer r u m =>
      refine ⟨_, rfl, a, _, rfl, SqT.of ha, by show 3 ≤ 4; decide, by show 4 ≤ 1000; decide, fun D nD => ?_⟩
      have s1 := same_upd (o := .lst [.int m]) nD
      refine ⟨_, _, rfl, _, _, rfl, _, _, rfl, _, _, rfl, rfl, ?_⟩
      refine ⟨_, rfl, rfl, _, rfl, ?_⟩
      rw [show decide (V.str "answer" = V.str "tell") = false by decide +kernel]
      refine iteF ⟨_, rfl, rfl, _, rfl, ?_⟩
      rw [show decide (V.str "answer" = V.str "answer") = true by decide +kernel]
      refine iteT ⟨_, rfl, D, _, 0, .int m, rfl, rfl, SqL.of upd_same, rfl, _, rfl, lenL (by show 2 ≤ 100000; decide), fun p np => ⟨lenL (by show 1 ≤ 100000; decide), fun l nl => end1 _ _ _ s1 rfl p np l nl⟩⟩
--CUT
theorem lc_it {J : It} {n : Nat} {G : Hp → Prop} {Y : Nat → Hp → V → Hp → Prop} (w : Walk J n G Y) {g : TG} {tt : TT} {te : TE} {vs : List Nat} {σ : L2.St} {H1 : Hp} {D : Addr} {Qd : Hp → Prop} (Pv : Nat → Hp → Prop) (h0 : Pv 0 (upd H1 D (.lst []))) (hG : ∀ i H, i ≤ n → Pv i H → G H)
    (hs : ∀ i x H H', i < n → Pv i H → Y i H x H' → g x (wipe σ vs) H' fun σ2 H2 => wipe σ2 vs = wipe σ vs ∧ tt σ2 H2 fun b H3 =>
      if b = true then te σ2 H3 fun y H4 => ∃ acc, H4 D = some (.lst acc) ∧ acc.length < sizeLine ∧ Pv (i + 1) (upd H4 D (.lst (acc ++ [y]))) else Pv (i + 1) H3) (hd : ∀ H, Pv n H → Qd H) :
    ∃ W : Nat → Nat → Hp → Prop, (∃ m, W 0 m (upd H1 D (.lst []))) ∧ ∀ i m H, W i m H →
      (J.stop i H ∧ Qd H) ∨ (J.go i H ∧ ∃ Nx : Hp → Prop, (∀ H', Nx H' → ∃ m', m' < m ∧ W (i + 1) m' H') ∧ ∀ x H', J.yld i H x H' → g x (wipe σ vs) H' fun σ2 H2 => wipe σ2 vs = wipe σ vs ∧ tt σ2 H2 fun b H3 =>
        if b = true then te σ2 H3 fun y H4 => ∃ acc, H4 D = some (.lst acc) ∧ acc.length < sizeLine ∧ Nx (upd H4 D (.lst (acc ++ [y]))) else Nx H3) := by
  refine ⟨fun i m H => i + m = n ∧ Pv i H, ⟨n, Nat.zero_add n, h0⟩, fun i m H hp => ?_⟩
  have q := hG i H (hp.1 ▸ Nat.le_add_right i m) hp.2
  cases m with
  | zero =>
    obtain ⟨rfl, p⟩ := hp
    exact .inl ⟨w.stops H q, hd H p⟩
  | succ m =>
    obtain ⟨e, p⟩ := hp
    have hi : i < n := by omega
    exact .inr ⟨w.goes i H hi q, Pv (i + 1), fun H' p' => ⟨m, Nat.lt_succ_self m, by omega, p'⟩, fun x H' y => hs i x H H' hi p (w.yields i H x H' hi q y)⟩
theorem valV_map_mem {f : Int → V} {ks : List Int} {k : Int} (h : k ∈ ks) : valV (ks.map fun z => ((Sum.inl z : Key), f z)) (Sum.inl k) = some (f k) := by
  induction ks with
  | nil => cases h
  | cons z r ih =>
    rw [List.map_cons]
    by_cases e : z = k
    · subst e
      exact valV_pos (p := ((Sum.inl z : Key), f z)) rfl
    · rw [valV_neg (fun g => e (Sum.inl.inj g))]
      exact ih ((List.mem_cons.mp h).resolve_left (fun g => e g.symm))
def gV (nx : List (Key × V)) (k : Int) : V := (valV nx (.inl k)).getD .non
theorem gV_of {nx : List (Key × V)} {k : Int} {v : V} (h : valV nx (.inl k) = some v) : gV nx k = v := by unfold gV; rw [h]; rfl
theorem gV_iN {ks : List Int} {nx : List (Key × V)} (gn : GN ks nx) {k : Int} (hk : k ∈ ks) : gV nx k = .int (iN nx k) := by
  obtain ⟨x, _, e⟩ := gn.2 k hk
  rw [gV_of e, iN_of e]
def fO (bs : List (Key × V)) (ys : List Int) : List Int := ys.filter fun y => decide (bef bs y ≠ .non)
def qA (nx : List (Key × V)) (y : Int) : Int × Int := (y, iN nx y)
def qB (bs : List (Key × V)) (y : Int) : Int × Int := (zO (bef bs y), y)
def Prs (nx bs : List (Key × V)) (ys : List Int) (Ls : List Let) : List (Int × Int) := ys.map (qA nx) ++ (fO bs ys).map (qB bs) ++ Ls.flatMap LetP
theorem letP_len (L : Let) : (LetP L).length ≤ 1 := by
  cases L
  all_goals first
    | exact Nat.zero_le _
    | exact Nat.le_refl _
theorem flat_len : ∀ Ls : List Let, (Ls.flatMap LetP).length ≤ Ls.length
  | [] => Nat.le_refl _
  | L :: r => by
    rw [List.flatMap_cons, List.length_append, List.length_cons]
    have := flat_len r
    have : (LetP L).length ≤ 1 := letP_len L
    omega
theorem okB_zO {b : V} (o : okB b) (h : b ≠ .non) : b = .int (zO b) := by
  rcases o with rfl | ⟨z, rfl⟩
  · exact absurd rfl h
  · rfl
def sp_sayings (C : Addr) : Sp := fun vs H Q _ => ∃ (h dn db dl : Addr) (n : Int) (nx bf bs : List (Key × V)) (ls : List V) (ks : List Int) (Ls : List Let), vs = [.ref h] ∧ NetAt C H h n dn db dl nx bf ls ∧ 0 < n ∧ ks.length < 64 ∧ ks.Nodup ∧ GN ks nx ∧ VF ks bf bs ∧ (∀ k ∈ ks, okB (bef bs k)) ∧ ls.length ≤ 1000 ∧ LAt Let.vals H ls Ls ∧
  ∀ (ys : List Int) p us H', ys.Perm ks → ys.Pairwise (· ≤ ·) → Same H H' → H p = none → H' p = some (.lst us) → LAt (sV n) H' us (Prs nx bs ys Ls) → us.length ≤ 2000 → Q (.ref p) H'
theorem T0.ok_sayings (T : T0 K mg) : FnOk P w K mg base CX0 3 T.a_sayings T.fd_sayings ["net"] (sp_sayings T.C_Net) := by
  refine T.F_sayings.ok sc_sayings (fun vs H Q E h => ?_) (fun cdv A outer s H vs Q E hr h => ?_)
  · obtain ⟨h, dn, db, dl, n, nx, bf, bs, ls, ks, Ls, rfl, _⟩ := h
    rfl
  · obtain ⟨h, dn, db, dl, n, nx, bf, bs, ls, ks, Ls, rfl, hN, hn, h64, nd, gn, vf, ob, hz, hL, q⟩ := h
    obtain ⟨dx, hh⟩ := hN.me
    refine ⟨_, (pss_cons (ps_set (i := 1) sc_sayings.nd rfl (Or.inl rfl) (LiI.pe_listItems rfl (pe_meth0 (pv 0) T.cl_Net T.me_Net__nexts T.ok_Net__nexts hr T.b_Net__nexts .nil pass0) (by rfl) T.m_list (by decide +kernel)))
        (pss_cons (ps_expr (pe_bm PySem.F.plainAttrs_list PySem.F.slot_list_extend PySem.F.type_list_extend mt_extend (pv 1) (pa_cons (pe_lc (own := [("house", 5), ("before", 6)]) (g := gTup K 2 (gCons (gName 5) (gCons (gName 6) gNil))) (by rfl) sc_sayings.nd (pi_items (pe_lk (pe_meth0 (pv 0) T.cl_Net T.me_Net__befores T.ok_Net__befores hr T.b_Net__befores .nil pass0))) (blkOk_by (own := [("house", 5), ("before", 6)]) (N := ["net", "pairs", "letter", "start", "end", "house", "before"]) (sc := defScope s_sayings) (by decide +kernel)) (fun _ _ _ _ _ => pg_tup rfl (pgs_cons (pg_name (i := 5) sc_sayings.nd rfl (Or.inl rfl)) (pgs_cons (pg_name (i := 6) sc_sayings.nd rfl (Or.inl rfl)) pgs_nil))) (fun _ _ _ _ _ => pts_nil) (fun _ _ _ _ _ => (pe_tup (pa_cons (pv 6) (pa_cons (pv 5) pa_nil))))) pa_nil)))
        (pss_cons (ps_for PassesOwn.never rfl (pi_list (pe_meth0 (pv 0) T.cl_Net T.me_Net__letters T.ok_Net__letters (hr.mono (by decide)) T.b_Net__letters .nil pass0)) (pg_name (i := 2) sc_sayings.nd rfl (Or.inl rfl)) (pss_one (ps_expr (pe_bm PySem.F.plainAttrs_list PySem.F.slot_list_extend PySem.F.type_list_extend mt_extend (pv 1) (pa_cons (pe_call T.ok__pairs_said_by (hr.mono (by decide)) (by rfl) T.g__pairs_said_by T.k__pairs_said_by T.b__pairs_said_by .nil pass0 (pa_cons (pv 2) pa_nil)) pa_nil)))))
        (pss_one (ps_ret (pe_lc (own := [("start", 3), ("end", 4)]) (g := gTup K 2 (gCons (gName 3) (gCons (gName 4) gNil))) (by rfl) sc_sayings.nd (pi_list (pv 1)) (blkOk_by (own := [("start", 3), ("end", 4)]) (N := ["net", "pairs", "letter", "start", "end", "house", "before"]) (sc := defScope s_sayings) (by decide +kernel)) (fun _ _ _ _ _ => pg_tup rfl (pgs_cons (pg_name (i := 3) sc_sayings.nd rfl (Or.inl rfl)) (pgs_cons (pg_name (i := 4) sc_sayings.nd rfl (Or.inl rfl)) pgs_nil))) (fun _ _ _ _ _ => pts_nil) (fun _ _ _ _ _ => (pe_tup (pa_cons (pv 3) (pa_cons (pv 4) (pa_cons (pe_call T.ok_far (hr.mono (by decide)) (by rfl) T.g_far T.k_far T.b_far .nil pass0 (pa_cons (show PE _ _ (tFld K _ _) from pe_fld (pv 0) rfl) (pa_cons (pv 3) (pa_cons (pv 4) pa_nil)))) pa_nil))))))))))), ?_⟩
    refine ⟨_, rfl, h, dx, _, rfl, hh, (by unfold nf; walk_at "lk"), h, dn, db, dl, n, nx, bf, ls, ks, gV nx, rfl, hN, gn.1, h64, nd, fun k hk => ?_, fun ys d1 H1 perm pw s1 nd1 e1 => ?_⟩
    · obtain ⟨x, _, e⟩ := gn.2 k hk
      rw [gV_of e, e]
    have ylen := perm.length_eq
    refine ⟨d1, _, rfl, e1, fun H2 pl ts s2 npl nts npts epl prd => ?_⟩
    have tlen : ts.length = ys.length := by rw [prd.length, List.length_map]
    have la2 : LAt pV H2 (ts.map V.ref) (ys.map (qA nx)) := by
      refine ⟨by rw [List.length_map, List.length_map, tlen], fun i v q' hv hq => ?_⟩
      rw [List.getElem?_map] at hv hq
      obtain ⟨t, ht, rfl⟩ := Option.map_eq_some_iff.mp hv
      obtain ⟨y, hy, rfl⟩ := Option.map_eq_some_iff.mp hq
      obtain ⟨kv, hkv, e⟩ := paired_get prd ht
      have hkv : (ys.map fun y => ((.inl y : Key), gV nx y))[i]? = some kv := hkv
      rw [List.getElem?_map, hy] at hkv
      cases hkv
      exact ⟨t, rfl, e.trans (by dsimp only; rw [gV_iN gn (perm.mem_iff.mp (List.mem_of_getElem? hy))]; rfl)⟩
    have s12 := Same.trans s1 s2
    have npl0 : H pl = none := none_back s1 npl
    have N2 := hN.same s12
    obtain ⟨dx2, hh2⟩ := N2.me
    refine ⟨_, rfl, .inl ⟨rfl, _, SqL.of epl⟩, _, rfl, h, dx2, _, rfl, hh2, (by unfold nf; walk_at "lk"), h, dn, db, dl, n, nx, bf, ls, ks, bef bs, rfl, N2, gn.1, h64, nd, vf, fun ws d2 H3 permw pww s3 nd2 e3 => ?_⟩
    have wy : ws = ys := perm_sorted_eq (permw.trans perm.symm) pww pw
    subst wy
    refine ⟨d2, _, rfl, e3, fun o => ⟨d2, o, _, rfl, upd_same, fun D hD => ?_⟩⟩
    have s3f : Same H2 (upd H3 d2 (.frz o (.dK ((fO bs ws).map fun y => (.inl y, bef bs y))))) := fun a u e => (upd_ne (ne_of_none e nd2)).trans (s3 _ _ e)
    have hd2 : upd H3 d2 (.frz o (.dK ((fO bs ws).map fun y => (.inl y, bef bs y)))) d2 = some (.frz o (.dK ((fO bs ws).map fun y => (.inl y, bef bs y)))) := upd_same
    have lf : (fO bs ws).length ≤ ws.length := List.length_filter_le _ _
    refine lc_it walk_items (fun i H' => Same (upd H3 d2 (.frz o (.dK ((fO bs ws).map fun y => (.inl y, bef bs y))))) H' ∧ ∃ rs, H' D = some (.lst rs) ∧ LAt pV H' rs (((fO bs ws).take i).map (qB bs))) ⟨same_upd hD, [], upd_same, .nil⟩ (fun i H' _ p => p.1 _ _ hd2) (fun i x H4 H5 hi pv hy => ?_) (fun H4 pv => ?_)
    · obtain ⟨s4, rs, e4, la⟩ := pv
      obtain ⟨Tt, kx, ky, rfl, nT, rfl, ekx, eky⟩ := hy
      have lr := la.1
      rw [List.length_map, List.length_take] at lr
      have ekx : (((fO bs ws).map fun y => ((.inl y : Key), bef bs y))[i]?).map (fun kv => kV kv.1) = some kx := ekx
      have eky : (((fO bs ws).map fun y => ((.inl y : Key), bef bs y))[i]?).map Prod.snd = some ky := eky
      obtain ⟨kv, hkv, rfl⟩ := Option.map_eq_some_iff.mp ekx
      rw [hkv] at eky
      have eky : kv.2 = ky := Option.some.inj eky
      rw [List.getElem?_map] at hkv
      have hkv2 := hkv
      obtain ⟨y, hyi, ekv⟩ := Option.map_eq_some_iff.mp hkv2
      subst ekv
      subst eky
      have hy := List.mem_of_getElem? hyi
      obtain ⟨hy1, hy2⟩ := List.mem_filter.mp hy
      have bz := okB_zO (ob y (perm.mem_iff.mp hy1)) (of_decide_eq_true hy2)
      have s5 := same_upd (o := .tup [kV (Sum.inl y), bef bs y]) nT
      refine ⟨Tt, _, rfl, SqT.of upd_same, rfl, _, _, rfl, _, _, rfl, rfl, rfl, lc_yes ?_⟩
      refine ⟨_, rfl, _, rfl, lenL (by show 2 ≤ 100000; decide), fun p np => ?_⟩
      have np : upd H4 Tt (.tup [kV (Sum.inl y), bef bs y]) p = none := np
      have s6 := Same.trans s5 (same_upd (o := .tup [bef bs y, .int y]) np)
      have e6 := s6 _ _ e4
      refine ⟨_, e6, small1000' (by omega), fun b u e => ?_, rs ++ [.ref p], upd_same, ?_⟩
      · exact (upd_ne (ne_of_none e hD)).trans (s6 _ _ (s4 _ _ e))
      · rw [List.take_add_one, hyi, Option.toList_some, List.map_append]
        refine ((la.same s6).app (q := qB bs y) ?_).mono fun a xs e => (upd_ne (ne_kind e e6 (fun z => nomatch z))).trans e
        refine upd_same.trans ?_
        show some (HO.tup [bef bs y, .int y]) = some (HO.tup [.int (zO (bef bs y)), .int y])
        rw [← bz]
    · obtain ⟨s4, rs, e4, la4⟩ := pv
      rw [List.length_map] at la4
      have la4 : LAt pV H4 rs (((fO bs ws).take (fO bs ws).length).map (qB bs)) := la4
      rw [List.take_length] at la4
      have s24 : Same H2 H4 := Same.trans s3f s4
      have epl4 := s24 _ _ epl
      have lr := la4.1
      rw [List.length_map] at lr
      have hz41 : ws.length < 64 := by omega
      refine ⟨pl, D, _, _, rfl, rfl, epl4, e4, lenL (by rw [List.length_map, tlen, lr]; omega), ?_⟩
      have f5 : ∀ a u, a ≠ pl → H4 a = some u → upd H4 pl (.lst (ts.map V.ref ++ rs)) a = some u := fun a u na e => (upd_ne na).trans e
      have epl5 : upd H4 pl (.lst (ts.map V.ref ++ rs)) pl = some (.lst (ts.map V.ref ++ rs)) := upd_same
      have la5 : LAt pV (upd H4 pl (.lst (ts.map V.ref ++ rs))) (ts.map V.ref ++ rs) (ws.map (qA nx) ++ (fO bs ws).map (qB bs)) := ((la2.same s24).cat la4).mono fun a xs e => f5 _ _ (ne_kind e epl4 (fun z => nomatch z)) e
      generalize upd H4 pl (.lst (ts.map V.ref ++ rs)) = H5 at f5 epl5 la5
      have s5 : Same H H5 := fun a u e => f5 _ _ (ne_of_none e npl0) (s24 _ _ (s12 _ _ e))
      have N5 := hN.same s5
      obtain ⟨dx5, hh5⟩ := N5.me
      refine ⟨_, rfl, h, dx5, _, rfl, hh5, (by unfold nf; walk_at "lk"), h, dn, db, dl, n, nx, bf, ls, rfl, N5, fun p np => ?_⟩
      have s6 := same_upd (o := .lst ls) np
      have ep6 : upd H5 p (.lst ls) p = some (.lst ls) := upd_same
      have epl6 := s6 _ _ epl5
      have la6 := la5.same s6
      have npp : p ≠ pl := fun z => by rw [z, epl5] at np; cases np
      have s06 := Same.trans s5 s6
      generalize upd H5 p (.lst ls) = H6 at s6 ep6 epl6 la6 s06
      have u0 : (ts.map V.ref ++ rs).length ≤ 128 := by rw [List.length_append, List.length_map, tlen, lr]; omega
      refine ⟨p, rfl, ⟨_, SqL.of ep6⟩, ?_⟩
      refine for_list (K := K) (a := p) (xs := ls) (fun i σ' H' => ∃ (o2 : Option V) (us : List V), σ' = [some (.ref h), some (.ref pl), o2, none, none, none, none] ∧ H' pl = some (.lst us) ∧ LAt pV H' us (ws.map (qA nx) ++ (fO bs ws).map (qB bs) ++ (Ls.take i).flatMap LetP) ∧ Same H H' ∧ H' p = some (.lst ls))
        ⟨none, _, rfl, epl6, by rw [List.take_zero, List.flatMap_nil, List.append_nil]; exact la6, s06, ep6⟩ (fun i σ' H' _ pv => by obtain ⟨_, _, _, _, _, _, h⟩ := pv; exact SqL.of h) (fun i v σ' H7 hv pv => ?_) (fun σ' H7 pv => ?_)
      · obtain ⟨o2, us, rfl, epl7, la7, s7, ep7⟩ := pv
        obtain ⟨a, L, hLi, rfl, ea⟩ := hL.at hv
        have ul := la7.1
        have fl := flat_len (Ls.take i)
        have tl : (Ls.take i).length ≤ 1000 := by rw [List.length_take, ← hL.1]; omega
        rw [List.length_append, List.length_append, List.length_map, List.length_map] at ul
        refine ⟨_, rfl, .inl ⟨rfl, _, SqL.of epl7⟩, _, rfl, a, L, rfl, s7 _ _ ea, fun q' us' H8 s8 nq eq la8 => ?_⟩
        have epl8 := s8 _ _ epl7
        have l1 : us'.length ≤ 1 := by rw [la8.1]; exact letP_len L
        refine ⟨pl, q', _, _, rfl, rfl, epl8, eq, lenL (by omega), ?_⟩
        refine ⟨_, us ++ us', rfl, upd_same, ?_, fun b u e => (upd_ne (ne_of_none e npl0)).trans (s8 _ _ (s7 _ _ e)), (upd_ne npp).trans (s8 _ _ ep7)⟩
        rw [List.take_add_one, hLi, Option.toList_some, List.flatMap_append, ← List.append_assoc]
        refine ((la7.same s8).cat (ps := [L].flatMap LetP) (by rw [List.flatMap_cons, List.flatMap_nil, List.append_nil]; exact la8)).mono fun a xs e => (upd_ne (ne_kind e epl8 (fun z => nomatch z))).trans e
      · obtain ⟨o2, us, rfl, epl7, la7, s7, ep7⟩ := pv
        rw [hL.1, List.take_length] at la7
        have ul := la7.1
        have fl := flat_len Ls
        have tl : Ls.length ≤ 1000 := by rw [← hL.1]; exact hz
        rw [List.length_append, List.length_append, List.length_map, List.length_map] at ul
        have N7 := hN.same s7
        refine ⟨_, rfl, pl, rfl, ⟨_, SqL.of epl7⟩, fun D2 hD2 => ?_⟩
        refine lc_list (K := K) (a := pl) (xs := us) (fun i H' => Same H7 H' ∧ ∃ rs, H' D2 = some (.lst rs) ∧ LAt (sV n) H' rs ((Prs nx bs ws Ls).take i)) ⟨same_upd hD2, [], upd_same, .nil⟩ (fun i H' _ p => SqL.of (p.1 _ _ epl7)) (fun i x H8 hx pv => ?_) (fun H8 pv => ?_)
        · obtain ⟨s8, rs, e8, la8⟩ := pv
          obtain ⟨a, q', hq', rfl, ea⟩ := la7.at hx
          have lr8 := la8.1
          have lt8 : ((Prs nx bs ws Ls).take i).length ≤ us.length := by
            have hi : i < us.length := (List.getElem?_eq_some_iff.mp hx).1
            rw [List.length_take]
            omega
          have N8 := N7.same s8
          obtain ⟨dx8, hh8⟩ := N8.me
          refine ⟨a, _, rfl, SqT.of (s8 _ _ ea), rfl, _, _, rfl, _, _, rfl, rfl, rfl, lc_yes ?_⟩
          refine ⟨_, rfl, _, rfl, _, rfl, h, _, dx8, _, _, rfl, hh8, T.cl_Net, T.na_Net_size, nf_size, _, rfl, _, rfl, n, q'.1, q'.2, rfl, hn, lenL (by show 3 ≤ 100000; decide), fun p' np' => ?_⟩
          have np' : H8 p' = none := np'
          have s9 := same_upd (o := .tup (sV n q')) np'
          have e9 := s9 _ _ e8
          refine ⟨_, e9, small1000' (by omega), fun b u e => ?_, rs ++ [.ref p'], upd_same, ?_⟩
          · exact (upd_ne (ne_of_none e hD2)).trans (s9 _ _ (s8 _ _ e))
          · rw [List.take_add_one, show (Prs nx bs ws Ls)[i]? = some q' from hq']
            exact ((la8.same s9).app (q := q') upd_same).mono fun a xs e => (upd_ne (ne_kind e e9 (fun z => nomatch z))).trans e
        · obtain ⟨s8, rs, e8, la8⟩ := pv
          rw [la7.1] at la8
          rw [show (Prs nx bs ws Ls).take ((ws.map (qA nx) ++ (fO bs ws).map (qB bs) ++ Ls.flatMap LetP).length) = Prs nx bs ws Ls from List.take_length] at la8
          refine q ws D2 rs H8 perm pw (Same.trans s7 s8) ?_ e8 la8 ?_
          · exact none_back s7 hD2
          · rw [la8.1]
            show (ws.map (qA nx) ++ (fO bs ws).map (qB bs) ++ Ls.flatMap LetP).length ≤ 2000
            rw [List.length_append, List.length_append, List.length_map, List.length_map]
            omega
def GC (ks : List Int) (bs : List (Key × V)) : Prop := ∀ (p : Int) v, valV bs (.inl p) = some v → p ∈ ks ∧ (v = .non ∨ ∃ x ∈ ks, v = .int x)
theorem GC.ok {ks : List Int} {bs : List (Key × V)} (g : GC ks bs) (k : Int) : okB (bef bs k) := by
  unfold bef
  cases e : valV bs (.inl k) with
  | none => exact .inl rfl
  | some v =>
    rcases (g _ _ e).2 with rfl | ⟨x, _, rfl⟩
    · exact .inl rfl
    · exact .inr ⟨x, rfl⟩
theorem GC.mem {ks : List Int} {bs : List (Key × V)} (g : GC ks bs) {k : Int} (h : bef bs k ≠ .non) : k ∈ ks := by
  unfold bef at h
  cases e : valV bs (.inl k) with
  | none => rw [e] at h; exact absurd rfl h
  | some v => exact (g _ _ e).1
theorem bef_some {bs : List (Key × V)} {k : Int} {v : V} (h : valV bs (.inl k) = some v) : bef bs k = v := by unfold bef; rw [h]; rfl
def sp__law_sayings (K : PySem.W.Frag) : Sp := fun vs H Q _ => ∃ (dN dB pO : Addr) (n : Int) (nx bs : List (Key × V)) (ps : List V) (ks : List Int) (Ls : List Let), vs = [.int n, .ref dN, .ref dB, .ref pO] ∧ H dN = some (.dK nx) ∧ H dB = some (.dK bs) ∧ H pO = some (.lst ps) ∧ 0 < n ∧ ks.length < 64 ∧ ks.Nodup ∧ GN ks nx ∧ GC ks bs ∧ KB bs ∧ ps.length ≤ 1000 ∧ LAt Let.vals H ps Ls ∧
  ∀ (ys : List Int) p us H', ys.Perm ks → ys.Pairwise (· ≤ ·) → Same H H' → H p = none → H' p = some (.lst us) → LAt (sV n) H' us (Prs nx bs ys Ls) → us.length ≤ 2000 → Q (.ref p) H'
def sp__law_snapshot (K : PySem.W.Frag) : Sp := fun vs H Q _ => ∃ (dN dB pO : Addr) (n : Int) (nx bs : List (Key × V)) (ps : List V) (ks : List Int), vs = [.int n, .ref dN, .ref dB, .ref pO] ∧ H dN = some (.dK nx) ∧ H dB = some (.dK bs) ∧ H pO = some (.lst ps) ∧ ks.length < 64 ∧ GN ks nx ∧
  ∀ (ys : List Int) p H', ys.Perm ks → ys.Pairwise (· ≤ ·) → Same H H' → Shot n (gV nx) (bef bs) ys H' p ps → Q (.ref p) H'
theorem T0.ok__law_snapshot (T : T0 K mg) : FnOk P w K mg base CX0 1 T.a__law_snapshot T.fd__law_snapshot ["size", "nexts", "behinds", "post"] (sp__law_snapshot K) := by
  refine T.F__law_snapshot.ok sc__law_snapshot (fun vs H Q E h => ?_) (fun cdv A outer s H vs Q E hr h => ?_)
  · obtain ⟨dN, dB, pO, n, nx, bs, ps, ks, rfl, _⟩ := h
    rfl
  · obtain ⟨dN, dB, pO, n, nx, bs, ps, ks, rfl, hN, hB, hP, h64, gn, q⟩ := h
    refine ⟨_, (pss_cons (ps_setLc (i := 4) (own := [("one", 5)]) (g := gName 5) (by rfl) sc__law_snapshot.nd rfl rfl (sw_true rfl rfl rfl (by decide +kernel)) (pi_list (pe_callB (call_sortedDI rfl) (by rfl) T.m_sorted (by decide +kernel) (pa_cons (pv 1) pa_nil))) (blkOk_by (own := [("one", 5)]) (N := ["size", "nexts", "behinds", "post", "rows", "one"]) (sc := defScope s__law_snapshot) (by decide +kernel)) (fun _ _ _ _ _ => pg_name (i := 5) sc__law_snapshot.nd rfl (Or.inl rfl)) (fun _ _ _ _ _ => pts_nil) (fun _ _ _ _ _ => (pe_tup (pa_cons (pv 5) (pa_cons (pe_dget (un1 hr) (pv 1) (pv 5) (fun _ _ => rfl)) (pa_cons (pe_dget1 (un1 hr) (pv 2) (pv 5) ⟨rfl, rfl, rfl, rfl⟩) pa_nil))))))
        (pss_one (ps_ret (pe_tup (pa_cons (pv 0) (pa_cons (pe_callTy (call_tuple_ofK (K := K)) (by rfl) T.m_tuple (by decide +kernel) (pa_cons (pv 4) pa_nil)) (pa_cons (pe_callTy (call_tuple_ofK (K := K)) (by rfl) T.m_tuple (by decide +kernel) (pa_cons (pv 3) pa_nil)) pa_nil))))))), ?_⟩
    refine ⟨_, rfl, dN, nx, ks, rfl, .inl hN, gn.1, h64, fun ys l perm pw nl => ?_⟩
    have hl : upd H l (.lst (ys.map V.int)) l = some (.lst (ys.map V.int)) := upd_same
    have sm := same_upd (o := .lst (ys.map V.int)) nl
    generalize upd H l (.lst (ys.map V.int)) = H1 at hl sm
    have ylen := perm.length_eq
    refine ⟨l, rfl, ⟨_, SqL.of hl⟩, fun D hD => ?_⟩
    refine lc_list (K := K) (a := l) (xs := ys.map V.int) (fun i H' => Same H1 H' ∧ ∃ rs, H' D = some (.lst rs) ∧ LAt (rV (gV nx) (bef bs)) H' rs (ys.take i)) ⟨same_upd hD, [], upd_same, .nil⟩ (fun i H' _ p => SqL.of (p.1 _ _ hl)) (fun i x H2 hx pv => ?_) (fun H2 pv => ?_)
    · obtain ⟨s2, rs, e2, la⟩ := pv
      have hx' : (ys.map V.int)[i]? = some x := hx
      rw [List.getElem?_map] at hx'
      obtain ⟨y, hy, rfl⟩ := Option.map_eq_some_iff.mp hx'
      obtain ⟨x', _, ex⟩ := gn.2 y (perm.mem_iff.mp (List.mem_of_getElem? hy))
      have s02 := Same.trans sm s2
      have lr := la.1
      rw [List.length_take] at lr
      refine ⟨rfl, lc_yes ?_⟩
      refine ⟨_, rfl, _, rfl, _, rfl, dN, _, rfl, dget_of (k := Sum.inl y) (s02 _ _ hN) ex, _, rfl, dB, rfl, .inl ⟨_, .inl (s02 _ _ hB)⟩, _, rfl, _, DGet.k (k := Sum.inl y) (s02 _ _ hB), lenL (by show 3 ≤ 100000; decide), fun p np => ?_⟩
      have s3 := same_upd (o := .tup [.int y, .int x', bef bs y]) np
      have e3 := s3 _ _ e2
      refine ⟨_, e3, small1000' (by omega), fun b o e => ?_, rs ++ [.ref p], upd_same, ?_⟩
      · exact (upd_ne (ne_of_none e hD)).trans (s3 _ _ (s2 _ _ e))
      · rw [List.take_add_one, hy]
        refine ((la.same s3).app (q := y) ?_).mono fun a xs e => (upd_ne (ne_kind e e3 (fun z => nomatch z))).trans e
        refine upd_same.trans ?_
        show some (HO.tup [.int y, .int x', bef bs y]) = some (HO.tup [.int y, gV nx y, bef bs y])
        rw [gV_of ex]
    · obtain ⟨s2, rs, e2, la⟩ := pv
      rw [List.length_map, List.take_length] at la
      have s02 := Same.trans sm s2
      refine ⟨_, rfl, _, rfl, D, rs, rfl, .inl ⟨SqL.of e2, fun r nr => ?_⟩⟩
      have s3 := same_upd (o := .tup rs) nr
      have hr' : upd H2 r (.tup rs) r = some (.tup rs) := upd_same
      generalize upd H2 r (.tup rs) = H3 at s3 hr'
      refine ⟨_, rfl, pO, ps, rfl, .inl ⟨SqL.of (s3 _ _ (s02 _ _ hP)), fun l4 nl4 => ?_⟩⟩
      have s4 := same_upd (o := .tup ps) nl4
      have hl4 : upd H3 l4 (.tup ps) l4 = some (.tup ps) := upd_same
      generalize upd H3 l4 (.tup ps) = H4 at s4 hl4
      refine ⟨lenL (by show 3 ≤ 100000; decide), fun p np => ?_⟩
      have s5 := same_upd (o := .tup [.int n, .ref r, .ref l4]) np
      exact q ys p _ perm pw (Same.trans s02 (Same.trans s3 (Same.trans s4 s5))) ⟨r, l4, rs, upd_same, s5 _ _ hl4, s5 _ _ (s4 _ _ hr'), ((la.same s3).same s4).same s5⟩
--CUT
/-! ### the law's own defs -/
def BI (x : Int) (ys : List Int) (j : Nat) (y : Int) : Prop := x ≤ y ∧ y ≤ x + j ∧ ((∀ e ∈ ys.take j, e < y) ∨ ∃ e ∈ ys.take j, y < e ∧ ∀ f ∈ ys.take j, f ≠ y)
theorem BI.zero {x : Int} {ys : List Int} : BI x ys 0 x := ⟨Int.le_refl _, by omega, .inl fun e h => by rw [List.take_zero] at h; cases h⟩
theorem mem_take_le {ys : List Int} (pw : ys.Pairwise (· ≤ ·)) {j : Nat} {z e : Int} (hz : ys[j]? = some z) (he : e ∈ ys.take j) : e ≤ z := by
  obtain ⟨i, hi⟩ := List.mem_iff_getElem?.mp he
  rw [List.getElem?_take] at hi
  split at hi
  · rename_i lt
    obtain ⟨h1, rfl⟩ := List.getElem?_eq_some_iff.mp hi
    obtain ⟨h2, rfl⟩ := List.getElem?_eq_some_iff.mp hz
    exact List.pairwise_iff_getElem.mp pw i j h1 h2 lt
  · cases hi
theorem BI.step {x : Int} {ys : List Int} {j : Nat} {y z : Int} (pw : ys.Pairwise (· ≤ ·)) (hz : ys[j]? = some z) (h : BI x ys j y) : BI x ys (j + 1) (if z ≤ y then y + 1 else y) := by
  obtain ⟨a, b, c⟩ := h
  have mt : ∀ f, f ∈ ys.take (j + 1) ↔ f ∈ ys.take j ∨ f = z := fun f => by rw [List.take_add_one, hz, Option.toList_some, List.mem_append, List.mem_singleton]
  by_cases e : z ≤ y
  · rw [if_pos e]
    refine ⟨by omega, by omega, ?_⟩
    rcases c with c | ⟨f, hf, hy, _⟩
    · refine .inl fun g hg => ?_
      rcases (mt g).mp hg with hg | rfl
      · have := c g hg
        omega
      · omega
    · have := mem_take_le pw hz hf
      omega
  · rw [if_neg e]
    refine ⟨a, by omega, .inr ?_⟩
    rcases c with c | ⟨f, hf, hy, hn⟩
    · refine ⟨z, (mt z).mpr (.inr rfl), by omega, fun g hg => ?_⟩
      rcases (mt g).mp hg with hg | rfl
      · have := c g hg
        omega
      · omega
    · refine ⟨f, (mt f).mpr (.inl hf), hy, fun g hg => ?_⟩
      rcases (mt g).mp hg with hg | rfl
      · exact hn g hg
      · omega
theorem BI.done {x : Int} {ys : List Int} {y : Int} (h : BI x ys ys.length y) : y ∉ ys := by
  obtain ⟨_, _, c⟩ := h
  rw [List.take_length] at c
  intro m
  rcases c with c | ⟨f, hf, hy, hn⟩
  · have := c y m
    omega
  · exact hn y m rfl
theorem Kp.free {t c l : Addr} {H H' : Hp} (k : Kp t H H') (T : Tape H' t c) (nl : H' l = none) : H l = none := by
  cases e : H l with
  | none => rfl
  | some o =>
    by_cases z : l = t
    · obtain ⟨_, _, _, _, _, e1, _⟩ := T
      rw [z, e1] at nl
      cases nl
    · rw [k _ _ z e] at nl
      cases nl
def sp__law_places (K : PySem.W.Frag) : Sp := fun vs H Q _ => ∃ (t c : Addr) (n m : Int), vs = [.ref t, .int n, .int m] ∧ Tape H t c ∧ 0 ≤ m ∧ m ≤ n ∧ m ≤ 60 ∧ n ≤ 1000000000 ∧ ∀ p (ms : List Int) H', H p = none → H' p = some (.lst (ms.map V.int)) → (ms.length : Int) = m → ms.Nodup → (∀ k ∈ ms, 0 ≤ k ∧ k < n) → Kp t H H' → Tape H' t c → Q (.ref p) H'
theorem T0.ok__law_places (T : T0 K mg) : FnOk P w K mg base CX0 2 T.a__law_places T.fd__law_places ["tape", "size", "count"] (sp__law_places K) := by
  refine T.F__law_places.ok sc__law_places (fun vs H Q E h => ?_) (fun cdv A outer s H vs Q E hr h => ?_)
  · obtain ⟨t, c, n, m, rfl, _⟩ := h
    rfl
  · obtain ⟨t, c, n, m, rfl, hT, hm0, hmn, hm6, hn9, q⟩ := h
    refine ⟨_, (pss_cons (ps_set (i := 3) sc__law_places.nd rfl (Or.inl rfl) (pe_lst pa_nil))
        (pss_cons (ps_for PassesOwn.never rfl (pi_range1 (by rfl) T.m_range (pa_cons (pv 2) pa_nil)) (pg_name (i := 4) sc__law_places.nd rfl (Or.inl rfl)) (pss_cons (ps_set (i := 5) sc__law_places.nd rfl (Or.inl rfl) (pe_call T.ok__law_pick hr (by rfl) T.g__law_pick T.k__law_pick T.b__law_pick .nil pass0 (pa_cons (pv 0) (pa_cons (pe_op op_sub (pv 1) (pv 4)) pa_nil))))
        (pss_cons (ps_for PassesOwn.never rfl (pi_list (pe_callB (cr_sortedK (K := K)) (by rfl) T.m_sorted (by decide +kernel) (pa_cons (pv 3) pa_nil))) (pg_name (i := 6) sc__law_places.nd rfl (Or.inl rfl)) (pss_one (ps_if (pt_cmpR op_le (pv 6) (pv 5) (nomark _)) (pss_one (ps_set (i := 5) sc__law_places.nd rfl (Or.inl rfl) (pe_op op_add (pv 5) pe_int))) pss_nil)))
        (pss_one (ps_expr (pe_bm PySem.F.plainAttrs_list PySem.F.slot_list_append PySem.F.type_list_append mt_append (pv 3) (pa_cons (pv 5) pa_nil)))))))
        (pss_one (ps_ret (pv 3))))), ?_⟩
    refine ⟨Nat.zero_le _, fun p np => ?_⟩
    have off := hT.off np
    refine ⟨_, rfl, m, rfl, by omega, by omega, ?_⟩
    refine for_range (lo := 0) (n := m.toNat) (fun i σ' H' => ∃ (o1 o2 o3 : Option V) (ms : List Int), σ' = [some (.ref t), some (.int n), some (.int m), some (.ref p), o1, o2, o3] ∧ ms.length = i ∧ ms.Nodup ∧ (∀ k ∈ ms, 0 ≤ k ∧ k < n) ∧ H' p = some (.lst (ms.map V.int)) ∧ Kp t H H' ∧ Tape H' t c)
      ⟨none, none, none, [], rfl, rfl, List.nodup_nil, fun _ h => (nomatch h), upd_same, Kp.of_same (same_upd np), hT.put off⟩ (fun i σ' H' hi pv => ?_) (fun σ' H' pv => ?_)
    · obtain ⟨o1, o2, o3, ms, rfl, hl, hnd, hrg, hp, kp, hT1⟩ := pv
      rw [Int.zero_add]
      refine ⟨_, rfl, _, rfl, _, rfl, _, _, rfl, rfl, ?_⟩
      refine ⟨t, c, n - i, rfl, hT1, by omega, by omega, fun x H2 x0 x1 kp2 hT2 => ?_⟩
      have hp2 := kp2 _ _ off.1 hp
      refine ⟨_, rfl, p, ms, rfl, SqL.of hp2, by omega, fun ss l perm pw nl => ?_⟩
      have hp3 : upd H2 l (.lst (ss.map V.int)) p = some (.lst (ms.map V.int)) := by rw [upd_ne (ne_of_none hp2 nl)]; exact hp2
      have kp3 : Kp t H (upd H2 l (.lst (ss.map V.int))) := (kp.trans kp2).new nl
      have hT3 : Tape (upd H2 l (.lst (ss.map V.int))) t c := hT2.put (hT2.off nl)
      have hl3 : upd H2 l (.lst (ss.map V.int)) l = some (.lst (ss.map V.int)) := upd_same
      generalize upd H2 l (.lst (ss.map V.int)) = H3 at hp3 kp3 hT3 hl3
      refine ⟨l, rfl, ⟨_, SqL.of hl3⟩, for_list (K := K) (a := l) (xs := ss.map V.int) (fun j σ2 H4 => ∃ (o3 : Option V) (y : Int), σ2 = [some (.ref t), some (.int n), some (.int m), some (.ref p), some (.int i), some (.int y), o3] ∧ H3 = H4 ∧ BI x ss j y) ⟨_, x, rfl, rfl, BI.zero⟩ (fun j σ2 H4 _ pv => by obtain ⟨_, _, _, rfl, _⟩ := pv; exact SqL.of hl3) (fun j v σ2 H4 hv pv => ?_) (fun σ2 H4 pv => ?_)⟩
      · obtain ⟨o3, y, rfl, rfl, bi⟩ := pv
        rw [List.getElem?_map] at hv
        obtain ⟨z, hz, rfl⟩ := Option.map_eq_some_iff.mp hv
        have st := bi.step pw hz
        refine ⟨_, rfl, _, rfl, _, _, rfl, rfl, _, rfl, ite2 (fun e => ?_) (fun e => ?_)⟩
        · rw [if_pos (of_decide_eq_true e)] at st
          exact ⟨_, rfl, _, _, rfl, rfl, _, _, rfl, rfl, st⟩
        · rw [if_neg (fun g => e (decide_eq_true g))] at st
          exact ⟨_, _, rfl, rfl, st⟩
      · obtain ⟨o3, y, rfl, rfl, bi⟩ := pv
        have sl := perm.length_eq
        rw [List.length_map] at bi
        have ny : y ∉ ms := fun g => bi.done (perm.mem_iff.mpr g)
        have yb := bi.2.1
        have ya := bi.1
        refine ⟨_, rfl, .inl ⟨rfl, _, SqL.of hp3⟩, _, rfl, p, _, _, rfl, rfl, hp3, small1000' (by rw [List.length_map]; omega), _, _, _, ms ++ [y], rfl, by rw [List.length_append, hl]; rfl, ?_, fun k hk => ?_, ?_, ?_, hT3.put off⟩
        · exact List.nodup_append.mpr ⟨hnd, List.pairwise_singleton _ _, fun a ha b hb z => by rw [List.mem_singleton.mp hb] at z; rw [z] at ha; exact ny ha⟩
        · rcases List.mem_append.mp hk with hk | hk
          · exact hrg k hk
          · rw [List.mem_singleton.mp hk]
            omega
        · rw [upd_same, List.map_append]
          rfl
        · intro b o nb e
          have nbp : b ≠ p := ne_of_none e np
          rw [upd_ne nbp]
          exact kp3 b o nb e
    · obtain ⟨o1, o2, o3, ms, rfl, hl, hnd, hrg, hp, kp, hT1⟩ := pv
      exact ⟨_, rfl, q p ms _ np hp (by omega) hnd hrg kp hT1⟩
def sp__law_nexts (K : PySem.W.Frag) : Sp := fun vs H Q _ => ∃ (t c pl : Addr) (ms : List Int), vs = [.ref t, .ref pl] ∧ Tape H t c ∧ pl ≠ t ∧ H pl = some (.lst (ms.map V.int)) ∧ ms.Nodup ∧ ms.length ≤ 1000 ∧
  ∀ p (nx : List (Key × V)) H', H p = none → H' p = some (.dK nx) → nx.map (·.1) = ms.map Sum.inl → (∀ k ∈ ms, ∃ x ∈ ms, valV nx (.inl k) = some (.int x)) → Kp t H H' → Tape H' t c → Q (.ref p) H'
theorem T0.ok__law_nexts (T : T0 K mg) : FnOk P w K mg base CX0 2 T.a__law_nexts T.fd__law_nexts ["tape", "places"] (sp__law_nexts K) := by
  refine T.F__law_nexts.ok sc__law_nexts (fun vs H Q E h => ?_) (fun cdv A outer s H vs Q E hr h => ?_)
  · obtain ⟨t, c, pl, ms, rfl, _⟩ := h
    rfl
  · obtain ⟨t, c, pl, ms, rfl, hT, n1, hp, hnd, l1, q⟩ := h
    refine ⟨_, (pss_cons (ps_set (i := 2) sc__law_nexts.nd rfl (Or.inl rfl) pe_dnewK)
        (pss_cons (ps_set (i := 3) sc__law_nexts.nd rfl (Or.inl rfl) (pe_callB (call_lenK (K := K)) (by rfl) T.m_len PySem.boot_len (pa_cons (pv 1) pa_nil)))
        (pss_cons (ps_set (i := 4) sc__law_nexts.nd rfl (Or.inl rfl) pe_int)
        (pss_cons (ps_set (i := 5) sc__law_nexts.nd rfl (Or.inl rfl) pe_int)
        (pss_cons (ps_set (i := 6) sc__law_nexts.nd rfl (Or.inl rfl) pe_int)
        (pss_cons (ps_for PassesOwn.never rfl (pi_range1 (by rfl) T.m_range (pa_cons (pv 3) pa_nil)) (pg_name (i := 7) sc__law_nexts.nd rfl (Or.inl rfl)) (C8.pss_cut (ps_if (pt_cmpR op_eq (pv 7) (pv 5) (nomark _)) (pss_cons (ps_set (i := 4) sc__law_nexts.nd rfl (Or.inl rfl) (pv 7))
        (pss_cons (ps_set (i := 5) sc__law_nexts.nd rfl (Or.inl rfl) (pv 3))
        (C8.pss_cut (ps_if (pt_cmpR op_eq (pe_call T.ok__law_pick hr (by rfl) T.g__law_pick T.k__law_pick T.b__law_pick .nil pass0 (pa_cons (pv 0) (pa_cons pe_int pa_nil))) pe_int (nomark _)) (pss_one (ps_set (i := 5) sc__law_nexts.nd rfl (Or.inl rfl) (pe_op op_add (pe_op op_add (pv 7) pe_int) (pe_call T.ok__law_pick hr (by rfl) T.g__law_pick T.k__law_pick T.b__law_pick .nil pass0 (pa_cons (pv 0) (pa_cons (pe_op op_sub (pv 3) (pv 7)) pa_nil)))))) pss_nil)
        (pss_one (ps_set (i := 6) sc__law_nexts.nd rfl (Or.inl rfl) (pe_op op_add pe_int (pe_call T.ok__law_pick hr (by rfl) T.g__law_pick T.k__law_pick T.b__law_pick .nil pass0 (pa_cons (pv 0) (pa_cons (pe_op op_sub (pv 5) (pv 4)) pa_nil))))))))) pss_nil)
        (pss_one (ps_if (pt_cmpR op_lt (pe_op op_sub (pv 7) (pv 4)) (pe_op op_sub (pv 6) pe_int) (nomark _)) (pss_one (ps_asg (pe_ix (ix_listK (K := K)) (pv 1) (pe_op op_add (pv 7) pe_int) (fun _ _ => rfl)) (pg_sub (pv 2) (pe_ix (ix_listK (K := K)) (pv 1) (pv 7) (fun _ _ => rfl)) (set_dict (un1 hr))))) (pss_one (ps_if (pt_cmpR op_eq (pe_op op_sub (pv 7) (pv 4)) (pe_op op_sub (pv 6) pe_int) (nomark _)) (pss_one (ps_asg (pe_ix (ix_listK (K := K)) (pv 1) (pv 4) (fun _ _ => rfl)) (pg_sub (pv 2) (pe_ix (ix_listK (K := K)) (pv 1) (pv 7) (fun _ _ => rfl)) (set_dict (un1 hr))))) (pss_one (ps_asg (pe_ix (ix_listK (K := K)) (pv 1) (pe_op op_add (pv 4) (pe_call T.ok__law_pick hr (by rfl) T.g__law_pick T.k__law_pick T.b__law_pick .nil pass0 (pa_cons (pv 0) (pa_cons (pe_op op_sub (pv 7) (pv 4)) pa_nil)))) (fun _ _ => rfl)) (pg_sub (pv 2) (pe_ix (ix_listK (K := K)) (pv 1) (pv 7) (fun _ _ => rfl)) (set_dict (un1 hr)))))))))))
        (pss_one (ps_ret (pv 2))))))))), fun D nD => ?_⟩
    have oD := hT.off nD
    have hp1 := (upd_ne (o := .dK []) (ne_of_none hp nD)).trans hp
    refine ⟨_, rfl, pl, _, rfl, .inl (SqL.of hp1), ?_⟩
    rw [List.length_map]
    refine ⟨_, rfl, (ms.length : Int), rfl, by omega, by omega, ?_⟩
    rw [Int.toNat_natCast]
    refine for_range (lo := 0) (n := ms.length) (fun i σ' H' => ∃ (f l r : Int) (o7 : Option V) (nx : List (Key × V)), σ' = [some (.ref t), some (.ref pl), some (.ref D), some (.int ms.length), some (.int f), some (.int l), some (.int r), o7] ∧ 0 ≤ f ∧ f ≤ i ∧ i ≤ l ∧ l ≤ ms.length ∧ (i < l → 1 ≤ r ∧ r ≤ l - f) ∧ H' D = some (.dK nx) ∧ nx.map (·.1) = (ms.take i).map Sum.inl ∧ (∀ k ∈ ms.take i, ∃ x ∈ ms, valV nx (.inl k) = some (.int x)) ∧ Kp t H H' ∧ Tape H' t c)
      ⟨0, 0, 0, none, [], rfl, by omega, by omega, by omega, by omega, fun h => by omega, upd_same, by rw [List.take_zero]; rfl, fun k h => (by rw [List.take_zero] at h; cases h), Kp.of_same (same_upd nD), hT.put oD⟩ (fun i σ' H' hi pv => ?_) (fun σ' H' pv => ?_)
    · obtain ⟨f, l, r, o7, nx, rfl, f0, fi, il, lN, hr', hD, hk, hx, k1, T1⟩ := pv
      rw [Int.zero_add]
      refine ⟨fun σ' H' => ∃ f l r : Int, σ' = [some (.ref t), some (.ref pl), some (.ref D), some (.int ms.length), some (.int f), some (.int l), some (.int r), some (.int i)] ∧ 0 ≤ f ∧ f ≤ i ∧ i < l ∧ l ≤ ms.length ∧ 1 ≤ r ∧ r ≤ l - f ∧ H' D = some (.dK nx) ∧ Kp t H H' ∧ Tape H' t c, ?_, ?_⟩
      · refine ⟨_, rfl, _, rfl, rfl, _, rfl, ite2 (fun e => ?_) (fun e => ?_)⟩
        · refine ⟨_, rfl, _, rfl, ?_⟩
          refine ⟨fun σ' H' => ∃ l : Int, σ' = [some (.ref t), some (.ref pl), some (.ref D), some (.int ms.length), some (.int i), some (.int l), some (.int r), some (.int i)] ∧ i < l ∧ l ≤ ms.length ∧ H' D = some (.dK nx) ∧ Kp t H H' ∧ Tape H' t c, ?_, ?_⟩
          · refine ⟨_, rfl, t, c, 4, rfl, T1, by decide, by decide, fun d H2 d0 d1 k2 T2 => ⟨rfl, _, rfl, ite2 (fun _ => ?_) (fun _ => ?_)⟩⟩
            · refine ⟨_, rfl, _, _, rfl, rfl, _, rfl, _, rfl, _, rfl, _, _, rfl, rfl, t, c, ms.length - i, rfl, T2, by omega, by omega, fun d H3 d0 d1 k3 T3 => ⟨_, _, rfl, rfl, _, rfl, by omega, by omega, k3 _ _ oD.1 (k2 _ _ oD.1 hD), (k1.trans k2).trans k3, T3⟩⟩
            · exact ⟨_, rfl, by omega, by omega, k2 _ _ oD.1 hD, k1.trans k2, T2⟩
          rintro _ H3 ⟨l', rfl, il', lN', hD3, k3, T3⟩
          refine ⟨_, rfl, _, rfl, _, rfl, _, _, rfl, rfl, t, c, l' - i, rfl, T3, by omega, by omega, fun d H4 d0 d1 k4 T4 => ⟨_, _, rfl, rfl, i, l', 1 + d, rfl, by omega, by omega, il', lN', by omega, by omega, k4 _ _ oD.1 hD3, k3.trans k4, T4⟩⟩
        · have ne : ¬ (i : Int) = l := fun z => e (decide_eq_true (congrArg V.int z))
          exact ⟨f, l, r, rfl, f0, fi, by omega, lN, (hr' (by omega)).1, (hr' (by omega)).2, hD, k1, T1⟩
      rintro _ H2 ⟨f, l, r, rfl, f0, fi, il, lN, r1, r2, hD2, k2, T2⟩
      have hp2 := k2 _ _ n1 hp
      have gi : ms[i]? = some ms[i] := List.getElem?_eq_getElem hi
      have lx : nx.length = (ms.take i).length := by have := congrArg List.length hk; rw [List.length_map, List.length_map] at this; exact this
      have sx : nx.length < sizeLine := small1000' (by rw [lx, List.length_take]; omega)
      have fin : ∀ (H3 : Hp) (x : Int), x ∈ ms → Kp t H H3 → Tape H3 t c → ∃ (f' l' r' : Int) (o7 : Option V) (nx' : List (Key × V)), [some (V.ref t), some (.ref pl), some (.ref D), some (.int ms.length), some (.int f), some (.int l), some (.int r), some (.int i)] = [some (.ref t), some (.ref pl), some (.ref D), some (.int ms.length), some (.int f'), some (.int l'), some (.int r'), o7] ∧ 0 ≤ f' ∧ f' ≤ ((i + 1 : Nat) : Int) ∧ ((i + 1 : Nat) : Int) ≤ l' ∧ l' ≤ ms.length ∧ (((i + 1 : Nat) : Int) < l' → 1 ≤ r' ∧ r' ≤ l' - f') ∧ upd H3 D (.dK (putK nx (.inl ms[i]) (.int x))) D = some (.dK nx') ∧ nx'.map (·.1) = (ms.take (i + 1)).map Sum.inl ∧ (∀ k ∈ ms.take (i + 1), ∃ x ∈ ms, valV nx' (.inl k) = some (.int x)) ∧ Kp t H (upd H3 D (.dK (putK nx (.inl ms[i]) (.int x)))) ∧ Tape (upd H3 D (.dK (putK nx (.inl ms[i]) (.int x)))) t c := fun H3 x mx k3 T3 => by
        refine ⟨f, l, r, _, _, rfl, f0, by omega, by omega, lN, fun _ => ⟨r1, r2⟩, upd_same, ?_, fun k hk2 => ?_, fun a o na e => ?_, T3.put oD⟩
        · rw [putK_new _ (valV_none_keys hk (not_in_take hnd gi)), List.map_append, hk, List.take_add_one, gi, Option.toList_some, List.map_append]
          rfl
        · rw [valV_put]
          by_cases e : k = ms[i]
          · rw [e, if_pos rfl]
            exact ⟨x, mx, rfl⟩
          · rw [if_neg (fun z => e (Sum.inl.inj z))]
            rw [List.take_add_one, gi, Option.toList_some] at hk2
            exact hx k ((List.mem_append.mp hk2).resolve_right (fun z => e (List.mem_singleton.mp z)))
        · exact (upd_ne (ne_of_none e nD)).trans (k3 _ _ na e)
      have pick : ∀ (j : Nat) (h : j < ms.length), atI (ms.map V.int) (j : Int) = some (.int ms[j]) := fun j h => at_ints h
      refine ⟨_, rfl, _, rfl, _, _, rfl, rfl, _, rfl, _, _, rfl, rfl, _, _, rfl, rfl, _, rfl, ite2 (fun e => ?_) (fun e => ?_)⟩
      · have e := of_decide_eq_true e
        have hj : i + 1 < ms.length := by omega
        exact ⟨_, rfl, _, rfl, _, _, rfl, rfl, pl, _, _, .int ms[i + 1], rfl, rfl, SqL.of hp2, pick (i + 1) hj, _, rfl, _, rfl, _, rfl, pl, _, _, .int ms[i], rfl, rfl, SqL.of hp2, pick i hi, D, _, rfl, DPut.k (k := Sum.inl ms[i]) hD2 sx, fin H2 ms[i + 1] (List.getElem_mem _) k2 T2⟩
      · refine ⟨_, rfl, _, rfl, _, _, rfl, rfl, _, rfl, _, _, rfl, rfl, rfl, _, rfl, ite2 (fun g => ?_) (fun g => ?_)⟩
        · have hj : f.toNat < ms.length := by omega
          have ef : f = ((f.toNat : Nat) : Int) := by omega
          exact ⟨_, rfl, _, rfl, pl, _, _, .int ms[f.toNat], rfl, rfl, SqL.of hp2, (congrArg (atI (ms.map V.int)) ef).trans (pick _ hj), _, rfl, _, rfl, _, rfl, pl, _, _, .int ms[i], rfl, rfl, SqL.of hp2, pick i hi, D, _, rfl, DPut.k (k := Sum.inl ms[i]) hD2 sx, fin H2 ms[f.toNat] (List.getElem_mem _) k2 T2⟩
        · have e : ¬ (i : Int) - f < r - 1 := fun z => e (decide_eq_true z)
          have g : ¬ (i : Int) - f = r - 1 := fun z => g (decide_eq_true (congrArg V.int z))
          refine ⟨_, rfl, _, rfl, _, rfl, _, rfl, _, rfl, _, _, rfl, rfl, t, c, i - f, rfl, T2, by omega, by omega, fun d H3 d0 d1 k3 T3 => ?_⟩
          have hj : (f + d).toNat < ms.length := by omega
          have ef : f + d = (((f + d).toNat : Nat) : Int) := by omega
          have hp3 := k3 _ _ n1 hp2
          exact ⟨_, _, rfl, rfl, pl, _, _, .int ms[(f + d).toNat], rfl, rfl, SqL.of hp3, (congrArg (atI (ms.map V.int)) ef).trans (pick _ hj), _, rfl, _, rfl, _, rfl, pl, _, _, .int ms[i], rfl, rfl, SqL.of hp3, pick i hi, D, _, rfl, DPut.k (k := Sum.inl ms[i]) (k3 _ _ oD.1 hD2) sx, fin H3 ms[(f + d).toNat] (List.getElem_mem _) (k2.trans k3) T3⟩
    · obtain ⟨f, l, r, o7, nx, rfl, f0, fi, il, lN, hr', hD, hk, hx, k1, T1⟩ := pv
      rw [List.take_length] at hk hx
      exact ⟨_, rfl, q D nx _ nD hD hk hx k1 T1⟩
theorem cut_lo {ms : List Int} {d : Int} (h0 : 0 ≤ d) : cutV (ms.map V.int) none (some d) = (ms.take d.toNat).map V.int := by
  unfold cutV
  rw [HT.sIx_none, show HT.sIx (ms.map V.int).length (ms.map V.int).length (some d) = min d.toNat (ms.map V.int).length from if_neg (by omega), List.drop_zero, List.length_map, List.map_take, Nat.sub_zero]
  by_cases e : d.toNat ≤ ms.length
  · rw [Nat.min_eq_left e]
  · rw [Nat.min_eq_right (by omega), List.take_of_length_le (by rw [List.length_map]; omega), List.take_of_length_le (by rw [List.length_map]; omega)]
theorem cut_hi {ms : List Int} {d : Int} (h0 : 0 ≤ d) : cutV (ms.map V.int) (some d) none = (ms.drop d.toNat).map V.int := by
  unfold cutV
  rw [HT.sIx_none, show HT.sIx (ms.map V.int).length 0 (some d) = min d.toNat (ms.map V.int).length from if_neg (by omega), List.length_map, List.map_drop]
  by_cases e : d.toNat ≤ ms.length
  · rw [Nat.min_eq_left e, List.take_of_length_le (by rw [List.length_drop, List.length_map]; omega)]
  · rw [Nat.min_eq_right (by omega), List.drop_of_length_le (by rw [List.length_map]; omega), List.drop_of_length_le (by rw [List.length_map]; omega), List.take_nil]
def GK (ms ks : List Int) (nx : List (Key × V)) : Prop := nx.map (·.1) = ks.map Sum.inl ∧ ∀ k ∈ ks, ∃ x ∈ ms, valV nx (.inl k) = some (.int x)
def sp__law_parts (K : PySem.W.Frag) : Sp := fun vs H Q _ => ∃ (t c pl : Addr) (ms : List Int), vs = [.ref t, .ref pl] ∧ Tape H t c ∧ pl ≠ t ∧ H pl = some (.lst (ms.map V.int)) ∧ ms.Nodup ∧ ms.length ≤ 1000 ∧
  ∀ p (nx : List (Key × V)) H', H p = none → H' p = some (.dK nx) → GN ms nx → Kp t H H' → Tape H' t c → Q (.ref p) H'
--CUT
theorem draw {t c l : Addr} {ms : List Int} {H1 : Hp} (nl : l ≠ t) (e : H1 l = some (.lst (ms.map V.int))) (h0 : 0 < ms.length) (h1 : ms.length ≤ 1000) (t1 : Tape H1 t c) {Q' : VK} (k : ∀ (z : Int) H2, z ∈ ms → Kp t H1 H2 → Tape H2 t c → Q' (.int z) H2) :
    (sp__law_pick K) ([.ref t, .int ((ms.map V.int).length : Int)] ++ []) H1 (fun y H2 => rIxL K (.ref l) y H2 Q') E0 := by
  refine ⟨t, c, _, rfl, t1, by rw [List.length_map]; omega, by rw [List.length_map]; omega, fun z H2 z0 z1 k2 t2 => ?_⟩
  rw [List.length_map] at z1
  have hz : z.toNat < ms.length := by omega
  have az : atI (ms.map V.int) z = some (.int ms[z.toNat]) := by
    rw [← at_ints hz, Int.toNat_of_nonneg z0]
  exact ⟨l, _, z, _, rfl, rfl, SqL.of (k2 _ _ nl e), az, k _ H2 (List.getElem_mem hz) k2 t2⟩
theorem LAt.kp {α : Type} {f : α → List V} {t c : Addr} {H H' : Hp} {vs : List V} {qs : List α} (h : LAt f H vs qs) (T : Tape H t c) (k : Kp t H H') : LAt f H' vs qs := by
  obtain ⟨⟨xt, et⟩, _⟩ := tape_at T
  exact h.mono fun a xs e => k _ _ (ne_kind e et (fun z => nomatch z)) e
def Ltr (ks : List Int) (H : Hp) (vs : List V) (Ls : List Let) : Prop := LAt Let.vals H vs Ls ∧ ∀ L ∈ Ls, ∀ k ∈ L.ns, k ∈ ks
theorem Ltr.kp {ks : List Int} {t c : Addr} {H H' : Hp} {vs : List V} {Ls : List Let} (h : Ltr ks H vs Ls) (T : Tape H t c) (k : Kp t H H') : Ltr ks H' vs Ls := ⟨h.1.kp T k, h.2⟩
theorem Ltr.same {ks : List Int} {H H' : Hp} {vs : List V} {Ls : List Let} (h : Ltr ks H vs Ls) (s : Same H H') : Ltr ks H' vs Ls := ⟨h.1.same s, h.2⟩
theorem Ltr.app {ks : List Int} {H : Hp} {vs : List V} {Ls : List Let} {a : Addr} {L : Let} (h : Ltr ks H vs Ls) (e : H a = some (.tup L.vals)) (g : ∀ k ∈ L.ns, k ∈ ks) : Ltr ks H (vs ++ [.ref a]) (Ls ++ [L]) := ⟨h.1.app e, fun M hM => (List.mem_append.mp hM).elim (h.2 M) fun z => by rw [List.mem_singleton.mp z]; exact g⟩
def sp__law_post (K : PySem.W.Frag) : Sp := fun vs H Q _ => ∃ (t c dN : Addr) (ks : List Int) (nx : List (Key × V)), vs = [.ref t, .ref dN] ∧ Tape H t c ∧ dN ≠ t ∧ H dN = some (.dK nx) ∧ GN ks nx ∧ ks.Nodup ∧ ks.length < 64 ∧
  ∀ p (us : List V) (Ls : List Let) H', H p = none → H' p = some (.lst us) → Ltr ks H' us Ls → us.length ≤ 60 → Kp t H H' → Tape H' t c → Q (.ref p) H'
--CUT
/-! ### one net and what stands beside it -/
structure Bd where
  (h dn db dl dN dB pO : Addr)
structure Ws where
  ks : List Int
  (nx bs bf : List (Key × V))
  (ps ls : List V)
structure NJ (CN t c : Addr) (A : Bd) (n : Int) (S : Ws) (H : Hp) : Prop where
  tape : Tape H t c
  net : NetAt CN H A.h n A.dn A.db A.dl S.nx S.bf S.ls
  hN : H A.dN = some (.dK S.nx)
  hB : H A.dB = some (.dK S.bs)
  hP : H A.pO = some (.lst S.ps)
  gn : GN S.ks S.nx
  nd : S.ks.Nodup
  rng : ∀ k ∈ S.ks, 0 ≤ k ∧ k < n
  n0 : 0 < n
  gb : GB S.ks S.bs
  kb : KB S.bs
  vf : VF S.ks S.bf S.bs
  lets : Alike (LetSame H S.ks) S.ps S.ls
  ndl : A.pO ≠ t ∧ A.pO ≠ c ∧ A.dl ≠ t ∧ A.dl ≠ c ∧ A.pO ≠ A.dl
  ndd : A.dn ≠ A.db ∧ A.dn ≠ A.dN ∧ A.dn ≠ A.dB ∧ A.db ≠ A.dN ∧ A.db ≠ A.dB ∧ A.dN ≠ A.dB
  lks : S.ks.length ≤ 41
  lps : S.ps.length ≤ 60
  lbf : S.bf.length ≤ 200
/-- nothing but the tape and what belongs to A has changed -/
def Fo (t : Addr) (A : Bd) (H H' : Hp) : Prop := ∀ a o, a ≠ t → a ≠ A.dn → a ≠ A.db → a ≠ A.dl → a ≠ A.dN → a ≠ A.dB → a ≠ A.pO → H a = some o → H' a = some o
theorem Fo.of {t : Addr} {A : Bd} {H H' : Hp} (s : Same H H') : Fo t A H H' := fun a o _ _ _ _ _ _ _ e => s a o e
theorem Fo.kp {t : Addr} {A : Bd} {H H' : Hp} (s : Kp t H H') : Fo t A H H' := fun a o n _ _ _ _ _ _ e => s a o n e
theorem Fo.trans {t : Addr} {A : Bd} {H H' H2 : Hp} (f : Fo t A H H') (g : Fo t A H' H2) : Fo t A H H2 := fun a o n1 n2 n3 n4 n5 n6 n7 e => g a o n1 n2 n3 n4 n5 n6 n7 (f a o n1 n2 n3 n4 n5 n6 n7 e)
section
variable {CN t c : Addr} {A : Bd} {n : Int} {S : Ws} {H H' : Hp}
theorem NJ.kp (I : NJ CN t c A n S H) (f : Kp t H H') (T : Tape H' t c) : NJ CN t c A n S H' := by
  obtain ⟨⟨xt, et⟩, _⟩ := tape_at I.tape
  have g : ∀ {a : Addr} {o : HO}, H a = Option.some o → (∀ xs, o ≠ .lst xs) → H' a = Option.some o := fun e no => f _ _ (fun z => by rw [z, et] at e; exact no _ (Option.some.inj e).symm) e
  exact { I with
    tape := T
    net := ⟨let ⟨d, e⟩ := I.net.me; ⟨d, g e (fun _ z => nomatch z)⟩, g I.net.hn (fun _ z => nomatch z), g I.net.hb (fun _ z => nomatch z), f _ _ I.ndl.2.2.1 I.net.hl⟩
    hN := g I.hN (fun _ z => nomatch z)
    hB := g I.hB (fun _ z => nomatch z)
    hP := f _ _ I.ndl.1 I.hP
    lets := I.lets.mono fun _ _ h => h.mono (fun _ _ e => g e (fun _ z => nomatch z)) fun _ h => h }
theorem NJ.same (I : NJ CN t c A n S H) (s : Same H H') : NJ CN t c A n S H' := I.kp (.of_same s) (I.tape.same s)
/-- other tables, other letters, all in their places -/
theorem NJ.set (I : NJ CN t c A n S H) {nx bs bf : List (Key × V)} {ps ls : List V} (f : Fo t A H H') (ft : ∀ a xs, H a = some (.lst xs) → a ≠ A.dl → a ≠ A.pO → H' a = some (.lst xs)) (net : NetAt CN H' A.h n A.dn A.db A.dl nx bf ls) (hN : H' A.dN = some (.dK nx)) (hB : H' A.dB = some (.dK bs)) (hP : H' A.pO = some (.lst ps))
    (gn : GN S.ks nx) (gb : GB S.ks bs) (kb : KB bs) (vf : VF S.ks bf bs) (lt : Alike (LetSame H' S.ks) ps ls) (lp : ps.length ≤ 60) (lb : bf.length = S.bf.length) : NJ CN t c A n { S with nx := nx, bs := bs, bf := bf, ps := ps, ls := ls } H' := by
  obtain ⟨cs, a, b, k, r, e1, e2, e3, e4⟩ := I.tape
  exact {
    tape := ⟨cs, a, b, k, r, ft _ _ e1 I.ndl.2.2.1.symm I.ndl.1.symm, ft _ _ e2 I.ndl.2.2.2.1.symm I.ndl.2.1.symm, e3, e4⟩
    net := net, hN := hN, hB := hB, hP := hP, gn := gn, nd := I.nd, rng := I.rng, n0 := I.n0, gb := gb, kb := kb, vf := vf, lets := lt, ndl := I.ndl, ndd := I.ndd, lks := I.lks, lps := lp
    lbf := by show bf.length ≤ 200; rw [lb]; exact I.lbf }
/-- a tuple stays -/
theorem NJ.tup (I : NJ CN t c A n S H) (f : Fo t A H H') {a : Addr} {xs : List V} (e : H a = some (.tup xs)) : H' a = some (.tup xs) := by
  obtain ⟨⟨xt, et⟩, _⟩ := tape_at I.tape
  exact f _ _ (ne_kind e et (fun z => nomatch z)) (ne_kind e I.net.hn (fun z => nomatch z)) (ne_kind e I.net.hb (fun z => nomatch z)) (ne_kind e I.net.hl (fun z => nomatch z)) (ne_kind e I.hN (fun z => nomatch z)) (ne_kind e I.hB (fun z => nomatch z)) (ne_kind e I.hP (fun z => nomatch z)) e
/-- two nets apart -/
def Dj (A B : Bd) : Prop := (∀ a ∈ [B.dn, B.db, B.dN, B.dB], a ≠ A.dn ∧ a ≠ A.db ∧ a ≠ A.dN ∧ a ≠ A.dB) ∧ ∀ a ∈ [B.dl, B.pO], a ≠ A.dl ∧ a ≠ A.pO
theorem NJ.other {B : Bd} {S2 : Ws} (J : NJ CN t c B n S2 H) (I : NJ CN t c A n S H) (f : Fo t A H H') (T : Tape H' t c) (d : Dj A B) : NJ CN t c B n S2 H' := by
  obtain ⟨⟨xt, et⟩, _⟩ := tape_at I.tape
  have dk : ∀ {a : Addr} {z : List (Key × V)}, a ∈ [B.dn, B.db, B.dN, B.dB] → H a = some (.dK z) → H' a = some (.dK z) := fun m e => by
    obtain ⟨n1, n2, n3, n4⟩ := d.1 _ m
    exact f _ _ (ne_kind e et (fun z => nomatch z)) n1 n2 (ne_kind e I.net.hl (fun z => nomatch z)) n3 n4 (ne_kind e I.hP (fun z => nomatch z)) e
  have dl : ∀ {a : Addr} {z : List V}, a ∈ [B.dl, B.pO] → a ≠ t → H a = some (.lst z) → H' a = some (.lst z) := fun m nt e => by
    obtain ⟨n1, n2⟩ := d.2 _ m
    exact f _ _ nt (ne_kind e I.net.hn (fun z => nomatch z)) (ne_kind e I.net.hb (fun z => nomatch z)) n1 (ne_kind e I.hN (fun z => nomatch z)) (ne_kind e I.hB (fun z => nomatch z)) n2 e
  exact { J with
    tape := T
    net := ⟨let ⟨dx, e⟩ := J.net.me; ⟨dx, f _ _ (ne_kind e et (fun z => nomatch z)) (ne_kind e I.net.hn (fun z => nomatch z)) (ne_kind e I.net.hb (fun z => nomatch z)) (ne_kind e I.net.hl (fun z => nomatch z)) (ne_kind e I.hN (fun z => nomatch z)) (ne_kind e I.hB (fun z => nomatch z)) (ne_kind e I.hP (fun z => nomatch z)) e⟩, dk (by simp) J.net.hn, dk (by simp) J.net.hb, dl (by simp) J.ndl.2.2.1 J.net.hl⟩
    hN := dk (by simp) J.hN
    hB := dk (by simp) J.hB
    hP := dl (by simp) J.ndl.1 J.hP
    lets := J.lets.mono fun _ _ h => h.mono (fun _ _ e => I.tup f e) fun _ h => h }
end
theorem insert_sorted (a : Int) : ∀ l : List Int, l.Pairwise (· ≤ ·) → ∃ l' : List Int, l'.Perm (a :: l) ∧ l'.Pairwise (· ≤ ·)
  | [], _ => ⟨[a], .refl _, List.pairwise_singleton _ _⟩
  | b :: r, h => by
    obtain ⟨h1, h2⟩ := List.pairwise_cons.mp h
    by_cases e : a ≤ b
    · refine ⟨a :: b :: r, .refl _, List.pairwise_cons.mpr ⟨fun x hx => ?_, h⟩⟩
      rcases List.mem_cons.mp hx with rfl | hx
      · exact e
      · have := h1 x hx
        omega
    · obtain ⟨l', p, s⟩ := insert_sorted a r h2
      refine ⟨b :: l', (List.Perm.cons b p).trans (List.Perm.swap a b r), List.pairwise_cons.mpr ⟨fun x hx => ?_, s⟩⟩
      rcases List.mem_cons.mp (p.mem_iff.mp hx) with rfl | hx
      · omega
      · exact h1 x hx
theorem exists_sorted : ∀ l : List Int, ∃ l' : List Int, l'.Perm l ∧ l'.Pairwise (· ≤ ·)
  | [] => ⟨[], .refl _, List.Pairwise.nil⟩
  | a :: r => by
    obtain ⟨l, p, s⟩ := exists_sorted r
    obtain ⟨l', p', s'⟩ := insert_sorted a l s
    exact ⟨l', p'.trans (List.Perm.cons a p), s'⟩
structure WK where
  ks : List Int
  (nx bs bf : List (Key × V))
  (ps ls : List V)
  Ls : List Let
structure NK (CN t c : Addr) (A : Bd) (n : Int) (m : Nat) (S : WK) (H : Hp) : Prop where
  tape : Tape H t c
  net : NetAt CN H A.h n A.dn A.db A.dl S.nx S.bf S.ls
  hN : H A.dN = some (.dK S.nx)
  hB : H A.dB = some (.dK S.bs)
  hP : H A.pO = some (.lst S.ps)
  gn : GN S.ks S.nx
  nd : S.ks.Nodup
  rng : ∀ k ∈ S.ks, 0 ≤ k ∧ k < n
  n0 : 0 < n
  n9 : n ≤ 1000000000
  gc : GC S.ks S.bs
  kb : KB S.bs
  vf : VF S.ks S.bf S.bs
  lp : Ltr S.ks H S.ps S.Ls
  ll : Ltr S.ks H S.ls S.Ls
  ndl : A.pO ≠ t ∧ A.pO ≠ c ∧ A.dl ≠ t ∧ A.dl ≠ c ∧ A.pO ≠ A.dl
  ndd : A.dn ≠ A.db ∧ A.dn ≠ A.dN ∧ A.dn ≠ A.dB ∧ A.db ≠ A.dN ∧ A.db ≠ A.dB ∧ A.dN ≠ A.dB
  lks : S.ks.length ≤ 40
  lps : S.ps.length ≤ 60 + m
  lbf : S.bf.length ≤ 100 + m
section
variable {CN t c : Addr} {A : Bd} {n : Int} {m : Nat} {S : WK} {H H' : Hp}
theorem NK.kp (I : NK CN t c A n m S H) (f : Kp t H H') (T : Tape H' t c) : NK CN t c A n m S H' := by
  obtain ⟨⟨xt, et⟩, _⟩ := tape_at I.tape
  have g : ∀ {a : Addr} {o : HO}, H a = Option.some o → (∀ xs, o ≠ .lst xs) → H' a = Option.some o := fun e no => f _ _ (fun z => by rw [z, et] at e; exact no _ (Option.some.inj e).symm) e
  exact { I with
    tape := T
    net := ⟨let ⟨d, e⟩ := I.net.me; ⟨d, g e (fun _ z => nomatch z)⟩, g I.net.hn (fun _ z => nomatch z), g I.net.hb (fun _ z => nomatch z), f _ _ I.ndl.2.2.1 I.net.hl⟩
    hN := g I.hN (fun _ z => nomatch z)
    hB := g I.hB (fun _ z => nomatch z)
    hP := f _ _ I.ndl.1 I.hP
    lp := I.lp.kp I.tape f
    ll := I.ll.kp I.tape f }
theorem NK.same (I : NK CN t c A n m S H) (s : Same H H') : NK CN t c A n m S H' := I.kp (.of_same s) (I.tape.same s)
theorem NK.more (I : NK CN t c A n m S H) {m' : Nat} (h : m ≤ m') : NK CN t c A n m' S H := { I with lps := Nat.le_trans I.lps (by omega), lbf := Nat.le_trans I.lbf (by omega) }
end
theorem sV_atom {n : Int} (q : Int × Int) : (sV n q).length ≤ 100000 ∧ ∀ y ∈ sV n q, atomV y = true := ⟨by show 3 ≤ 100000; decide, by simp [sV, atomV]⟩
def sp__law_listed (K : PySem.W.Frag) (CN : Addr) : Sp := fun vs H Q _ => ∃ (t c : Addr) (A : Bd) (n : Int) (m : Nat) (S : WK), vs = [.ref A.h, .int n, .ref A.dN, .ref A.dB, .ref A.pO] ∧ NK CN t c A n m S H ∧ m ≤ 10 ∧ ∀ H', Same H H' → Q (.bl true) H'
--CUT
section
variable {ks : List Int} {nx bs bf : List (Key × V)} {p x n r : Int} {v : V} {L : Let}
theorem GN.put (g : GN ks nx) (hp : p ∈ ks) (hx : x ∈ ks) : GN ks (putK nx (.inl p) (.int x)) := by
  refine ⟨?_, fun k hk => ?_⟩
  · rw [keys_putK_old (by obtain ⟨y, _, e⟩ := g.2 p hp; rw [e]; rfl)]
    exact g.1
  · rw [valV_put]
    by_cases e : k = p
    · rw [e, if_pos rfl]
      exact ⟨x, hx, rfl⟩
    · rw [if_neg (fun z => e (Sum.inl.inj z))]
      exact g.2 k hk
theorem GC.put (g : GC ks bs) (hp : p ∈ ks) (hv : v = .non ∨ ∃ x ∈ ks, v = .int x) : GC ks (putK bs (.inl p) v) := fun k u e => by
  rw [valV_put] at e
  by_cases z : k = p
  · rw [if_pos (by rw [z])] at e
    cases e
    exact ⟨by rw [z]; exact hp, hv⟩
  · rw [if_neg (fun y => z (Sum.inl.inj y))] at e
    exact g k u e
theorem VF.put (h : VF ks bf bs) : VF ks (putK bf (.inl p) v) (putK bs (.inl p) v) := fun k hk => by
  unfold bef
  rw [valV_put, valV_put]
  by_cases e : k = p
  · rw [if_pos (by rw [e]), if_pos (by rw [e])]
    rfl
  · rw [if_neg (fun z => e (Sum.inl.inj z)), if_neg (fun z => e (Sum.inl.inj z))]
    exact h k hk
theorem GC.nB (g : GC ks bs) (hL : ∀ k ∈ L.ns, k ∈ ks) (hr : r ∈ ks) : GC ks (nB n r (bef bs r) L bs) := by
  unfold Z.nB
  split
  · rename_i h
    obtain ⟨u, mu, eu⟩ := (hB_mem (n := n) (r := r) (L := L) (g.ok r)).resolve_left h.2
    exact g.put hr (.inr ⟨u, hL _ mu, eu⟩)
  · exact g
theorem len_putK (h : (valV nx (.inl p)).isSome = true) : (putK nx (.inl p) v).length = nx.length := by
  have := congrArg List.length (keys_putK_old (v := v) h)
  rw [List.length_map, List.length_map] at this
  exact this
theorem GN.adm (g : GN ks nx) (hp : p ∉ ks) (hx : x ∈ ks) : GN (ks ++ [p]) (putK nx (.inl p) (.int x)) := by
  refine ⟨?_, fun k hk => ?_⟩
  · rw [putK_new _ (valV_none_keys g.1 hp), List.map_append, g.1, List.map_append]
    rfl
  · rw [valV_put]
    by_cases e : k = p
    · rw [e, if_pos rfl]
      exact ⟨x, List.mem_append_left _ hx, rfl⟩
    · rw [if_neg (fun z => e (Sum.inl.inj z))]
      obtain ⟨y, my, ey⟩ := g.2 k ((List.mem_append.mp hk).resolve_right (fun z => e (List.mem_singleton.mp z)))
      exact ⟨y, List.mem_append_left _ my, ey⟩
theorem GC.adm (g : GC ks bs) : GC (ks ++ [p]) bs := fun k u e => by
  obtain ⟨h1, h2⟩ := g k u e
  exact ⟨List.mem_append_left _ h1, h2.imp id fun ⟨x, mx, ex⟩ => ⟨x, List.mem_append_left _ mx, ex⟩⟩
theorem VF.adm (h : VF ks bf bs) (g : GC ks bs) (hp : p ∉ ks) : VF (ks ++ [p]) (putK bf (.inl p) .non) bs := fun k hk => by
  rw [valV_put]
  by_cases e : k = p
  · rw [if_pos (by rw [e]), e]
    refine congrArg some (Decidable.byContradiction fun z => hp ?_)
    exact g.mem (fun y => z y.symm)
  · rw [if_neg (fun z => e (Sum.inl.inj z))]
    exact h k ((List.mem_append.mp hk).resolve_right (fun z => e (List.mem_singleton.mp z)))
theorem len_putK_le (kvs : List (Key × V)) (k : Key) (v : V) : (putK kvs k v).length ≤ kvs.length + 1 := by
  unfold putK
  split
  · rw [List.length_map]; omega
  · rw [List.length_append]; exact Nat.le_refl _
end
theorem Ltr.mono {ks ks' : List Int} {H H' : Hp} {vs : List V} {Ls : List Let} (h : Ltr ks H vs Ls) (f : ∀ a xs, H a = some (.tup xs) → H' a = some (.tup xs)) (g : ∀ k ∈ ks, k ∈ ks') : Ltr ks' H' vs Ls := ⟨h.1.mono f, fun L hL k hk => g _ (h.2 L hL k hk)⟩
theorem LAt.erase {α : Type} {f : α → List V} {H : Hp} {vs : List V} {qs : List α} (h : LAt f H vs qs) (k : Nat) : LAt f H (vs.eraseIdx k) (qs.eraseIdx k) := by
  refine ⟨by rw [List.length_eraseIdx, List.length_eraseIdx, h.1], fun i x y e1 e2 => ?_⟩
  rw [List.getElem?_eraseIdx] at e1 e2
  split at e1
  · rename_i g
    rw [if_pos g] at e2
    exact h.2 _ _ _ e1 e2
  · rename_i g
    rw [if_neg g] at e2
    exact h.2 _ _ _ e1 e2
theorem Ltr.erase {ks : List Int} {H : Hp} {vs : List V} {Ls : List Let} (h : Ltr ks H vs Ls) (k : Nat) : Ltr ks H (vs.eraseIdx k) (Ls.eraseIdx k) := ⟨h.1.erase k, fun L hL => h.2 L (List.mem_of_mem_eraseIdx hL)⟩
section
variable {CN t c : Addr} {A : Bd} {n : Int} {m : Nat} {S S' : WK} {H H' : Hp}
theorem NK.lets (I : NK CN t c A n m S H) {k : Nat} (hk : k < S.ps.length) : ∃ (a b : Addr) (L : Let), S.ps[k]? = some (.ref a) ∧ S.ls[k]? = some (.ref b) ∧ S.Ls[k]? = some L ∧ H a = some (.tup L.vals) ∧ H b = some (.tup L.vals) ∧ ∀ j ∈ L.ns, j ∈ S.ks := by
  obtain ⟨a, L, h1, h2, h3⟩ := I.lp.1.at (List.getElem?_eq_getElem hk)
  have hk2 : k < S.ls.length := by rw [I.ll.1.1, ← I.lp.1.1]; exact hk
  obtain ⟨b, h4, h5⟩ := I.ll.1.2 k _ L (List.getElem?_eq_getElem hk2) h1
  exact ⟨a, b, L, by rw [List.getElem?_eq_getElem hk, h2], by rw [List.getElem?_eq_getElem hk2, h4], h1, h3, h5, I.lp.2 L (List.mem_of_getElem? h1)⟩
theorem NK.set (I : NK CN t c A n m S H) (ft : ∀ a xs, H a = some (.lst xs) → a ≠ A.dl → a ≠ A.pO → H' a = some (.lst xs)) (net : NetAt CN H' A.h n A.dn A.db A.dl S'.nx S'.bf S'.ls) (hN : H' A.dN = some (.dK S'.nx)) (hB : H' A.dB = some (.dK S'.bs)) (hP : H' A.pO = some (.lst S'.ps))
    (gn : GN S'.ks S'.nx) (nd : S'.ks.Nodup) (rng : ∀ k ∈ S'.ks, 0 ≤ k ∧ k < n) (gc : GC S'.ks S'.bs) (kb : KB S'.bs) (vf : VF S'.ks S'.bf S'.bs) (lp : Ltr S'.ks H' S'.ps S'.Ls) (ll : Ltr S'.ks H' S'.ls S'.Ls) (lks : S'.ks.length ≤ 40) (lps : S'.ps.length ≤ S.ps.length + 1) (lbf : S'.bf.length ≤ S.bf.length + 1) : NK CN t c A n (m + 1) S' H' := by
  obtain ⟨cs, a, b, k, r, e1, e2, e3, e4⟩ := I.tape
  exact {
    tape := ⟨cs, a, b, k, r, ft _ _ e1 I.ndl.2.2.1.symm I.ndl.1.symm, ft _ _ e2 I.ndl.2.2.2.1.symm I.ndl.2.1.symm, e3, e4⟩
    net := net, hN := hN, hB := hB, hP := hP, gn := gn, nd := nd, rng := rng, n0 := I.n0, n9 := I.n9, gc := gc, kb := kb, vf := vf, lp := lp, ll := ll, ndl := I.ndl, ndd := I.ndd, lks := lks
    lps := by have := I.lps; omega
    lbf := by have := I.lbf; omega }
end
theorem NetAt.putd {C a dn db dl d : Addr} {H : Hp} {n : Int} {nx bf z : List (Key × V)} {ls : List V} {o : HO} (N : NetAt C H a n dn db dl nx bf ls) (e : H d = some (.dK z)) (n1 : dn ≠ d) (n2 : db ≠ d) : NetAt C (upd H d o) a n dn db dl nx bf ls :=
  ⟨let ⟨x, e2⟩ := N.me; ⟨x, (upd_ne (ne_kind e2 e (fun z => nomatch z))).trans e2⟩, (upd_ne n1).trans N.hn, (upd_ne n2).trans N.hb, (upd_ne (ne_kind N.hl e (fun z => nomatch z))).trans N.hl⟩
theorem NetAt.putl {C a dn db dl d : Addr} {H : Hp} {n : Int} {nx bf : List (Key × V)} {ls zs : List V} {o : HO} (N : NetAt C H a n dn db dl nx bf ls) (e : H d = some (.lst zs)) (n1 : dl ≠ d) : NetAt C (upd H d o) a n dn db dl nx bf ls :=
  ⟨let ⟨x, e2⟩ := N.me; ⟨x, (upd_ne (ne_kind e2 e (fun z => nomatch z))).trans e2⟩, (upd_ne (ne_kind N.hn e (fun z => nomatch z))).trans N.hn, (upd_ne (ne_kind N.hb e (fun z => nomatch z))).trans N.hb, (upd_ne n1).trans N.hl⟩
theorem Shot.same {n : Int} {f g : Int → V} {ys : List Int} {H H' : Hp} {p : Addr} {ls : List V} (h : Shot n f g ys H p ls) (s : Same H H') : Shot n f g ys H' p ls := let ⟨r, l, rs, e1, e2, e3, e4⟩ := h; ⟨r, l, rs, s _ _ e1, s _ _ e2, s _ _ e3, e4.same s⟩
theorem Shot.sm {K : PySem.W.Frag} {n : Int} {f g : Int → V} {ys : List Int} {H : Hp} {p q : Addr} {ls ps : List V} {Ls : List Let} (s : Shot n f g ys H p ls) (t : Shot n f g ys H q ps) (hl : LAt Let.vals H ls Ls) (hp : LAt Let.vals H ps Ls) (ha : ∀ y ∈ ys, atomV (f y) = true ∧ atomV (g y) = true) (l1 : ls.length ≤ 100000) (l2 : ys.length ≤ 100000) : Sm K 4 H (.ref p) (.ref q) := by
  obtain ⟨r, l, rs, e1, e2, e3, e4⟩ := s
  obtain ⟨r', l', rs', d1, d2, d3, d4⟩ := t
  refine .tup (SqT.of e1) (SqT.of d1) rfl (by show 3 ≤ 100000; decide) (fun i x y hx hy => ?_)
  match i with
  | 0 => cases hx; cases hy; exact .atom rfl
  | 1 =>
    cases hx; cases hy
    refine .tup (SqT.of e3) (SqT.of d3) (by rw [e4.1, d4.1]) (by rw [d4.1]; exact l2) (e4.sm d4 fun y hy => ⟨by show 3 ≤ 100000; decide, ?_⟩)
    intro v hv
    have hv : v ∈ [V.int y, f y, g y] := hv
    simp only [List.mem_cons, List.not_mem_nil, or_false] at hv
    rcases hv with rfl | rfl | rfl
    · rfl
    · exact (ha y hy).1
    · exact (ha y hy).2
  | 2 =>
    cases hx; cases hy
    exact .tup (SqT.of e2) (SqT.of d2) (by rw [hl.1, hp.1]) (by rw [hp.1, ← hl.1]; exact l1) (hl.sm hp fun L _ => vals_atom L)
  | i + 3 => cases hx
theorem GB.gc {ks : List Int} {bs : List (Key × V)} (g : GB ks bs) : GC ks bs := fun p v e => ⟨(g p v e).1, .inr (g p v e).2⟩
--CUT
/-! ### deeds over a net and the law's tables (NK) -/
theorem g_nil {σ : L2.St} {H : Hp} {Q : List V → Hp → Prop} (h : Q [] H) : tNil σ H Q := h
def FrA (A : Bd) (H H' : Hp) : Prop := ∀ a o, a ≠ A.dn → a ≠ A.db → a ≠ A.dl → a ≠ A.dN → a ≠ A.dB → a ≠ A.pO → H a = some o → H' a = some o
theorem FrA.trans {A : Bd} {H H' H'' : Hp} (f : FrA A H H') (g : FrA A H' H'') : FrA A H H'' := fun a o n1 n2 n3 n4 n5 n6 e => g a o n1 n2 n3 n4 n5 n6 (f a o n1 n2 n3 n4 n5 n6 e)
theorem FrA.of {A : Bd} {H H' : Hp} (s : Same H H') : FrA A H H' := fun a o _ _ _ _ _ _ e => s _ _ e
section
variable {CN t c : Addr} {A : Bd} {n : Int} {m : Nat} {S : WK} {H H' : Hp}
/-- a list that is none of the net's or the law's -/
theorem NK.frl (I : NK CN t c A n m S H) (f : FrA A H H') {a : Addr} {xs : List V} (n1 : a ≠ A.dl) (n2 : a ≠ A.pO) (e : H a = some (.lst xs)) : H' a = some (.lst xs) :=
  f a _ (ne_kind e I.net.hn (fun z => nomatch z)) (ne_kind e I.net.hb (fun z => nomatch z)) n1 (ne_kind e I.hN (fun z => nomatch z)) (ne_kind e I.hB (fun z => nomatch z)) n2 e
theorem NK.frt (I : NK CN t c A n m S H) (f : FrA A H H') {a : Addr} {xs : List V} (e : H a = some (.tup xs)) : H' a = some (.tup xs) :=
  f a _ (ne_kind e I.net.hn (fun z => nomatch z)) (ne_kind e I.net.hb (fun z => nomatch z)) (ne_kind e I.net.hl (fun z => nomatch z)) (ne_kind e I.hN (fun z => nomatch z)) (ne_kind e I.hB (fun z => nomatch z)) (ne_kind e I.hP (fun z => nomatch z)) e
theorem NK.len (I : NK CN t c A n m S H) : S.nx.length = S.ks.length := by have := congrArg List.length I.gn.1; rw [List.length_map, List.length_map] at this; exact this
theorem NK.lenb (I : NK CN t c A n m S H) : S.bs.length ≤ S.ks.length := by
  obtain ⟨js, ejs, ndj⟩ := I.kb
  have e := congrArg List.length ejs
  rw [List.length_map, List.length_map] at e
  rw [e]
  refine nodup_sub_len ndj fun j hj => ?_
  obtain ⟨v, hv⟩ := Option.isSome_iff_exists.mp (valV_mem_keys ejs hj)
  exact (I.gc _ _ hv).1
theorem NK.lenl (I : NK CN t c A n m S H) : S.ls.length = S.ps.length := by rw [I.ll.1.1, I.lp.1.1]
/-- the dicts change -/
theorem NK.dic {nx bs bf : List (Key × V)} {ks : List Int} (I : NK CN t c A n m S H) (kd : ∀ a o, (∀ z, o ≠ .dK z) → H a = some o → H' a = some o) (N : NetAt CN H' A.h n A.dn A.db A.dl nx bf S.ls) (eN : H' A.dN = some (.dK nx)) (eB : H' A.dB = some (.dK bs))
    (g1 : GN ks nx) (g2 : ks.Nodup) (g3 : ∀ k ∈ ks, 0 ≤ k ∧ k < n) (g4 : GC ks bs) (g5 : KB bs) (g6 : VF ks bf bs) (g7 : ∀ k ∈ S.ks, k ∈ ks) (g8 : ks.length ≤ 40) (g9 : bf.length ≤ S.bf.length + 1) : NK CN t c A n (m + 1) ⟨ks, nx, bs, bf, S.ps, S.ls, S.Ls⟩ H' :=
  I.set (fun a xs e _ _ => kd _ _ (fun _ z => nomatch z) e) N eN eB (kd _ _ (fun _ z => nomatch z) I.hP) g1 g2 g3 g4 g5 g6 (I.lp.mono (fun a xs e => kd _ _ (fun _ z => nomatch z) e) g7) (I.ll.mono (fun a xs e => kd _ _ (fun _ z => nomatch z) e) g7) g8 (Nat.le_succ _) g9
theorem GN.admS {ks : List Int} {nx : List (Key × V)} {p x : Int} (g : GN ks nx) (hp : p ∉ ks) (hx : x ∈ ks ++ [p]) : GN (ks ++ [p]) (putK nx (.inl p) (.int x)) := by
  refine ⟨?_, fun k hk => ?_⟩
  · rw [putK_new _ (valV_none_keys g.1 hp), List.map_append, g.1, List.map_append]
    rfl
  · rw [valV_put]
    by_cases e : k = p
    · rw [e, if_pos rfl]
      exact ⟨x, hx, rfl⟩
    · rw [if_neg (fun z => e (Sum.inl.inj z))]
      obtain ⟨y, my, ey⟩ := g.2 k ((List.mem_append.mp hk).resolve_right (fun z => e (List.mem_singleton.mp z)))
      exact ⟨y, List.mem_append_left _ my, ey⟩
/-- net.hold(y, z), nexts[y] = z -/
theorem NK.hold_ (I : NK CN t c A n m S H) {y z : Int} (hy : y ∈ S.ks) (hz : z ∈ S.ks) : NK CN t c A n (m + 1) ⟨S.ks, putK S.nx (.inl y) (.int z), S.bs, S.bf, S.ps, S.ls, S.Ls⟩ (upd (upd H A.dn (.dK (putK S.nx (.inl y) (.int z)))) A.dN (.dK (putK S.nx (.inl y) (.int z)))) ∧
    FrA A H (upd (upd H A.dn (.dK (putK S.nx (.inl y) (.int z)))) A.dN (.dK (putK S.nx (.inl y) (.int z)))) := by
  obtain ⟨dnb, dnN, dnB, dbN, dbB, dNB⟩ := I.ndd
  have N6 := I.net.setn (nx' := putK S.nx (.inl y) (.int z)) dnb.symm
  have k6 : ∀ a o, a ≠ A.dn → H a = some o → upd H A.dn (.dK (putK S.nx (.inl y) (.int z))) a = some o := fun a o n1 e => (upd_ne n1).trans e
  generalize upd H A.dn (.dK (putK S.nx (.inl y) (.int z))) = H6 at N6 k6
  have eN6 := k6 _ _ dnN.symm I.hN
  have eB6 := k6 _ _ dnB.symm I.hB
  refine ⟨I.dic (ks := S.ks) (fun a o no e => (upd_ne (ne_kind e I.hN (no _))).trans (k6 _ _ (ne_kind e I.net.hn (no _)) e)) (N6.putd eN6 dnN dbN) upd_same ((upd_ne dNB.symm).trans eB6) (I.gn.put hy hz) I.nd I.rng I.gc I.kb I.vf (fun _ h => h) I.lks (Nat.le_succ _), fun a o n1 _ _ n4 _ _ e => (upd_ne n4).trans (k6 _ _ n1 e)⟩
/-- net.admit(p, x), nexts[p] = x -/
theorem NK.adm_ (I : NK CN t c A n m S H) {p x : Int} (p0 : 0 ≤ p) (p1 : p < n) (np : p ∉ S.ks) (hx : x ∈ S.ks ++ [p]) (l40 : S.ks.length < 40) :
    NK CN t c A n (m + 1) ⟨S.ks ++ [p], putK S.nx (.inl p) (.int x), S.bs, putK S.bf (.inl p) .non, S.ps, S.ls, S.Ls⟩ (upd (upd (upd H A.dn (.dK (putK S.nx (.inl p) (.int x)))) A.db (.dK (putK S.bf (.inl p) .non))) A.dN (.dK (putK S.nx (.inl p) (.int x)))) ∧
    FrA A H (upd (upd (upd H A.dn (.dK (putK S.nx (.inl p) (.int x)))) A.db (.dK (putK S.bf (.inl p) .non))) A.dN (.dK (putK S.nx (.inl p) (.int x)))) := by
  obtain ⟨dnb, dnN, dnB, dbN, dbB, dNB⟩ := I.ndd
  have N6 := (I.net.setn (nx' := putK S.nx (.inl p) (.int x)) dnb.symm).setb (bf' := putK S.bf (.inl p) .non) dnb.symm
  have k6 : ∀ a o, a ≠ A.dn → a ≠ A.db → H a = some o → upd (upd H A.dn (.dK (putK S.nx (.inl p) (.int x)))) A.db (.dK (putK S.bf (.inl p) .non)) a = some o := fun a o n1 n2 e => (upd_ne n2).trans ((upd_ne n1).trans e)
  generalize upd (upd H A.dn (.dK (putK S.nx (.inl p) (.int x)))) A.db (.dK (putK S.bf (.inl p) .non)) = H6 at N6 k6
  have eN6 := k6 _ _ dnN.symm dbN.symm I.hN
  have eB6 := k6 _ _ dnB.symm dbB.symm I.hB
  refine ⟨I.dic (ks := S.ks ++ [p]) (fun a o no e => (upd_ne (ne_kind e I.hN (no _))).trans (k6 _ _ (ne_kind e I.net.hn (no _)) (ne_kind e I.net.hb (no _)) e)) (N6.putd eN6 dnN dbN) upd_same ((upd_ne dNB.symm).trans eB6) (I.gn.admS np hx) ?_ (fun k hk => ?_) I.gc.adm I.kb (I.vf.adm I.gc np) (fun k hk => List.mem_append_left _ hk) (by rw [List.length_append]; show _ + 1 ≤ 40; omega) (len_putK_le _ _ _), fun a o n1 n2 _ n4 _ _ e => (upd_ne n4).trans (k6 _ _ n1 n2 e)⟩
  · refine List.nodup_append.mpr ⟨I.nd, List.nodup_cons.mpr ⟨List.not_mem_nil, List.nodup_nil⟩, fun a ha b hb z => np ?_⟩
    rw [← List.mem_singleton.mp hb, ← z]
    exact ha
  · rcases List.mem_append.mp hk with hk | hk
    · exact I.rng k hk
    · rw [List.mem_singleton.mp hk]
      exact ⟨p0, p1⟩
end
/-- the net has read, the law not yet -/
structure Mid (CN : Addr) (A : Bd) (n : Int) (S : WK) (k : Nat) (H H5 : Hp) (v5 : V) (L : Let) (p : Addr) (x : Int) (ls' : List V) : Prop where
  hL : S.Ls[k]? = some L
  hp : S.ps[k]? = some (.ref p)
  ep : H p = some (.tup L.vals)
  ns : ∀ j ∈ L.ns, j ∈ S.ks
  hx : valV S.nx (.inl L.to) = some (.int x)
  a5 : match hA L.to (bef S.bs L.to) L with | none => ls' = S.ls.eraseIdx k | some ys => ∃ a, ls' = S.ls.eraseIdx k ++ [.ref a] ∧ H5 a = some (.tup ys)
  R : RdPost CN A.h A.dn A.db A.dl n L.to x (bef S.bs L.to) L S.nx S.bf ls' H H5 v5
/-- the letters behind a reading -/
def LsR (r : Int) (b : V) (L : Let) (Ls : List Let) (k : Nat) (Ls' : List Let) : Prop := match hA r b L with | none => Ls' = Ls.eraseIdx k | some ys => ∃ L', L'.vals = ys ∧ Ls' = Ls.eraseIdx k ++ [L']
section
variable {CN t c : Addr} {A : Bd} {n : Int} {m : Nat} {S : WK} {H H' : Hp}
theorem NK.read1 (I : NK CN t c A n m S H) (lm : m ≤ 900) {k : Nat} (hk : k < S.ps.length) {P : V → Hp → Prop} {E : XK} (q : ∀ H5 v5 L p x ls', Mid CN A n S k H H5 v5 L p x ls' → P v5 H5) : sp_Net__read K CN [.ref A.h, .int (k : Nat)] H P E := by
  have l1 := I.lks
  have l2 := I.len
  have l3 := I.lps
  have l4 := I.lenl
  have l5 := I.lbf
  obtain ⟨dnb, dnN, dnB, dbN, dbB, dNB⟩ := I.ndd
  obtain ⟨p, qa, L, ha, hb, hLk, ep, eq, hL⟩ := I.lets hk
  have hr' := hL _ L.to_ns
  obtain ⟨x, mx, hx⟩ := I.gn.2 _ hr'
  have ob := I.gc.ok L.to
  exact ⟨A.h, A.dn, A.db, A.dl, qa, n, x, bef S.bs L.to, k, L, S.nx, S.bf, S.ls, rfl, I.net, hb, eq, hx, I.vf _ hr', ob, I.n0, dnb.symm, by omega, by omega, by omega, fun H5 v5 ls' a5 R => q H5 v5 L p x ls' ⟨hLk, ha, ep, hL, hx, a5, R⟩⟩
theorem NK.read2 (I : NK CN t c A n m S H) (lm : m ≤ 900) {k : Nat} (hk : k < S.ps.length) {H5 : Hp} {v5 : V} {L : Let} {p : Addr} {x : Int} {ls' : List V} (M : Mid CN A n S k H H5 v5 L p x ls') {P : V → Hp → Prop} {E : XK}
    (q : ∀ H6 v6 ps' Ls', NK CN t c A n (m + 1) ⟨S.ks, nN n L.to x (bef S.bs L.to) L S.nx, nB n L.to (bef S.bs L.to) L S.bs, nB n L.to (bef S.bs L.to) L S.bf, ps', ls', Ls'⟩ H6 → LsR L.to (bef S.bs L.to) L S.Ls k Ls' → FrA A H H6 → Sm K 2 H6 v5 v6 → P v6 H6) :
    sp__law_read K [.int n, .ref A.dN, .ref A.dB, .ref A.pO, .int (k : Nat)] H5 P E := by
  have l1 := I.lks
  have l2 := I.len
  have l3 := I.lps
  have l4 := I.lenl
  have l5 := I.lbf
  have l6 := I.lenb
  obtain ⟨dnb, dnN, dnB, dbN, dbB, dNB⟩ := I.ndd
  have R := M.R
  have hx := M.hx
  have hL := M.ns
  have hr' := hL _ L.to_ns
  have ob := I.gc.ok L.to
  obtain ⟨w5, ew, ew5⟩ := R.told
  have N5 := R.keep _ _ dnN.symm dbN.symm (ne_kind I.hN I.net.hl (fun z => nomatch z)) I.hN
  have B5 := R.keep _ _ dnB.symm dbB.symm (ne_kind I.hB I.net.hl (fun z => nomatch z)) I.hB
  have P5 := R.keep _ _ (ne_kind I.hP I.net.hn (fun z => nomatch z)) (ne_kind I.hP I.net.hb (fun z => nomatch z)) I.ndl.2.2.2.2 I.hP
  have kt5 : ∀ {a : Addr} {xs : List V}, H a = some (.tup xs) → H5 a = some (.tup xs) := fun e => R.keep _ _ (ne_kind e I.net.hn (fun z => nomatch z)) (ne_kind e I.net.hb (fun z => nomatch z)) (ne_kind e I.net.hl (fun z => nomatch z)) e
  refine ⟨A.dN, A.dB, A.pO, p, n, x, k, L, S.nx, S.bs, S.ps, rfl, N5, B5, P5, M.hp, kt5 M.ep, hx, ob, I.n0, dNB, by omega, by omega, by omega, fun H6 v6 ps' a6 f6 eN6 eB6 eP6 ht6 => ?_⟩
  obtain ⟨w6, rfl, ew6⟩ := ht6
  have kt6 : ∀ {a : Addr} {xs : List V}, H5 a = some (.tup xs) → H6 a = some (.tup xs) := fun e => f6 _ _ (ne_kind e N5 (fun z => nomatch z)) (ne_kind e B5 (fun z => nomatch z)) (ne_kind e P5 (fun z => nomatch z)) e
  have N6 : NetAt CN H6 A.h n A.dn A.db A.dl (nN n L.to x (bef S.bs L.to) L S.nx) (nB n L.to (bef S.bs L.to) L S.bf) ls' := by
    have N : NetAt CN H5 A.h n A.dn A.db A.dl (nN n L.to x (bef S.bs L.to) L S.nx) (nB n L.to (bef S.bs L.to) L S.bf) ls' := R.net
    exact ⟨let ⟨d, e⟩ := N.me; ⟨d, f6 _ _ (ne_kind e N5 (fun z => nomatch z)) (ne_kind e B5 (fun z => nomatch z)) (ne_kind e P5 (fun z => nomatch z)) e⟩, f6 _ _ dnN dnB (ne_kind N.hn P5 (fun z => nomatch z)) N.hn, f6 _ _ dbN dbB (ne_kind N.hb P5 (fun z => nomatch z)) N.hb, f6 _ _ (ne_kind N.hl N5 (fun z => nomatch z)) (ne_kind N.hl B5 (fun z => nomatch z)) I.ndl.2.2.2.2.symm N.hl⟩
  have fx : FrA A H H6 := fun a o n1 n2 n3 n4 n5 n6 e => f6 _ _ n4 n5 n6 (R.keep _ _ n1 n2 n3 e)
  have kt7 : ∀ a xs, H a = some (.tup xs) → H6 a = some (.tup xs) := fun a xs e => kt6 (kt5 e)
  have fin : ∀ Ls', Ltr S.ks H6 ps' Ls' → Ltr S.ks H6 ls' Ls' → ps'.length ≤ S.ps.length + 1 → LsR L.to (bef S.bs L.to) L S.Ls k Ls' → P (.ref w6) H6 := fun Ls' h1 h2 h3 h4 => by
    subst ew
    refine q H6 _ ps' Ls' (I.set (fun a xs e n1 n2 => fx a _ (ne_kind e I.net.hn (fun z => nomatch z)) (ne_kind e I.net.hb (fun z => nomatch z)) n1 (ne_kind e I.hN (fun z => nomatch z)) (ne_kind e I.hB (fun z => nomatch z)) n2 e) N6 eN6 eB6 eP6 (I.gn.nN hL hr' hx) I.nd I.rng (I.gc.nB hL hr') I.kb.nB (VF.nB I.vf hr') h1 h2 I.lks h3 (by show (nB _ _ _ _ _).length ≤ _; rw [nB_len (by rw [I.vf _ hr']; rfl)]; omega)) h4 fx ?_
    exact tup_same (kt6 ew5) ew6 (nT_atom ob).1 (nT_atom ob).2
  have e1 := (I.lp.mono kt7 (fun _ h => h)).erase k
  have e2 := (I.ll.mono kt7 (fun _ h => h)).erase k
  have le : (S.ps.eraseIdx k).length + 1 = S.ps.length := by rw [List.length_eraseIdx, if_pos hk]; omega
  have a5 := M.a5
  have b0 : ∀ z, bef S.bs L.to = .int z → z ∈ S.ks := fun z e => by
    have g := I.gc
    unfold bef at e
    cases e0 : valV S.bs (.inl L.to) with
    | none => rw [e0] at e; exact absurd e (fun h => nomatch h)
    | some v =>
      rw [e0] at e
      have e : v = .int z := e
      subst e
      obtain ⟨_, h2⟩ := g _ _ e0
      rcases h2 with h2 | ⟨x, mx, h2⟩
      · exact absurd h2 (fun h => nomatch h)
      · rw [V.int.inj h2]
        exact mx
  cases eA : hA L.to (bef S.bs L.to) L with
  | none =>
    rw [eA] at a5 a6
    refine fin (S.Ls.eraseIdx k) (by rw [a6]; exact e1) (by rw [a5]; exact e2) (by rw [a6]; omega) ?_
    unfold LsR
    rw [eA]
  | some ys =>
    rw [eA] at a5 a6
    obtain ⟨a, rfl, ea⟩ := a6
    obtain ⟨b, rfl, eb⟩ := a5
    obtain ⟨L', rfl, hL'⟩ := hA_let eA hL hr' b0
    refine fin (S.Ls.eraseIdx k ++ [L']) (e1.app ea hL') (e2.app (kt6 eb) hL') (by rw [List.length_append]; show _ + 1 ≤ _; omega) ?_
    unfold LsR
    rw [eA]
    exact ⟨L', rfl, rfl⟩
end
section
variable {CN t c : Addr} {A : Bd} {n : Int} {m : Nat} {S : WK} {H H' : Hp}
theorem NK.snap1 (I : NK CN t c A n m S H) {P : V → Hp → Prop} {E : XK} (q : ∀ ys p H7, ys.Perm S.ks → ys.Pairwise (· ≤ ·) → Same H H7 → Shot n (gV S.nx) (bef S.bs) ys H7 p S.ls → P (.ref p) H7) : sp_Net__snapshot CN [.ref A.h] H P E := by
  have l40 := I.lks
  refine ⟨A.h, A.dn, A.db, A.dl, n, S.nx, S.bf, S.ls, S.ks, gV S.nx, bef S.bs, rfl, I.net, I.gn.1, by omega, fun k hk => ?_, q⟩
  obtain ⟨x, _, e⟩ := I.gn.2 k hk
  exact ⟨by rw [gV_of e, e], I.vf k hk⟩
theorem NK.snap2 (I : NK CN t c A n m S H) (lm : m ≤ 900) {ys : List Int} {p : Addr} (perm : ys.Perm S.ks) (pw : ys.Pairwise (· ≤ ·)) (sh : Shot n (gV S.nx) (bef S.bs) ys H p S.ls) {P : V → Hp → Prop} {E : XK} (q : ∀ p2 H8, Same H H8 → Sm K 4 H8 (.ref p) (.ref p2) → P (.ref p2) H8) :
    sp__law_snapshot K [.int n, .ref A.dN, .ref A.dB, .ref A.pO] H P E := by
  have l40 := I.lks
  have l60 := I.lps
  refine ⟨A.dN, A.dB, A.pO, n, S.nx, S.bs, S.ps, S.ks, rfl, I.hN, I.hB, I.hP, by omega, I.gn, fun zs p2 H8 permz pwz s8 sh2 => ?_⟩
  have e : zs = ys := perm_sorted_eq (permz.trans perm.symm) pwz pw
  subst e
  have I8 := I.same s8
  have zlen := permz.length_eq
  refine q p2 H8 s8 ((sh.same s8).sm sh2 I8.ll.1 I8.lp.1 (fun y hy => ?_) (by rw [I8.ll.1.1, ← I8.lp.1.1]; omega) (by omega))
  obtain ⟨x, _, e⟩ := I.gn.2 y (permz.mem_iff.mp hy)
  exact ⟨by rw [gV_of e]; rfl, okB.atom (I.gc.ok y)⟩
end
/-- beside the tape too -/
def FrT (t : Addr) (A : Bd) (H H' : Hp) : Prop := ∀ a o, a ≠ t → a ≠ A.dn → a ≠ A.db → a ≠ A.dl → a ≠ A.dN → a ≠ A.dB → a ≠ A.pO → H a = some o → H' a = some o
theorem FrT.trans {t : Addr} {A : Bd} {H H' H'' : Hp} (f : FrT t A H H') (g : FrT t A H' H'') : FrT t A H H'' := fun a o n0 n1 n2 n3 n4 n5 n6 e => g a o n0 n1 n2 n3 n4 n5 n6 (f a o n0 n1 n2 n3 n4 n5 n6 e)
theorem FrA.t {t : Addr} {A : Bd} {H H' : Hp} (f : FrA A H H') : FrT t A H H' := fun a o _ n1 n2 n3 n4 n5 n6 e => f a o n1 n2 n3 n4 n5 n6 e
theorem FrT.of {t : Addr} {A : Bd} {H H' : Hp} (s : Same H H') : FrT t A H H' := fun a o _ _ _ _ _ _ _ e => s _ _ e
theorem FrT.kp {t : Addr} {A : Bd} {H H' : Hp} (s : Kp t H H') : FrT t A H H' := fun a o n _ _ _ _ _ _ e => s _ _ n e
section
variable {CN t c : Addr} {A : Bd} {n : Int} {m : Nat} {S : WK} {H H' : Hp}
theorem NK.ftl (I : NK CN t c A n m S H) (f : FrT t A H H') {a : Addr} {xs : List V} (n0 : a ≠ t) (n1 : a ≠ A.dl) (n2 : a ≠ A.pO) (e : H a = some (.lst xs)) : H' a = some (.lst xs) :=
  f a _ n0 (ne_kind e I.net.hn (fun z => nomatch z)) (ne_kind e I.net.hb (fun z => nomatch z)) n1 (ne_kind e I.hN (fun z => nomatch z)) (ne_kind e I.hB (fun z => nomatch z)) n2 e
theorem NK.ftt (I : NK CN t c A n m S H) (f : FrT t A H H') {a : Addr} {xs : List V} (e : H a = some (.tup xs)) : H' a = some (.tup xs) := by
  obtain ⟨⟨xt, et⟩, _⟩ := tape_at I.tape
  exact f a _ (ne_kind e et (fun z => nomatch z)) (ne_kind e I.net.hn (fun z => nomatch z)) (ne_kind e I.net.hb (fun z => nomatch z)) (ne_kind e I.net.hl (fun z => nomatch z)) (ne_kind e I.hN (fun z => nomatch z)) (ne_kind e I.hB (fun z => nomatch z)) (ne_kind e I.hP (fun z => nomatch z)) e
/-- net.set_before(y, v), behinds[y] = v -/
theorem NK.setb_ (I : NK CN t c A n m S H) {y : Int} {v : V} (hy : y ∈ S.ks) (hv : v = .non ∨ ∃ z ∈ S.ks, v = .int z) : NK CN t c A n (m + 1) ⟨S.ks, S.nx, putK S.bs (.inl y) v, putK S.bf (.inl y) v, S.ps, S.ls, S.Ls⟩ (upd (upd H A.db (.dK (putK S.bf (.inl y) v))) A.dB (.dK (putK S.bs (.inl y) v))) ∧
    FrA A H (upd (upd H A.db (.dK (putK S.bf (.inl y) v))) A.dB (.dK (putK S.bs (.inl y) v))) := by
  obtain ⟨dnb, dnN, dnB, dbN, dbB, dNB⟩ := I.ndd
  have N6 := I.net.setb (bf' := putK S.bf (.inl y) v) dnb.symm
  have k6 : ∀ a o, a ≠ A.db → H a = some o → upd H A.db (.dK (putK S.bf (.inl y) v)) a = some o := fun a o n1 e => (upd_ne n1).trans e
  generalize upd H A.db (.dK (putK S.bf (.inl y) v)) = H6 at N6 k6
  have eN6 := k6 _ _ dbN.symm I.hN
  have eB6 := k6 _ _ dbB.symm I.hB
  exact ⟨I.dic (ks := S.ks) (fun a o no e => (upd_ne (ne_kind e I.hB (no _))).trans (k6 _ _ (ne_kind e I.net.hb (no _)) e)) (N6.putd eB6 dnB dbB) ((upd_ne dNB).trans eN6) upd_same I.gn I.nd I.rng (I.gc.put hy hv) I.kb.put I.vf.put (fun _ h => h) I.lks (len_putK_le _ _ _), fun a o _ n2 _ _ n5 _ e => (upd_ne n5).trans (k6 _ _ n2 e)⟩
/-- the letters change -/
theorem NK.lts {ps ls : List V} {Ls : List Let} (I : NK CN t c A n m S H) (f : ∀ a o, a ≠ A.pO → a ≠ A.dl → H a = some o → H' a = some o) (N : NetAt CN H' A.h n A.dn A.db A.dl S.nx S.bf ls) (eP : H' A.pO = some (.lst ps))
    (g1 : Ltr S.ks H' S.ps S.Ls → Ltr S.ks H' ps Ls) (g2 : Ltr S.ks H' S.ls S.Ls → Ltr S.ks H' ls Ls) (g3 : ps.length ≤ S.ps.length + 1) : NK CN t c A n (m + 1) ⟨S.ks, S.nx, S.bs, S.bf, ps, ls, Ls⟩ H' ∧ FrA A H H' :=
  have kt : ∀ a xs, H a = some (.tup xs) → H' a = some (.tup xs) := fun a xs e => f _ _ (ne_kind e I.hP (fun z => nomatch z)) (ne_kind e I.net.hl (fun z => nomatch z)) e
  ⟨I.set (fun a xs e n1 n2 => f _ _ n2 n1 e) N (f _ _ (ne_kind I.hN I.hP (fun z => nomatch z)) (ne_kind I.hN I.net.hl (fun z => nomatch z)) I.hN) (f _ _ (ne_kind I.hB I.hP (fun z => nomatch z)) (ne_kind I.hB I.net.hl (fun z => nomatch z)) I.hB) eP I.gn I.nd I.rng I.gc I.kb I.vf (g1 (I.lp.mono kt (fun _ h => h))) (g2 (I.ll.mono kt (fun _ h => h))) I.lks g3 (Nat.le_succ _), fun a o _ _ n3 _ _ n6 e => f a o n6 n3 e⟩
end
--CUT
/-! ### Net.clone -/
def LetIn (H : Hp) (ms : List Int) (v : V) : Prop := ∃ (p : Addr) (L : Let), v = .ref p ∧ H p = some (.tup L.vals) ∧ ∀ k ∈ L.ns, k ∈ ms
theorem LetIn.mono {H H' : Hp} {ms : List Int} {v : V} (h : LetIn H ms v) (f : ∀ p xs, H p = some (.tup xs) → H' p = some (.tup xs)) : LetIn H' ms v := let ⟨p, L, e1, e2, e3⟩ := h; ⟨p, L, e1, f _ _ e2, e3⟩
def sp_Net__clone (C : Addr) : Sp := fun vs H Q _ => ∃ (h dn db dl : Addr) (n : Int) (nx bf bs : List (Key × V)) (ls : List V) (ks : List Int), vs = [.ref h] ∧ NetAt C H h n dn db dl nx bf ls ∧ ks.length < 64 ∧ ks.Nodup ∧ (∀ k ∈ ks, 0 ≤ k ∧ k < n) ∧ GN ks nx ∧ VF ks bf bs ∧ GB ks bs ∧ ls.length ≤ 1000 ∧ (∀ v ∈ ls, LetIn H ks v) ∧
  ∀ H' h' dn' db' dl' bf', NetAt C H' h' n dn' db' dl' nx bf' ls → Same H H' → H h' = none → H dn' = none → H db' = none → H dl' = none → db' ≠ dn' → VF ks bf' bs → bf'.length ≤ 200 → Q (.ref h') H'
theorem T0.ok_Net__clone (T : T0 K mg) : FnOk P w K mg base CX0 5 T.a_Net__clone T.fd_Net__clone ["self"] (sp_Net__clone T.C_Net) := by
  refine T.F_Net__clone.ok sc_Net__clone (fun vs H Q E h => ?_) (fun cdv A outer s H vs Q E hr h => ?_)
  · obtain ⟨h, dn, db, dl, n, nx, bf, bs, ls, ks, rfl, _⟩ := h
    rfl
  · obtain ⟨h, dn, db, dl, n, nx, bf, bs, ls, ks, rfl, hN, h64, nd, rng, gn, vf, gb, hl, hlt, q⟩ := h
    obtain ⟨dx, hh⟩ := hN.me
    refine ⟨_, (pss_one (ps_ret (pe_makeK T.mk_Net T.ok_Net__init hr (by rfl) T.mc_Net T.kb_Net__init pass0 (pa_cons (show PE _ _ (tFld K _ _) from pe_fld (pv 0) rfl) (pa_cons (show PE _ _ (tFld K _ _) from pe_fld (pv 0) rfl) pa_nil)) (pk_cons (pe_meth0 (pv 0) T.cl_Net T.me_Net__befores T.ok_Net__befores (hr.mono (by decide)) T.b_Net__befores .nil pass0) (pk_cons (show PE _ _ (tFld K _ _) from pe_fld (pv 0) rfl) pk_nil))))), ?_⟩
    refine ⟨_, rfl, h, _, dx, _, _, rfl, hh, T.cl_Net, T.na_Net_size, nf_size, _, rfl, h, _, dx, _, _, rfl, hh, T.cl_Net, T.na_Net__nexts, nf_nexts, ?_⟩
    refine ⟨_, rfl, h, dx, _, rfl, hh, (by unfold nf; walk_at "lk"), h, dn, db, dl, n, nx, bf, ls, ks, bef bs, rfl, hN, gn.1, h64, nd, vf, fun ys p H1 perm pw s1 np ep => ?_⟩
    have hh1 := s1 _ _ hh
    refine ⟨_, rfl, h, _, dx, _, _, rfl, hh1, T.cl_Net, T.na_Net__letters, nf_letters, rfl, rfl, fun h' dx' nh ndx ne => ?_⟩
    have s2 : Same H1 (upd (upd H1 dx' (.own h')) h' (.ins T.C_Net dx' [])) := fun b o e => (upd_ne (ne_of_none e nh)).trans ((upd_ne (ne_of_none e ndx)).trans e)
    have hh2 : upd (upd H1 dx' (.own h')) h' (.ins T.C_Net dx' []) h' = some (.ins T.C_Net dx' []) := upd_same
    generalize upd (upd H1 dx' (.own h')) h' (.ins T.C_Net dx' []) = H2 at s2 hh2
    have s12 := Same.trans s1 s2
    have isS : ∀ k ∈ ks, (valV nx (.inl k)).isSome = true := fun k hk => by obtain ⟨x, _, e⟩ := gn.2 k hk; rw [e]; rfl
    have js : ∀ j, j ∈ ys.filter (fun y => decide (bef bs y ≠ .non)) ↔ j ∈ ks ∧ bef bs j ≠ .non := fun j => by
      rw [List.mem_filter, perm.mem_iff, decide_eq_true_eq]
    refine ⟨h', dx', dn, p, dl, n, nx, (ys.filter fun y => decide (bef bs y ≠ .non)).map fun y => (.inl y, bef bs y), ls, ks, ys.filter fun y => decide (bef bs y ≠ .non), rfl, hh2, s12 _ _ hN.hn, s2 _ _ ep, s12 _ _ hN.hl, gn.1, h64, nd, ?_, ?_, hl, fun k hk => ?_, fun j hj => ?_, fun v hv => ?_, fun H' dn' db' dl' bf' N' f' m1 m2 m3 ndb vF lbf => ⟨rfl, ?_⟩⟩
    · rw [List.map_map]
      rfl
    · exact Nat.lt_of_le_of_lt (List.length_filter_le _ _) (by rw [perm.length_eq]; exact h64)
    · obtain ⟨x, mx, e⟩ := gn.2 k hk
      exact ⟨(rng k hk).1, (rng k hk).2, x, e, isS x mx⟩
    · obtain ⟨hk, hb⟩ := (js j).mp hj
      obtain ⟨z, mz, ez⟩ := gb.some hb
      exact ⟨isS j hk, z, by rw [valV_map_mem hj, ez], isS z mz⟩
    · obtain ⟨a, L, rfl, ea, hL⟩ := hlt v hv
      exact ⟨a, L.wd, L.ns, rfl, by rw [← L.vals_eq]; exact s12 _ _ ea, fun k hk => isS k (hL k hk)⟩
    · refine q H' h' dn' db' dl' bf' N' (fun a o e => f' a o (ne_of_none (s1 _ _ e) nh) (s12 _ _ e)) (none_back s1 nh) (none_back s12 m1) (none_back s12 m2) (none_back s12 m3) ndb (fun k hk => ?_) ?_
      · rw [vF k hk]
        by_cases e : bef bs k = .non
        · rw [bef, valV_none_of (fun z => ((js k).mp z).2 e), e]
          rfl
        · rw [bef, valV_map_mem ((js k).mpr ⟨hk, e⟩)]
          rfl
      · have := List.length_filter_le (fun y => decide (bef bs y ≠ .non)) ys
        have := perm.length_eq
        omega
--CUT
theorem for_it {J : It} {n : Nat} {G : Hp → Prop} {Y : Nat → Hp → V → Hp → Prop} (w : Walk J n G Y) {g : TG} {tb : TS} {D : Ends} {σ : L2.St} {H : Hp} (Pv : Nat → L2.St → Hp → Prop) (h0 : Pv 0 σ H) (hG : ∀ i σ H, i ≤ n → Pv i σ H → G H)
    (hs : ∀ i x σ H H', i < n → Pv i σ H → Y i H x H' → g x σ H' fun σ2 H2 => tb { D with nx := Pv (i + 1), ct := Pv (i + 1), bk := D.nx } σ2 H2) (hd : ∀ σ H, Pv n σ H → D.nx σ H) :
    ∃ W : Nat → Nat → L2.St → Hp → Prop, (∃ m, W 0 m σ H) ∧ ∀ i m σ H, W i m σ H →
      (J.stop i H ∧ D.nx σ H) ∨ (J.go i H ∧ ∃ N : L2.St → Hp → Prop, (∀ σ' H', N σ' H' → ∃ m', m' < m ∧ W (i + 1) m' σ' H') ∧ ∀ x H', J.yld i H x H' → g x σ H' fun σ2 H2 => tb { D with nx := N, ct := N, bk := D.nx } σ2 H2) := by
  refine ⟨fun i m σ H => i + m = n ∧ Pv i σ H, ⟨n, Nat.zero_add n, h0⟩, fun i m σ H hp => ?_⟩
  have q := hG i σ H (hp.1 ▸ Nat.le_add_right i m) hp.2
  cases m with
  | zero =>
    obtain ⟨rfl, p⟩ := hp
    exact .inl ⟨w.stops H q, hd σ H p⟩
  | succ m =>
    obtain ⟨e, p⟩ := hp
    have hi : i < n := by omega
    exact .inr ⟨w.goes i H hi q, Pv (i + 1), fun σ' H' p' => ⟨m, Nat.lt_succ_self m, by omega, p'⟩, fun x H' y => hs i x σ H H' hi p (w.yields i H x H' hi q y)⟩
/-! ### the program's ways -/
structure WN (ks : List Int) (nx : List (Key × V)) : Prop where
  gn : GN ks nx
  len : ks.length ≤ 1000
theorem WN.cl {ks : List Int} {nx : List (Key × V)} (w : WN ks nx) : ∀ k ∈ ks, iN nx k ∈ ks := fun k hk => let ⟨x, mx, e⟩ := w.gn.2 k hk; by rw [iN_of e]; exact mx
theorem WN.at_ {ks : List Int} {nx : List (Key × V)} (w : WN ks nx) {k : Int} (hk : k ∈ ks) : valV nx (.inl k) = some (.int (iN nx k)) := let ⟨x, mx, e⟩ := w.gn.2 k hk; by rw [iN_of e]; exact e
/-- the rows of a way: house and length -/
def wrows (n : Int) (f : Int → Int) (s : Int) (i : Nat) : List (Key × V) := (List.range i).map fun j => (Sum.inl (itr f s j), V.int (wl n f s j))
theorem wrows_succ {n s : Int} {f : Int → Int} (i : Nat) : wrows n f s (i + 1) = wrows n f s i ++ [(Sum.inl (itr f s i), V.int (wl n f s i))] := by
  unfold wrows
  rw [List.range_succ, List.map_append]
  rfl
theorem wrows_keys {n s : Int} {f : Int → Int} (i : Nat) : (wrows n f s i).map (·.1) = (met f s i).map Sum.inl := by
  unfold wrows met
  rw [List.map_map, List.map_map]
  rfl
theorem wrows_len {n s : Int} {f : Int → Int} (i : Nat) : (wrows n f s i).length = i := by unfold wrows; rw [List.length_map, List.length_range]
theorem wrows_val {n s : Int} {f : Int → Int} : ∀ {i j : Nat}, (met f s i).Nodup → j < i → valV (wrows n f s i) (.inl (itr f s j)) = some (.int (wl n f s j))
  | 0, _, _, h => absurd h (by omega)
  | i + 1, j, nd, h => by
    rw [met_succ] at nd
    obtain ⟨n1, _, n3⟩ := List.nodup_append.mp nd
    rw [wrows_succ]
    by_cases e : j = i
    · subst e
      rw [← putK_new (k := (Sum.inl (itr f s j) : Key)) (.int (wl n f s j)) (valV_none_keys (wrows_keys j) fun h => n3 _ h _ (List.mem_singleton.mpr rfl) rfl), valV_put, if_pos rfl]
    · have := wrows_val (n := n) n1 (show j < i by omega)
      rw [← putK_new (k := (Sum.inl (itr f s i) : Key)) (.int (wl n f s i)) (valV_none_keys (wrows_keys i) fun h => n3 _ h _ (List.mem_singleton.mpr rfl) rfl), valV_put, if_neg (fun z => ?_)]
      · exact this
      · have : itr f s j ∈ met f s i := met_mem.mpr ⟨j, by omega, rfl⟩
        rw [Sum.inl.inj z] at this
        exact n3 _ this _ (List.mem_singleton.mpr rfl) rfl
theorem wrows_no {n s x : Int} {f : Int → Int} {i : Nat} (h : x ∉ met f s i) : valV (wrows n f s i) (.inl x) = none := valV_none_keys (wrows_keys i) h
def sp__lengths_from (C : Addr) : Sp := fun vs H Q _ => ∃ (h dn db dl : Addr) (n s : Int) (nx bf : List (Key × V)) (ls : List V) (ks : List Int), vs = [.ref h, .int s] ∧ NetAt C H h n dn db dl nx bf ls ∧ WN ks nx ∧ s ∈ ks ∧ 0 < n ∧
  ∀ m H' d, Lasso (iN nx) s m → m ≤ ks.length → Same H H' → H d = none → H' d = some (.dK (wrows n (iN nx) s m)) → Q (.ref d) H'
theorem T0.ok__lengths_from (T : T0 K mg) : FnOk P w K mg base CX0 3 T.a__lengths_from T.fd__lengths_from ["net", "start"] (sp__lengths_from T.C_Net) := by
  refine T.F__lengths_from.ok sc__lengths_from (fun vs H Q E h => ?_) (fun cdv A outer s0 H vs Q E hr h => ?_)
  · obtain ⟨h, dn, db, dl, n, s, nx, bf, ls, ks, rfl, _⟩ := h
    rfl
  · obtain ⟨h, dn, db, dl, n, s, nx, bf, ls, ks, rfl, N0, W, hs, n0, q⟩ := h
    refine ⟨_, (pss_cons (ps_set (i := 2) sc__lengths_from.nd rfl (Or.inl rfl) pe_dnewK)
        (pss_cons (ps_set (i := 3) sc__lengths_from.nd rfl (Or.inl rfl) (pv 1))
        (pss_cons (ps_set (i := 4) sc__lengths_from.nd rfl (Or.inl rfl) pe_int)
        (pss_cons (ps_while PassesOwn.never (pt_cmp (pc_dnotin (un1 hr) (pv 3) (pv 2))) (pss_cons (ps_asg (pv 4) (pg_sub (pv 2) (pv 3) (set_dict (un1 hr))))
        (pss_cons (ps_set (i := 5) sc__lengths_from.nd rfl (Or.inl rfl) (pe_meth (pv 0) T.cl_Net T.me_Net__next_of T.ok_Net__next_of hr T.b_Net__next_of .nil pass0 (pa_cons (pv 3) pa_nil)))
        (pss_cons (ps_set (i := 4) sc__lengths_from.nd rfl (Or.inl rfl) (pe_op op_add (pv 4) (pe_call T.ok_far (hr.mono (by decide)) (by rfl) T.g_far T.k_far T.b_far .nil pass0 (pa_cons (show PE _ _ (tFld K _ _) from pe_fld (pv 0) rfl) (pa_cons (pv 3) (pa_cons (pv 5) pa_nil))))))
        (pss_one (ps_set (i := 3) sc__lengths_from.nd rfl (Or.inl rfl) (pv 5)))))))
        (pss_one (ps_ret (pv 2))))))), ?_⟩
    intro d nd
    refine ⟨_, rfl, fun m σ' H' => ∃ (i : Nat) (o5 : Option V), m = ks.length + 1 - i ∧ (met (iN nx) s i).Nodup ∧ σ' = [some (.ref h), some (.int s), some (.ref d), some (.int (itr (iN nx) s i)), some (.int (wl n (iN nx) s i)), o5] ∧ Same H H' ∧ H' d = some (.dK (wrows n (iN nx) s i)), ⟨_, 0, none, rfl, List.nodup_nil, rfl, same_upd nd, upd_same⟩, ?_⟩
    rintro m σ' H1 ⟨i, o5, rfl, ndi, rfl, s1, e1⟩
    refine ⟨_, rfl, _, rfl, d, _, rfl, DGet.k (k := Sum.inl (itr (iN nx) s i)) e1, _, rfl, ?_⟩
    have li := met_le W.cl hs ndi
    by_cases hm : itr (iN nx) s i ∈ met (iN nx) s i
    · obtain ⟨j, hj, ej⟩ := met_mem.mp hm
      refine iteF' (by rw [← ej, wrows_val ndi hj]; rfl) ?_
      exact ⟨_, rfl, q i H1 d (Lasso.of ndi hm) li s1 nd e1⟩
    · have ndi' : (met (iN nx) s (i + 1)).Nodup := by
        rw [met_succ]
        exact List.nodup_append.mpr ⟨ndi, by simp, fun a ha b hb e => hm (by rw [List.mem_singleton.mp hb] at e; rw [← e]; exact ha)⟩
      have li' := met_le W.cl hs ndi'
      refine iteT' (by rw [wrows_no hm]; rfl) ?_
      refine ⟨fun σ' H' => ∃ o5 : Option V, σ' = [some (.ref h), some (.int s), some (.ref d), some (.int (itr (iN nx) s (i + 1))), some (.int (wl n (iN nx) s (i + 1))), o5] ∧ Same H H' ∧ H' d = some (.dK (wrows n (iN nx) s (i + 1))), ?_, ?_⟩
      · rintro σ' H' ⟨o5, h1, h2, h3⟩
        exact ⟨_, by omega, i + 1, o5, rfl, ndi', h1, h2, h3⟩
      have mi := itr_mem W.cl hs i
      have N1 := N0.same s1
      refine ⟨_, rfl, _, rfl, _, rfl, d, _, rfl, DPut.k (k := Sum.inl (itr (iN nx) s i)) e1 (small1000' (by rw [wrows_len]; have := W.len; omega)), ?_⟩
      rw [putK_new _ (wrows_no hm), ← wrows_succ]
      have s2 : Same H (upd H1 d (.dK (wrows n (iN nx) s (i + 1)))) := fun a o e => (upd_ne (ne_of_none e nd)).trans (s1 _ _ e)
      have e2 : upd H1 d (.dK (wrows n (iN nx) s (i + 1))) d = some (.dK (wrows n (iN nx) s (i + 1))) := upd_same
      generalize upd H1 d (.dK (wrows n (iN nx) s (i + 1))) = H2 at s2 e2
      have N2 := N0.same s2
      obtain ⟨dx, hh⟩ := N2.me
      refine ⟨_, rfl, h, dx, _, rfl, hh, (by unfold nf; walk_at "lk"), _, rfl, h, dn, db, dl, n, itr (iN nx) s i, _, nx, bf, ls, rfl, N2, W.at_ mi, ?_⟩
      refine ⟨_, rfl, _, rfl, h, _, dx, _, _, rfl, hh, T.cl_Net, T.na_Net_size, nf_size, _, rfl, _, rfl, n, _, _, rfl, n0, ?_⟩
      exact ⟨_, _, rfl, rfl, _, rfl, _, rfl, s2, e2⟩
theorem met_take {f : Int → Int} {s : Int} {i m : Nat} (h : i ≤ m) : (met f s m).take i = met f s i := by
  unfold met
  rw [← List.map_take, List.take_range, Nat.min_eq_left h]
theorem wrows_list {n s : Int} {f : Int → Int} (i : Nat) : (wrows n f s i).map (fun kv => kV kv.1) = (met f s i).map V.int := by
  unfold wrows met
  rw [List.map_map, List.map_map]
  rfl
theorem inV_ints {x : Int} {l : List Int} : inV (.int x) (l.map V.int) = decide (x ∈ l) := by
  unfold inV
  rw [List.any_map]
  by_cases h : x ∈ l
  · rw [decide_eq_true h]
    exact List.any_eq_true.mpr ⟨x, h, beq_self_eq_true x⟩
  · rw [decide_eq_false h]
    exact List.any_eq_false.mpr fun y hy e => h (by rw [← (eq_of_beq e : y = x)]; exact hy)
theorem flat_ints {l : List Int} : (l.map V.int).all flatV = true := List.all_eq_true.mpr fun v hv => by
  obtain ⟨y, _, rfl⟩ := List.mem_map.mp hv
  rfl
theorem wl_up {n s : Int} {f : Int → Int} (h : 0 < n) : ∀ j : Nat, wl n f s j ≤ j * n
  | 0 => by show (0 : Int) ≤ 0 * n; omega
  | j + 1 => by
    have := wl_up (n := n) (s := s) (f := f) h j
    have := (far_range (itr f s j) (f (itr f s j)) h).2
    rw [Int.natCast_succ, Int.add_mul, Int.one_mul]
    show wl n f s j + farL n (itr f s j) (f (itr f s j)) ≤ _
    omega
theorem max_if {d : Int} : (if d > 0 then d else 0) = max 0 d := by
  by_cases h : d > 0
  · rw [if_pos h]; omega
  · rw [if_neg h]; omega
theorem WN.lenx {ks : List Int} {nx : List (Key × V)} (w : WN ks nx) : nx.length = ks.length := by
  have := congrArg List.length w.gn.1
  rw [List.length_map, List.length_map] at this
  exact this
theorem WN.no {ks : List Int} {nx : List (Key × V)} (w : WN ks nx) {p : Int} (h : p ∉ ks) : valV nx (.inl p) = none := valV_none_keys w.gn.1 h
/-- consecutive places cannot all be houses -/
theorem row_out {ks : List Int} {p : Int} (h : ∀ j : Nat, j < ks.length → p + j ∈ ks) : p + ks.length ∉ ks := fun z => by
  have e : ∀ j : Nat, itr (fun y => y + 1) p j = p + j := fun j => by
    induction j with
    | zero => show p = p + 0; omega
    | succ j ih =>
      show itr (fun y => y + 1) p j + 1 = p + ((j + 1 : Nat) : Int)
      rw [ih]
      omega
  have nd : (met (fun y => y + 1) p (ks.length + 1)).Nodup := met_nodup_of fun a b _ _ h => by
    rw [e, e] at h
    omega
  have := nodup_len (ks := ks) nd fun x hx => by
    obtain ⟨j, hj, ej⟩ := met_mem.mp hx
    rw [← ej, e]
    by_cases l : j < ks.length
    · exact h j l
    · have : j = ks.length := by omega
      rw [this]
      exact z
  rw [met_len] at this
  omega
/-! ### the law's ways -/
def sp__law_stranger (K : PySem.W.Frag) : Sp := fun vs H Q _ => ∃ (t c dN : Addr) (n : Int) (nx : List (Key × V)) (ks : List Int), vs = [.ref t, .int n, .ref dN] ∧ Tape H t c ∧ dN ≠ t ∧ H dN = some (.dK nx) ∧ WN ks nx ∧ 0 < n ∧ n ≤ 1000000000 ∧
  ∀ (p : Int) H', -1 ≤ p → p ∉ ks → Kp t H H' → Tape H' t c → Q (.int p) H'
theorem T0.ok__law_stranger (T : T0 K mg) : FnOk P w K mg base CX0 2 T.a__law_stranger T.fd__law_stranger ["tape", "size", "nexts"] (sp__law_stranger K) := by
  refine T.F__law_stranger.ok sc__law_stranger (fun vs H Q E h => ?_) (fun cdv A outer s0 H vs Q E hr h => ?_)
  · obtain ⟨t, c, dN, n, nx, ks, rfl, _⟩ := h
    rfl
  · obtain ⟨t, c, dN, n, nx, ks, rfl, hT, ndt, hN, W, n0, n9, q⟩ := h
    refine ⟨_, (pss_cons (ps_set (i := 3) sc__law_stranger.nd rfl (Or.inl rfl) (pe_op op_sub (pe_call T.ok__law_pick hr (by rfl) T.g__law_pick T.k__law_pick T.b__law_pick .nil pass0 (pa_cons (pv 0) (pa_cons (pe_op op_add (pv 1) pe_int) pa_nil))) pe_int))
        (pss_cons (ps_for PassesOwn.never rfl (pi_range1 (by rfl) T.m_range (pa_cons (pe_callB call_lenD (by rfl) T.m_len PySem.boot_len (pa_cons (pv 2) pa_nil)) pa_nil)) (pg_name (i := 4) sc__law_stranger.nd rfl (Or.inl rfl)) (pss_one (ps_if (pt_cmp (pc_din (un1 hr) (pv 3) (pv 2))) (pss_one (ps_set (i := 3) sc__law_stranger.nd rfl (Or.inl rfl) (pe_op op_add (pv 3) pe_int))) pss_nil)))
        (pss_one (ps_ret (pv 3))))), ?_⟩
    have ln := W.lenx
    have wl := W.len
    refine ⟨_, rfl, _, rfl, _, _, rfl, rfl, t, c, n + 3, rfl, hT, by omega, by omega, fun z H1 z0 z1 k1 T1 => ⟨_, _, rfl, rfl, ?_⟩⟩
    have hN1 := k1 _ _ ndt hN
    refine ⟨_, rfl, dN, _, rfl, hN1, _, rfl, by omega, by omega, ?_⟩
    refine for_range (lo := 0) (n := (nx.length : Int).toNat) (fun i σ' H' => ∃ (p : Int) (o4 : Option V), σ' = [some (.ref t), some (.int n), some (.ref dN), some (.int p), o4] ∧ H' = H1 ∧ -1 ≤ p ∧ (p ∉ ks ∨ (p = z - 1 + i ∧ ∀ j : Nat, j < i → z - 1 + j ∈ ks))) ⟨_, none, rfl, rfl, by omega, .inr ⟨(Int.add_zero _).symm, fun _ h => absurd h (by omega)⟩⟩ (fun i σ' H' hi pv => ?_) (fun σ' H' pv => ?_)
    · obtain ⟨p, o4, rfl, rfl, p0, pv⟩ := pv
      refine ⟨_, rfl, _, rfl, dN, _, rfl, DGet.k (k := Sum.inl p) hN1, _, rfl, ?_⟩
      by_cases hp : p ∈ ks
      · refine iteT' (by rw [W.at_ hp]; rfl) ?_
        rcases pv with pv | ⟨rfl, pv⟩
        · exact absurd hp pv
        · refine ⟨_, rfl, _, _, rfl, rfl, _, _, rfl, rfl, by omega, .inr ⟨by omega, fun j hj => ?_⟩⟩
          by_cases e : j = i
          · rw [e]; exact hp
          · exact pv j (by omega)
      · exact iteF' (by rw [W.no hp]; rfl) ⟨_, _, rfl, rfl, p0, .inl hp⟩
    · obtain ⟨p, o4, rfl, rfl, p0, pv⟩ := pv
      refine ⟨_, rfl, q p H' p0 ?_ k1 T1⟩
      rcases pv with pv | ⟨rfl, pv⟩
      · exact pv
      · rw [Int.toNat_natCast, ln] at pv ⊢
        exact row_out pv
def sp__law_length (K : PySem.W.Frag) : Sp := fun vs H Q _ => ∃ (dN : Addr) (n s e : Int) (nx : List (Key × V)) (ks : List Int), vs = [.int n, .ref dN, .int s, .int e] ∧ H dN = some (.dK nx) ∧ WN ks nx ∧ s ∈ ks ∧ 0 < n ∧
  (∀ j, j < ks.length → itr (iN nx) s j = e → (∀ i, i < j → itr (iN nx) s i ≠ e) → Q (.int (wl n (iN nx) s j)) H) ∧ ((∀ j, j < ks.length → itr (iN nx) s j ≠ e) → Q .non H)
def sp__law_way (K : PySem.W.Frag) : Sp := fun vs H Q _ => ∃ (dN : Addr) (s e : Int) (nx : List (Key × V)) (ks : List Int), vs = [.ref dN, .int s, .int e] ∧ H dN = some (.dK nx) ∧ WN ks nx ∧ s ∈ ks ∧
  ∀ H', Same H H' → ((∀ j, j < ks.length → itr (iN nx) s j = e → (∀ i, i < j → itr (iN nx) s i ≠ e) → ∀ l, H l = none → H' l = some (.lst ((met (iN nx) s (j + 1)).map V.int)) → Q (.ref l) H') ∧ ((∀ j, j < ks.length → itr (iN nx) s j ≠ e) → Q .non H'))
def sp__law_stop (K : PySem.W.Frag) : Sp := fun vs H Q _ => ∃ (dN : Addr) (n s x : Int) (nx : List (Key × V)) (ks : List Int), vs = [.int n, .ref dN, .int s, .int x] ∧ H dN = some (.dK nx) ∧ WN ks nx ∧ s ∈ ks ∧ 0 < n ∧ n ≤ 1000000000 ∧ x ≤ 400 * n ∧
  ∀ k H' p, FirstAt n (iN nx) s x k → Same H H' → H p = none → H' p = some (.tup [.int (itr (iN nx) s k), .int (wl n (iN nx) s k)]) → Q (.ref p) H'
--CUT
def sp_way (C : Addr) : Sp := fun vs H Q _ => ∃ (h dn db dl : Addr) (n s e : Int) (nx bf : List (Key × V)) (ls : List V) (ks : List Int), vs = [.ref h, .int s, .int e] ∧ NetAt C H h n dn db dl nx bf ls ∧ WN ks nx ∧ s ∈ ks ∧ e ∈ ks ∧ 0 < n ∧
  ∀ m H', Lasso (iN nx) s m → m ≤ ks.length → Same H H' → ((∀ j, j < m → itr (iN nx) s j = e → ∀ l, H l = none → H' l = some (.lst ((met (iN nx) s (j + 1)).map V.int)) → Q (.ref l) H') ∧ ((∀ j, j < m → itr (iN nx) s j ≠ e) → Q .non H'))
def sp_way_length (C : Addr) : Sp := fun vs H Q _ => ∃ (h dn db dl : Addr) (n s e : Int) (nx bf : List (Key × V)) (ls : List V) (ks : List Int), vs = [.ref h, .int s, .int e] ∧ NetAt C H h n dn db dl nx bf ls ∧ WN ks nx ∧ s ∈ ks ∧ e ∈ ks ∧ 0 < n ∧
  ∀ m H', Lasso (iN nx) s m → m ≤ ks.length → Same H H' → ((∀ j, j < m → itr (iN nx) s j = e → Q (.int (wl n (iN nx) s j)) H') ∧ ((∀ j, j < m → itr (iN nx) s j ≠ e) → Q .non H'))
theorem T0.ok_way_length (T : T0 K mg) : FnOk P w K mg base CX0 4 T.a_way_length T.fd_way_length ["net", "start", "end"] (sp_way_length T.C_Net) := by
  refine T.F_way_length.ok sc_way_length (fun vs H Q E h => ?_) (fun cdv A outer s0 H vs Q E hr h => ?_)
  · obtain ⟨h, dn, db, dl, n, s, e, nx, bf, ls, ks, rfl, _⟩ := h
    rfl
  · obtain ⟨h, dn, db, dl, n, s, e, nx, bf, ls, ks, rfl, N0, W, hs, he, n0, q⟩ := h
    refine ⟨_, (pss_cons (ps_set (i := 3) sc_way_length.nd rfl (Or.inl rfl) (pe_call T.ok__lengths_from hr (by rfl) T.g__lengths_from T.k__lengths_from T.b__lengths_from .nil pass0 (pa_cons (pv 0) (pa_cons (pv 1) pa_nil))))
        (pss_cons (ps_expr (pe_meth (pv 0) T.cl_Net T.me_Net__check_house T.ok_Net__check_house (hr.mono (by decide)) T.b_Net__check_house .nil pass0 (pa_cons (pv 2) pa_nil)))
        (pss_one (ps_ret (pe_dget1 (un1 hr) (pv 3) (pv 2) ⟨rfl, rfl, rfl, rfl⟩))))), ?_⟩
    refine ⟨_, rfl, _, rfl, h, dn, db, dl, n, s, nx, bf, ls, ks, rfl, N0, W, hs, n0, fun m H1 d L lm s1 nd e1 => ?_⟩
    have N1 := N0.same s1
    obtain ⟨dx, hh⟩ := N1.me
    refine ⟨_, rfl, h, dx, _, rfl, hh, (by unfold nf; walk_at "lk"), _, rfl, h, dn, db, dl, n, e, nx, bf, ls, rfl, N1, (by rw [W.at_ he]; rfl), ?_⟩
    obtain ⟨q1, q2⟩ := q m H1 L lm s1
    refine ⟨_, rfl, d, rfl, .inl ⟨_, .inl e1⟩, _, rfl, _, DGet.k (k := Sum.inl e) e1, ?_⟩
    by_cases hm : e ∈ met (iN nx) s m
    · obtain ⟨j, hj, ej⟩ := met_mem.mp hm
      rw [← ej, wrows_val L.nodup hj]
      exact q1 j hj ej
    · rw [wrows_no hm]
      exact q2 fun j hj ej => hm (met_mem.mpr ⟨j, hj, ej⟩)
def sp_house_at (C : Addr) : Sp := fun vs H Q _ => ∃ (h dn db dl : Addr) (n s x : Int) (nx bf : List (Key × V)) (ls : List V) (ks : List Int), vs = [.ref h, .int s, .int x] ∧ NetAt C H h n dn db dl nx bf ls ∧ WN ks nx ∧ s ∈ ks ∧ 0 < n ∧ n ≤ 1000000000 ∧
  ∀ k H' p, FirstAt n (iN nx) s x k → Same H H' → H' p = some (.tup [.int (itr (iN nx) s k), .int (wl n (iN nx) s k)]) → Q (.ref p) H'
theorem T0.ok_house_at (T : T0 K mg) : FnOk P w K mg base CX0 4 T.a_house_at T.fd_house_at ["net", "start", "distance"] (sp_house_at T.C_Net) := by
  refine T.F_house_at.ok sc_house_at (fun vs H Q E h => ?_) (fun cdv A outer s0 H vs Q E hr h => ?_)
  · obtain ⟨h, dn, db, dl, n, s, x, nx, bf, ls, ks, rfl, _⟩ := h
    rfl
  · obtain ⟨h, dn, db, dl, n, s, x, nx, bf, ls, ks, rfl, N0, W, hs, n0, n9, q⟩ := h
    refine ⟨_, (pss_cons (ps_set (i := 3) sc_house_at.nd rfl (Or.inl rfl) (pe_call T.ok__lengths_from hr (by rfl) T.g__lengths_from T.k__lengths_from T.b__lengths_from .nil pass0 (pa_cons (pv 0) (pa_cons (pv 1) pa_nil))))
        (pss_cons (ps_set (i := 4) sc_house_at.nd rfl (Or.inl rfl) (pe_ix (ix_listK (K := K)) (pe_callTy (call_list_dK rfl) (by rfl) T.m_list (by decide +kernel) (pa_cons (pv 3) pa_nil)) (pe_un un_neg pe_int) (fun _ _ => rfl)))
        (pss_cons (ps_set (i := 5) sc_house_at.nd rfl (Or.inl rfl) (pe_meth (pv 0) T.cl_Net T.me_Net__next_of T.ok_Net__next_of (hr.mono (by decide)) T.b_Net__next_of .nil pass0 (pa_cons (pv 4) pa_nil)))
        (pss_cons (ps_set (i := 6) sc_house_at.nd rfl (Or.inl rfl) (pe_op op_sub (pe_op op_add (pe_dget (un1 hr) (pv 3) (pv 4) (fun _ _ => rfl)) (pe_call T.ok_far (hr.mono (by decide)) (by rfl) T.g_far T.k_far T.b_far .nil pass0 (pa_cons (show PE _ _ (tFld K _ _) from pe_fld (pv 0) rfl) (pa_cons (pv 4) (pa_cons (pv 5) pa_nil))))) (pe_dget (un1 hr) (pv 3) (pv 5) (fun _ _ => rfl))))
        (pss_cons (ps_set (i := 7) sc_house_at.nd rfl (Or.inl rfl) (pe_op op_mul ((pe_op op_fdivW (pe_callB (call_max2 rfl) (by rfl) T.m_max (by decide +kernel) (pa_cons pe_int (pa_cons (pe_op op_sub (pv 2) (pe_dget (un1 hr) (pv 3) (pv 5) (fun _ _ => rfl))) pa_nil))) (pv 6))) (pv 6)))
        (pss_cons (show PS _ _ (L2.tLock _) from L2.ps_lock (ps_for PassesOwn.never rfl (pi_items (pv 3)) (pg_tup rfl (pgs_cons (pg_name (i := 8) sc_house_at.nd rfl (Or.inl rfl)) (pgs_cons (pg_name (i := 9) sc_house_at.nd rfl (Or.inl rfl)) pgs_nil))) (pss_one (ps_if (pt_cmpR op_ge (pe_op op_add (pv 9) (pv 7)) (pv 2) (nomark _)) (pss_one (ps_ret (pe_tup (pa_cons (pv 8) (pa_cons (pe_op op_add (pv 9) (pv 7)) pa_nil))))) pss_nil))))
        (pss_one (ps_ret (pe_tup (pa_cons (pv 5) (pa_cons (pe_op op_add (pe_op op_add (pe_dget (un1 hr) (pv 3) (pv 5) (fun _ _ => rfl)) (pv 6)) (pv 7)) pa_nil))))))))))), ?_⟩
    refine ⟨_, rfl, _, rfl, h, dn, db, dl, n, s, nx, bf, ls, ks, rfl, N0, W, hs, n0, fun m H1 d L lm s1 nd e1 => ?_⟩
    obtain ⟨m, rfl⟩ : ∃ m', m = m' + 1 := ⟨m - 1, by have := L.pos; omega⟩
    refine ⟨_, rfl, d, _, rfl, e1, fun l nl => ?_⟩
    rw [wrows_list]
    have s2 : Same H (upd H1 l (.lst ((met (iN nx) s (m + 1)).map V.int))) := Same.trans s1 (same_upd nl)
    have e12 : upd H1 l (.lst ((met (iN nx) s (m + 1)).map V.int)) d = some (.dK (wrows n (iN nx) s (m + 1))) := same_upd nl _ _ e1
    have e2 : upd H1 l (.lst ((met (iN nx) s (m + 1)).map V.int)) l = some (.lst ((met (iN nx) s (m + 1)).map V.int)) := upd_same
    generalize upd H1 l (.lst ((met (iN nx) s (m + 1)).map V.int)) = H2 at s2 e2 e12
    have N2 := N0.same s2
    obtain ⟨dx, hh⟩ := N2.me
    refine ⟨1, rfl, l, _, -1, .int (itr (iN nx) s m), rfl, rfl, SqL.of e2, (by rw [met_succ, List.map_append]; exact atI_last _ _), ?_⟩
    have mm := itr_mem W.cl hs m
    refine ⟨_, rfl, h, dx, _, rfl, hh, (by unfold nf; walk_at "lk"), _, rfl, h, dn, db, dl, n, itr (iN nx) s m, _, nx, bf, ls, rfl, N2, W.at_ mm, ?_⟩
    obtain ⟨g, hg, eg⟩ := L.back
    have eg : itr (iN nx) s (m + 1) = itr (iN nx) s g := eg
    have vm : valV (wrows n (iN nx) s (m + 1)) (.inl (itr (iN nx) s m)) = some (.int (wl n (iN nx) s m)) := wrows_val L.nodup (by omega)
    have vg : valV (wrows n (iN nx) s (m + 1)) (.inl (itr (iN nx) s (m + 1))) = some (.int (wl n (iN nx) s g)) := by rw [eg]; exact wrows_val L.nodup hg
    have lp := wl_lt (f := iN nx) (s := s) n0 hg
    have lu := wl_up (f := iN nx) (s := s) n0 (m + 1)
    have lu2 : ((m + 1 : Nat) : Int) * n ≤ 1000 * 1000000000 := Int.mul_le_mul (by have := W.len; omega) n9 (by omega) (by omega)
    have g0 := wl_pos (f := iN nx) (s := s) n0 g
    refine ⟨_, rfl, _, rfl, d, _, rfl, dget_of (k := Sum.inl _) e12 vm, _, rfl, h, _, dx, _, _, rfl, hh, T.cl_Net, T.na_Net_size, nf_size, _, rfl, _, rfl, n, _, _, rfl, n0, _, _, rfl, rfl, _, rfl, _, rfl, d, _, rfl, dget_of (k := Sum.inl _) e12 vg, _, _, rfl, rfl, ?_⟩
    have ew : wl n (iN nx) s m + farL n (itr (iN nx) s m) (iN nx (itr (iN nx) s m)) = wl n (iN nx) s (m + 1) := rfl
    rw [ew]
    refine ⟨_, rfl, _, rfl, _, rfl, d, _, rfl, dget_of (k := Sum.inl _) e12 vg, _, _, rfl, rfl, _, _, rfl, _, rfl, _, _, rfl, rfl, wide_div (b := 64) (by omega) (by omega) (by decide) (by decide), _, rfl, _, _, rfl, rfl, .inr ⟨by omega, by omega⟩, ?_⟩
    rw [max_if]
    obtain ⟨skip, ek⟩ : ∃ skip, max 0 (x - wl n (iN nx) s g) / (wl n (iN nx) s (m + 1) - wl n (iN nx) s g) * (wl n (iN nx) s (m + 1) - wl n (iN nx) s g) = skip := ⟨_, rfl⟩
    refine ⟨d, _, e12, trivial, fun od => ?_⟩
    refine ⟨_, rfl, d, od, _, rfl, upd_same, ?_⟩
    refine for_it walk_items (fun i σ' H' => ∃ o8 o9 : Option V, σ' = [some (.ref h), some (.int s), some (.int x), some (.ref d), some (.int (itr (iN nx) s m)), some (.int (itr (iN nx) s (m + 1))), some (.int (wl n (iN nx) s (m + 1) - wl n (iN nx) s g)), some (.int skip), o8, o9] ∧ (∀ j, j < i → wl n (iN nx) s j + skip < x) ∧ H' d = some (.frz od (.dK (wrows n (iN nx) s (m + 1)))) ∧ (∀ a o, a ≠ d → H2 a = some o → H' a = some o))
      ⟨none, none, (by rw [← ek]; rfl), fun _ z => absurd z (by omega), upd_same, fun a o na e => (upd_ne na).trans e⟩ (fun i σ' H' _ pv => by obtain ⟨_, _, _, _, e, _⟩ := pv; exact e) (fun i y σ' H3 H4 hi pv hy => ?_) (fun σ' H3 pv => ?_)
    · obtain ⟨o8, o9, rfl, lo, e3, f3⟩ := pv
      obtain ⟨t, yk, yv, rfl, nt, rfl, hk, hv⟩ := hy
      have hi : i < m + 1 := by rw [wrows_len] at hi; exact hi
      have gi : (wrows n (iN nx) s (m + 1))[i]? = some (Sum.inl (itr (iN nx) s i), V.int (wl n (iN nx) s i)) := by
        unfold wrows
        rw [List.getElem?_map, List.getElem?_range hi]
        rfl
      have hk : ((wrows n (iN nx) s (m + 1))[i]?).map (fun kv => kV kv.1) = some yk := hk
      have hv : ((wrows n (iN nx) s (m + 1))[i]?).map Prod.snd = some yv := hv
      rw [gi] at hk hv
      cases hk
      cases hv
      have dt : d ≠ t := ne_of_none e3 nt
      refine ⟨t, _, rfl, SqT.of upd_same, rfl, ?_⟩
      have e4 := (upd_ne (o := .tup [kV (Sum.inl (itr (iN nx) s i)), V.int (wl n (iN nx) s i)]) dt).trans e3
      have f4 : ∀ a o, a ≠ d → H2 a = some o → upd H3 t (.tup [kV (Sum.inl (itr (iN nx) s i)), V.int (wl n (iN nx) s i)]) a = some o := fun a o na e => (upd_ne (ne_of_none (f3 _ _ na e) nt)).trans (f3 _ _ na e)
      generalize upd H3 t (.tup [kV (Sum.inl (itr (iN nx) s i)), V.int (wl n (iN nx) s i)]) = H4 at e4 f4
      refine ⟨_, _, rfl, _, _, rfl, rfl, ?_⟩
      refine ⟨_, rfl, _, rfl, _, _, rfl, rfl, _, rfl, _, _, rfl, rfl, _, rfl, ite2 (fun c => ?_) (fun c => ?_)⟩
      · have c : x ≤ wl n (iN nx) s i + skip := of_decide_eq_true c
        obtain ⟨k, fa, e5, e6⟩ := laps_first (f := iN nx) (s := s) (d := x) n0 hg eg (j := i) (by omega) (fun j hj => by rw [ek]; exact lo j hj) (fun _ => by rw [ek]; exact c)
        rw [ek] at e6
        refine ⟨_, rfl, _, rfl, _, rfl, _, _, rfl, rfl, lenL (by show 2 ≤ 100000; decide), fun p np => ?_⟩
        have dp : d ≠ p := ne_of_none e4 np
        refine ⟨(upd_ne dp).trans e4, q k _ p fa (fun a o e => ?_) ?_⟩
        · by_cases ad : a = d
          · rw [ad, nd] at e
            cases e
          · rw [upd_ne ad, upd_ne (ne_of_none (f4 _ _ ad (s2 _ _ e)) np)]
            exact f4 _ _ ad (s2 _ _ e)
        · rw [upd_ne dp.symm, upd_same, e5, e6]
          rfl
      · have c : ¬ x ≤ wl n (iN nx) s i + skip := fun z => c (decide_eq_true z)
        refine ⟨_, _, rfl, fun j hj => ?_, e4, f4⟩
        by_cases ej : j = i
        · rw [ej]; omega
        · exact lo j (by omega)
    · obtain ⟨o8, o9, rfl, lo, e3, f3⟩ := pv
      rw [wrows_len] at lo
      refine ⟨e3, ?_⟩
      have e4 : upd H3 d (.dK (wrows n (iN nx) s (m + 1))) d = some (.dK (wrows n (iN nx) s (m + 1))) := upd_same
      have s4 : Same H (upd H3 d (.dK (wrows n (iN nx) s (m + 1)))) := fun a o e => by
        by_cases ad : a = d
        · rw [ad, nd] at e
          cases e
        · rw [upd_ne ad]
          exact f3 _ _ ad (s2 _ _ e)
      generalize upd H3 d (.dK (wrows n (iN nx) s (m + 1))) = H4 at e4 s4
      refine ⟨_, rfl, _, rfl, _, rfl, d, _, rfl, dget_of (k := Sum.inl _) e4 vg, _, rfl, _, _, rfl, rfl, _, rfl, _, _, rfl, rfl, lenL (by show 2 ≤ 100000; decide), fun p np => ?_⟩
      obtain ⟨k, fa, e5, e6⟩ := laps_first (f := iN nx) (s := s) (d := x) n0 hg eg (j := m + 1) (by omega) (fun j hj => by rw [ek]; exact lo j hj) (fun z => absurd z (by omega))
      rw [ek] at e6
      refine q k _ p fa (Same.trans s4 (same_upd np)) ?_
      have e7 : wl n (iN nx) s g + (wl n (iN nx) s (m + 1) - wl n (iN nx) s g) + skip = wl n (iN nx) s (m + 1) + skip := by omega
      rw [upd_same, e5, e6, ← e7]
--CUT
/-! ### deeds that keep what is true -/
section
variable {CN t c : Addr} {A : Bd} {n : Int} {m : Nat} {S : WK} {H4 H5 H6 : Hp}
/-- the law's list has changed, the net not yet -/
theorem NK.n5 (I : NK CN t c A n m S H4) (f5 : ∀ a o, a ≠ A.pO → H4 a = some o → H5 a = some o) : NetAt CN H5 A.h n A.dn A.db A.dl S.nx S.bf S.ls :=
  have kp5 : ∀ {a : Addr} {o : HO}, H4 a = some o → (∀ xs, o ≠ .lst xs) → H5 a = some o := fun e no => f5 _ _ (ne_kind e I.hP (no _)) e
  ⟨let ⟨d, e⟩ := I.net.me; ⟨d, kp5 e (fun _ z => nomatch z)⟩, kp5 I.net.hn (fun _ z => nomatch z), kp5 I.net.hb (fun _ z => nomatch z), f5 _ _ I.ndl.2.2.2.2.symm I.net.hl⟩
theorem NK.said (I : NK CN t c A n m S H4) {pt l2 : Addr} {L : Let} (f5 : ∀ a o, a ≠ A.pO → H4 a = some o → H5 a = some o) (P5 : H5 A.pO = some (.lst (S.ps ++ [.ref pt]))) (ept : H4 pt = some (.tup L.vals)) (hns : ∀ k ∈ L.ns, k ∈ S.ks) (s6 : Same H5 H6) (e6 : H6 l2 = some (.tup L.vals)) :
    NK CN t c A n (m + 1) ⟨S.ks, S.nx, S.bs, S.bf, S.ps ++ [.ref pt], S.ls ++ [.ref l2], S.Ls ++ [L]⟩ (upd H6 A.dl (.lst (S.ls ++ [.ref l2]))) ∧ FrA A H4 (upd H6 A.dl (.lst (S.ls ++ [.ref l2]))) ∧ upd H6 A.dl (.lst (S.ls ++ [.ref l2])) l2 = some (.tup L.vals) ∧
    upd H6 A.dl (.lst (S.ls ++ [.ref l2])) pt = some (.tup L.vals) := by
  have N6 := (I.n5 f5).same s6
  have f7 : ∀ a o, a ≠ A.dl → H6 a = some o → upd H6 A.dl (.lst (S.ls ++ [.ref l2])) a = some o := fun a o na e => (upd_ne na).trans e
  have N7 := N6.setl (ls' := S.ls ++ [.ref l2])
  have pt5 := f5 _ _ (ne_kind ept I.hP (fun z => nomatch z)) ept
  have l7 := f7 _ _ (ne_kind e6 N6.hl (fun z => nomatch z)) e6
  have p7 := f7 _ _ (ne_kind (s6 _ _ pt5) N6.hl (fun z => nomatch z)) (s6 _ _ pt5)
  have P7 := f7 _ _ I.ndl.2.2.2.2 (s6 _ _ P5)
  have f9 : ∀ a o, a ≠ A.pO → a ≠ A.dl → H4 a = some o → upd H6 A.dl (.lst (S.ls ++ [.ref l2])) a = some o := fun a o n1 n2 e => f7 _ _ n2 (s6 _ _ (f5 _ _ n1 e))
  generalize upd H6 A.dl (.lst (S.ls ++ [.ref l2])) = H7 at f7 N7 l7 p7 P7 f9
  obtain ⟨I9, g9⟩ := I.lts (ps := S.ps ++ [.ref pt]) (ls := S.ls ++ [.ref l2]) (Ls := S.Ls ++ [L]) f9 N7 P7 (fun k => k.app p7 hns) (fun k => k.app l7 hns) (by rw [List.length_append]; exact Nat.le_refl _)
  exact ⟨I9, g9, l7, p7⟩
end
theorem let_same {K : PySem.W.Frag} {H : Hp} {a b : Addr} {L : Let} (h1 : H a = some (.tup L.vals)) (h2 : H b = some (.tup L.vals)) : Sm K 2 H (.ref a) (.ref b) :=
  tup_same h1 h2 (by cases L <;> first | exact (show (3 : Nat) ≤ 100000 by decide) | exact (show (4 : Nat) ≤ 100000 by decide)) fun v hv => by
    cases L with
    | tell r u =>
      have hv : v ∈ [V.str "tell", .int r, .int u] := hv
      simp only [List.mem_cons, List.not_mem_nil, or_false] at hv
      rcases hv with rfl | rfl | rfl <;> rfl
    | ask r u =>
      have hv : v ∈ [V.str "ask", .int r, .int u] := hv
      simp only [List.mem_cons, List.not_mem_nil, or_false] at hv
      rcases hv with rfl | rfl | rfl <;> rfl
    | answer r u m =>
      have hv : v ∈ [V.str "answer", .int r, .int u, .int m] := hv
      simp only [List.mem_cons, List.not_mem_nil, or_false] at hv
      rcases hv with rfl | rfl | rfl | rfl <;> rfl
/-- what a deed comes to -/
structure Dd (CN t c : Addr) (A : Bd) (n : Int) (m : Nat) (S S' : WK) (H H' : Hp) : Prop where
  I : NK CN t c A n m S' H'
  ks : S'.ks = S.ks
  gb : GB S.ks S.bs → GB S'.ks S'.bs
  fr : FrT t A H H'
def sp__law_deed (K : PySem.W.Frag) (CN : Addr) : Sp := fun vs H Q _ => ∃ (t c : Addr) (A : Bd) (n : Int) (m : Nat) (S : WK), vs = [.ref t, .ref A.h, .int n, .ref A.dN, .ref A.dB, .ref A.pO] ∧ NK CN t c A n m S H ∧ m ≤ 100 ∧ 0 < S.ks.length ∧ ∀ S' H', Dd CN t c A n (m + 1) S S' H H' → Q (.bl true) H'
theorem T0.ok__law_deed (T : T0 K mg) : FnOk P w K mg base CX0 6 T.a__law_deed T.fd__law_deed ["tape", "net", "size", "nexts", "behinds", "post"] (sp__law_deed K T.C_Net) := by
  refine T.F__law_deed.ok sc__law_deed (fun vs H Q E h => ?_) (fun cdv A' outer s H vs Q E hr h => ?_)
  · obtain ⟨t, c, A, n, m, S, rfl, _⟩ := h
    rfl
  · obtain ⟨t, c, A, n, m, S, rfl, I, lm, lne, q⟩ := h
    refine ⟨_, (pss_cons (ps_set (i := 6) sc__law_deed.nd rfl (Or.inl rfl) (pe_callB (call_sortedDI rfl) (by rfl) T.m_sorted (by decide +kernel) (pa_cons (pv 3) pa_nil)))
        (pss_cons (ps_set (i := 7) sc__law_deed.nd rfl (Or.inl rfl) (pe_ix (ix_listK (K := K)) (pv 6) (pe_call T.ok__law_pick (hr.mono (by decide)) (by rfl) T.g__law_pick T.k__law_pick T.b__law_pick .nil pass0 (pa_cons (pv 0) (pa_cons (pe_callB (call_lenK (K := K)) (by rfl) T.m_len PySem.boot_len (pa_cons (pv 6) pa_nil)) pa_nil))) (fun _ _ => rfl)))
        (pss_cons (ps_set (i := 8) sc__law_deed.nd rfl (Or.inl rfl) (pe_call T.ok__law_pick (hr.mono (by decide)) (by rfl) T.g__law_pick T.k__law_pick T.b__law_pick .nil pass0 (pa_cons (pv 0) (pa_cons pe_int pa_nil))))
        (pss_cons (ps_if (PW.pt (pw_or (pt_cmpR op_ge (pe_callB (call_lenK (K := K)) (by rfl) T.m_len PySem.boot_len (pa_cons (pv 5) pa_nil)) pe_int (nomark _)) (pw_or1 (PW.pt (pw_and (pt_cmpR op_ge (pv 8) pe_int (nomark _)) (pw_and1 (pt_cmpR op_gt (pe_callB (call_lenK (K := K)) (by rfl) T.m_len PySem.boot_len (pa_cons (pv 5) pa_nil)) pe_int (nomark _)))))))) (pss_cons (ps_set (i := 9) sc__law_deed.nd rfl (Or.inl rfl) (pe_call T.ok__law_pick (hr.mono (by decide)) (by rfl) T.g__law_pick T.k__law_pick T.b__law_pick .nil pass0 (pa_cons (pv 0) (pa_cons (pe_callB (call_lenK (K := K)) (by rfl) T.m_len PySem.boot_len (pa_cons (pv 5) pa_nil)) pa_nil))))
        (pss_cons (ps_if (pt_cmpR op_eq (pv 8) pe_int (nomark _)) (pss_one (ps_ret (pe_call (T.ok__law_same 2) (hr.mono (by decide)) (by rfl) T.g__law_same T.k__law_same T.b__law_same .nil pass0 (pa_cons (pe_meth (pv 1) T.cl_Net T.me_Net__lose T.ok_Net__lose (hr.mono (by decide)) T.b_Net__lose .nil pass0 (pa_cons (pv 9) pa_nil)) (pa_cons (pe_bm PySem.F.plainAttrs_list PySem.F.slot_list_pop PySem.F.type_list_pop mt_popAt (pv 5) (pa_cons (pv 9) pa_nil)) pa_nil))))) pss_nil)
        (pss_cons (ps_if (PW.pt (pw_and (pt_cmpR op_eq (pv 8) pe_int (nomark _)) (pw_and1 (pt_cmpR op_lt (pe_callB (call_lenK (K := K)) (by rfl) T.m_len PySem.boot_len (pa_cons (pv 5) pa_nil)) pe_int (nomark _))))) (pss_cons (ps_expr (pe_bm PySem.F.plainAttrs_list PySem.F.slot_list_append PySem.F.type_list_append mt_append (pv 5) (pa_cons (pe_ix (ix_listK (K := K)) (pv 5) (pv 9) (fun _ _ => rfl)) pa_nil)))
        (pss_one (ps_ret (pe_call (T.ok__law_same 2) (hr.mono (by decide)) (by rfl) T.g__law_same T.k__law_same T.b__law_same .nil pass0 (pa_cons (pe_meth (pv 1) T.cl_Net T.me_Net__repeat T.ok_Net__repeat (hr.mono (by decide)) T.b_Net__repeat .nil pass0 (pa_cons (pv 9) pa_nil)) (pa_cons (pe_ix (ix_listK (K := K)) (pv 5) (pv 9) (fun _ _ => rfl)) pa_nil)))))) pss_nil)
        (pss_one (ps_ret (pe_call (T.ok__law_same 2) (hr.mono (by decide)) (by rfl) T.g__law_same T.k__law_same T.b__law_same .nil pass0 (pa_cons (pe_meth (pv 1) T.cl_Net T.me_Net__read T.ok_Net__read hr T.b_Net__read .nil pass0 (pa_cons (pv 9) pa_nil)) (pa_cons (pe_call T.ok__law_read (hr.mono (by decide)) (by rfl) T.g__law_read T.k__law_read T.b__law_read .nil pass0 (pa_cons (pv 2) (pa_cons (pv 3) (pa_cons (pv 4) (pa_cons (pv 5) (pa_cons (pv 9) pa_nil)))))) pa_nil)))))))) pss_nil)
        (pss_cons (ps_if (pt_cmpR op_eq (pe_op op_modN (pe_callTy call_int1 (by rfl) T.m_int (by decide +kernel) (pa_cons (pv 8) pa_nil)) pe_int) pe_int (nomark _)) (pss_cons (ps_expr (pe_bm PySem.F.plainAttrs_list PySem.F.slot_list_append PySem.F.type_list_append mt_append (pv 5) (pa_cons (pe_tup (pa_cons pe_str (pa_cons (pe_dget (un1 hr) (pv 3) (pv 7) (fun _ _ => rfl)) (pa_cons (pv 7) pa_nil)))) pa_nil)))
        (pss_one (ps_ret (pe_call (T.ok__law_same 2) (hr.mono (by decide)) (by rfl) T.g__law_same T.k__law_same T.b__law_same .nil pass0 (pa_cons (pe_meth (pv 1) T.cl_Net T.me_Net__tell T.ok_Net__tell (hr.mono (by decide)) T.b_Net__tell .nil pass0 (pa_cons (pv 7) pa_nil)) (pa_cons (pe_tup (pa_cons pe_str (pa_cons (pe_dget (un1 hr) (pv 3) (pv 7) (fun _ _ => rfl)) (pa_cons (pv 7) pa_nil)))) pa_nil)))))) pss_nil)
        (pss_cons (ps_expr (pe_bm PySem.F.plainAttrs_list PySem.F.slot_list_append PySem.F.type_list_append mt_append (pv 5) (pa_cons (pe_tup (pa_cons pe_str (pa_cons (pe_dget (un1 hr) (pv 3) (pv 7) (fun _ _ => rfl)) (pa_cons (pv 7) pa_nil)))) pa_nil)))
        (pss_one (ps_ret (pe_call (T.ok__law_same 2) (hr.mono (by decide)) (by rfl) T.g__law_same T.k__law_same T.b__law_same .nil pass0 (pa_cons (pe_meth (pv 1) T.cl_Net T.me_Net__ask T.ok_Net__ask (hr.mono (by decide)) T.b_Net__ask .nil pass0 (pa_cons (pv 7) pa_nil)) (pa_cons (pe_tup (pa_cons pe_str (pa_cons (pe_dget (un1 hr) (pv 3) (pv 7) (fun _ _ => rfl)) (pa_cons (pv 7) pa_nil)))) pa_nil))))))))))), ?_⟩
    have l1 := I.lks
    have l2 := I.len
    have l3 := I.lps
    have l4 := I.lenl
    have l5 := I.lbf
    have l6 := I.lenb
    have l0 := I.n0
    obtain ⟨dnb, dnN, dnB, dbN, dbB, dNB⟩ := id I.ndd
    refine ⟨_, rfl, A.dN, S.nx, S.ks, rfl, .inl I.hN, I.gn.1, by omega, fun ys l perm pw nl => ?_⟩
    have ylen := perm.length_eq
    have hl : upd H l (.lst (ys.map V.int)) l = some (.lst (ys.map V.int)) := upd_same
    have ol := I.tape.off nl
    have I1 := I.same (same_upd (o := .lst (ys.map V.int)) nl)
    have F1 : FrT t A H (upd H l (.lst (ys.map V.int))) := .of (same_upd nl)
    generalize upd H l (.lst (ys.map V.int)) = H1 at hl I1 F1
    refine ⟨_, rfl, _, rfl, _, rfl, l, _, rfl, .inl (SqL.of hl), draw ol.1 hl (by omega) (by omega) I1.tape fun y H2 my k2 T2 => ?_⟩
    have hy := perm.mem_iff.mp my
    obtain ⟨x, mx, hx⟩ := I.gn.2 _ hy
    refine ⟨_, rfl, t, c, 12, rfl, T2, by decide, by decide, fun kd H3 d0 d1 k3 T3 => ?_⟩
    have I3 := (I1.kp k2 T2).kp k3 T3
    have F3 : FrT t A H H3 := F1.trans (.kp (k2.trans k3))
    clear I1 F1 hl k2 k3 T2
    have fx : iN S.nx y = x := iN_of hx
    try (walk_at "nf")
    refine v_when (ans_o (fun _ q => ⟨_, rfl, A.pO, _, rfl, .inl (SqL.of I3.hP), _, _, rfl, rfl, _, rfl, q⟩) (fun _ => ans_a (fun _ q => ⟨_, rfl, _, _, rfl, rfl, _, rfl, q⟩) (fun _ => fun _ q => ⟨_, rfl, A.pO, _, rfl, .inl (SqL.of I3.hP), _, _, rfl, rfl, _, rfl, q⟩))) (fun e => ?_) (fun e => ?_)
    · have lp : 0 < S.ps.length := by
        simp only [Bool.or_eq_true, Bool.and_eq_true, decide_eq_true_eq] at e
        omega
      refine ⟨_, rfl, _, rfl, A.pO, _, rfl, .inl (SqL.of I3.hP), t, c, _, rfl, T3, by omega, by omega, fun z H4 z0 z1 k4 T4 => ?_⟩
      have I4 := I3.kp k4 T4
      have F4 := F3.trans (.kp k4)
      obtain ⟨k, rfl⟩ : ∃ k : Nat, z = k := ⟨z.toNat, by omega⟩
      have hk : k < S.ps.length := by omega
      obtain ⟨pa, qa, L, hpa, hqa, hL, epa, eqa, hLn⟩ := I4.lets hk
      obtain ⟨dx4, hh4⟩ := I4.net.me
      try (walk_at "nf")
      refine v_when (b := decide (V.int kd = V.int 4)) (fun _ q => ⟨_, rfl, rfl, _, rfl, q⟩) (fun _ => ?_) (fun _ => ?_)
      · have f5 : ∀ a o, a ≠ A.dl → H4 a = some o → upd H4 A.dl (.lst (S.ls.eraseIdx k)) a = some o := fun a o na e => (upd_ne na).trans e
        have N5 := I4.net.setl (ls' := S.ls.eraseIdx k)
        refine ⟨_, rfl, A.h, dx4, _, rfl, hh4, (by unfold nf; walk_at "lk"), _, rfl, A.h, A.dn, A.db, A.dl, n, k, .ref qa, S.nx, S.bf, S.ls, rfl, I4.net, hqa, by omega, ?_⟩
        generalize upd H4 A.dl (.lst (S.ls.eraseIdx k)) = H5 at f5 N5
        have P5 := f5 _ _ I4.ndl.2.2.2.2 I4.hP
        refine ⟨_, rfl, .inl ⟨rfl, _, SqL.of P5⟩, _, rfl, A.pO, S.ps, k, k, .ref pa, rfl, rfl, P5, by omega, by omega, seq_nat hk, hpa, ?_⟩
        have f6 : ∀ a o, a ≠ A.pO → a ≠ A.dl → H4 a = some o → upd H5 A.pO (.lst (S.ps.eraseIdx k)) a = some o := fun a o n1 n2 e => (upd_ne n1).trans (f5 _ _ n2 e)
        have P6 : upd H5 A.pO (.lst (S.ps.eraseIdx k)) A.pO = some (.lst (S.ps.eraseIdx k)) := upd_same
        have N6 := N5.putl (o := .lst (S.ps.eraseIdx k)) P5 I4.ndl.2.2.2.2.symm
        generalize upd H5 A.pO (.lst (S.ps.eraseIdx k)) = H6 at f6 P6 N6
        obtain ⟨I6, g6⟩ := I4.lts (ps := S.ps.eraseIdx k) (ls := S.ls.eraseIdx k) (Ls := S.Ls.eraseIdx k) f6 N6 P6 (fun z => z.erase k) (fun z => z.erase k) (by have := List.length_eraseIdx_le S.ps k; omega)
        have tp : ∀ {a : Addr} {xs : List V}, H4 a = some (.tup xs) → H6 a = some (.tup xs) := fun e => f6 _ _ (ne_kind e I4.hP (fun z => nomatch z)) (ne_kind e I4.net.hl (fun z => nomatch z)) e
        refine ⟨.ref qa, .ref pa, rfl, let_same (tp eqa) (tp epa), fun H7 s7 => ?_⟩
        exact q _ H7 ⟨I6.same s7, rfl, fun g => g, F4.trans (g6.t.trans (.of s7))⟩
      · try (walk_at "nf")
        refine v_when (ans_a (fun _ q => ⟨_, rfl, rfl, _, rfl, q⟩) (fun _ => fun _ q => ⟨_, rfl, A.pO, _, rfl, .inl (SqL.of I4.hP), _, _, rfl, rfl, _, rfl, q⟩)) (fun e => ?_) (fun _ => ?_)
        · have l60 : S.ps.length < 60 := by
            simp only [Bool.and_eq_true, decide_eq_true_eq] at e
            omega
          refine ⟨_, rfl, .inl ⟨rfl, _, SqL.of I4.hP⟩, _, rfl, _, rfl, A.pO, _, k, .ref pa, rfl, rfl, SqL.of I4.hP, atI_nat hpa, A.pO, _, _, rfl, rfl, I4.hP, small1000' (by omega), ?_⟩
          have f5 : ∀ c o, c ≠ A.pO → H4 c = some o → upd H4 A.pO (.lst (S.ps ++ [.ref pa])) c = some o := fun c o na e => (upd_ne na).trans e
          have P5 : upd H4 A.pO (.lst (S.ps ++ [.ref pa])) A.pO = some (.lst (S.ps ++ [.ref pa])) := upd_same
          generalize upd H4 A.pO (.lst (S.ps ++ [.ref pa])) = H5 at f5 P5
          have N5 := I4.n5 f5
          have qa5 := f5 _ _ (ne_kind eqa I4.hP (fun z => nomatch z)) eqa
          obtain ⟨I6, g6, l6', p6⟩ := I4.said (L := L) f5 P5 epa hLn (fun _ _ h => h) qa5
          have P6 : upd H5 A.dl (.lst (S.ls ++ [.ref qa])) A.pO = some (.lst (S.ps ++ [.ref pa])) := (upd_ne I4.ndl.2.2.2.2).trans P5
          obtain ⟨dx5, hh5⟩ := N5.me
          refine ⟨_, rfl, A.h, dx5, _, rfl, hh5, (by unfold nf; walk_at "lk"), _, rfl, A.h, A.dn, A.db, A.dl, n, k, .ref qa, S.nx, S.bf, S.ls, rfl, N5, hqa, by omega, ?_⟩
          generalize upd H5 A.dl (.lst (S.ls ++ [.ref qa])) = H6 at I6 g6 l6' p6 P6
          refine ⟨_, rfl, _, rfl, A.pO, _, k, .ref pa, rfl, rfl, SqL.of P6, atI_nat (by rw [List.getElem?_append_left hk]; exact hpa), .ref qa, .ref pa, rfl, let_same l6' p6, fun H7 s7 => ?_⟩
          exact q _ H7 ⟨I6.same s7, rfl, fun g => g, F4.trans (g6.t.trans (.of s7))⟩
        · -- read
          refine ⟨_, rfl, A.h, dx4, _, rfl, hh4, (by unfold nf; walk_at "lk"), _, rfl, ?_⟩
          refine NK.read1 (K := K) (E := E0) I4 (by omega) hk fun H6 v6 L p x ls' M => ?_
          refine ⟨_, rfl, _, rfl, _, rfl, _, rfl, _, rfl, ?_⟩
          refine NK.read2 (K := K) (E := E0) I4 (by omega) hk M fun H7 v7 ps' Ls' I7 lr f7 sm => ?_
          exact ⟨_, _, rfl, sm, fun H8 s8 => q _ H8 ⟨I7.same s8, rfl, fun g => g.nB M.ns (M.ns _ L.to_ns), F4.trans (f7.t.trans (.of s8))⟩⟩
    · have hxy : ∀ k ∈ [x, y], k ∈ S.ks := fun k hk => by
        simp only [List.mem_cons, List.not_mem_nil, or_false] at hk
        rcases hk with rfl | rfl
        · exact mx
        · exact hy
      try (walk_at "nf")
      refine v_when (by walk_at "ans") (fun _ => ?_) (fun _ => ?_)
      · refine ⟨_, rfl, .inl ⟨rfl, _, SqL.of I3.hP⟩, _, rfl, _, rfl, A.dN, _, rfl, dget_of (k := Sum.inl y) I3.hN hx, _, rfl, lenL (by show 3 ≤ 100000; decide), fun pt npt => ?_⟩
        have sm4 := same_upd (o := .tup [.str "tell", .int x, .int y]) npt
        have pt4 : upd H3 pt (.tup [.str "tell", .int x, .int y]) pt = some (.tup (Let.vals (.tell x y))) := upd_same
        generalize upd H3 pt (.tup [.str "tell", .int x, .int y]) = H4 at sm4 pt4
        have I4 := I3.same sm4
        refine ⟨A.pO, _, _, rfl, rfl, I4.hP, small1000' (by omega), ?_⟩
        have f5 : ∀ a o, a ≠ A.pO → H4 a = some o → upd H4 A.pO (.lst (S.ps ++ [.ref pt])) a = some o := fun a o na e => (upd_ne na).trans e
        have P5 : upd H4 A.pO (.lst (S.ps ++ [.ref pt])) A.pO = some (.lst (S.ps ++ [.ref pt])) := upd_same
        generalize upd H4 A.pO (.lst (S.ps ++ [.ref pt])) = H5 at f5 P5
        have N5 := I4.n5 f5
        obtain ⟨dx5, hh5⟩ := N5.me
        refine ⟨_, rfl, A.h, dx5, _, rfl, hh5, (by unfold nf; walk_at "lk"), _, rfl, A.h, A.dn, A.db, A.dl, n, y, x, bef S.bs y, S.nx, S.bf, S.ls, rfl, N5, hx, I.vf _ hy, by omega, fun H6 l2 s6 nl6 e6 => ?_⟩
        obtain ⟨I7, g7, l7, _⟩ := I4.said (L := .tell x y) f5 P5 pt4 hxy s6 e6
        generalize upd H6 A.dl (.lst (S.ls ++ [.ref l2])) = H7 at I7 g7 l7
        refine ⟨_, rfl, _, rfl, A.dN, _, rfl, dget_of (k := Sum.inl y) I7.hN hx, _, rfl, lenL (by show 3 ≤ 100000; decide), fun l3 nl3 => ?_⟩
        have s8 := same_upd (o := .tup [.str "tell", .int x, .int y]) nl3
        refine ⟨.ref l2, .ref l3, rfl, let_same (L := .tell x y) (s8 _ _ l7) upd_same, fun H10 s10 => ?_⟩
        have s7 := Same.trans s8 s10
        exact q _ H10 ⟨I7.same s7, rfl, fun g => g, (F3.trans (.of sm4)).trans (g7.t.trans (.of s7))⟩
      · refine ⟨_, rfl, .inl ⟨rfl, _, SqL.of I3.hP⟩, _, rfl, _, rfl, A.dN, _, rfl, dget_of (k := Sum.inl y) I3.hN hx, _, rfl, lenL (by show 3 ≤ 100000; decide), fun pt npt => ?_⟩
        have sm4 := same_upd (o := .tup [.str "ask", .int x, .int y]) npt
        have pt4 : upd H3 pt (.tup [.str "ask", .int x, .int y]) pt = some (.tup (Let.vals (.ask x y))) := upd_same
        generalize upd H3 pt (.tup [.str "ask", .int x, .int y]) = H4 at sm4 pt4
        have I4 := I3.same sm4
        refine ⟨A.pO, _, _, rfl, rfl, I4.hP, small1000' (by omega), ?_⟩
        have f5 : ∀ a o, a ≠ A.pO → H4 a = some o → upd H4 A.pO (.lst (S.ps ++ [.ref pt])) a = some o := fun a o na e => (upd_ne na).trans e
        have P5 : upd H4 A.pO (.lst (S.ps ++ [.ref pt])) A.pO = some (.lst (S.ps ++ [.ref pt])) := upd_same
        generalize upd H4 A.pO (.lst (S.ps ++ [.ref pt])) = H5 at f5 P5
        have N5 := I4.n5 f5
        obtain ⟨dx5, hh5⟩ := N5.me
        refine ⟨_, rfl, A.h, dx5, _, rfl, hh5, (by unfold nf; walk_at "lk"), _, rfl, A.h, A.dn, A.db, A.dl, n, y, x, bef S.bs y, S.nx, S.bf, S.ls, rfl, N5, hx, I.vf _ hy, by omega, fun H6 l2 s6 nl6 e6 => ?_⟩
        obtain ⟨I7, g7, l7, _⟩ := I4.said (L := .ask x y) f5 P5 pt4 hxy s6 e6
        generalize upd H6 A.dl (.lst (S.ls ++ [.ref l2])) = H7 at I7 g7 l7
        refine ⟨_, rfl, _, rfl, A.dN, _, rfl, dget_of (k := Sum.inl y) I7.hN hx, _, rfl, lenL (by show 3 ≤ 100000; decide), fun l3 nl3 => ?_⟩
        have s8 := same_upd (o := .tup [.str "ask", .int x, .int y]) nl3
        refine ⟨.ref l2, .ref l3, rfl, let_same (L := .ask x y) (s8 _ _ l7) upd_same, fun H10 s10 => ?_⟩
        have s7 := Same.trans s8 s10
        exact q _ H10 ⟨I7.same s7, rfl, fun g => g, (F3.trans (.of sm4)).trans (g7.t.trans (.of s7))⟩
--CUT
/-! ### a net made of nexts alone -/
def sp0_Net__init (K : PySem.W.Frag) (C : Addr) : Sp := fun vs H Q _ => ∃ (h dx d1 : Addr) (n : Int) (nx : List (Key × V)) (ks : List Int), vs = [.ref h, .int n, .ref d1, .non, .non] ∧ H h = some (.ins C dx []) ∧ H d1 = some (.dK nx) ∧
  nx.map (·.1) = ks.map Sum.inl ∧ ks.length < 64 ∧ ks.Nodup ∧ (∀ k ∈ ks, 0 ≤ k ∧ k < n ∧ ∃ x, valV nx (.inl k) = some (.int x) ∧ (valV nx (.inl x)).isSome = true) ∧
  ∀ H' dn db dl bf, NetAt C H' h n dn db dl nx bf [] → (∀ a o, a ≠ h → H a = some o → H' a = some o) → H dn = none → H db = none → H dl = none → db ≠ dn → (∀ p ∈ ks, valV bf (.inl p) = some .non) → bf.length ≤ ks.length → Q .non H'
theorem T0.ok0_Net__init (T : T0 K mg) : FnOk P w K mg base CX0 3 T.a_Net__init T.fd_Net__init ["self", "size", "nexts", "befores", "letters"] (sp0_Net__init K T.C_Net) := by
  refine T.F_Net__init.ok sc_Net__init (fun vs H Q E h => ?_) (fun cdv A outer s H vs Q E hr h => ?_)
  · obtain ⟨h, dx, d1, n, nx, ks, rfl, _⟩ := h
    rfl
  · obtain ⟨h, dx, d1, n, nx, ks, rfl, hh, h1, hk, h64, hnd, hv, q⟩ := h
    refine ⟨_, (pss_cons (ps_fld (pv 0) (pv 1) rfl)
        (pss_cons (ps_fld (pv 0) (pe_callTy call_dictD (by rfl) T.m_dict (by decide +kernel) (pa_cons (pv 2) pa_nil)) rfl)
        (pss_cons (ps_fld (pv 0) (pe_lock <| pe_dc (own := [("house", 5)]) (g := gName 5) (by rfl) sc_Net__init.nd (pi_keys (show PE _ _ (tFld K _ _) from pe_fld (pv 0) rfl)) (blkOk_by (own := [("house", 5)]) (N := ["self", "size", "nexts", "befores", "letters", "house"]) (sc := defScope s_Net__init) (by decide +kernel)) (fun _ _ _ _ _ => pg_name (i := 5) sc_Net__init.nd rfl (Or.inl rfl)) (fun _ _ _ _ _ => pts_nil) (fun _ _ _ _ _ => (pv 5)) (fun _ _ _ _ _ => pe_non)) rfl)
        (C8.pss_cut (ps_fld (pv 0) (pe_callTy (call_list_ofK (K := K)) (by rfl) T.m_list (by decide +kernel) (pa_cons (show PE _ _ (tOrT K _ _) from pe_orT (pv 4) (pe_one (pe_lst pa_nil))) pa_nil)) rfl)
        (pss_cons (ps_expr (pe_meth0 (pv 0) T.cl_Net T.me_Net__check_places T.ok_Net__check_places hr T.b_Net__check_places .nil pass0))
        (C8.pss_cut (ps_expr (pe_meth (pv 0) T.cl_Net T.me_Net__take_befores T.ok_Net__take_befores hr T.b_Net__take_befores .nil pass0 (pa_cons (show PE _ _ (tOrT K _ _) from pe_orT (pv 3) (pe_one pe_dnewK)) pa_nil)))
        (pss_one (ps_expr (pe_meth0 (pv 0) T.cl_Net T.me_Net__check_letters T.ok_Net__check_letters hr T.b_Net__check_letters .nil pass0))))))))), ?_⟩
    have nd1 : h ≠ d1 := fun e => by rw [e, h1] at hh; cases hh
    refine ⟨_, rfl, _, rfl, h, _, dx, [], rfl, hh, T.cl_Net, T.na_Net_size, (by show 0 < 1000; decide), ?_⟩
    refine ⟨_, rfl, d1, nx, rfl, .inl ((upd_ne nd1.symm).trans h1), fun dn ndn => ?_⟩
    have e1 : h ≠ dn := fun e => by rw [← e, upd_same] at ndn; cases ndn
    have ndn0 : H dn = none := by rw [upd_ne e1.symm] at ndn; exact ndn
    refine ⟨_, rfl, h, _, dx, _, rfl, (upd_ne e1).trans upd_same, T.cl_Net, T.na_Net__nexts, (by show 1 < 1000; decide), ?_⟩
    have k3 : ∀ a o, a ≠ h → H a = some o → upd (upd (upd H h (.ins T.C_Net dx (putF "size" (.int n) []))) dn (.dK nx)) h (.ins T.C_Net dx (putF "_nexts" (.ref dn) (putF "size" (.int n) []))) a = some o := fun a o na e => by
      rw [upd_ne na, upd_ne (ne_of_none e ndn0), upd_ne na]
      exact e
    have hdn : upd (upd (upd H h (.ins T.C_Net dx (putF "size" (.int n) []))) dn (.dK nx)) h (.ins T.C_Net dx (putF "_nexts" (.ref dn) (putF "size" (.int n) []))) dn = some (.dK nx) := (upd_ne e1.symm).trans upd_same
    have hh3 : upd (upd (upd H h (.ins T.C_Net dx (putF "size" (.int n) []))) dn (.dK nx)) h (.ins T.C_Net dx (putF "_nexts" (.ref dn) (putF "size" (.int n) []))) h = some (.ins T.C_Net dx (putF "_nexts" (.ref dn) (putF "size" (.int n) []))) := upd_same
    generalize upd (upd (upd H h (.ins T.C_Net dx (putF "size" (.int n) []))) dn (.dK nx)) h (.ins T.C_Net dx (putF "_nexts" (.ref dn) (putF "size" (.int n) []))) = H3 at k3 hdn hh3
    refine ⟨dn, nx, hdn, fun od => ?_⟩
    refine ⟨_, rfl, h, _, dx, _, _, rfl, (upd_ne e1).trans hh3, T.cl_Net, T.na_Net__nexts, (by walk_at "pf"; walk_at "lk"), dn, od, rfl, .inl ⟨nx, upd_same, fun D hD => ?_⟩⟩
    have nDdn : D ≠ dn := fun z => by rw [z, upd_same] at hD; cases hD
    refine dc_it walk_keys (fun i H' => Same (upd H3 dn (.frz od (.dK nx))) H' ∧ H' D = some (.dK ((ks.take i).map fun k => (.inl k, .non)))) ⟨same_upd hD, upd_same⟩ (fun i H' _ p => p.1 _ _ upd_same) (fun i x H4 H5 hi pv hy => ?_) (fun H4 pv => ?_)
    · obtain ⟨rfl, k, v, hkv, rfl⟩ := hy
      obtain ⟨s4, e4⟩ := pv
      have hki : ks[i]?.map (Sum.inl : Int → Key) = some k := by rw [← List.getElem?_map, ← hk, List.getElem?_map, hkv]; rfl
      obtain ⟨y, hy, rfl⟩ := Option.map_eq_some_iff.mp hki
      refine ⟨rfl, lc_yes ?_⟩
      refine ⟨_, rfl, _, Sum.inl y, rfl, e4, small1000' (by rw [List.length_map, List.length_take]; omega), fun b o e => ?_, ?_⟩
      · rw [upd_ne (ne_of_none e hD)]
        exact s4 b o e
      · rw [upd_same, putK_new _ (valV_none_of (f := fun _ => V.non) (not_in_take hnd hy)), List.take_add_one, hy, List.map_append]
        rfl
    · obtain ⟨s4, e4⟩ := pv
      refine ⟨s4 _ _ upd_same, ?_⟩
      have nl : nx.length = ks.length := by have := congrArg List.length hk; rw [List.length_map, List.length_map] at this; exact this
      rw [nl, List.take_length] at e4
      have h5 := (upd_ne (o := .dK nx) e1).trans (s4 _ _ ((upd_ne e1).trans hh3))
      have k5 : ∀ a o, a ≠ h → H a = some o → upd H4 dn (.dK nx) a = some o := fun a o na e => (upd_ne (ne_of_none e ndn0)).trans (s4 _ _ ((upd_ne (ne_of_none e ndn0)).trans (k3 a o na e)))
      have d5 : upd H4 dn (.dK nx) dn = some (.dK nx) := upd_same
      have D5 := (upd_ne (o := .dK nx) nDdn).trans e4
      have nDh : D ≠ h := fun z => by rw [z, (upd_ne e1 : upd H3 dn _ h = _), hh3] at hD; cases hD
      have nD0 : H D = none := by
        cases e : H D with
        | none => rfl
        | some o => rw [upd_ne nDdn, k3 D o nDh e] at hD; cases hD
      generalize upd H4 dn (.dK nx) = H5 at h5 k5 d5 D5
      refine ⟨_, rfl, h, _, dx, _, rfl, h5, T.cl_Net, T.na_Net__befores, (by show 2 < 1000; decide), ?_⟩
      have h6 : upd H5 h (.ins T.C_Net dx (putF "_befores" (.ref D) (putF "_nexts" (.ref dn) (putF "size" (.int n) [])))) h = _ := upd_same
      have k6 : ∀ a o, a ≠ h → H a = some o → upd H5 h (.ins T.C_Net dx (putF "_befores" (.ref D) (putF "_nexts" (.ref dn) (putF "size" (.int n) [])))) a = some o := fun a o na e => (upd_ne na).trans (k5 a o na e)
      have d6 := (upd_ne (o := .ins T.C_Net dx (putF "_befores" (.ref D) (putF "_nexts" (.ref dn) (putF "size" (.int n) [])))) e1.symm).trans d5
      have D6 := (upd_ne (o := .ins T.C_Net dx (putF "_befores" (.ref D) (putF "_nexts" (.ref dn) (putF "size" (.int n) [])))) nDh).trans D5
      generalize upd H5 h (.ins T.C_Net dx (putF "_befores" (.ref D) (putF "_nexts" (.ref dn) (putF "size" (.int n) [])))) = H6 at h6 k6 d6 D6
      have nn : (bef [] 0 : V) = .non := rfl
      refine ⟨fun σ' H' => σ' = [some (.ref h), some (.int n), some (.ref d1), some .non, some .non, none] ∧ ∃ dl, NetAt T.C_Net H' h n dn D dl nx (ks.map fun k => (.inl k, .non)) [] ∧ (∀ a o, a ≠ h → H a = some o → H' a = some o) ∧ H dl = none, ?_, ?_⟩
      · have fin : ∀ (Hq : Hp) (l : Addr), Same H6 Hq → Hq l = none → ∃ dl, NetAt T.C_Net (upd (upd Hq l (.lst [])) h (.ins T.C_Net dx (putF "_letters" (.ref l) (putF "_befores" (.ref D) (putF "_nexts" (.ref dn) (putF "size" (.int n) [])))))) h n dn D dl nx (ks.map fun k => (.inl k, .non)) [] ∧ (∀ a o, a ≠ h → H a = some o → upd (upd Hq l (.lst [])) h (.ins T.C_Net dx (putF "_letters" (.ref l) (putF "_befores" (.ref D) (putF "_nexts" (.ref dn) (putF "size" (.int n) []))))) a = some o) ∧ H dl = none := fun Hq l sq nl => by
          have nlh : l ≠ h := fun z => by rw [z, sq _ _ h6] at nl; cases nl
          have nD : D ≠ l := fun z => by rw [← z, sq _ _ D6] at nl; cases nl
          have ndl : dn ≠ l := fun z => by rw [← z, sq _ _ d6] at nl; cases nl
          refine ⟨l, ⟨⟨dx, ?_⟩, (upd_ne e1.symm).trans ((upd_ne ndl).trans (sq _ _ d6)), (upd_ne nDh).trans ((upd_ne nD).trans (sq _ _ D6)), (upd_ne nlh).trans upd_same⟩, fun a o na e => ?_, ?_⟩
          · rw [upd_same]
            have e : putF "_letters" (.ref l) (putF "_befores" (.ref D) (putF "_nexts" (.ref dn) (putF "size" (.int n) []))) = nf n dn D l := by
              walk_at "pf"
              rfl
            exact congrArg (fun z => some (HO.ins _ _ z)) e
          · have e2 := sq _ _ (k6 a o na e)
            exact (upd_ne na).trans ((upd_ne (ne_of_none e2 nl)).trans e2)
          · cases e : H l with
            | none => rfl
            | some o => rw [sq _ _ (k6 l o nlh e)] at nl; cases nl
        refine ⟨_, rfl, false, rfl, iteF ?_⟩
        · skip
          refine ⟨Nat.zero_le _, fun p np => ?_⟩
          have s7 := same_upd (o := .lst []) np
          have p7 : upd H6 p (.lst []) p = some (.lst []) := upd_same
          generalize upd H6 p (.lst []) = H7 at s7 p7
          refine ⟨p, [], rfl, .inl (SqL.of p7), fun l nl => ?_⟩
          have nlh : h ≠ l := fun z => by rw [← z, s7 _ _ h6] at nl; cases nl
          exact ⟨_, rfl, h, _, dx, _, rfl, (upd_ne nlh).trans (s7 _ _ h6), T.cl_Net, T.na_Net__letters, (by show 3 < 1000; decide), rfl, fin H7 l s7 nl⟩
      rintro _ H8 ⟨rfl, dl, N8, k8, ndl0⟩
      have nDn : D ≠ dn := nDdn
      obtain ⟨dx8, hh8⟩ := N8.me
      refine ⟨_, rfl, h, dx8, _, rfl, hh8, (by unfold nf; walk_at "lk"), h, dn, D, dl, n, nx, _, [], ks, rfl, N8, hk, h64, hv, fun H9 s9 => ?_⟩
      have N9 := N8.same s9
      have k9 : ∀ a o, a ≠ h → H a = some o → H9 a = some o := fun a o na e => s9 _ _ (k8 a o na e)
      obtain ⟨dx9, hh9⟩ := N9.me
      refine ⟨fun σ' H' => σ' = [some (.ref h), some (.int n), some (.ref d1), some .non, some .non, none] ∧ ∃ bf, NetAt T.C_Net H' h n dn D dl nx bf [] ∧ (∀ a o, a ≠ h → H a = some o → H' a = some o) ∧ (∀ p ∈ ks, valV bf (.inl p) = some (V.non)) ∧ bf.length ≤ ks.length, ?_, ?_⟩
      · refine ⟨_, rfl, h, dx9, _, rfl, hh9, (by unfold nf; walk_at "lk"), _, rfl, false, rfl, iteF ?_⟩
        · skip
          intro p np
          have s10 := same_upd (o := .dK []) np
          have p10 : upd H9 p (.dK []) p = some (.dK []) := upd_same
          have npD : p ≠ D := fun z => by rw [z, N9.hb] at np; cases np
          generalize upd H9 p (.dK []) = H10 at s10 p10
          refine ⟨h, dn, D, dl, p, n, nx, _, [], [], [], rfl, N9.same s10, p10, rfl, by decide, (fun j hj => nomatch hj), npD, nDn, by rw [List.length_map]; omega, fun H' bf' N' k' v' l' => ⟨rfl, bf', N', fun a o na e => k' _ _ (fun z => by rw [z] at e; rw [e] at nD0; cases nD0) (s10 _ _ (k9 a o na e)), fun p hp => ?_, by rw [List.length_map] at l'; exact l'⟩⟩
          rw [v' p, if_neg (fun z => nomatch z), valV_all_non hp]
      rintro _ H11 ⟨rfl, bf, N11, k11, v11, l11⟩
      obtain ⟨dx11, hh11⟩ := N11.me
      refine ⟨_, rfl, h, dx11, _, rfl, hh11, (by unfold nf; walk_at "lk"), h, dn, D, dl, n, nx, bf, [], rfl, N11, Nat.zero_le _, fun v hv => ?_, fun H12 s12 => ?_⟩
      · nomatch hv
      · exact q H12 dn D dl bf (N11.same s12) (fun a o na e => s12 _ _ (k11 a o na e)) ndn0 nD0 ndl0 nDn v11 l11
/-! ### answers -/
def sp__check_key (C : Addr) : Sp := fun vs H Q _ => ∃ (h dn db dl : Addr) (n s key : Int) (nx bf : List (Key × V)) (ls : List V), vs = [.ref h, .int s, .int key] ∧ NetAt C H h n dn db dl nx bf ls ∧ (valV nx (.inl s)).isSome = true ∧ 0 ≤ key ∧ key < n ∧ Q .non H
theorem T0.ok__check_key (T : T0 K mg) : FnOk P w K mg base CX0 3 T.a__check_key T.fd__check_key ["net", "house", "key"] (sp__check_key T.C_Net) := by
  refine T.F__check_key.ok sc__check_key (fun vs H Q E h => ?_) (fun cdv A outer s0 H vs Q E hr h => ?_)
  · obtain ⟨h, dn, db, dl, n, s, key, nx, bf, ls, rfl, _⟩ := h
    rfl
  · obtain ⟨h, dn, db, dl, n, s, key, nx, bf, ls, rfl, N0, hs, k0, k1, q⟩ := h
    refine ⟨_, (pss_cons (ps_expr (pe_meth (pv 0) T.cl_Net T.me_Net__check_house T.ok_Net__check_house (hr.mono (by decide)) T.b_Net__check_house .nil pass0 (pa_cons (pv 1) pa_nil)))
        (pss_one (ps_expr (pe_call T.ok_check_on_circle (hr.mono (by decide)) (by rfl) T.g_check_on_circle T.k_check_on_circle T.b_check_on_circle .nil pass0 (pa_cons (show PE _ _ (tFld K _ _) from pe_fld (pv 0) rfl) (pa_cons (pv 2) pa_nil)))))), ?_⟩
    obtain ⟨dx, hh⟩ := N0.me
    exact ⟨_, rfl, h, dx, _, rfl, hh, (by unfold nf; walk_at "lk"), _, rfl, h, dn, db, dl, n, s, nx, bf, ls, rfl, N0, hs, _, rfl, h, _, dx, _, _, rfl, hh, T.cl_Net, T.na_Net_size, nf_size, _, rfl, n, key, rfl, k0, k1, q⟩
def sp_answer (C : Addr) : Sp := fun vs H Q _ => ∃ (h dn db dl : Addr) (n s key : Int) (nx bf : List (Key × V)) (ls : List V) (ks : List Int), vs = [.ref h, .int s, .int key] ∧ NetAt C H h n dn db dl nx bf ls ∧ WN ks nx ∧ s ∈ ks ∧ 0 < n ∧ n ≤ 1000000000 ∧ 0 ≤ key ∧ key < n ∧
  ∀ k H' p, FirstAt n (iN nx) s (farL n s key) k → Same H H' → H' p = some (.tup [.int (itr (iN nx) s k), .int (wl n (iN nx) s k)]) → Q (.ref p) H'
theorem T0.ok_answer (T : T0 K mg) : FnOk P w K mg base CX0 5 T.a_answer T.fd_answer ["net", "house", "key"] (sp_answer T.C_Net) := by
  refine T.F_answer.ok sc_answer (fun vs H Q E h => ?_) (fun cdv A outer s0 H vs Q E hr h => ?_)
  · obtain ⟨h, dn, db, dl, n, s, key, nx, bf, ls, ks, rfl, _⟩ := h
    rfl
  · obtain ⟨h, dn, db, dl, n, s, key, nx, bf, ls, ks, rfl, N0, W, hs, n0, n9, k0, k1, q⟩ := h
    refine ⟨_, (pss_cons (ps_expr (pe_call T.ok__check_key (hr.mono (by decide)) (by rfl) T.g__check_key T.k__check_key T.b__check_key .nil pass0 (pa_cons (pv 0) (pa_cons (pv 1) (pa_cons (pv 2) pa_nil)))))
        (pss_one (ps_ret (pe_call T.ok_house_at hr (by rfl) T.g_house_at T.k_house_at T.b_house_at .nil pass0 (pa_cons (pv 0) (pa_cons (pv 1) (pa_cons (pe_call T.ok_far (hr.mono (by decide)) (by rfl) T.g_far T.k_far T.b_far .nil pass0 (pa_cons (show PE _ _ (tFld K _ _) from pe_fld (pv 0) rfl) (pa_cons (pv 1) (pa_cons (pv 2) pa_nil)))) pa_nil))))))), ?_⟩
    obtain ⟨dx, hh⟩ := N0.me
    refine ⟨_, rfl, _, rfl, _, rfl, h, dn, db, dl, n, s, key, nx, bf, ls, rfl, N0, by rw [W.at_ hs]; rfl, k0, k1, ?_⟩
    exact ⟨_, rfl, _, rfl, _, rfl, h, _, dx, _, _, rfl, hh, T.cl_Net, T.na_Net_size, nf_size, _, rfl, _, rfl, n, s, key, rfl, n0, h, dn, db, dl, n, s, farL n s key, nx, bf, ls, ks, rfl, N0, W, hs, n0, n9, q⟩
def Rz (CE : Addr) (p : Int) (H : Hp) (E : XK) : Prop := ∀ H' d, Same H H' → H' d = some (.xd [("place", .int p)]) → E (.ref CE) (some d) H'
/-! ### what they raise -/
def sp_rcirc (CE : Addr) : Sp := fun vs H _ E => ∃ (n p : Int), vs = [.int n, .int p] ∧ ¬ (0 ≤ p ∧ p < n) ∧ ∀ d, H d = none → E (.ref CE) (some d) (upd H d (.xd [("place", .int p)]))
theorem T0.okx_check_on_circle (T : T0 K mg) : FnOk P w K mg base (L2N.CX P w) 3 T.a_check_on_circle T.fd_check_on_circle ["size", "place"] (sp_rcirc T.C_OffCircle) := by
  refine Fun_okN T.F_check_on_circle sc_check_on_circle (fun vs H Q E h => ?_) (fun cdv A outer s H vs Q E hr h => ?_)
  · obtain ⟨n, p, rfl, _⟩ := h
    rfl
  · obtain ⟨n, p, rfl, np, q⟩ := h
    refine ⟨_, (pss_one (ps_if (PW.pt (pw_or (pt_cmpR op_lt (pv 1) pe_int (nomark _)) (pw_or1 (pt_cmpR op_ge (pv 1) (pv 0) (nomark _))))) (pss_one (L2N.ps_raise rfl (L2N.takes_of rfl rfl rfl rfl) (pmkN T.ox_OffCircle T.mi_OffCircle T.ti_OffCircle T.ok_OffCircle__init hr T.b_OffCircle__init pass0 rfl T.mc_OffCircle (pa_cons (pv 1) pa_nil)))) pss_nil)), ?_⟩
    refine ⟨_, rfl, _, _, rfl, rfl, _, rfl, ite2 (fun _ => ⟨_, rfl, raise1 q⟩) (fun e1 => ⟨_, rfl, _, rfl, _, _, rfl, rfl, _, rfl, ite2 (fun _ => ⟨_, rfl, raise1 q⟩) (fun e2 => ?_)⟩)⟩
    try simp only [decide_eq_true_eq, decide_eq_false_iff_not, Bool.not_eq_true] at e1 e2
    exact absurd (show 0 ≤ p ∧ p < n by omega) np
def sp_rkey (C CE CO : Addr) : Sp := fun vs H _ E => ∃ (h dn db dl : Addr) (n s key : Int) (nx bf : List (Key × V)) (ls : List V), vs = [.ref h, .int s, .int key] ∧ NetAt C H h n dn db dl nx bf ls ∧
  ((valV nx (.inl s) = none ∧ Rz CE s H E) ∨ ((valV nx (.inl s)).isSome = true ∧ ¬ (0 ≤ key ∧ key < n) ∧ Rz CO key H E))
theorem T0.okx__check_key (T : T0 K mg) : FnOk P w K mg base (L2N.CX P w) 4 T.a__check_key T.fd__check_key ["net", "house", "key"] (sp_rkey T.C_Net T.C_NoHouse T.C_OffCircle) := by
  refine Fun_okN T.F__check_key sc__check_key (fun vs H Q E h => ?_) (fun cdv A outer s0 H vs Q E hr h => ?_)
  · obtain ⟨h, dn, db, dl, n, s, key, nx, bf, ls, rfl, _⟩ := h
    rfl
  · obtain ⟨h, dn, db, dl, n, s, key, nx, bf, ls, rfl, N0, q⟩ := h
    refine ⟨_, (pss_cons (ps_expr (pe_methN (pv 0) T.cl_Net T.me_Net__check_house T.okx_Net__check_house hr T.b_Net__check_house (fun σ => L2N.passAt (L2N.takes_of rfl rfl rfl rfl) σ) (pa_cons (pv 1) pa_nil)))
        (pss_one (ps_expr (pe_callS T.okx_check_on_circle hr rfl T.g_check_on_circle T.k_check_on_circle T.b_check_on_circle (fun σ => L2N.passAt (L2N.takes_of rfl rfl rfl rfl) σ) (pa_cons (show PE _ _ (tFld K _ _) from pe_fld (pv 0) rfl) (pa_cons (pv 2) pa_nil)))))), ?_⟩
    obtain ⟨dx, hh⟩ := N0.me
    rcases q with ⟨hs, q⟩ | ⟨hs, nk, q⟩
    · exact ⟨_, rfl, h, dx, _, rfl, hh, (by unfold nf; walk_at "lk"), _, rfl, .inr ⟨h, dn, db, dl, n, s, nx, bf, ls, rfl, N0, hs, fun d nd => q _ d (same_upd nd) upd_same⟩⟩
    · exact ⟨_, rfl, h, dx, _, rfl, hh, (by unfold nf; walk_at "lk"), _, rfl, .inl ⟨h, dn, db, dl, n, s, nx, bf, ls, rfl, N0, hs, _, rfl, h, _, dx, _, _, rfl, hh, T.cl_Net, T.na_Net_size, nf_size, _, rfl, n, key, rfl, nk, fun d nd => q _ d (same_upd nd) upd_same⟩⟩
--CUT
/-! ### look-ups refused -/
theorem T0.okx_answer (T : T0 K mg) : FnOk P w K mg base (L2N.CX P w) 5 T.a_answer T.fd_answer ["net", "house", "key"] (sp_rkey T.C_Net T.C_NoHouse T.C_OffCircle) := by
  refine Fun_okN T.F_answer sc_answer (fun vs H Q E h => ?_) (fun cdv A outer s0 H vs Q E hr h => ?_)
  · obtain ⟨h, dn, db, dl, n, s, key, nx, bf, ls, rfl, _⟩ := h
    rfl
  · obtain ⟨h, dn, db, dl, n, s, key, nx, bf, ls, rfl, N0, q⟩ := h
    refine ⟨_, (pss_cons (ps_expr (pe_callS T.okx__check_key hr rfl T.g__check_key T.k__check_key T.b__check_key (fun σ => L2N.passAt (L2N.takes_of rfl rfl rfl rfl) σ) (pa_cons (pv 0) (pa_cons (pv 1) (pa_cons (pv 2) pa_nil)))))
        (pss_one (ps_never))), ?_⟩
    exact ⟨_, rfl, _, rfl, _, rfl, h, dn, db, dl, n, s, key, nx, bf, ls, rfl, N0, q⟩
theorem T0.okx_ring_answers (T : T0 K mg) : FnOk P w K mg base (L2N.CX P w) 5 T.a_ring_answers T.fd_ring_answers ["net", "house", "key"] (sp_rkey T.C_Net T.C_NoHouse T.C_OffCircle) := by
  refine Fun_okN T.F_ring_answers sc_ring_answers (fun vs H Q E h => ?_) (fun cdv A outer s0 H vs Q E hr h => ?_)
  · obtain ⟨h, dn, db, dl, n, s, key, nx, bf, ls, rfl, _⟩ := h
    rfl
  · obtain ⟨h, dn, db, dl, n, s, key, nx, bf, ls, rfl, N0, q⟩ := h
    refine ⟨_, (pss_cons (ps_expr (pe_callS T.okx__check_key hr rfl T.g__check_key T.k__check_key T.b__check_key (fun σ => L2N.passAt (L2N.takes_of rfl rfl rfl rfl) σ) (pa_cons (pv 0) (pa_cons (pv 1) (pa_cons (pv 2) pa_nil)))))
        (pss_one (ps_never))), ?_⟩
    exact ⟨_, rfl, _, rfl, _, rfl, h, dn, db, dl, n, s, key, nx, bf, ls, rfl, N0, q⟩
theorem T0.okx_told_answer (T : T0 K mg) : FnOk P w K mg base (L2N.CX P w) 5 T.a_told_answer T.fd_told_answer ["net", "house", "key"] (sp_rkey T.C_Net T.C_NoHouse T.C_OffCircle) := by
  refine Fun_okN T.F_told_answer sc_told_answer (fun vs H Q E h => ?_) (fun cdv A outer s0 H vs Q E hr h => ?_)
  · obtain ⟨h, dn, db, dl, n, s, key, nx, bf, ls, rfl, _⟩ := h
    rfl
  · obtain ⟨h, dn, db, dl, n, s, key, nx, bf, ls, rfl, N0, q⟩ := h
    refine ⟨_, (pss_cons (ps_expr (pe_callS T.okx__check_key hr rfl T.g__check_key T.k__check_key T.b__check_key (fun σ => L2N.passAt (L2N.takes_of rfl rfl rfl rfl) σ) (pa_cons (pv 0) (pa_cons (pv 1) (pa_cons (pv 2) pa_nil)))))
        (pss_cons (ps_never)
        (pss_cons (ps_never)
        (pss_cons (ps_never)
        (pss_cons (ps_never)
        (pss_cons (ps_never)
        (pss_cons (ps_never)
        (pss_one (ps_never))))))))), ?_⟩
    exact ⟨_, rfl, _, rfl, _, rfl, h, dn, db, dl, n, s, key, nx, bf, ls, rfl, N0, q⟩
def sp_rlook (C CE CO : Addr) : Sp := fun vs H _ E => ∃ (h dn db dl : Addr) (kd n s key : Int) (nx bf : List (Key × V)) (ls : List V), vs = [.int kd, .ref h, .int s, .int key] ∧ NetAt C H h n dn db dl nx bf ls ∧
  ((valV nx (.inl s) = none ∧ Rz CE s H E) ∨ ((valV nx (.inl s)).isSome = true ∧ ¬ (0 ≤ key ∧ key < n) ∧ Rz CO key H E))
theorem T0.okx__law_look_up (T : T0 K mg) : FnOk P w K mg base (L2N.CX P w) 6 T.a__law_look_up T.fd__law_look_up ["kind", "net", "house", "key"] (sp_rlook T.C_Net T.C_NoHouse T.C_OffCircle) := by
  refine Fun_okN T.F__law_look_up sc__law_look_up (fun vs H Q E h => ?_) (fun cdv A outer s0 H vs Q E hr h => ?_)
  · obtain ⟨h, dn, db, dl, kd, n, s, key, nx, bf, ls, rfl, _⟩ := h
    rfl
  · obtain ⟨h, dn, db, dl, kd, n, s, key, nx, bf, ls, rfl, N0, q⟩ := h
    refine ⟨_, (pss_cons (ps_if (pt_cmpR op_eq (pv 0) pe_int (nomark _)) (pss_one (ps_ret (pe_callS T.okx_answer hr rfl T.g_answer T.k_answer T.b_answer (fun σ => L2N.passAt (L2N.takes_of rfl rfl rfl rfl) σ) (pa_cons (pv 1) (pa_cons (pv 2) (pa_cons (pv 3) pa_nil)))))) pss_nil)
        (pss_cons (ps_if (pt_cmpR op_eq (pv 0) pe_int (nomark _)) (pss_one (ps_ret (pe_callS T.okx_ring_answers hr rfl T.g_ring_answers T.k_ring_answers T.b_ring_answers (fun σ => L2N.passAt (L2N.takes_of rfl rfl rfl rfl) σ) (pa_cons (pv 1) (pa_cons (pv 2) (pa_cons (pv 3) pa_nil)))))) pss_nil)
        (pss_one (ps_ret (pe_callS T.okx_told_answer hr rfl T.g_told_answer T.k_told_answer T.b_told_answer (fun σ => L2N.passAt (L2N.takes_of rfl rfl rfl rfl) σ) (pa_cons (pv 1) (pa_cons (pv 2) (pa_cons (pv 3) pa_nil)))))))), ?_⟩
    refine ⟨_, rfl, rfl, _, rfl, ite2 (fun _ => ?_) (fun _ => ?_)⟩
    · exact ⟨_, rfl, _, rfl, _, rfl, h, dn, db, dl, n, s, key, nx, bf, ls, rfl, N0, q⟩
    refine ⟨_, rfl, rfl, _, rfl, ite2 (fun _ => ?_) (fun _ => ?_)⟩
    · exact ⟨_, rfl, _, rfl, _, rfl, h, dn, db, dl, n, s, key, nx, bf, ls, rfl, N0, q⟩
    · exact ⟨_, rfl, _, rfl, _, rfl, h, dn, db, dl, n, s, key, nx, bf, ls, rfl, N0, q⟩
def sp__law_no_house (C : Addr) : Sp := fun vs H Q _ => ∃ (h dn db dl : Addr) (kd n s key : Int) (nx bf : List (Key × V)) (ls : List V), vs = [.int kd, .ref h, .int s, .int key] ∧ NetAt C H h n dn db dl nx bf ls ∧ valV nx (.inl s) = none ∧ ∀ H', Same H H' → Q (.bl true) H'
theorem T0.ok__law_no_house (T : T0 K mg) : FnOk P w K mg base CX0 8 T.a__law_no_house T.fd__law_no_house ["kind", "net", "house", "key"] (sp__law_no_house T.C_Net) := by
  refine T.F__law_no_house.ok sc__law_no_house (fun vs H Q E h => ?_) (fun cdv A outer s0 H vs Q E hr h => ?_)
  · obtain ⟨h, dn, db, dl, kd, n, s, key, nx, bf, ls, rfl, _⟩ := h
    rfl
  · obtain ⟨h, dn, db, dl, kd, n, s, key, nx, bf, ls, rfl, N0, hs, q⟩ := h
    refine ⟨_, (pss_cons (ps_tryM rfl rfl takesN (fun W pn xe tk _ => (pss_one (ps_expr (pe_callS T.okx__law_look_up (hr.mono (by decide)) rfl T.g__law_look_up T.k__law_look_up T.b__law_look_up (fun σ => L2N.passAt (tk) σ) (pa_cons (pv 0) (pa_cons (pv 1) (pa_cons (pv 2) (pa_cons (pv 3) pa_nil)))))))) (.name sc__law_no_house.nd (i := 4) rfl rfl ⟨rfl, by decide, .inl T.mc_NoHouse⟩ (fun a oe cls d pn hz hf => (pss_cons (ps_if (PW.pt (pw_or (pt_not (pt_val (pe_callB (call_isS hz hf) (by rfl) T.m_isinstance (by decide +kernel) (pa_cons (pv 4) (pa_cons (pe_glob (v := .ref T.C_RingError) rfl T.mc_RingError rfl) pa_nil))))) (pw_or (pt_val (pe_callB (call_isS hz hf) (by rfl) T.m_isinstance (by decide +kernel) (pa_cons (pv 4) (pa_cons (pe_glob (v := .ref T.C_OffCircle) rfl T.mc_OffCircle rfl) pa_nil)))) (pw_or1 (pt_val (pe_callB (call_isS hz hf) (by rfl) T.m_isinstance (by decide +kernel) (pa_cons (pv 4) (pa_cons (pe_glob (v := .ref T.C_Untold) rfl T.mc_Untold rfl) pa_nil)))))))) (pss_one (ps_ret pe_bl)) pss_nil)
        (pss_one (ps_ret (pe_and (pe_callB (call_isS hz hf) (by rfl) T.m_isinstance (by decide +kernel) (pa_cons (pv 4) (pa_cons (pe_bltn (v := .ty "ValueError") (by rfl) T.m_ValueError (by decide +kernel) rfl) pa_nil))) (pe_one (pe_callS1 (T.okp__law_same 1 (by decide)) (hr.mono (by decide)) hz hf rfl T.g__law_same T.k__law_same T.b__law_same (pa_cons (show PE _ _ (tXs K a cls d _ _) from pe_xs hz hf (pv 4)) (pa_cons (pv 2) pa_nil))))))))) .nil))
        (pss_one (ps_ret pe_bl))), ?_⟩
    refine ⟨_, rfl, _, rfl, _, rfl, _, rfl, h, dn, db, dl, kd, n, s, key, nx, bf, ls, rfl, N0, .inl ⟨hs, fun H1 x1 s1 e1 => ⟨true, T.ex_NoHouse_NoHouse, fun _ a na => ?_, fun z => nomatch z⟩⟩⟩
    refine ⟨_, rfl, _, _, _, _, _, _, rfl, fun u r => r, rfl, rfl, T.er_NoHouse, e1, T.ki_NoHouse_RingError, true, rfl, iteF ?_⟩
    refine ⟨_, rfl, _, _, _, _, _, _, rfl, fun u r => r, rfl, rfl, T.er_NoHouse, e1, T.ki_NoHouse_OffCircle, false, rfl, iteF ?_⟩
    refine ⟨_, rfl, _, _, _, _, _, _, rfl, fun u r => r, rfl, rfl, T.er_NoHouse, e1, T.ki_NoHouse_Untold, false, rfl, iteF ?_⟩
    refine ⟨_, rfl, _, _, _, _, _, _, rfl, fun u r => r, rfl, rfl, T.er_NoHouse, e1, T.ki_NoHouse_ValueError, true, rfl, iteT ?_⟩
    exact ⟨_, rfl, _, x1, _, _, rfl, rfl, rfl, T.er_NoHouse, T.na_NoHouse_place, e1, lk0, _, rfl, fun oe hz hf => ⟨_, _, rfl, Sm.int rfl, fun H2 s3 => q H2 (Same.trans s1 s3)⟩⟩
def sp__law_off_circle (C : Addr) : Sp := fun vs H Q _ => ∃ (h dn db dl : Addr) (kd n s key : Int) (nx bf : List (Key × V)) (ls : List V), vs = [.int kd, .ref h, .int s, .int key] ∧ NetAt C H h n dn db dl nx bf ls ∧ (valV nx (.inl s)).isSome = true ∧ ¬ (0 ≤ key ∧ key < n) ∧ ∀ H', Same H H' → Q (.bl true) H'
theorem T0.ok__law_off_circle (T : T0 K mg) : FnOk P w K mg base CX0 8 T.a__law_off_circle T.fd__law_off_circle ["kind", "net", "house", "key"] (sp__law_off_circle T.C_Net) := by
  refine T.F__law_off_circle.ok sc__law_off_circle (fun vs H Q E h => ?_) (fun cdv A outer s0 H vs Q E hr h => ?_)
  · obtain ⟨h, dn, db, dl, kd, n, s, key, nx, bf, ls, rfl, _⟩ := h
    rfl
  · obtain ⟨h, dn, db, dl, kd, n, s, key, nx, bf, ls, rfl, N0, hs, nk, q⟩ := h
    refine ⟨_, (pss_cons (ps_tryM rfl rfl takesN (fun W pn xe tk _ => (pss_one (ps_expr (pe_callS T.okx__law_look_up (hr.mono (by decide)) rfl T.g__law_look_up T.k__law_look_up T.b__law_look_up (fun σ => L2N.passAt (tk) σ) (pa_cons (pv 0) (pa_cons (pv 1) (pa_cons (pv 2) (pa_cons (pv 3) pa_nil)))))))) (.name sc__law_off_circle.nd (i := 4) rfl rfl ⟨rfl, by decide, .inl T.mc_OffCircle⟩ (fun a oe cls d pn hz hf => (pss_cons (ps_if (PW.pt (pw_or (pt_not (pt_val (pe_callB (call_isS hz hf) (by rfl) T.m_isinstance (by decide +kernel) (pa_cons (pv 4) (pa_cons (pe_glob (v := .ref T.C_RingError) rfl T.mc_RingError rfl) pa_nil))))) (pw_or (pt_val (pe_callB (call_isS hz hf) (by rfl) T.m_isinstance (by decide +kernel) (pa_cons (pv 4) (pa_cons (pe_glob (v := .ref T.C_NoHouse) rfl T.mc_NoHouse rfl) pa_nil)))) (pw_or1 (pt_val (pe_callB (call_isS hz hf) (by rfl) T.m_isinstance (by decide +kernel) (pa_cons (pv 4) (pa_cons (pe_glob (v := .ref T.C_Untold) rfl T.mc_Untold rfl) pa_nil)))))))) (pss_one (ps_ret pe_bl)) pss_nil)
        (pss_one (ps_ret (pe_and (pe_callB (call_isS hz hf) (by rfl) T.m_isinstance (by decide +kernel) (pa_cons (pv 4) (pa_cons (pe_bltn (v := .ty "ValueError") (by rfl) T.m_ValueError (by decide +kernel) rfl) pa_nil))) (pe_one (pe_callS1 (T.okp__law_same 1 (by decide)) (hr.mono (by decide)) hz hf rfl T.g__law_same T.k__law_same T.b__law_same (pa_cons (show PE _ _ (tXs K a cls d _ _) from pe_xs hz hf (pv 4)) (pa_cons (pv 3) pa_nil))))))))) .nil))
        (pss_one (ps_ret pe_bl))), ?_⟩
    refine ⟨_, rfl, _, rfl, _, rfl, _, rfl, h, dn, db, dl, kd, n, s, key, nx, bf, ls, rfl, N0, .inr ⟨hs, nk, fun H1 x1 s1 e1 => ⟨true, T.ex_OffCircle_OffCircle, fun _ a na => ?_, fun z => nomatch z⟩⟩⟩
    refine ⟨_, rfl, _, _, _, _, _, _, rfl, fun u r => r, rfl, rfl, T.er_OffCircle, e1, T.ki_OffCircle_RingError, true, rfl, iteF ?_⟩
    refine ⟨_, rfl, _, _, _, _, _, _, rfl, fun u r => r, rfl, rfl, T.er_OffCircle, e1, T.ki_OffCircle_NoHouse, false, rfl, iteF ?_⟩
    refine ⟨_, rfl, _, _, _, _, _, _, rfl, fun u r => r, rfl, rfl, T.er_OffCircle, e1, T.ki_OffCircle_Untold, false, rfl, iteF ?_⟩
    refine ⟨_, rfl, _, _, _, _, _, _, rfl, fun u r => r, rfl, rfl, T.er_OffCircle, e1, T.ki_OffCircle_ValueError, true, rfl, iteT ?_⟩
    exact ⟨_, rfl, _, x1, _, _, rfl, rfl, rfl, T.er_OffCircle, T.na_OffCircle_place, e1, lk0, _, rfl, fun oe hz hf => ⟨_, _, rfl, Sm.int rfl, fun H2 s3 => q H2 (Same.trans s1 s3)⟩⟩
--CUT
/-! ### questions and answers -/
def sp__law_answer (K : PySem.W.Frag) : Sp := fun vs H Q _ => ∃ (dN : Addr) (n s key : Int) (nx : List (Key × V)) (ks : List Int), vs = [.int n, .ref dN, .int s, .int key] ∧ H dN = some (.dK nx) ∧ WN ks nx ∧ s ∈ ks ∧ 0 < n ∧ ∀ k p H', FirstAt n (iN nx) s (farL n s key) k → Same H H' → H' p = some (.tup [.int (itr (iN nx) s k), .int (wl n (iN nx) s k)]) → Q (.ref p) H'
theorem T0.ok__law_answer (T : T0 K mg) : FnOk P w K mg base CX0 2 T.a__law_answer T.fd__law_answer ["size", "nexts", "house", "key"] (sp__law_answer K) := by
  refine T.F__law_answer.ok sc__law_answer (fun vs H Q E h => ?_) (fun cdv A outer s0 H vs Q E hr h => ?_)
  · obtain ⟨dN, n, s, key, nx, ks, rfl, _⟩ := h
    rfl
  · obtain ⟨dN, n, s, key, nx, ks, rfl, hN, W, hs, n0, q⟩ := h
    refine ⟨_, (pss_cons (ps_set (i := 4) sc__law_answer.nd rfl (Or.inl rfl) (pe_call T.ok__law_far hr (by rfl) T.g__law_far T.k__law_far T.b__law_far .nil pass0 (pa_cons (pv 0) (pa_cons (pv 2) (pa_cons (pv 3) pa_nil)))))
        (pss_cons (ps_set (i := 5) sc__law_answer.nd rfl (Or.inl rfl) (pe_dget (un1 hr) (pv 1) (pv 2) (fun _ _ => rfl)))
        (pss_cons (ps_set (i := 6) sc__law_answer.nd rfl (Or.inl rfl) (pe_call T.ok__law_far hr (by rfl) T.g__law_far T.k__law_far T.b__law_far .nil pass0 (pa_cons (pv 0) (pa_cons (pv 2) (pa_cons (pv 5) pa_nil)))))
        (C8.pss_cut (ps_for PassesOwn.never rfl (pi_range1 (by rfl) T.m_range (pa_cons (pe_callB call_lenD (by rfl) T.m_len PySem.boot_len (pa_cons (pv 1) pa_nil)) pa_nil)) (pg_name (i := 7) sc__law_answer.nd rfl (Or.inl rfl)) (pss_cons (ps_if (pt_cmpR op_ge (pv 6) (pv 4) (nomark _)) (pss_one ps_break) pss_nil)
        (pss_cons (ps_set (i := 6) sc__law_answer.nd rfl (Or.inl rfl) (pe_op op_add (pv 6) (pe_call T.ok__law_far hr (by rfl) T.g__law_far T.k__law_far T.b__law_far .nil pass0 (pa_cons (pv 0) (pa_cons (pv 5) (pa_cons (pe_dget (un1 hr) (pv 1) (pv 5) (fun _ _ => rfl)) pa_nil))))))
        (pss_one (ps_set (i := 5) sc__law_answer.nd rfl (Or.inl rfl) (pe_dget (un1 hr) (pv 1) (pv 5) (fun _ _ => rfl)))))))
        (pss_one (ps_ret (pe_tup (pa_cons (pv 5) (pa_cons (pv 6) pa_nil))))))))), ?_⟩
    have ln := W.lenx
    have lw := W.len
    have r := far_range s key n0
    have top := wl_round (f := iN nx) n0 W.cl hs
    have up := wl_lt (n := n) (f := iN nx) (s := s) n0 (Nat.lt_succ_self ks.length)
    refine ⟨_, rfl, _, rfl, _, rfl, n, s, key, rfl, n0, ?_⟩
    refine ⟨_, rfl, _, rfl, dN, _, rfl, dget_of (k := Sum.inl s) hN (W.at_ hs), ?_⟩
    refine ⟨_, rfl, _, rfl, _, rfl, n, s, iN nx s, rfl, n0, ?_⟩
    have e1 : farL n s (iN nx s) = wl n (iN nx) s 1 := by show _ = 0 + farL n s (iN nx s); omega
    rw [e1]
    refine ⟨fun σ' H' => ∃ (k : Nat) (o7 : Option V), σ' = [some (.int n), some (.ref dN), some (.int s), some (.int key), some (.int (farL n s key)), some (.int (itr (iN nx) s k)), some (.int (wl n (iN nx) s k)), o7] ∧ H = H' ∧ FirstAt n (iN nx) s (farL n s key) k, ?_, ?_⟩
    · refine ⟨_, rfl, dN, _, rfl, hN, (nx.length : Int), rfl, by omega, by omega, ?_⟩
      refine for_range (lo := 0) (n := ((nx.length : Nat) : Int).toNat) (fun i σ' H' => ∃ o7 : Option V, σ' = [some (.int n), some (.ref dN), some (.int s), some (.int key), some (.int (farL n s key)), some (.int (itr (iN nx) s (i + 1))), some (.int (wl n (iN nx) s (i + 1))), o7] ∧ H' = H ∧ wl n (iN nx) s i < farL n s key) ⟨none, rfl, rfl, by show (0 : Int) < _; omega⟩ (fun i σ' H' hi pv => ?_) (fun σ' H' pv => ?_)
      · obtain ⟨o7, rfl, rfl, lo⟩ := pv
        have mi := itr_mem W.cl hs (i + 1)
        refine ⟨_, rfl, _, rfl, _, _, rfl, rfl, _, rfl, ite2 (fun c => ?_) (fun c => ?_)⟩
        · have c : farL n s key ≤ wl n (iN nx) s (i + 1) := of_decide_eq_true c
          exact ⟨_, _, rfl, rfl, firstAt_of n0 c (.inr lo)⟩
        · have c : ¬ farL n s key ≤ wl n (iN nx) s (i + 1) := fun z => c (decide_eq_true z)
          refine ⟨_, rfl, _, rfl, _, rfl, _, rfl, _, rfl, dN, _, rfl, dget_of (k := Sum.inl _) hN (W.at_ mi), n, _, _, rfl, n0, _, _, rfl, rfl, ?_⟩
          exact ⟨_, rfl, _, rfl, dN, _, rfl, dget_of (k := Sum.inl _) hN (W.at_ mi), _, rfl, rfl, by omega⟩
      · obtain ⟨o7, rfl, rfl, lo⟩ := pv
        rw [Int.toNat_natCast, ln] at lo ⊢
        exact ⟨_, _, rfl, rfl, firstAt_of n0 (by omega) (.inr lo)⟩
    rintro _ _ ⟨k, o7, rfl, rfl, F⟩
    exact ⟨_, rfl, _, rfl, lenL (by show 2 ≤ 100000; decide), fun p np => q k p _ F (same_upd np) upd_same⟩
def Ques (H : Hp) (n : Int) (ms : List Int) (v : V) : Prop := ∃ (p : Addr) (a b : Int), v = .ref p ∧ H p = some (.tup [.int a, .int b]) ∧ a ∈ ms ∧ 0 ≤ b ∧ b < n
theorem Ques.mono {H H' : Hp} {n : Int} {ms ms' : List Int} {v : V} (h : Ques H n ms v) (f : ∀ p xs, H p = some (.tup xs) → H' p = some (.tup xs)) (g : ∀ k ∈ ms, k ∈ ms') : Ques H' n ms' v :=
  let ⟨p, a, b, e1, e2, e3, e4⟩ := h; ⟨p, a, b, e1, f _ _ e2, g _ e3, e4⟩
def sp__law_asked (K : PySem.W.Frag) (C : Addr) : Sp := fun vs H Q _ => ∃ (h dn db dl dN pl : Addr) (n : Int) (nx bf : List (Key × V)) (ls qs : List V) (ks : List Int), vs = [.ref h, .int n, .ref dN, .ref pl] ∧ NetAt C H h n dn db dl nx bf ls ∧ H dN = some (.dK nx) ∧ WN ks nx ∧ 0 < n ∧ n ≤ 1000000000 ∧ H pl = some (.lst qs) ∧ (∀ v ∈ qs, Ques H n ks v) ∧
  ∀ H', Same H H' → Q (.bl true) H'
theorem tup2_same {K : PySem.W.Frag} {H : Hp} {a b : Addr} {x y : Int} (h1 : H a = some (.tup [.int x, .int y])) (h2 : H b = some (.tup [.int x, .int y])) : Sm K 2 H (.ref a) (.ref b) :=
  tup_same h1 h2 (by show (2 : Nat) ≤ 100000; decide) fun v hv => by
    simp only [List.mem_cons, List.not_mem_nil, or_false] at hv
    rcases hv with rfl | rfl <;> rfl
theorem T0.ok__law_asked (T : T0 K mg) : FnOk P w K mg base CX0 6 T.a__law_asked T.fd__law_asked ["net", "size", "nexts", "questions"] (sp__law_asked K T.C_Net) := by
  refine T.F__law_asked.ok sc__law_asked (fun vs H Q E h => ?_) (fun cdv A outer s0 H vs Q E hr h => ?_)
  · obtain ⟨h, dn, db, dl, dN, pl, n, nx, bf, ls, qs, ks, rfl, _⟩ := h
    rfl
  · obtain ⟨h, dn, db, dl, dN, pl, n, nx, bf, ls, qs, ks, rfl, N0, hN, W, n0, n9, hl, hq, q⟩ := h
    refine ⟨_, (pss_cons (ps_for PassesOwn.never rfl (pi_list (pv 3)) (pg_name (i := 4) sc__law_asked.nd rfl (Or.inl rfl)) (pss_cons (ps_set (i := 5) sc__law_asked.nd rfl (Or.inl rfl) (pe_call T.ok__law_answer (hr.mono (by decide)) (by rfl) T.g__law_answer T.k__law_answer T.b__law_answer .nil pass0 (pa_cons (pv 1) (pa_cons (pv 2) (pa_cons (pe_ix (ix_tupK (K := K)) (pv 4) pe_int (fun _ _ => rfl)) (pa_cons (pe_ix (ix_tupK (K := K)) (pv 4) pe_int (fun _ _ => rfl)) pa_nil))))))
        (pss_one (ps_if (pt_not (pt_val (pe_call (T.ok__law_same 2) (hr.mono (by decide)) (by rfl) T.g__law_same T.k__law_same T.b__law_same .nil pass0 (pa_cons (pe_call T.ok_answer hr (by rfl) T.g_answer T.k_answer T.b_answer .nil pass0 (pa_cons (pv 0) (pa_cons (pe_ix (ix_tupK (K := K)) (pv 4) pe_int (fun _ _ => rfl)) (pa_cons (pe_ix (ix_tupK (K := K)) (pv 4) pe_int (fun _ _ => rfl)) pa_nil)))) (pa_cons (pv 5) pa_nil))))) (pss_one (ps_ret pe_bl)) pss_nil))))
        (pss_one (ps_ret pe_bl))), ?_⟩
    refine ⟨_, rfl, pl, rfl, ⟨_, SqL.of hl⟩, ?_⟩
    refine for_list (K := K) (a := pl) (xs := qs) (fun i σ' H' => ∃ (o4 o5 : Option V), σ' = [some (.ref h), some (.int n), some (.ref dN), some (.ref pl), o4, o5] ∧ Same H H') ⟨_, _, rfl, fun _ _ e => e⟩ (fun i σ' H' _ pv => by obtain ⟨_, _, _, s⟩ := pv; exact SqL.of (s _ _ hl)) (fun i v σ' H2 hv pv => ?_) (fun σ' H2 pv => ?_)
    · obtain ⟨o4, o5, rfl, s2⟩ := pv
      obtain ⟨p, a, b, rfl, ep, ma, b0, b1⟩ := hq v (List.mem_of_getElem? hv)
      have ep2 := s2 _ _ ep
      refine ⟨_, rfl, _, rfl, _, rfl, p, _, 0, .int a, rfl, rfl, SqT.of ep2, rfl, ?_⟩
      refine ⟨_, rfl, p, _, 1, .int b, rfl, rfl, SqT.of ep2, rfl, ?_⟩
      refine ⟨dN, n, a, b, nx, ks, rfl, s2 _ _ hN, W, ma, n0, fun k p1 H3 F s3 e3 => ?_⟩
      have ep3 := s3 _ _ ep2
      have N3 := (N0.same s2).same s3
      refine ⟨_, rfl, _, rfl, p, _, 0, .int a, rfl, rfl, SqT.of ep3, rfl, ?_⟩
      refine ⟨_, rfl, p, _, 1, .int b, rfl, rfl, SqT.of ep3, rfl, ?_⟩
      refine ⟨h, dn, db, dl, n, a, b, nx, bf, ls, ks, rfl, N3, W, ma, n0, n9, b0, b1, fun k' H4 p2 F' s4 e4 => ?_⟩
      rw [F'.uniq n0 F] at e4
      refine ⟨_, rfl, .ref p2, .ref p1, rfl, tup2_same e4 (s4 _ _ e3), fun H5 s5 => ⟨true, rfl, iteF ?_⟩⟩
      exact ⟨_, _, rfl, Same.trans s2 (Same.trans s3 (Same.trans s4 s5))⟩
    · obtain ⟨o4, o5, rfl, s2⟩ := pv
      exact q _ s2
--CUT
/-! ### questions -/
def sp__law_questions (K : PySem.W.Frag) : Sp := fun vs H Q _ => ∃ (t c pl : Addr) (n : Int) (ms : List Int), vs = [.ref t, .int n, .ref pl] ∧ Tape H t c ∧ pl ≠ t ∧ H pl = some (.lst (ms.map V.int)) ∧ 0 < ms.length ∧ ms.length ≤ 1000 ∧ 0 < n ∧ n ≤ 1000000000 ∧ (∀ k ∈ ms, 0 ≤ k ∧ k < n) ∧
  ∀ (p : Addr) (qs : List V) H', H p = none → Kp t H H' → Tape H' t c → H' p = some (.lst qs) → (∀ v ∈ qs, Ques H' n ms v) → qs.length ≤ 40 → Q (.ref p) H'
theorem tup_kp {t c : Addr} {H H' : Hp} (T : Tape H t c) (k : Kp t H H') {a : Addr} {xs : List V} (e : H a = some (.tup xs)) : H' a = some (.tup xs) := by
  obtain ⟨⟨xt, et⟩, _⟩ := tape_at T
  exact k _ _ (ne_kind e et (fun z => nomatch z)) e
theorem T0.ok__law_questions (T : T0 K mg) : FnOk P w K mg base CX0 2 T.a__law_questions T.fd__law_questions ["tape", "size", "places"] (sp__law_questions K) := by
  refine T.F__law_questions.ok sc__law_questions (fun vs H Q E h => ?_) (fun cdv A outer s0 H vs Q E hr h => ?_)
  · obtain ⟨t, c, pl, n, ms, rfl, _⟩ := h
    rfl
  · obtain ⟨t, c, pl, n, ms, rfl, T1, npt, hpl, l0, l9, n0, n9, rng, q⟩ := h
    refine ⟨_, (pss_cons (ps_set (i := 3) sc__law_questions.nd rfl (Or.inl rfl) (pe_lst pa_nil))
        (pss_cons (ps_for PassesOwn.never rfl (pi_range1 (by rfl) T.m_range (pa_cons pe_int pa_nil)) (pg_name (i := 4) sc__law_questions.nd rfl (Or.inl rfl)) (pss_cons (ps_set (i := 5) sc__law_questions.nd rfl (Or.inr rfl) (pe_ix (ix_listK (K := K)) (pv 2) (pe_call T.ok__law_pick hr (by rfl) T.g__law_pick T.k__law_pick T.b__law_pick .nil pass0 (pa_cons (pv 0) (pa_cons (pe_callB (call_lenK (K := K)) (by rfl) T.m_len PySem.boot_len (pa_cons (pv 2) pa_nil)) pa_nil))) (fun _ _ => rfl)))
        (pss_cons (ps_set (i := 6) sc__law_questions.nd rfl (Or.inl rfl) (pe_ix (ix_listK (K := K)) (pv 2) (pe_call T.ok__law_pick hr (by rfl) T.g__law_pick T.k__law_pick T.b__law_pick .nil pass0 (pa_cons (pv 0) (pa_cons (pe_callB (call_lenK (K := K)) (by rfl) T.m_len PySem.boot_len (pa_cons (pv 2) pa_nil)) pa_nil))) (fun _ _ => rfl)))
        (pss_one (ps_for PassesOwn.never rfl (pi_list (pe_lst (pa_cons (pv 5) (pa_cons (pv 6) (pa_cons (pe_op op_sub (pv 6) pe_int) (pa_cons (pe_op op_add (pv 6) pe_int) (pa_cons (pe_call T.ok__law_pick hr (by rfl) T.g__law_pick T.k__law_pick T.b__law_pick .nil pass0 (pa_cons (pv 0) (pa_cons (pv 1) pa_nil))) pa_nil))))))) (pg_name (i := 7) sc__law_questions.nd rfl (Or.inl rfl)) (pss_one (ps_expr (pe_bm PySem.F.plainAttrs_list PySem.F.slot_list_append PySem.F.type_list_append mt_append (pv 3) (pa_cons (pe_tup (pa_cons (pv 5) (pa_cons (pe_op op_modN (pe_callTy call_int1 (by rfl) T.m_int (by decide +kernel) (pa_cons (pv 7) pa_nil)) (pv 1)) pa_nil))) pa_nil)))))))))
        (pss_cons (ps_if (pt_cmpR op_le (pv 1) pe_int (nomark _)) (pss_cons (ps_set (i := 5) sc__law_questions.nd rfl (Or.inr rfl) (pe_ix (ix_listK (K := K)) (pv 2) (pe_call T.ok__law_pick hr (by rfl) T.g__law_pick T.k__law_pick T.b__law_pick .nil pass0 (pa_cons (pv 0) (pa_cons (pe_callB (call_lenK (K := K)) (by rfl) T.m_len PySem.boot_len (pa_cons (pv 2) pa_nil)) pa_nil))) (fun _ _ => rfl)))
        (pss_one (ps_set (i := 3) sc__law_questions.nd rfl (Or.inl rfl) (pe_op op_cat (pv 3) (pe_lc (own := [("key", 7)]) (g := gName 7) (by rfl) sc__law_questions.nd (pi_range1 (by rfl) T.m_range (pa_cons (pv 1) pa_nil)) (blkOk_by (own := [("key", 7)]) (N := ["tape", "size", "places", "questions", "k", "house", "near", "key"]) (sc := defScope s__law_questions) (by decide +kernel)) (fun _ _ _ _ _ => pg_name (i := 7) sc__law_questions.nd rfl (Or.inl rfl)) (fun _ _ _ _ _ => pts_nil) (fun _ _ _ _ _ => (pe_tup (pa_cons (pv 5) (pa_cons (pv 7) pa_nil))))))))) pss_nil)
        (pss_one (ps_ret (pv 3)))))), ?_⟩
    have nn0 : n ≠ 0 := by omega
    refine ⟨lenL (by show 0 ≤ 100000; decide), fun D hD => ?_⟩
    have T2 := T1.put (T1.off hD) (o := .lst [])
    have Dt := (T1.off hD).1
    refine ⟨3, rfl, by decide, by decide, ?_⟩
    refine for_range (lo := 0) (n := (3 : Int).toNat) (fun i σ' H' => ∃ (o4 o5 o6 o7 : Option V) (qs : List V), σ' = [some (.ref t), some (.int n), some (.ref pl), some (.ref D), o4, o5, o6, o7] ∧ Kp t H H' ∧ Tape H' t c ∧ H' D = some (.lst qs) ∧ (∀ v ∈ qs, Ques H' n ms v) ∧ qs.length = 5 * i) ⟨none, none, none, none, [], rfl, .of_same (same_upd hD), T2, upd_same, (fun _ h => nomatch h), rfl⟩ (fun i σ' H2 hi pv => ?_) (fun σ' H2 pv => ?_)
    · obtain ⟨o4, o5, o6, o7, qs, rfl, k, T', e, hq, l⟩ := pv
      have hp := k _ _ npt hpl
      refine ⟨_, rfl, _, rfl, _, rfl, pl, _, rfl, .inl (SqL.of hp), draw npt hp l0 l9 T' fun y H3 my k3 T3 => ?_⟩
      have hp3 := k3 _ _ npt hp
      refine ⟨_, rfl, _, rfl, _, rfl, pl, _, rfl, .inl (SqL.of hp3), draw npt hp3 l0 l9 T3 fun z H4 mz k4 T4 => ?_⟩
      refine ⟨_, rfl, _, rfl, _, rfl, _, _, rfl, rfl, _, rfl, _, _, rfl, rfl, _, rfl, _, rfl, t, c, n, rfl, T4, by omega, by omega, fun w2 H5 w0 w9 k5 T5 => ⟨lenL (by show 5 ≤ 100000; decide), fun kl nkl => ?_⟩⟩
      have k25 := (k3.trans k4).trans k5
      have e5 := k25 _ _ Dt e
      have hq5 : ∀ v ∈ qs, Ques H5 n ms v := fun v hv => (hq v hv).mono (fun a xs e => tup_kp T' k25 e) (fun _ h => h)
      have k05 := k.trans k25
      have s6 := same_upd (o := .lst [.int y, .int z, .int (z - 1), .int (z + 1), .int w2]) nkl
      have T6 := T5.put (o := .lst [.int y, .int z, .int (z - 1), .int (z + 1), .int w2]) (T5.off nkl)
      have ekl : upd H5 kl (.lst [.int y, .int z, .int (z - 1), .int (z + 1), .int w2]) kl = some (.lst ([y, z, z - 1, z + 1, w2].map V.int)) := upd_same
      generalize upd H5 kl (.lst [.int y, .int z, .int (z - 1), .int (z + 1), .int w2]) = H6 at s6 T6 ekl
      have e6 := s6 _ _ e5
      have k06 := k05.trans (.of_same s6)
      have hq6 : ∀ v ∈ qs, Ques H6 n ms v := fun v hv => (hq5 v hv).mono (fun a xs e => s6 _ _ e) (fun _ h => h)
      have klD : kl ≠ D := fun z => by rw [z, e5] at nkl; cases nkl
      refine ⟨kl, rfl, ⟨_, SqL.of ekl⟩, ?_⟩
      refine for_list (K := K) (a := kl) (xs := [y, z, z - 1, z + 1, w2].map V.int) (fun j σ' H' => ∃ (o7 : Option V) (qs : List V), σ' = [some (.ref t), some (.int n), some (.ref pl), some (.ref D), some (.int (0 + (i : Int))), some (.int y), some (.int z), o7] ∧ Kp t H H' ∧ H' kl = some (.lst ([y, z, z - 1, z + 1, w2].map V.int)) ∧ Tape H' t c ∧ H' D = some (.lst qs) ∧ (∀ v ∈ qs, Ques H' n ms v) ∧ qs.length = 5 * i + j) ⟨o7, qs, rfl, k06, ekl, T6, e6, hq6, l⟩ (fun j σ' H' _ pv => by obtain ⟨_, _, _, _, e, _⟩ := pv; exact SqL.of e) (fun j v σ' H7 hv pv => ?_) (fun σ' H7 pv => ?_)
      · obtain ⟨o7, qs, rfl, k7, ekl7, T7, e7, hq7, l7⟩ := pv
        have hj : j < 5 := (List.getElem?_eq_some_iff.mp hv).1
        have hv' : ([y, z, z - 1, z + 1, w2].map V.int)[j]? = some v := hv
        rw [List.getElem?_map] at hv'
        obtain ⟨key, _, rfl⟩ := Option.map_eq_some_iff.mp hv'
        have m0 := Int.fmod_nonneg_of_pos key n0
        have m1 := Int.fmod_lt_of_pos key n0
        refine ⟨_, rfl, .inl ⟨rfl, _, SqL.of e7⟩, _, rfl, _, rfl, .inl ⟨_, rfl, _, rfl, _, _, rfl, rfl, nn0, lenL (by show 2 ≤ 100000; decide), fun p np => ?_⟩⟩
        dsimp only
        generalize key.fmod n = x at m0 m1 ⊢
        have s8 := same_upd (o := .tup [.int y, .int x]) np
        have ep : upd H7 p (.tup [.int y, .int x]) p = some (.tup [.int y, .int x]) := upd_same
        have k8 := k7.trans (.of_same s8)
        have T8 := T7.same s8
        have e8 := s8 _ _ e7
        have ekl8 := s8 _ _ ekl7
        have hq8 : ∀ v ∈ qs, Ques (upd H7 p (.tup [.int y, .int x])) n ms v := fun v hv => (hq7 v hv).mono (fun a xs e => s8 _ _ e) (fun _ h => h)
        generalize upd H7 p (.tup [.int y, .int x]) = H8 at ep k8 T8 e8 ekl8 hq8
        refine ⟨D, _, _, rfl, rfl, e8, small1000' (by have : i < 3 := hi; omega), ?_⟩
        have tk : ∀ a xs, H8 a = some (.tup xs) → upd H8 D (.lst (qs ++ [.ref p])) a = some (.tup xs) := fun a xs e => (upd_ne (ne_kind e e8 (fun z => nomatch z))).trans e
        refine ⟨_, qs ++ [.ref p], rfl, fun a o na e => ?_, (upd_ne klD).trans ekl8, T8.put (T1.off hD), upd_same, fun v hv => ?_, by rw [List.length_append, l7]; show 5 * i + j + 1 = _; omega⟩
        · rw [upd_ne (ne_of_none e hD)]
          exact k8 _ _ na e
        · rcases List.mem_append.mp hv with hv | hv
          · exact (hq8 v hv).mono tk (fun _ h => h)
          · rw [List.mem_singleton.mp hv]
            exact ⟨p, y, x, rfl, tk _ _ ep, my, m0, m1⟩
      · obtain ⟨o7, qs, rfl, k7, ekl7, T7, e7, hq7, l7⟩ := pv
        exact ⟨_, _, _, _, qs, rfl, k7, T7, e7, hq7, by rw [l7]; show 5 * i + 5 = _; omega⟩
    · obtain ⟨o4, o5, o6, o7, qs, rfl, k, T', e, hq, l⟩ := pv
      have l : qs.length = 15 := l
      refine ⟨_, rfl, _, _, rfl, rfl, _, rfl, ite2 (fun b => ?_) (fun _ => ?_)⟩
      · have b := of_decide_eq_true b
        have hp := k _ _ npt hpl
        refine ⟨_, rfl, _, rfl, _, rfl, pl, _, rfl, .inl (SqL.of hp), draw npt hp l0 l9 T' fun y H3 my k3 T3 => ?_⟩
        have k03 := k.trans k3
        have e3 := k3 _ _ Dt e
        have hq3 : ∀ v ∈ qs, Ques H3 n ms v := fun v hv => (hq v hv).mono (fun a xs e => tup_kp T' k3 e) (fun _ h => h)
        refine ⟨_, rfl, _, rfl, n, rfl, by omega, by omega, fun D2 hD2 => ?_⟩
        have D2D : D ≠ D2 := fun z => by rw [← z, e3] at hD2; cases hD2
        refine lc_range (lo := 0) (n := n.toNat) (fun i H' => Same H3 H' ∧ ∃ vs, H' D2 = some (.lst vs) ∧ vs.length = i ∧ ∀ v ∈ vs, Ques H' n ms v) ⟨same_upd hD2, [], upd_same, rfl, fun v hv => nomatch hv⟩ (fun i H' hi pv => ?_) (fun H4 pv => ?_)
        · obtain ⟨s4, vs, e4, l4, d⟩ := pv
          refine ⟨rfl, lc_yes ?_⟩
          refine ⟨_, rfl, _, rfl, lenL (by show 2 ≤ 100000; decide), fun p np => ?_⟩
          have s5 := same_upd (o := .tup [.int y, .int (0 + (i : Int))]) np
          have e5 := s5 _ _ e4
          refine ⟨_, e5, small1000' (by omega), fun a o h => (upd_ne (ne_of_none h hD2)).trans (s5 _ _ (s4 _ _ h)), _, upd_same, by rw [List.length_append, l4]; rfl, fun v hv => ?_⟩
          rcases List.mem_append.mp hv with hv | hv
          · exact (d v hv).mono (fun a xs e => (upd_ne (ne_kind (s5 _ _ e) e5 (fun z => nomatch z))).trans (s5 _ _ e)) (fun _ h => h)
          · rw [List.mem_singleton.mp hv]
            exact ⟨p, y, 0 + (i : Int), rfl, (upd_ne (ne_kind upd_same e5 (fun z => nomatch z))).trans upd_same, my, by omega, by omega⟩
        · obtain ⟨s4, vs, e4, l4, d⟩ := pv
          have e14 := s4 _ _ e3
          refine ⟨D, D2, _, _, rfl, rfl, e14, e4, lenL (by omega), fun p2 np2 => ?_⟩
          have s5 := Same.trans s4 (same_upd (o := .lst (qs ++ vs)) np2)
          have nH : H p2 = none := by
            cases e0 : H p2 with
            | none => rfl
            | some o =>
              by_cases et : p2 = t
              · obtain ⟨⟨xt, ett⟩, _⟩ := tape_at (T3.same s4)
                rw [et, ett] at np2
                cases np2
              · rw [s4 _ _ (k03 _ _ et e0)] at np2
                cases np2
          have s6 := same_upd (o := .lst (qs ++ vs)) np2
          refine ⟨_, rfl, q p2 (qs ++ vs) _ nH (k03.trans (.of_same s5)) (T3.same s5) upd_same (fun v hv => ?_) (by rw [List.length_append]; omega)⟩
          rcases List.mem_append.mp hv with hv | hv
          · exact (hq3 v hv).mono (fun a xs e => s5 _ _ e) (fun _ h => h)
          · exact (d v hv).mono (fun a xs e => s6 _ _ e) (fun _ h => h)
      · exact ⟨_, rfl, q D qs H2 hD k T' e hq (by omega)⟩
/-! ### befores -/
theorem GB.putI {ks : List Int} {bs : List (Key × V)} (g : GB ks bs) {y x : Int} (hy : y ∈ ks) (hx : x ∈ ks) : GB ks (putK bs (.inl y) (.int x)) := fun p v e => by
  rw [valV_put] at e
  by_cases h : (Sum.inl p : Key) = .inl y
  · rw [if_pos h] at e
    cases e
    rw [Sum.inl.inj h]
    exact ⟨hy, x, hx, rfl⟩
  · rw [if_neg h] at e
    exact g p v e
theorem upd_swap {H : Hp} {a b : Addr} {x y : HO} (h : a ≠ b) : upd (upd H a x) b y = upd (upd H b y) a x := by
  funext c
  by_cases e1 : c = a
  · subst e1
    rw [upd_ne h, upd_same, upd_same]
  · by_cases e2 : c = b
    · subst e2
      rw [upd_same, upd_ne e1, upd_same]
    · rw [upd_ne e2, upd_ne e1, upd_ne e1, upd_ne e2]
def sp__law_behinds (K : PySem.W.Frag) (CN : Addr) : Sp := fun vs H Q _ => ∃ (t c : Addr) (A : Bd) (pl : Addr) (n : Int) (m : Nat) (S : WK) (ms : List Int), vs = [.ref t, .ref A.h, .ref pl, .ref A.dB] ∧ NK CN t c A n m S H ∧ pl ≠ t ∧ pl ≠ A.dl ∧ pl ≠ A.pO ∧ H pl = some (.lst (ms.map V.int)) ∧ (∀ k ∈ ms, k ∈ S.ks) ∧ 0 < ms.length ∧ ms.length ≤ 100 ∧ m ≤ 100 ∧ GB S.ks S.bs ∧
  ∀ m' bs bf H', m' ≤ m + ms.length → NK CN t c A n m' ⟨S.ks, S.nx, bs, bf, S.ps, S.ls, S.Ls⟩ H' → GB S.ks bs → FrT t A H H' → Q .non H'
theorem T0.ok__law_behinds (T : T0 K mg) : FnOk P w K mg base CX0 4 T.a__law_behinds T.fd__law_behinds ["tape", "net", "places", "behinds"] (sp__law_behinds K T.C_Net) := by
  refine T.F__law_behinds.ok sc__law_behinds (fun vs H Q E h => ?_) (fun cdv A0 outer s0 H vs Q E hr h => ?_)
  · obtain ⟨t, c, A, pl, n, m, S, ms, rfl, _⟩ := h
    rfl
  · obtain ⟨t, c, A, pl, n, m, S, ms, rfl, I, npt, npd, npO, hpl, hm, l0, l9, lm, gb, q⟩ := h
    refine ⟨_, (pss_one (ps_if (pt_cmpR op_eq (pe_call T.ok__law_pick (hr.mono (by decide)) (by rfl) T.g__law_pick T.k__law_pick T.b__law_pick .nil pass0 (pa_cons (pv 0) (pa_cons pe_int pa_nil))) pe_int (nomark _)) (pss_one (ps_for PassesOwn.never rfl (pi_list (pv 2)) (pg_name (i := 4) sc__law_behinds.nd rfl (Or.inl rfl)) (pss_one (ps_if (pt_cmpR op_eq (pe_call T.ok__law_pick (hr.mono (by decide)) (by rfl) T.g__law_pick T.k__law_pick T.b__law_pick .nil pass0 (pa_cons (pv 0) (pa_cons pe_int pa_nil))) pe_int (nomark _)) (pss_cons (ps_asg (pe_ix (ix_listK (K := K)) (pv 2) (pe_call T.ok__law_pick (hr.mono (by decide)) (by rfl) T.g__law_pick T.k__law_pick T.b__law_pick .nil pass0 (pa_cons (pv 0) (pa_cons (pe_callB (call_lenK (K := K)) (by rfl) T.m_len PySem.boot_len (pa_cons (pv 2) pa_nil)) pa_nil))) (fun _ _ => rfl)) (pg_sub (pv 3) (pv 4) (set_dict (un1 hr))))
        (pss_one (ps_expr (pe_meth (pv 1) T.cl_Net T.me_Net__set_before T.ok_Net__set_before (hr.mono (by decide)) T.b_Net__set_before .nil pass0 (pa_cons (pv 4) (pa_cons (pe_dget (un1 hr) (pv 3) (pv 4) (fun _ _ => rfl)) pa_nil)))))) pss_nil)))) pss_nil)), ?_⟩
    have l40 := I.lks
    refine ⟨_, rfl, t, c, 3, rfl, I.tape, by decide, by decide, fun x H2 _ _ k2 T2 => ⟨rfl, _, rfl, ite2 (fun _ => ?_) (fun _ => ?_)⟩⟩
    · have I2 := I.kp k2 T2
      have hpl2 := k2 _ _ npt hpl
      refine ⟨_, rfl, pl, rfl, ⟨_, SqL.of hpl2⟩, ?_⟩
      refine for_list (K := K) (a := pl) (xs := ms.map V.int) (fun i σ' H' => ∃ (o4 : Option V) (m' : Nat) (bs bf : List (Key × V)), σ' = [some (.ref t), some (.ref A.h), some (.ref pl), some (.ref A.dB), o4] ∧ m' ≤ m + i ∧ NK T.C_Net t c A n m' ⟨S.ks, S.nx, bs, bf, S.ps, S.ls, S.Ls⟩ H' ∧ GB S.ks bs ∧ FrT t A H H') ⟨none, m, S.bs, S.bf, rfl, Nat.le_refl _, I2, gb, .kp k2⟩ (fun i σ' H' _ pv => by obtain ⟨_, _, _, _, _, _, _, _, f⟩ := pv; exact SqL.of (I.ftl f npt npd npO hpl)) (fun i v σ' H3 hv pv => ?_) (fun σ' H3 pv => ?_)
      · obtain ⟨o4, m', bs, bf, rfl, lm', I3, gb3, f3⟩ := pv
        have hi : i < ms.length := by have := (List.getElem?_eq_some_iff.mp hv).1; rw [List.length_map] at this; exact this
        have hv' : (ms.map V.int)[i]? = some v := hv
        rw [List.getElem?_map] at hv'
        obtain ⟨y, hy, rfl⟩ := Option.map_eq_some_iff.mp hv'
        have my := hm y (List.mem_of_getElem? hy)
        refine ⟨_, rfl, t, c, 2, rfl, I3.tape, by decide, by decide, fun x H4 _ _ k4 T4 => ⟨rfl, _, rfl, ite2 (fun _ => ?_) (fun _ => ?_)⟩⟩
        · have I4 := I3.kp k4 T4
          have f4 := f3.trans (.kp k4)
          have hpl4 := I.ftl f4 npt npd npO hpl
          refine ⟨_, rfl, _, rfl, _, rfl, pl, _, rfl, .inl (SqL.of hpl4), draw npt hpl4 l0 (by omega) T4 fun z H5 mz k5 T5 => ?_⟩
          have I5 := I4.kp k5 T5
          have f5 := f4.trans (.kp k5)
          have mz := hm z mz
          obtain ⟨dnb, dnN, dnB, dbN, dbB, dNB⟩ := id I5.ndd
          have lb : bs.length ≤ S.ks.length := I5.lenb
          have lf : bf.length ≤ 100 + m' := I5.lbf
          refine ⟨_, rfl, _, rfl, A.dB, _, rfl, DPut.k (k := Sum.inl y) I5.hB (small1000' (show bs.length ≤ 100000 by omega)), ?_⟩
          have N6 := I5.net.putd (o := .dK (putK bs (.inl y) (.int z))) I5.hB dnB dbB
          obtain ⟨I7, f7⟩ := I5.setb_ (y := y) (v := .int z) my (.inr ⟨z, mz, rfl⟩)
          obtain ⟨dx6, hh6⟩ := N6.me
          have v6 : valV (putK bs (.inl y) (.int z)) (.inl y) = some (.int z) := by rw [valV_put, if_pos rfl]
          obtain ⟨x1, _, hx1⟩ := I5.gn.2 _ my
          obtain ⟨x2, _, hx2⟩ := I5.gn.2 _ mz
          refine ⟨_, rfl, A.h, dx6, _, rfl, hh6, (by unfold nf; walk_at "lk"), _, rfl, _, rfl, _, rfl, A.dB, _, rfl, dget_of (k := Sum.inl y) upd_same v6, A.h, A.dn, A.db, A.dl, n, y, .int z, S.nx, bf, S.ls, rfl, N6, (by rw [hx1]; rfl), .inr ⟨z, rfl, by rw [hx2]; rfl⟩, by omega, ?_⟩
          rw [upd_swap dbB.symm]
          exact ⟨_, m' + 1, _, _, rfl, by omega, I7, gb3.putI my mz, f5.trans f7.t⟩
        · exact ⟨_, m', bs, bf, rfl, by omega, I3.kp k4 T4, gb3, f3.trans (.kp k4)⟩
      · obtain ⟨o4, m', bs, bf, rfl, lm', I3, gb3, f3⟩ := pv
        rw [List.length_map] at lm'
        exact q m' bs bf H3 lm' I3 gb3 f3
    · exact q m S.bs S.bf H2 (by omega) (I.kp k2 T2) gb (.kp k2)
--CUT
/-! ### refusals -/
def sp__law_refused (K : PySem.W.Frag) (CN : Addr) : Sp := fun vs H Q _ => ∃ (t c : Addr) (A : Bd) (pl : Addr) (n : Int) (m : Nat) (S : WK) (ms : List Int) (st : Int), vs = [.ref t, .ref A.h, .int n, .ref pl, .int st] ∧ NK CN t c A n m S H ∧ pl ≠ t ∧ H pl = some (.lst (ms.map V.int)) ∧ 0 < ms.length ∧ ms.length ≤ 1000 ∧ (∀ k ∈ ms, k ∈ S.ks) ∧ st ∉ S.ks ∧ ∀ H', Kp t H H' → Tape H' t c → Q (.bl true) H'
theorem T0.ok__law_refused (T : T0 K mg) : FnOk P w K mg base CX0 9 T.a__law_refused T.fd__law_refused ["tape", "net", "size", "places", "stranger"] (sp__law_refused K T.C_Net) := by
  refine T.F__law_refused.ok sc__law_refused (fun vs H Q E h => ?_) (fun cdv A0 outer s0 H vs Q E hr h => ?_)
  · obtain ⟨t, c, A, pl, n, m, S, ms, st, rfl, _⟩ := h
    rfl
  · obtain ⟨t, c, A, pl, n, m, S, ms, st, rfl, I, npt, hpl, l0, l9, mm, stn, q⟩ := h
    refine ⟨_, (pss_cons (ps_set (i := 5) sc__law_refused.nd rfl (Or.inl rfl) (pe_ix (ix_listK (K := K)) (pv 3) (pe_call T.ok__law_pick (hr.mono (by decide)) (by rfl) T.g__law_pick T.k__law_pick T.b__law_pick .nil pass0 (pa_cons (pv 0) (pa_cons (pe_callB (call_lenK (K := K)) (by rfl) T.m_len PySem.boot_len (pa_cons (pv 3) pa_nil)) pa_nil))) (fun _ _ => rfl)))
        (pss_cons (ps_set (i := 6) sc__law_refused.nd rfl (Or.inl rfl) (pe_call T.ok__law_pick (hr.mono (by decide)) (by rfl) T.g__law_pick T.k__law_pick T.b__law_pick .nil pass0 (pa_cons (pv 0) (pa_cons (pv 2) pa_nil))))
        (pss_cons (ps_for PassesOwn.never rfl (pi_list (pe_lst (pa_cons (pe_un un_neg pe_int) (pa_cons (pv 2) (pa_cons (pe_op op_add (pe_op op_add (pv 2) pe_int) (pe_call T.ok__law_pick (hr.mono (by decide)) (by rfl) T.g__law_pick T.k__law_pick T.b__law_pick .nil pass0 (pa_cons (pv 0) (pa_cons (pe_op op_mul pe_int (pv 2)) pa_nil)))) (pa_cons (pe_op op_sub (pe_un un_neg pe_int) (pe_call T.ok__law_pick (hr.mono (by decide)) (by rfl) T.g__law_pick T.k__law_pick T.b__law_pick .nil pass0 (pa_cons (pv 0) (pa_cons (pe_op op_mul pe_int (pv 2)) pa_nil)))) pa_nil)))))) (pg_name (i := 7) sc__law_refused.nd rfl (Or.inl rfl)) (pss_one (ps_for PassesOwn.never rfl (pi_range1 (by rfl) T.m_range (pa_cons pe_int pa_nil)) (pg_name (i := 8) sc__law_refused.nd rfl (Or.inl rfl)) (pss_one (ps_if (PW.pt (pw_or (pt_not (pt_val (pe_call T.ok__law_off_circle hr (by rfl) T.g__law_off_circle T.k__law_off_circle T.b__law_off_circle .nil pass0 (pa_cons (pv 8) (pa_cons (pv 1) (pa_cons (pv 5) (pa_cons (pv 7) pa_nil))))))) (pw_or1 (pt_not (pt_val (pe_call T.ok__law_no_house hr (by rfl) T.g__law_no_house T.k__law_no_house T.b__law_no_house .nil pass0 (pa_cons (pv 8) (pa_cons (pv 1) (pa_cons (pv 4) (pa_cons (pv 7) pa_nil)))))))))) (pss_one (ps_ret pe_bl)) pss_nil)))))
        (pss_cons (ps_set (i := 9) sc__law_refused.nd rfl (Or.inl rfl) ((pe_make T.mk_Net T.ok0_Net__init (hr.mono (by decide)) (by rfl) T.mc_Net T.b1_Net__init T.bv_Net__init pass0 (pa_cons (pv 2) (pa_cons pe_dnewK pa_nil)))))
        (pss_cons (ps_for PassesOwn.never rfl (pi_range1 (by rfl) T.m_range (pa_cons pe_int pa_nil)) (pg_name (i := 8) sc__law_refused.nd rfl (Or.inl rfl)) (pss_cons (ps_if (PW.pt (pw_or (pt_not (pt_val (pe_call T.ok__law_no_house hr (by rfl) T.g__law_no_house T.k__law_no_house T.b__law_no_house .nil pass0 (pa_cons (pv 8) (pa_cons (pv 1) (pa_cons (pv 4) (pa_cons (pv 6) pa_nil))))))) (pw_or1 (pt_not (pt_val (pe_call T.ok__law_no_house hr (by rfl) T.g__law_no_house T.k__law_no_house T.b__law_no_house .nil pass0 (pa_cons (pv 8) (pa_cons (pv 1) (pa_cons (pv 4) (pa_cons (pv 5) pa_nil)))))))))) (pss_one (ps_ret pe_bl)) pss_nil)
        (pss_one (ps_if (PW.pt (pw_or (pt_not (pt_val (pe_call T.ok__law_no_house hr (by rfl) T.g__law_no_house T.k__law_no_house T.b__law_no_house .nil pass0 (pa_cons (pv 8) (pa_cons (pv 9) (pa_cons (pv 5) (pa_cons (pv 6) pa_nil))))))) (pw_or1 (pt_not (pt_val (pe_call T.ok__law_no_house hr (by rfl) T.g__law_no_house T.k__law_no_house T.b__law_no_house .nil pass0 (pa_cons (pv 8) (pa_cons (pv 9) (pa_cons (pv 5) (pa_cons (pv 2) pa_nil)))))))))) (pss_one (ps_ret pe_bl)) pss_nil))))
        (pss_one (ps_ret pe_bl))))))), ?_⟩
    have W : WN S.ks S.nx := ⟨I.gn, by have := I.lks; omega⟩
    have n0 := I.n0
    have n9 := I.n9
    refine ⟨_, rfl, _, rfl, _, rfl, pl, _, rfl, .inl (SqL.of hpl), draw npt hpl l0 l9 I.tape fun y H3 my k3 T3 => ?_⟩
    have myk := mm y my
    have sy : (valV S.nx (.inl y)).isSome = true := by rw [W.at_ myk]; rfl
    have nst : valV S.nx (.inl st) = none := valV_none_keys I.gn.1 stn
    refine ⟨_, rfl, _, rfl, t, c, n, rfl, T3, by omega, by omega, fun gd H4 _ _ k4 T4 => ?_⟩
    have I4 := (I.kp k3 T3).kp k4 T4
    refine ⟨_, rfl, _, rfl, _, rfl, _, _, rfl, rfl, _, rfl, _, rfl, _, _, rfl, rfl, .inl ⟨by omega, by omega⟩, t, c, 3 * n, rfl, T4, by omega, by omega, fun z1 H5 z10 z11 k5 T5 => ?_⟩
    refine ⟨_, _, rfl, rfl, _, rfl, _, rfl, _, rfl, _, _, rfl, rfl, .inl ⟨by omega, by omega⟩, t, c, 3 * n, rfl, T5, by omega, by omega, fun z2 H6 z20 z21 k6 T6 => ⟨_, _, rfl, rfl, lenL (by show 4 ≤ 100000; decide), fun kl nkl => ?_⟩⟩
    have I6 := (I4.kp k5 T5).kp k6 T6
    have k06 := ((k3.trans k4).trans k5).trans k6
    have s7 := same_upd (o := .lst [.int (-1), .int n, .int (n + 1 + z1), .int (-2 - z2)]) nkl
    have ekl : upd H6 kl (.lst [.int (-1), .int n, .int (n + 1 + z1), .int (-2 - z2)]) kl = some (.lst ([-1, n, n + 1 + z1, -2 - z2].map V.int)) := upd_same
    generalize upd H6 kl (.lst [.int (-1), .int n, .int (n + 1 + z1), .int (-2 - z2)]) = H7 at s7 ekl
    have I7 := I6.same s7
    refine ⟨kl, rfl, ⟨_, SqL.of ekl⟩, ?_⟩
    refine for_list (K := K) (a := kl) (xs := [-1, n, n + 1 + z1, -2 - z2].map V.int) (fun i σ' H' => ∃ (o7 o8 : Option V), σ' = [some (.ref t), some (.ref A.h), some (.int n), some (.ref pl), some (.int st), some (.int y), some (.int gd), o7, o8, none] ∧ Same H7 H') ⟨none, none, rfl, fun _ _ e => e⟩ (fun i σ' H' _ pv => by obtain ⟨_, _, _, s⟩ := pv; exact SqL.of (s _ _ ekl)) (fun i v σ' H8 hv pv => ?_) (fun σ' H8 pv => ?_)
    · obtain ⟨o7, o8, rfl, s8⟩ := pv
      have hv' : ([-1, n, n + 1 + z1, -2 - z2].map V.int)[i]? = some v := hv
      rw [List.getElem?_map] at hv'
      obtain ⟨key, hkey, rfl⟩ := Option.map_eq_some_iff.mp hv'
      have nk : ¬ (0 ≤ key ∧ key < n) := by
        have m := List.mem_of_getElem? hkey
        simp only [List.mem_cons, List.not_mem_nil, or_false] at m
        rcases m with rfl | rfl | rfl | rfl <;> omega
      refine ⟨3, rfl, by decide, by decide, ?_⟩
      refine for_range (lo := 0) (n := (3 : Int).toNat) (fun j σ' H' => ∃ (o8 : Option V), σ' = [some (.ref t), some (.ref A.h), some (.int n), some (.ref pl), some (.int st), some (.int y), some (.int gd), some (.int key), o8, none] ∧ Same H7 H') ⟨o8, rfl, s8⟩ (fun j σ' H9 hj pv => ?_) (fun σ' H9 pv => ?_)
      · obtain ⟨o8, rfl, s9⟩ := pv
        have I9 := I7.same s9
        refine ⟨_, rfl, _, rfl, _, rfl, _, rfl, A.h, A.dn, A.db, A.dl, _, n, y, key, S.nx, S.bf, S.ls, rfl, I9.net, sy, nk, fun H10 s10 => ⟨true, rfl, iteF ?_⟩⟩
        have I10 := I9.same s10
        refine ⟨_, rfl, _, rfl, _, rfl, _, rfl, A.h, A.dn, A.db, A.dl, _, n, st, key, S.nx, S.bf, S.ls, rfl, I10.net, nst, fun H11 s11 => ⟨true, rfl, iteF ?_⟩⟩
        exact ⟨_, rfl, Same.trans s9 (Same.trans s10 s11)⟩
      · obtain ⟨o8, rfl, s9⟩ := pv
        exact ⟨_, _, rfl, s9⟩
    obtain ⟨o7, o8, rfl, s8⟩ := pv
    refine ⟨_, rfl, fun d1 nd1 h1 dx1 nh1 ndx1 ne1 => ?_⟩
    have a1 := same_upd (o := .dK []) nd1
    have ed1 : upd H8 d1 (.dK []) d1 = some (.dK []) := upd_same
    generalize upd H8 d1 (.dK []) = Ha1 at a1 ed1 nh1 ndx1
    have b1 : Same Ha1 (upd (upd Ha1 dx1 (.own h1)) h1 (.ins T.C_Net dx1 [])) := fun b o e => (upd_ne (ne_of_none e nh1)).trans ((upd_ne (ne_of_none e ndx1)).trans e)
    have eh1 : upd (upd Ha1 dx1 (.own h1)) h1 (.ins T.C_Net dx1 []) h1 = some (.ins T.C_Net dx1 []) := upd_same
    generalize upd (upd Ha1 dx1 (.own h1)) h1 (.ins T.C_Net dx1 []) = Hb1 at b1 eh1
    refine ⟨h1, dx1, d1, n, [], [], rfl, eh1, b1 _ _ ed1, rfl, by decide, List.nodup_nil, (fun _ h => nomatch h), fun Hc1 dn1 db1 dl1 bf1 N1 f1 _ _ _ _ _ _ => ⟨rfl, ?_⟩⟩
    have c1 : Same H8 Hc1 := fun a o e => f1 a o (ne_of_none (a1 _ _ e) nh1) (b1 _ _ (a1 _ _ e))
    have s9 := Same.trans s8 c1
    refine ⟨3, rfl, by decide, by decide, ?_⟩
    refine for_range (lo := 0) (n := (3 : Int).toNat) (fun j σ' H' => ∃ (o7 o8 : Option V), σ' = [some (.ref t), some (.ref A.h), some (.int n), some (.ref pl), some (.int st), some (.int y), some (.int gd), o7, o8, some (.ref h1)] ∧ Same Hc1 H') ⟨o7, o8, rfl, fun _ _ e => e⟩ (fun j σ' H9 hj pv => ?_) (fun σ' H9 pv => ?_)
    · obtain ⟨o7, o8, rfl, s⟩ := pv
      have I9 := (I7.same s9).same s
      refine ⟨_, rfl, _, rfl, _, rfl, _, rfl, A.h, A.dn, A.db, A.dl, _, n, st, gd, S.nx, S.bf, S.ls, rfl, I9.net, nst, fun H10 s10 => ⟨true, rfl, iteF ?_⟩⟩
      refine ⟨_, rfl, _, rfl, _, rfl, _, rfl, A.h, A.dn, A.db, A.dl, _, n, st, y, S.nx, S.bf, S.ls, rfl, (I9.same s10).net, nst, fun H11 s11 => ⟨true, rfl, iteF ?_⟩⟩
      have N11 := ((N1.same s).same s10).same s11
      refine ⟨_, rfl, _, rfl, _, rfl, _, rfl, h1, dn1, db1, dl1, _, n, y, gd, [], bf1, [], rfl, N11, rfl, fun H12 s12 => ⟨true, rfl, iteF ?_⟩⟩
      refine ⟨_, rfl, _, rfl, _, rfl, _, rfl, h1, dn1, db1, dl1, _, n, y, n, [], bf1, [], rfl, N11.same s12, rfl, fun H13 s13 => ⟨true, rfl, iteF ?_⟩⟩
      exact ⟨_, _, rfl, Same.trans s (Same.trans s10 (Same.trans s11 (Same.trans s12 s13)))⟩
    · obtain ⟨o7, o8, rfl, s⟩ := pv
      have s79 := Same.trans s7 (Same.trans s9 s)
      exact q H9 (k06.trans (.of_same s79)) (I6.same s79).tape
--CUT
/-! ### the law -/
theorem Shot.mono {n : Int} {f g : Int → V} {ys : List Int} {H H' : Hp} {p : Addr} {ls : List V} (h : Shot n f g ys H p ls) (s : ∀ a xs, H a = some (.tup xs) → H' a = some (.tup xs)) : Shot n f g ys H' p ls :=
  let ⟨r, l, rs, e1, e2, e3, e4⟩ := h; ⟨r, l, rs, s _ _ e1, s _ _ e2, s _ _ e3, e4.mono s⟩
structure LZ (CN t c : Addr) (A : Bd) (n : Int) (m : Nat) (S : WK) (h2 dn2 db2 dl2 dT el ql pl : Addr) (nx0 bf2 bs0 : List (Key × V)) (zs ms : List Int) (qs : List V) (H : Hp) : Prop where
  I : NK CN t c A n m S H
  net : NetAt CN H h2 n dn2 db2 dl2 nx0 bf2 []
  hT : H dT = some (.dK nx0)
  sh : Shot n (gV nx0) (bef bs0) zs H el []
  ne : ∀ a ∈ [dn2, db2, dl2, dT, ql, pl], a ≠ t ∧ a ≠ A.dn ∧ a ≠ A.db ∧ a ≠ A.dl ∧ a ≠ A.dN ∧ a ≠ A.dB ∧ a ≠ A.pO
  hq : H ql = some (.lst qs)
  qq : ∀ v ∈ qs, Ques H n ms v
  hp : H pl = some (.lst (ms.map V.int))
theorem LZ.next {CN t c : Addr} {A : Bd} {n : Int} {m m' : Nat} {S S' : WK} {h2 dn2 db2 dl2 dT el ql pl : Addr} {nx0 bf2 bs0 : List (Key × V)} {zs ms : List Int} {qs : List V} {H H' : Hp} (Z : LZ CN t c A n m S h2 dn2 db2 dl2 dT el ql pl nx0 bf2 bs0 zs ms qs H) (I : NK CN t c A n m' S' H') (f : FrT t A H H') :
    LZ CN t c A n m' S' h2 dn2 db2 dl2 dT el ql pl nx0 bf2 bs0 zs ms qs H' := by
  have k : ∀ a ∈ [dn2, db2, dl2, dT, ql, pl], ∀ o, H a = some o → H' a = some o := fun a ha o e => by
    obtain ⟨n1, n2, n3, n4, n5, n6, n7⟩ := Z.ne a ha
    exact f a o n1 n2 n3 n4 n5 n6 n7 e
  have tp : ∀ a xs, H a = some (.tup xs) → H' a = some (.tup xs) := fun a xs e => Z.I.ftt f e
  obtain ⟨⟨xt, et⟩, _⟩ := tape_at Z.I.tape
  obtain ⟨dx, hh⟩ := Z.net.me
  exact { I := I
          net := ⟨⟨dx, f _ _ (ne_kind hh et (fun z => nomatch z)) (ne_kind hh Z.I.net.hn (fun z => nomatch z)) (ne_kind hh Z.I.net.hb (fun z => nomatch z)) (ne_kind hh Z.I.net.hl (fun z => nomatch z)) (ne_kind hh Z.I.hN (fun z => nomatch z)) (ne_kind hh Z.I.hB (fun z => nomatch z)) (ne_kind hh Z.I.hP (fun z => nomatch z)) hh⟩, k _ (by simp) _ Z.net.hn, k _ (by simp) _ Z.net.hb, k _ (by simp) _ Z.net.hl⟩
          hT := k _ (by simp) _ Z.hT
          sh := Z.sh.mono tp
          ne := Z.ne
          hq := k _ (by simp) _ Z.hq
          qq := fun v hv => (Z.qq v hv).mono tp (fun _ h => h)
          hp := k _ (by simp) _ Z.hp }
--CUT
def sp_law (K : PySem.W.Frag) : Sp := fun vs H Q _ => ∃ (a : Addr) (ns : List Int), vs = [.ref a] ∧ SqL K H a (ns.map V.int) ∧ ns.length ≤ 63 ∧ ∀ H', Q (.bl true) H'
theorem T0.ok_law (T : T0 K mg) : FnOk P w K mg base CX0 12 T.a_law T.fd_law ["script"] (sp_law K) := by
  refine T.F_law.ok sc_law (fun vs H Q E h => ?_) (fun cdv A' outer s H vs Q E hr h => ?_)
  · obtain ⟨a, ns, rfl, _⟩ := h
    rfl
  · obtain ⟨a, ns, rfl, hS, hlen, q⟩ := h
    refine ⟨_, (pss_cons (ps_set (i := 1) sc_law.nd rfl (Or.inl rfl) (pe_call T.ok__law_tape (hr.mono (by decide)) (by rfl) T.g__law_tape T.k__law_tape T.b__law_tape .nil pass0 (pa_cons (pv 0) pa_nil)))
        (pss_cons (ps_set (i := 2) sc_law.nd rfl (Or.inl rfl) (pe_op op_add pe_int (pe_call T.ok__law_pick (hr.mono (by decide)) (by rfl) T.g__law_pick T.k__law_pick T.b__law_pick .nil pass0 (pa_cons (pv 1) (pa_cons pe_int pa_nil)))))
        (C8.pss_cut (ps_if (pt_cmpR op_eq (pe_call T.ok__law_pick (hr.mono (by decide)) (by rfl) T.g__law_pick T.k__law_pick T.b__law_pick .nil pass0 (pa_cons (pv 1) (pa_cons pe_int pa_nil))) pe_int (nomark _)) (pss_one (ps_set (i := 2) sc_law.nd rfl (Or.inl rfl) (pe_op op_add pe_int (pe_call T.ok__law_pick (hr.mono (by decide)) (by rfl) T.g__law_pick T.k__law_pick T.b__law_pick .nil pass0 (pa_cons (pv 1) (pa_cons pe_int pa_nil)))))) pss_nil)
        (pss_cons (ps_set (i := 3) sc_law.nd rfl (Or.inl rfl) (pe_call T.ok__law_size (hr.mono (by decide)) (by rfl) T.g__law_size T.k__law_size T.b__law_size .nil pass0 (pa_cons (pv 1) (pa_cons (pv 2) pa_nil))))
        (pss_cons (ps_set (i := 4) sc_law.nd rfl (Or.inl rfl) (pe_call T.ok__law_places (hr.mono (by decide)) (by rfl) T.g__law_places T.k__law_places T.b__law_places .nil pass0 (pa_cons (pv 1) (pa_cons (pv 3) (pa_cons (pv 2) pa_nil)))))
        (C8.pss_cut (ps_if (pt_cmpR op_eq (pe_call T.ok__law_pick (hr.mono (by decide)) (by rfl) T.g__law_pick T.k__law_pick T.b__law_pick .nil pass0 (pa_cons (pv 1) (pa_cons pe_int pa_nil))) pe_int (nomark _)) (pss_one (ps_set (i := 4) sc_law.nd rfl (Or.inl rfl) (pe_callB (cr_sortedK (K := K)) (by rfl) T.m_sorted (by decide +kernel) (pa_cons (pv 4) pa_nil)))) pss_nil)
        (pss_cons (ps_set (i := 5) sc_law.nd rfl (Or.inl rfl) (pe_call T.ok__law_nexts (hr.mono (by decide)) (by rfl) T.g__law_nexts T.k__law_nexts T.b__law_nexts .nil pass0 (pa_cons (pv 1) (pa_cons (pv 4) pa_nil))))
        (pss_cons (ps_set (i := 6) sc_law.nd rfl (Or.inl rfl) pe_dnewK)
        (pss_cons (ps_set (i := 7) sc_law.nd rfl (Or.inl rfl) (pe_lst pa_nil))
        (pss_cons (ps_set (i := 8) sc_law.nd rfl (Or.inl rfl) (pe_make T.mk_Net T.ok0_Net__init (hr.mono (by decide)) (by rfl) T.mc_Net T.b1_Net__init T.bv_Net__init pass0 (pa_cons (pv 3) (pa_cons (pe_callTy call_dictD (by rfl) T.m_dict (by decide +kernel) (pa_cons (pv 5) pa_nil)) pa_nil))))
        (pss_cons (ps_expr (pe_call T.ok__law_behinds (hr.mono (by decide)) (by rfl) T.g__law_behinds T.k__law_behinds T.b__law_behinds .nil pass0 (pa_cons (pv 1) (pa_cons (pv 8) (pa_cons (pv 4) (pa_cons (pv 6) pa_nil))))))
        (pss_cons (ps_set (i := 9) sc_law.nd rfl (Or.inl rfl) (pe_call T.ok__law_stranger (hr.mono (by decide)) (by rfl) T.g__law_stranger T.k__law_stranger T.b__law_stranger .nil pass0 (pa_cons (pv 1) (pa_cons (pv 3) (pa_cons (pv 5) pa_nil)))))
        (pss_cons (ps_set (i := 10) sc_law.nd rfl (Or.inl rfl) (pe_call T.ok__law_questions (hr.mono (by decide)) (by rfl) T.g__law_questions T.k__law_questions T.b__law_questions .nil pass0 (pa_cons (pv 1) (pa_cons (pv 3) (pa_cons (pv 4) pa_nil)))))
        (pss_cons (ps_if (PW.pt (pw_or (pt_not (pt_val (pe_call T.ok__law_asked (hr.mono (by decide)) (by rfl) T.g__law_asked T.k__law_asked T.b__law_asked .nil pass0 (pa_cons (pv 8) (pa_cons (pv 3) (pa_cons (pv 5) (pa_cons (pv 10) pa_nil))))))) (pw_or1 (pt_not (pt_val (pe_call T.ok__law_refused (hr.mono (by decide)) (by rfl) T.g__law_refused T.k__law_refused T.b__law_refused .nil pass0 (pa_cons (pv 1) (pa_cons (pv 8) (pa_cons (pv 3) (pa_cons (pv 4) (pa_cons (pv 9) pa_nil))))))))))) (pss_one (ps_ret pe_bl)) pss_nil)
        (pss_cons (ps_set (i := 11) sc_law.nd rfl (Or.inl rfl) (pe_meth0 (pv 8) T.cl_Net T.me_Net__clone T.ok_Net__clone (hr.mono (by decide)) T.b_Net__clone .nil pass0))
        (pss_cons (ps_set (i := 12) sc_law.nd rfl (Or.inl rfl) (pe_callTy call_dictD (by rfl) T.m_dict (by decide +kernel) (pa_cons (pv 5) pa_nil)))
        (pss_cons (ps_set (i := 13) sc_law.nd rfl (Or.inl rfl) (pe_call T.ok__law_snapshot (hr.mono (by decide)) (by rfl) T.g__law_snapshot T.k__law_snapshot T.b__law_snapshot .nil pass0 (pa_cons (pv 3) (pa_cons (pv 5) (pa_cons (pv 6) (pa_cons (pv 7) pa_nil))))))
        (pss_cons (ps_for PassesOwn.never rfl (pi_range1 (by rfl) T.m_range (pa_cons (pe_call T.ok__law_pick (hr.mono (by decide)) (by rfl) T.g__law_pick T.k__law_pick T.b__law_pick .nil pass0 (pa_cons (pv 1) (pa_cons pe_int pa_nil))) pa_nil)) (pg_name (i := 14) sc_law.nd rfl (Or.inl rfl)) (pss_one (ps_if (pt_not (pt_val (pe_call T.ok__law_deed (hr.mono (by decide)) (by rfl) T.g__law_deed T.k__law_deed T.b__law_deed .nil pass0 (pa_cons (pv 1) (pa_cons (pv 8) (pa_cons (pv 3) (pa_cons (pv 5) (pa_cons (pv 6) (pa_cons (pv 7) pa_nil))))))))) (pss_one (ps_ret pe_bl)) pss_nil)))
        (pss_cons (ps_set (i := 15) sc_law.nd rfl (Or.inl rfl) (pe_ix (ix_listK (K := K)) (pv 4) (pe_call T.ok__law_pick (hr.mono (by decide)) (by rfl) T.g__law_pick T.k__law_pick T.b__law_pick .nil pass0 (pa_cons (pv 1) (pa_cons (pv 2) pa_nil))) (fun _ _ => rfl)))
        (pss_cons (ps_asg (pe_ix (ix_listK (K := K)) (pv 4) (pe_call T.ok__law_pick (hr.mono (by decide)) (by rfl) T.g__law_pick T.k__law_pick T.b__law_pick .nil pass0 (pa_cons (pv 1) (pa_cons (pv 2) pa_nil))) (fun _ _ => rfl)) (pg_sub (pv 5) (pv 15) (set_dict (un1 hr))))
        (pss_cons (ps_expr (pe_meth (pv 8) T.cl_Net T.me_Net__hold T.ok_Net__hold (hr.mono (by decide)) T.b_Net__hold .nil pass0 (pa_cons (pv 15) (pa_cons (pe_dget (un1 hr) (pv 5) (pv 15) (fun _ _ => rfl)) pa_nil))))
        (pss_cons (ps_if (PW.pt (pw_or (pt_not (pt_val (pe_call T.ok__law_asked (hr.mono (by decide)) (by rfl) T.g__law_asked T.k__law_asked T.b__law_asked .nil pass0 (pa_cons (pv 8) (pa_cons (pv 3) (pa_cons (pv 5) (pa_cons (pv 10) pa_nil))))))) (pw_or1 (pt_not (pt_val (pe_call T.ok__law_asked (hr.mono (by decide)) (by rfl) T.g__law_asked T.k__law_asked T.b__law_asked .nil pass0 (pa_cons (pv 11) (pa_cons (pv 3) (pa_cons (pv 12) (pa_cons (pv 10) pa_nil)))))))))) (pss_one (ps_ret pe_bl)) pss_nil)
        (C8.pss_cut (ps_if (pt_chain op_le op_lt pe_int (pv 9) (pv 3)) (pss_cons (ps_expr (pe_meth (pv 8) T.cl_Net T.me_Net__admit T.ok_Net__admit (hr.mono (by decide)) T.b_Net__admit .nil pass0 (pa_cons (pv 9) (pa_cons (pv 15) pa_nil))))
        (pss_cons (ps_asg (pv 15) (pg_sub (pv 5) (pv 9) (set_dict (un1 hr))))
        (pss_cons (ps_set (i := 10) sc_law.nd rfl (Or.inl rfl) (pe_op op_cat (pe_lst (pa_cons (pe_tup (pa_cons (pv 9) (pa_cons (pv 9) pa_nil))) (pa_cons (pe_tup (pa_cons (pv 9) (pa_cons (pv 15) pa_nil))) (pa_cons (pe_tup (pa_cons (pv 15) (pa_cons (pv 9) pa_nil))) pa_nil)))) (pv 10)))
        (pss_one (ps_if (pt_not (pt_val (pe_call T.ok__law_asked (hr.mono (by decide)) (by rfl) T.g__law_asked T.k__law_asked T.b__law_asked .nil pass0 (pa_cons (pv 8) (pa_cons (pv 3) (pa_cons (pv 5) (pa_cons (pv 10) pa_nil))))))) (pss_one (ps_ret pe_bl)) pss_nil))))) pss_nil)
        (pss_cons (ps_if (pt_not (pt_val (pe_call (T.ok__law_same 4) (hr.mono (by decide)) (by rfl) T.g__law_same T.k__law_same T.b__law_same .nil pass0 (pa_cons (pe_meth0 (pv 11) T.cl_Net T.me_Net__snapshot T.ok_Net__snapshot (hr.mono (by decide)) T.b_Net__snapshot .nil pass0) (pa_cons (pv 13) pa_nil))))) (pss_one (ps_ret pe_bl)) pss_nil)
        (pss_one (ps_ret (pe_call (T.ok__law_same 4) (hr.mono (by decide)) (by rfl) T.g__law_same T.k__law_same T.b__law_same .nil pass0 (pa_cons (pe_meth0 (pv 8) T.cl_Net T.me_Net__snapshot T.ok_Net__snapshot (hr.mono (by decide)) T.b_Net__snapshot .nil pass0) (pa_cons (pe_call T.ok__law_snapshot (hr.mono (by decide)) (by rfl) T.g__law_snapshot T.k__law_snapshot T.b__law_snapshot .nil pass0 (pa_cons (pv 3) (pa_cons (pv 5) (pa_cons (pv 6) (pa_cons (pv 7) pa_nil))))) pa_nil))))))))))))))))))))))))))))), ?_⟩
    refine ⟨_, rfl, a, ns, rfl, hS, by omega, fun H1 t c sm nt T1 => ?_⟩
    refine ⟨_, rfl, t, c, 7, rfl, T1, by decide, by decide, fun co H2 co0 co1 k2 T2 => ⟨_, _, rfl, rfl, ?_⟩⟩
    refine ⟨fun σ' H' => ∃ co : Int, σ' = [some (.ref a), some (.ref t), some (.int co), none, none, none, none, none, none, none, none, none, none, none, none, none] ∧ 1 ≤ co ∧ co ≤ 39 ∧ Tape H' t c, ?_, ?_⟩
    · refine ⟨_, rfl, t, c, 16, rfl, T2, by decide, by decide, fun x H3 _ _ k3 T3 => ⟨rfl, _, rfl, ite2 (fun _ => ?_) (fun _ => ?_)⟩⟩
      · exact ⟨_, rfl, t, c, 39, rfl, T3, by decide, by decide, fun co H5 c0 c1 k5 T5 => ⟨_, _, rfl, rfl, _, rfl, by omega, by omega, T5⟩⟩
      · exact ⟨_, rfl, by omega, by omega, T3⟩
    rintro _ H3 ⟨co, rfl, c0, c1, T3⟩
    refine ⟨_, rfl, _, rfl, t, c, co, rfl, T3, by omega, fun n H4 n0 n1 n2 k4 T4 => ?_⟩
    refine ⟨_, rfl, _, rfl, _, rfl, t, c, n, co, rfl, T4, by omega, by omega, by omega, n2, fun pl0 ms0 H5 npl hpl0 lms0 mnd0 mrg0 k5 T5 => ?_⟩
    refine ⟨fun σ' H' => ∃ (pl : Addr) (ms : List Int), σ' = [some (.ref a), some (.ref t), some (.int co), some (.int n), some (.ref pl), none, none, none, none, none, none, none, none, none, none, none] ∧ H' pl = some (.lst (ms.map V.int)) ∧ (ms.length : Int) = co ∧ ms.Nodup ∧ (∀ k ∈ ms, 0 ≤ k ∧ k < n) ∧ pl ≠ t ∧ Tape H' t c, ?_, ?_⟩
    · refine ⟨_, rfl, t, c, 3, rfl, T5, by decide, by decide, fun x H6 _ _ k6 T6 => ⟨rfl, _, rfl, ite2 (fun _ => ?_) (fun _ => ?_)⟩⟩
      · have hp6 := k6 _ _ (T4.off npl).1 hpl0
        refine ⟨_, rfl, pl0, ms0, rfl, SqL.of hp6, by omega, fun ss l perm pw nl => ?_⟩
        exact ⟨l, ss, rfl, upd_same, by rw [perm.length_eq]; exact lms0, perm.nodup_iff.mpr mnd0, fun k hk => mrg0 k (perm.mem_iff.mp hk), (T6.off nl).1, T6.put (T6.off nl)⟩
      · exact ⟨pl0, ms0, rfl, k6 _ _ (T4.off npl).1 hpl0, lms0, mnd0, mrg0, (T4.off npl).1, T6⟩
    rintro _ H6 ⟨pl, ms, rfl, hpl, lms, mnd, mrg, npt, T6⟩
    have l0 : 0 < ms.length := by omega
    refine ⟨_, rfl, _, rfl, t, c, pl, ms, rfl, T6, npt, hpl, mnd, by omega, fun dN nx H9 ndN hN9 keys vN k7 T9 => ?_⟩
    have gn : GN ms nx := ⟨keys, vN⟩
    have odN := T6.off ndN
    have hpl9 := k7 _ _ npt hpl
    have lnx : nx.length = ms.length := by have := congrArg List.length gn.1; rw [List.length_map, List.length_map] at this; exact this
    have mem_some : ∀ k ∈ ms, (valV nx (.inl k)).isSome = true := fun k hk => by obtain ⟨x, _, e⟩ := gn.2 k hk; rw [e]; rfl
    intro dB ndB
    have odB := T9.off ndB
    have s10 := same_upd (o := .dK []) ndB
    have e10 : upd H9 dB (.dK []) dB = some (.dK []) := upd_same
    have dNB : dN ≠ dB := ne_of_none hN9 ndB
    generalize upd H9 dB (.dK []) = H10 at s10 e10
    refine ⟨lenL (by show 0 ≤ 100000; decide), fun pO npO => ?_⟩
    have T10 := T9.same s10
    have opO := T10.off npO
    have plO : pl ≠ pO := ne_of_none (s10 _ _ hpl9) npO
    have s11 := same_upd (o := .lst []) npO
    have e11 : upd H10 pO (.lst []) pO = some (.lst []) := upd_same
    have b11 := s11 _ _ e10
    generalize upd H10 pO (.lst []) = H11 at s11 e11 b11
    have T11 := T10.same s11
    have hN11 := s11 _ _ (s10 _ _ hN9)
    have hpl11 := s11 _ _ (s10 _ _ hpl9)
    -- net
    refine ⟨_, rfl, _, rfl, dN, nx, rfl, .inl hN11, fun d1 n1' h dx nh ndx ne => ?_⟩
    have s13 := same_upd (o := .dK nx) n1'
    have e1 : upd H11 d1 (.dK nx) d1 = some (.dK nx) := upd_same
    generalize upd H11 d1 (.dK nx) = H13 at s13 e1 nh ndx
    have s16 : Same H13 (upd (upd H13 dx (.own h)) h (.ins T.C_Net dx [])) := fun b o e => (upd_ne (ne_of_none e nh)).trans ((upd_ne (ne_of_none e ndx)).trans e)
    have hh16 : upd (upd H13 dx (.own h)) h (.ins T.C_Net dx []) h = some (.ins T.C_Net dx []) := upd_same
    generalize upd (upd H13 dx (.own h)) h (.ins T.C_Net dx []) = H16 at s16 hh16
    refine ⟨h, dx, d1, n, nx, ms, rfl, hh16, s16 _ _ e1, gn.1, by omega, mnd, fun k hk => ?_, fun H17 dn db dl bf N17 f17 m1 m2 m3 ndb vF lbf => ⟨rfl, ?_⟩⟩
    · obtain ⟨x, mx, e⟩ := gn.2 k hk
      exact ⟨(mrg k hk).1, (mrg k hk).2, x, e, mem_some x mx⟩
    have s1116 := Same.trans s13 s16
    have s1117 : Same H11 H17 := fun b o e => f17 _ _ (ne_of_none (s13 _ _ e) nh) (s1116 _ _ e)
    have fr : ∀ {b d : Addr} {o : HO}, H11 b = some o → H16 d = none → b ≠ d := fun e hd z => by rw [← z, s1116 _ _ e] at hd; cases hd
    obtain ⟨⟨xt, et⟩, ⟨xc, ec⟩⟩ := tape_at T11
    have I17 : NK T.C_Net t c ⟨h, dn, db, dl, dN, dB, pO⟩ n 0 ⟨ms, nx, [], bf, [], [], []⟩ H17 := {
      tape := T11.same s1117, net := N17, hN := s1117 _ _ hN11, hB := s1117 _ _ b11, hP := s1117 _ _ e11, gn := gn, nd := mnd, rng := mrg, n0 := by omega, n9 := n2, gc := (fun p v e => nomatch (show (none : Option V) = some v from e)), kb := ⟨[], rfl, List.nodup_nil⟩, vf := vF, lp := ⟨.nil, fun _ h => nomatch h⟩, ll := ⟨.nil, fun _ h => nomatch h⟩
      ndl := ⟨opO.1, opO.2, fun z => fr et m3 z.symm, fun z => fr ec m3 z.symm, fr e11 m3⟩
      ndd := ⟨ndb.symm, fun z => fr hN11 m1 z.symm, fun z => fr b11 m1 z.symm, fun z => fr hN11 m2 z.symm, fun z => fr b11 m2 z.symm, dNB⟩
      lks := by show ms.length ≤ 40; omega
      lps := by show 0 ≤ 60 + 0; omega
      lbf := by show bf.length ≤ 100 + 0; omega }
    have hpl17 := s1117 _ _ hpl11
    have npdl : pl ≠ dl := fr hpl11 m3
    have gb0 : GB ms [] := fun p v e => nomatch (show (none : Option V) = some v from e)
    have W0 : WN ms nx := ⟨gn, by omega⟩
    have n0' : 0 < n := by omega
    clear fr s1117 s1116 s16 s13 f17 vF
    -- befores
    refine ⟨_, rfl, _, rfl, _, rfl, _, rfl, t, c, ⟨h, dn, db, dl, dN, dB, pO⟩, pl, n, 0, _, ms, rfl, I17, npt, npdl, plO, hpl17, (fun _ h => h), l0, by omega, by omega, gb0, fun m bs bf2 H18 lm I18 gb f18 => ?_⟩
    have hpl18 := I17.ftl f18 npt npdl plO hpl17
    -- a stranger
    have dNt : dN ≠ t := odN.1
    refine ⟨_, rfl, _, rfl, _, rfl, t, c, dN, n, nx, ms, rfl, I18.tape, dNt, I18.hN, W0, n0', n2, fun st H19 st0 stn k19 T19 => ?_⟩
    have I19 := I18.kp k19 T19
    have hpl19 := k19 _ _ npt hpl18
    -- questions
    refine ⟨_, rfl, _, rfl, _, rfl, t, c, pl, n, ms, rfl, T19, npt, hpl19, l0, by omega, n0', n2, mrg, fun ql qs H20 nql k20 T20 hq hqq lq => ?_⟩
    have I20 := I19.kp k20 T20
    have hpl20 := k20 _ _ npt hpl19
    have oql := T19.off nql
    have fql : ∀ {b : Addr} {o : HO}, H19 b = some o → ql ≠ b := fun e z => by rw [z, e] at nql; cases nql
    -- asked
    refine ⟨_, rfl, _, rfl, _, rfl, _, rfl, h, dn, db, dl, dN, ql, n, nx, bf2, [], qs, ms, rfl, I20.net, I20.hN, W0, n0', n2, hq, hqq, fun H21 s21 => ⟨true, rfl, iteF ?_⟩⟩
    have I21 := I20.same s21
    refine ⟨_, rfl, _, rfl, _, rfl, _, rfl, _, rfl, t, c, ⟨h, dn, db, dl, dN, dB, pO⟩, pl, n, m, _, ms, st, rfl, I21, npt, s21 _ _ hpl20, l0, by omega, (fun _ h => h), stn, fun H22 k22 T22 => ⟨true, rfl, iteF ?_⟩⟩
    have I22 := I21.kp k22 T22
    have hpl22 := k22 _ _ npt (s21 _ _ hpl20)
    have hq22 := k22 _ _ oql.1 (s21 _ _ hq)
    have hqq22 : ∀ v ∈ qs, Ques H22 n ms v := fun v hv => ((hqq v hv).mono (fun a xs e => s21 _ _ e) (fun _ h => h)).mono (fun a xs e => tup_kp I21.tape k22 e) (fun _ h => h)
    -- a twin
    obtain ⟨dx22, hh22⟩ := I22.net.me
    refine ⟨_, rfl, h, dx22, _, rfl, hh22, (by unfold nf; walk_at "lk"), h, dn, db, dl, n, nx, bf2, bs, [], ms, rfl, I22.net, by omega, mnd, mrg, gn, I22.vf, gb, by decide, (fun _ h => nomatch h), fun H23 h2 dn2 db2 dl2 bf3 N23 s23 nh2 ndn2 ndb2 ndl2 ndd2 vf2 lbf3 => ?_⟩
    have I23 := I22.same s23
    -- its table
    refine ⟨_, rfl, dN, nx, rfl, .inl I23.hN, fun dT ndT => ?_⟩
    have s24 := same_upd (o := .dK nx) ndT
    have hT24 : upd H23 dT (.dK nx) dT = some (.dK nx) := upd_same
    generalize upd H23 dT (.dK nx) = H24 at s24 hT24
    have I24 := I23.same s24
    -- elder
    refine ⟨_, rfl, _, rfl, _, rfl, _, rfl, dN, dB, pO, n, nx, bs, [], ms, rfl, I24.hN, I24.hB, I24.hP, by omega, gn, fun zs el H25 permz pwz s25 sh25 => ?_⟩
    have s2225 := Same.trans s23 (Same.trans s24 s25)
    have I25 := I24.same s25
    have f22 : ∀ {b d : Addr} {o : HO}, H22 b = some o → H22 d = none → d ≠ b := fun e hd z => by rw [z, e] at hd; cases hd
    have f23 : ∀ {b : Addr} {o : HO}, H22 b = some o → dT ≠ b := fun e z => by rw [z, s23 _ _ e] at ndT; cases ndT
    obtain ⟨⟨xt2, et2⟩, _⟩ := tape_at T22
    have Z25 : LZ T.C_Net t c ⟨h, dn, db, dl, dN, dB, pO⟩ n m ⟨ms, nx, bs, bf2, [], [], []⟩ h2 dn2 db2 dl2 dT el ql pl nx bf3 bs zs ms qs H25 := {
      I := I25
      net := (N23.same s24).same s25
      hT := s25 _ _ hT24
      sh := sh25
      ne := fun a ha => by
        simp only [List.mem_cons, List.not_mem_nil, or_false] at ha
        rcases ha with rfl | rfl | rfl | rfl | rfl | rfl
        · exact ⟨f22 et2 ndn2, f22 I22.net.hn ndn2, f22 I22.net.hb ndn2, f22 I22.net.hl ndn2, f22 I22.hN ndn2, f22 I22.hB ndn2, f22 I22.hP ndn2⟩
        · exact ⟨f22 et2 ndb2, f22 I22.net.hn ndb2, f22 I22.net.hb ndb2, f22 I22.net.hl ndb2, f22 I22.hN ndb2, f22 I22.hB ndb2, f22 I22.hP ndb2⟩
        · exact ⟨f22 et2 ndl2, f22 I22.net.hn ndl2, f22 I22.net.hb ndl2, f22 I22.net.hl ndl2, f22 I22.hN ndl2, f22 I22.hB ndl2, f22 I22.hP ndl2⟩
        · exact ⟨f23 et2, f23 I22.net.hn, f23 I22.net.hb, f23 I22.net.hl, f23 I22.hN, f23 I22.hB, f23 I22.hP⟩
        · exact ⟨oql.1, fql I19.net.hn, fql I19.net.hb, fql I19.net.hl, fql I19.hN, fql I19.hB, fql I19.hP⟩
        · exact ⟨npt, ne_kind hpl22 I22.net.hn (fun z => nomatch z), ne_kind hpl22 I22.net.hb (fun z => nomatch z), npdl, ne_kind hpl22 I22.hN (fun z => nomatch z), ne_kind hpl22 I22.hB (fun z => nomatch z), plO⟩
      hq := s2225 _ _ hq22
      qq := fun v hv => (hqq22 v hv).mono (fun a xs e => s2225 _ _ e) (fun _ h => h)
      hp := s2225 _ _ hpl22 }
    clear f22 f23 fql
    -- deeds
    refine ⟨_, rfl, t, c, 9, rfl, I25.tape, by decide, by decide, fun r H26 r0 r1 k26 T26 => ⟨_, rfl, by omega, by omega, ?_⟩⟩
    have Z26 := Z25.next (I25.kp k26 T26) (.kp k26)
    refine for_range (lo := 0) (n := r.toNat) (fun i σ' H' => ∃ (o14 : Option V) (S : WK), σ' = [some (.ref a), some (.ref t), some (.int co), some (.int n), some (.ref pl), some (.ref dN), some (.ref dB), some (.ref pO), some (.ref h), some (.int st), some (.ref ql), some (.ref h2), some (.ref dT), some (.ref el), o14, none] ∧ LZ T.C_Net t c ⟨h, dn, db, dl, dN, dB, pO⟩ n (m + i) S h2 dn2 db2 dl2 dT el ql pl nx bf3 bs zs ms qs H' ∧ S.ks = ms)
      ⟨_, _, rfl, Z26, rfl⟩ (fun i σ' H27 hi pv => ?_) (fun σ' H27 pv => ?_)
    · obtain ⟨o14, S, rfl, Z, eks⟩ := pv
      refine ⟨_, rfl, _, rfl, _, rfl, _, rfl, _, rfl, _, rfl, t, c, ⟨h, dn, db, dl, dN, dB, pO⟩, n, m + i, S, rfl, Z.I, by omega, by rw [eks]; exact l0, fun S' H28 D => ⟨true, rfl, iteF ?_⟩⟩
      exact ⟨_, S', rfl, Z.next D.I D.fr, D.ks.trans eks⟩
    obtain ⟨o14, S, rfl, Z27, eks⟩ := pv
    have r8 : r.toNat ≤ 8 := by omega
    refine ⟨_, rfl, _, rfl, _, rfl, t, c, co, rfl, Z27.I.tape, by omega, by omega, fun z H28 z0 z1 k28 T28 => ?_⟩
    have Z28 := Z27.next (Z27.I.kp k28 T28) (.kp k28)
    have hz : z.toNat < ms.length := by omega
    have az : atI (ms.map V.int) z = some (.int ms[z.toNat]) := by
      rw [← at_ints hz, Int.toNat_of_nonneg z0]
    have mhs := List.getElem_mem hz
    generalize ms[z.toNat] = hs at az mhs
    refine ⟨pl, _, z, _, rfl, rfl, SqL.of Z28.hp, az, ?_⟩
    refine ⟨_, rfl, _, rfl, _, rfl, t, c, co, rfl, T28, by omega, by omega, fun y H29 y0' y1 k29 T29 => ?_⟩
    have Z29 := Z28.next (Z28.I.kp k29 T29) (.kp k29)
    have hy : y.toNat < ms.length := by omega
    have ay : atI (ms.map V.int) y = some (.int ms[y.toNat]) := by
      rw [← at_ints hy, Int.toNat_of_nonneg y0']
    have mtg := List.getElem_mem hy
    generalize ms[y.toNat] = tg at ay mtg
    have I29 := Z29.I
    obtain ⟨dnb, dnN, dnB, dbN, dbB, _⟩ := id I29.ndd
    have lS := I29.len
    have lks := I29.lks
    refine ⟨pl, _, y, _, rfl, rfl, SqL.of Z29.hp, ay, ?_⟩
    refine ⟨_, rfl, _, rfl, dN, _, rfl, DPut.k (k := Sum.inl hs) I29.hN (small1000' (by omega)), ?_⟩
    have mhs' : hs ∈ S.ks := by rw [eks]; exact mhs
    have mtg' : tg ∈ S.ks := by rw [eks]; exact mtg
    have N30 := I29.net.putd (o := .dK (putK S.nx (.inl hs) (.int tg))) I29.hN dnN dbN
    obtain ⟨I31, f31⟩ := I29.hold_ (y := hs) (z := tg) mhs' mtg'
    obtain ⟨dx30, hh30⟩ := N30.me
    obtain ⟨x1, _, hx1⟩ := I29.gn.2 _ mhs'
    obtain ⟨x2, _, hx2⟩ := I29.gn.2 _ mtg'
    have v30 : valV (putK S.nx (.inl hs) (.int tg)) (.inl hs) = some (.int tg) := by rw [valV_put, if_pos rfl]
    refine ⟨_, rfl, h, dx30, _, rfl, hh30, (by unfold nf; walk_at "lk"), _, rfl, _, rfl, _, rfl, dN, _, rfl, dget_of (k := Sum.inl hs) upd_same v30, h, dn, db, dl, n, hs, tg, .int x1, S.nx, S.bf, S.ls, rfl, N30, hx1, by rw [hx2]; rfl, by omega, ?_⟩
    rw [upd_swap dnN.symm]
    have Z31 := Z29.next I31 f31.t
    clear I31 f31 N30 hh30
    generalize upd (upd H29 dn (.dK (putK S.nx (.inl hs) (.int tg)))) dN (.dK (putK S.nx (.inl hs) (.int tg))) = H31 at Z31
    have W31 : WN ms (putK S.nx (.inl hs) (.int tg)) := by
      have g : GN S.ks (putK S.nx (.inl hs) (.int tg)) := Z31.I.gn
      rw [eks] at g
      exact ⟨g, by omega⟩
    refine ⟨_, rfl, _, rfl, _, rfl, _, rfl, h, dn, db, dl, dN, ql, n, _, _, _, qs, ms, rfl, Z31.I.net, Z31.I.hN, W31, n0', n2, Z31.hq, Z31.qq, fun H32 s32 => ⟨true, rfl, iteF ?_⟩⟩
    have Z32 := Z31.next (Z31.I.same s32) (.of s32)
    refine ⟨_, rfl, _, rfl, _, rfl, _, rfl, h2, dn2, db2, dl2, dT, ql, n, nx, bf3, [], qs, ms, rfl, Z32.net, Z32.hT, W0, n0', n2, Z32.hq, Z32.qq, fun H33 s33 => ⟨true, rfl, iteF ?_⟩⟩
    have Z33 := Z32.next (Z32.I.same s33) (.of s33)
    refine ⟨fun σ' H' => ∃ (o10 : Option V) (S : WK), σ' = [some (.ref a), some (.ref t), some (.int co), some (.int n), some (.ref pl), some (.ref dN), some (.ref dB), some (.ref pO), some (.ref h), some (.int st), o10, some (.ref h2), some (.ref dT), some (.ref el), o14, some (.int hs)] ∧ LZ T.C_Net t c ⟨h, dn, db, dl, dN, dB, pO⟩ n (m + r.toNat + 2) S h2 dn2 db2 dl2 dT el ql pl nx bf3 bs zs ms qs H', ?_, ?_⟩
    · refine v_if1 (ans_t (val_chain (i := 0) (j := st) (k := n) (fun _ q => q) (fun _ q => ⟨_, rfl, q⟩) (fun _ q => ⟨_, rfl, q⟩))) (fun e => ?_) (fun _ => ⟨_, _, rfl, Z33.next (Z33.I.more (by omega)) (.of fun _ _ e => e)⟩)
      simp only [Bool.and_eq_true, decide_eq_true_eq] at e
      obtain ⟨st1, st2⟩ := e
      have I33 : NK T.C_Net t c ⟨h, dn, db, dl, dN, dB, pO⟩ n (m + r.toNat + 1) ⟨S.ks, putK S.nx (.inl hs) (.int tg), S.bs, S.bf, S.ps, S.ls, S.Ls⟩ H33 := Z33.I
      have stn' : st ∉ S.ks := by rw [eks]; exact stn
      have hno : valV (putK S.nx (.inl hs) (.int tg)) (.inl st) = none := valV_none_keys I33.gn.1 stn'
      have lnx3 : (putK S.nx (.inl hs) (.int tg)).length = S.ks.length := I33.len
      have lbf3' : S.bf.length ≤ 100 + (m + r.toNat + 1) := I33.lbf
      have l39 : S.ks.length ≤ 39 := by rw [eks]; omega
      obtain ⟨x3, mx3, hx3⟩ := I33.gn.2 _ mhs'
      obtain ⟨dx33, hh33⟩ := I33.net.me
      obtain ⟨I34, f34⟩ := I33.adm_ (p := st) (x := hs) st1 st2 stn' (List.mem_append_left _ mhs') (by show S.ks.length < 40; omega)
      refine ⟨_, rfl, h, dx33, _, rfl, hh33, (by unfold nf; walk_at "lk"), _, rfl, _, rfl, h, dn, db, dl, n, st, hs, _, _, _, rfl, I33.net, st1, st2, hno, fun _ => by rw [hx3]; rfl, I33.ndd.1.symm, (show (putK S.nx (.inl hs) (.int tg)).length ≤ 1000 by omega), (show S.bf.length ≤ 1000 by omega), ?_⟩
      have hN34 : upd (upd H33 dn (.dK (putK (putK S.nx (.inl hs) (.int tg)) (.inl st) (.int hs)))) db (.dK (putK S.bf (.inl st) .non)) dN = some (.dK (putK S.nx (.inl hs) (.int tg))) := (upd_ne dbN.symm).trans ((upd_ne dnN.symm).trans I33.hN)
      refine ⟨_, rfl, _, rfl, _, rfl, dN, _, rfl, DPut.k (k := Sum.inl st) hN34 (small1000' (by omega)), ?_⟩
      have Z34 := Z33.next I34 f34.t
      clear hN34 f34 I34
      generalize upd (upd (upd H33 dn (.dK (putK (putK S.nx (.inl hs) (.int tg)) (.inl st) (.int hs)))) db (.dK (putK S.bf (.inl st) .non))) dN (.dK (putK (putK S.nx (.inl hs) (.int tg)) (.inl st) (.int hs))) = H34 at Z34
      have hs0 := mrg hs mhs
      refine ⟨_, rfl, _, rfl, lenL (by show 2 ≤ 100000; decide), fun p1 np1 => ?_⟩
      have s35 := same_upd (o := .tup [.int st, .int st]) np1
      have ep1 : upd H34 p1 (.tup [.int st, .int st]) p1 = some (.tup [.int st, .int st]) := upd_same
      generalize upd H34 p1 (.tup [.int st, .int st]) = H35 at s35 ep1
      refine ⟨_, rfl, _, rfl, lenL (by show 2 ≤ 100000; decide), fun p2 np2 => ?_⟩
      have s36 := same_upd (o := .tup [.int st, .int hs]) np2
      have ep2 : upd H35 p2 (.tup [.int st, .int hs]) p2 = some (.tup [.int st, .int hs]) := upd_same
      generalize upd H35 p2 (.tup [.int st, .int hs]) = H36 at s36 ep2
      refine ⟨_, rfl, _, rfl, lenL (by show 2 ≤ 100000; decide), fun p3 np3 => ?_⟩
      have s37 := same_upd (o := .tup [.int hs, .int st]) np3
      have ep3 : upd H36 p3 (.tup [.int hs, .int st]) p3 = some (.tup [.int hs, .int st]) := upd_same
      generalize upd H36 p3 (.tup [.int hs, .int st]) = H37 at s37 ep3
      refine ⟨lenL (by show 3 ≤ 100000; decide), fun p4 np4 => ?_⟩
      have s38 := same_upd (o := .lst [.ref p1, .ref p2, .ref p3]) np4
      have ep4 : upd H37 p4 (.lst [.ref p1, .ref p2, .ref p3]) p4 = some (.lst [.ref p1, .ref p2, .ref p3]) := upd_same
      generalize upd H37 p4 (.lst [.ref p1, .ref p2, .ref p3]) = H38 at s38 ep4
      have s3438 := Same.trans s35 (Same.trans s36 (Same.trans s37 s38))
      refine ⟨_, rfl, p4, ql, _, _, rfl, rfl, ep4, s3438 _ _ Z34.hq, lenL (by rw [List.length_cons, List.length_cons, List.length_cons, List.length_nil]; omega), fun p5 np5 => ?_⟩
      have s39 := same_upd (o := .lst ([.ref p1, .ref p2, .ref p3] ++ qs)) np5
      have ep5 : upd H38 p5 (.lst ([.ref p1, .ref p2, .ref p3] ++ qs)) p5 = some (.lst ([.ref p1, .ref p2, .ref p3] ++ qs)) := upd_same
      generalize upd H38 p5 (.lst ([.ref p1, .ref p2, .ref p3] ++ qs)) = H39 at s39 ep5
      have s3439 := Same.trans s3438 s39
      have Z39 := Z34.next (Z34.I.same s3439) (.of s3439)
      have W39 : WN (S.ks ++ [st]) (putK (putK S.nx (.inl hs) (.int tg)) (.inl st) (.int hs)) := ⟨Z39.I.gn, by rw [List.length_append]; show S.ks.length + 1 ≤ 1000; omega⟩
      have qq39 : ∀ v ∈ [V.ref p1, .ref p2, .ref p3] ++ qs, Ques H39 n (S.ks ++ [st]) v := fun v hv => by
        rcases List.mem_append.mp hv with hv | hv
        · simp only [List.mem_cons, List.not_mem_nil, or_false] at hv
          rcases hv with rfl | rfl | rfl
          · exact ⟨p1, st, st, rfl, s39 _ _ (s38 _ _ (s37 _ _ (s36 _ _ ep1))), List.mem_append_right _ (List.mem_singleton.mpr rfl), st1, st2⟩
          · exact ⟨p2, st, hs, rfl, s39 _ _ (s38 _ _ (s37 _ _ ep2)), List.mem_append_right _ (List.mem_singleton.mpr rfl), hs0.1, hs0.2⟩
          · exact ⟨p3, hs, st, rfl, s39 _ _ (s38 _ _ ep3), List.mem_append_left _ mhs', st1, st2⟩
        · exact (Z39.qq v hv).mono (fun _ _ e => e) (fun k hk => List.mem_append_left _ (by rw [eks]; exact hk))
      refine ⟨_, rfl, _, rfl, _, rfl, _, rfl, h, dn, db, dl, dN, p5, n, _, _, _, _, S.ks ++ [st], rfl, Z39.I.net, Z39.I.hN, W39, n0', n2, ep5, qq39, fun H40 s40 => ⟨true, rfl, iteF ?_⟩⟩
      exact ⟨_, _, rfl, Z39.next (Z39.I.same s40) (.of s40)⟩
    rintro _ H41 ⟨o10, S2, rfl, Z41⟩
    -- the twin stands as it was
    obtain ⟨dx41, hh41⟩ := Z41.net.me
    refine ⟨_, rfl, h2, dx41, _, rfl, hh41, (by unfold nf; walk_at "lk"), ?_⟩
    refine g_nil ?_
    refine ⟨h2, dn2, db2, dl2, n, nx, bf3, [], ms, gV nx, bef bs, rfl, Z41.net, gn.1, by omega, fun k hk => ?_, fun ys p H42 perm pw s42 sh42 => ?_⟩
    · obtain ⟨x, _, e⟩ := gn.2 k hk
      exact ⟨by rw [gV_of e, e], vf2 k hk⟩
    have ezs : zs = ys := perm_sorted_eq (permz.trans perm.symm) pwz pw
    subst ezs
    have Z42 := Z41.next (Z41.I.same s42) (.of s42)
    have zl := permz.length_eq
    refine ⟨_, rfl, .ref p, .ref el, rfl, Shot.sm sh42 Z42.sh .nil .nil (fun y hy => ?_) (by decide) (by omega), fun H43 s43 => ⟨true, rfl, iteF ?_⟩⟩
    · obtain ⟨x, _, e⟩ := gn.2 y (permz.mem_iff.mp hy)
      exact ⟨by rw [gV_of e]; rfl, okB.atom (gb.gc.ok y)⟩
    have I43 := Z42.I.same s43
    obtain ⟨dx43, hh43⟩ := I43.net.me
    refine ⟨_, rfl, h, dx43, _, rfl, hh43, (by unfold nf; walk_at "lk"), ?_⟩
    refine g_nil ?_
    refine NK.snap1 (E := E0) I43 fun ys p H44 perm pw s44 sh => ?_
    refine ⟨_, rfl, _, rfl, _, rfl, _, rfl, ?_⟩
    refine g_nil ?_
    refine NK.snap2 (K := K) (E := E0) (I43.same s44) (by omega) perm pw sh fun p2 H45 s45 sm => ?_
    exact ⟨_, _, rfl, sm, fun H46 _ => q H46⟩
end
set_option maxHeartbeats 0 in
theorem heFacts {P : Program} {w : World} {K : PySem.W.Frag} {h : Heap} {mg : Str → Option Value} {f : Addr} (X : K.In h) (G : h.Ns mainGlobals mg) (hfa : mg ("law" : Str) = some (.ref f)) (c : HeSays heFa heFn heEx K) :
    ∃ fd : FuncData, (∀ (s : Shared) (v : Value), BindsTo s fd ⟨[v], []⟩ [("script", v)]) ∧ ∀ base : Heap, K.In base → base.Ns mainGlobals mg → FnOk P w K mg base CX0 12 f fd ["script"] (sp_law K) := by
  obtain ⟨fd0, FD0⟩ := c.d.def_ 0 (d := hd__law_nexts) rfl
  have F0 : Fun K "_law_nexts" "_law_nexts" s__law_nexts (He.fAd K ("_law_nexts", none)) fd0 := fun_of (st := s__law_nexts) FD0
  obtain ⟨fd1, FD1⟩ := c.d.def_ 1 (d := hd_Net__next_of) rfl
  have F1 : Fun K "next_of" "Net.next_of" s_Net__next_of (He.fAd K ("Net", some "next_of")) fd1 := fun_of (st := s_Net__next_of) FD1
  obtain ⟨fd2, FD2⟩ := c.d.def_ 2 (d := hd_Net__hold) rfl
  have F2 : Fun K "hold" "Net.hold" s_Net__hold (He.fAd K ("Net", some "hold")) fd2 := fun_of (st := s_Net__hold) FD2
  obtain ⟨fd3, FD3⟩ := c.d.def_ 3 (d := hd_Net__set_before) rfl
  have F3 : Fun K "set_before" "Net.set_before" s_Net__set_before (He.fAd K ("Net", some "set_before")) fd3 := fun_of (st := s_Net__set_before) FD3
  obtain ⟨fd4, FD4⟩ := c.d.def_ 4 (d := hd_Net__snapshot) rfl
  have F4 : Fun K "snapshot" "Net.snapshot" s_Net__snapshot (He.fAd K ("Net", some "snapshot")) fd4 := fun_of (st := s_Net__snapshot) FD4
  obtain ⟨fd5, FD5⟩ := c.d.def_ 5 (d := hd_Net__admit) rfl
  have F5 : Fun K "admit" "Net.admit" s_Net__admit (He.fAd K ("Net", some "admit")) fd5 := fun_of (st := s_Net__admit) FD5
  obtain ⟨fd6, FD6⟩ := c.d.def_ 6 (d := hd_Net__check_free) rfl
  have F6 : Fun K "check_free" "Net.check_free" s_Net__check_free (He.fAd K ("Net", some "check_free")) fd6 := fun_of (st := s_Net__check_free) FD6
  obtain ⟨fd7, FD7⟩ := c.d.def_ 7 (d := hd_Net__clone) rfl
  have F7 : Fun K "clone" "Net.clone" s_Net__clone (He.fAd K ("Net", some "clone")) fd7 := fun_of (st := s_Net__clone) FD7
  obtain ⟨fd8, FD8⟩ := c.d.def_ 8 (d := hd_Net__tell) rfl
  have F8 : Fun K "tell" "Net.tell" s_Net__tell (He.fAd K ("Net", some "tell")) fd8 := fun_of (st := s_Net__tell) FD8
  obtain ⟨fd9, FD9⟩ := c.d.def_ 9 (d := hd_Net__ask) rfl
  have F9 : Fun K "ask" "Net.ask" s_Net__ask (He.fAd K ("Net", some "ask")) fd9 := fun_of (st := s_Net__ask) FD9
  obtain ⟨fd10, FD10⟩ := c.d.def_ 10 (d := hd_Net__repeat) rfl
  have F10 : Fun K "repeat" "Net.repeat" s_Net__repeat (He.fAd K ("Net", some "repeat")) fd10 := fun_of (st := s_Net__repeat) FD10
  obtain ⟨fd11, FD11⟩ := c.d.def_ 11 (d := hd_Net__lose) rfl
  have F11 : Fun K "lose" "Net.lose" s_Net__lose (He.fAd K ("Net", some "lose")) fd11 := fun_of (st := s_Net__lose) FD11
  obtain ⟨fd12, FD12⟩ := c.d.def_ 12 (d := hd_Net__read) rfl
  have F12 : Fun K "read" "Net.read" s_Net__read (He.fAd K ("Net", some "read")) fd12 := fun_of (st := s_Net__read) FD12
  obtain ⟨fd13, FD13⟩ := c.d.def_ 13 (d := hd__lengths_from) rfl
  have F13 : Fun K "_lengths_from" "_lengths_from" s__lengths_from (He.fAd K ("_lengths_from", none)) fd13 := fun_of (st := s__lengths_from) FD13
  obtain ⟨fd14, FD14⟩ := c.d.def_ 14 (d := hd_house_at) rfl
  have F14 : Fun K "house_at" "house_at" s_house_at (He.fAd K ("house_at", none)) fd14 := fun_of (st := s_house_at) FD14
  obtain ⟨fd15, FD15⟩ := c.d.def_ 15 (d := hd_answer) rfl
  have F15 : Fun K "answer" "answer" s_answer (He.fAd K ("answer", none)) fd15 := fun_of (st := s_answer) FD15
  obtain ⟨fd16, FD16⟩ := c.d.def_ 16 (d := hd_ring_answers) rfl
  have F16 : Fun K "ring_answers" "ring_answers" s_ring_answers (He.fAd K ("ring_answers", none)) fd16 := fun_of (st := s_ring_answers) FD16
  obtain ⟨fd17, FD17⟩ := c.d.def_ 17 (d := hd_told_answer) rfl
  have F17 : Fun K "told_answer" "told_answer" s_told_answer (He.fAd K ("told_answer", none)) fd17 := fun_of (st := s_told_answer) FD17
  obtain ⟨fd18, FD18⟩ := c.d.def_ 18 (d := hd__check_key) rfl
  have F18 : Fun K "_check_key" "_check_key" s__check_key (He.fAd K ("_check_key", none)) fd18 := fun_of (st := s__check_key) FD18
  obtain ⟨fd19, FD19⟩ := c.d.def_ 19 (d := hd__law_stranger) rfl
  have F19 : Fun K "_law_stranger" "_law_stranger" s__law_stranger (He.fAd K ("_law_stranger", none)) fd19 := fun_of (st := s__law_stranger) FD19
  obtain ⟨fd20, FD20⟩ := c.d.def_ 20 (d := hd__law_far) rfl
  have F20 : Fun K "_law_far" "_law_far" s__law_far (He.fAd K ("_law_far", none)) fd20 := fun_of (st := s__law_far) FD20
  obtain ⟨fd21, FD21⟩ := c.d.def_ 21 (d := hd__law_between) rfl
  have F21 : Fun K "_law_between" "_law_between" s__law_between (He.fAd K ("_law_between", none)) fd21 := fun_of (st := s__law_between) FD21
  obtain ⟨fd22, FD22⟩ := c.d.def_ 22 (d := hd__law_read) rfl
  have F22 : Fun K "_law_read" "_law_read" s__law_read (He.fAd K ("_law_read", none)) fd22 := fun_of (st := s__law_read) FD22
  obtain ⟨fd23, FD23⟩ := c.d.def_ 23 (d := hd__law_deed) rfl
  have F23 : Fun K "_law_deed" "_law_deed" s__law_deed (He.fAd K ("_law_deed", none)) fd23 := fun_of (st := s__law_deed) FD23
  obtain ⟨fd24, FD24⟩ := c.d.def_ 24 (d := hd__law_snapshot) rfl
  have F24 : Fun K "_law_snapshot" "_law_snapshot" s__law_snapshot (He.fAd K ("_law_snapshot", none)) fd24 := fun_of (st := s__law_snapshot) FD24
  obtain ⟨fd25, FD25⟩ := c.d.def_ 25 (d := hd__law_answer) rfl
  have F25 : Fun K "_law_answer" "_law_answer" s__law_answer (He.fAd K ("_law_answer", none)) fd25 := fun_of (st := s__law_answer) FD25
  obtain ⟨fd26, FD26⟩ := c.d.def_ 26 (d := hd__law_questions) rfl
  have F26 : Fun K "_law_questions" "_law_questions" s__law_questions (He.fAd K ("_law_questions", none)) fd26 := fun_of (st := s__law_questions) FD26
  obtain ⟨fd27, FD27⟩ := c.d.def_ 27 (d := hd__law_asked) rfl
  have F27 : Fun K "_law_asked" "_law_asked" s__law_asked (He.fAd K ("_law_asked", none)) fd27 := fun_of (st := s__law_asked) FD27
  obtain ⟨fd28, FD28⟩ := c.d.def_ 28 (d := hd__law_look_up) rfl
  have F28 : Fun K "_law_look_up" "_law_look_up" s__law_look_up (He.fAd K ("_law_look_up", none)) fd28 := fun_of (st := s__law_look_up) FD28
  obtain ⟨fd29, FD29⟩ := c.d.def_ 29 (d := hd__law_no_house) rfl
  have F29 : Fun K "_law_no_house" "_law_no_house" s__law_no_house (He.fAd K ("_law_no_house", none)) fd29 := fun_of (st := s__law_no_house) FD29
  obtain ⟨fd30, FD30⟩ := c.d.def_ 30 (d := hd__law_off_circle) rfl
  have F30 : Fun K "_law_off_circle" "_law_off_circle" s__law_off_circle (He.fAd K ("_law_off_circle", none)) fd30 := fun_of (st := s__law_off_circle) FD30
  obtain ⟨fd31, FD31⟩ := c.d.def_ 31 (d := hd__law_refused) rfl
  have F31 : Fun K "_law_refused" "_law_refused" s__law_refused (He.fAd K ("_law_refused", none)) fd31 := fun_of (st := s__law_refused) FD31
  obtain ⟨fd32, FD32⟩ := c.d.def_ 32 (d := hd__law_behinds) rfl
  have F32 : Fun K "_law_behinds" "_law_behinds" s__law_behinds (He.fAd K ("_law_behinds", none)) fd32 := fun_of (st := s__law_behinds) FD32
  obtain ⟨fd33, FD33⟩ := c.d.def_ 33 (d := hd_law) rfl
  have F33 : Fun K "law" "law" s_law (He.fAd K ("law", none)) fd33 := fun_of (st := s_law) FD33
  obtain ⟨fd34, FD34⟩ := c.d.def_ 34 (d := hd_check_on_circle) rfl
  have F34 : Fun K "check_on_circle" "check_on_circle" s_check_on_circle (He.fAd K ("check_on_circle", none)) fd34 := fun_of (st := s_check_on_circle) FD34
  obtain ⟨fd35, FD35⟩ := c.d.def_ 35 (d := hd__law_tape) rfl
  have F35 : Fun K "_law_tape" "_law_tape" s__law_tape (He.fAd K ("_law_tape", none)) fd35 := fun_of (st := s__law_tape) FD35
  obtain ⟨fd36, FD36⟩ := c.d.def_ 36 (d := hd__law_pick) rfl
  have F36 : Fun K "_law_pick" "_law_pick" s__law_pick (He.fAd K ("_law_pick", none)) fd36 := fun_of (st := s__law_pick) FD36
  obtain ⟨fd37, FD37⟩ := c.d.def_ 37 (d := hd__law_size) rfl
  have F37 : Fun K "_law_size" "_law_size" s__law_size (He.fAd K ("_law_size", none)) fd37 := fun_of (st := s__law_size) FD37
  obtain ⟨fd38, FD38⟩ := c.d.def_ 38 (d := hd__law_same) rfl
  have F38 : Fun K "_law_same" "_law_same" s__law_same (He.fAd K ("_law_same", none)) fd38 := fun_of (st := s__law_same) FD38
  obtain ⟨fd39, FD39⟩ := c.d.def_ 39 (d := hd_far) rfl
  have F39 : Fun K "far" "far" s_far (He.fAd K ("far", none)) fd39 := fun_of (st := s_far) FD39
  obtain ⟨fd40, FD40⟩ := c.d.def_ 40 (d := hd_between) rfl
  have F40 : Fun K "between" "between" s_between (He.fAd K ("between", none)) fd40 := fun_of (st := s_between) FD40
  obtain ⟨fd41, FD41⟩ := c.d.def_ 41 (d := hd_House__init) rfl
  have FD41 : FunD K "__init__" "House.__init__" (defArgs s_House__init) (defBody s_House__init) (defScope s_House__init) [.non] [] (He.fAd K ("House", some "__init__")) fd41 := FD41
  obtain ⟨da41, dva41, db41⟩ := FD41.binds1 (ps := ["self", "size", "place", "next_house", "before"]) 5 1 (by decide) rfl (fun _ _ _ _ _ _ _ us its l1 l2 => match us, its, l1, l2 with | [_, _, _, _, _], [_], _, _ => ⟨_, rfl, rfl⟩)
  cases dva41
  obtain ⟨de41, dve41, dbe41⟩ := FD41.binds1 (ps := ["self", "size", "place", "next_house", "before"]) 4 0 (by decide) rfl (fun _ _ _ _ _ _ _ us its l1 l2 => match us, its, l1, l2 with | [_, _, _, _], [_], _, _ => ⟨_, rfl, rfl⟩)
  obtain ⟨dk41, dbk41⟩ := FD41.kbindsD (ps := ["self", "size", "place", "next_house", "before"]) 4 ["before"] (fun us _ ws => us ++ ws) (by decide) (fun r1 _ r3 => r1.append r3) (fun _ _ _ _ _ _ _ us its ws l1 l2 l3 => match us, its, ws, l1, l2, l3 with | [_, _, _, _], [_], [_], _, _, _ => ⟨_, rfl, rfl⟩)
  obtain ⟨fd42, FD42⟩ := c.d.def_ 42 (d := hd_House__tell_letter) rfl
  have F42 : Fun K "tell_letter" "House.tell_letter" s_House__tell_letter (He.fAd K ("House", some "tell_letter")) fd42 := fun_of (st := s_House__tell_letter) FD42
  obtain ⟨fd43, FD43⟩ := c.d.def_ 43 (d := hd_House__ask_letter) rfl
  have F43 : Fun K "ask_letter" "House.ask_letter" s_House__ask_letter (He.fAd K ("House", some "ask_letter")) fd43 := fun_of (st := s_House__ask_letter) FD43
  obtain ⟨fd44, FD44⟩ := c.d.def_ 44 (d := hd_House__answer_to) rfl
  have F44 : Fun K "_answer_to" "House._answer_to" s_House__answer_to (He.fAd K ("House", some "_answer_to")) fd44 := fun_of (st := s_House__answer_to) FD44
  obtain ⟨fd45, FD45⟩ := c.d.def_ 45 (d := hd_House__hear_tell) rfl
  have F45 : Fun K "_hear_tell" "House._hear_tell" s_House__hear_tell (He.fAd K ("House", some "_hear_tell")) fd45 := fun_of (st := s_House__hear_tell) FD45
  obtain ⟨fd46, FD46⟩ := c.d.def_ 46 (d := hd_House__hear_answer) rfl
  have F46 : Fun K "_hear_answer" "House._hear_answer" s_House__hear_answer (He.fAd K ("House", some "_hear_answer")) fd46 := fun_of (st := s_House__hear_answer) FD46
  obtain ⟨fd47, FD47⟩ := c.d.def_ 47 (d := hd_House__hear) rfl
  have F47 : Fun K "hear" "House.hear" s_House__hear (He.fAd K ("House", some "hear")) fd47 := fun_of (st := s_House__hear) FD47
  obtain ⟨fd48, FD48⟩ := c.d.def_ 48 (d := hd_Net__houses) rfl
  have F48 : Fun K "houses" "Net.houses" s_Net__houses (He.fAd K ("Net", some "houses")) fd48 := fun_of (st := s_Net__houses) FD48
  obtain ⟨fd49, FD49⟩ := c.d.def_ 49 (d := hd_Net__check_house) rfl
  have F49 : Fun K "check_house" "Net.check_house" s_Net__check_house (He.fAd K ("Net", some "check_house")) fd49 := fun_of (st := s_Net__check_house) FD49
  obtain ⟨fd50, FD50⟩ := c.d.def_ 50 (d := hd_Net__check_letter) rfl
  have F50 : Fun K "_check_letter" "Net._check_letter" s_Net__check_letter (He.fAd K ("Net", some "_check_letter")) fd50 := fun_of (st := s_Net__check_letter) FD50
  obtain ⟨fd51, FD51⟩ := c.d.def_ 51 (d := hd_Net__house_at) rfl
  have F51 : Fun K "_house_at" "Net._house_at" s_Net__house_at (He.fAd K ("Net", some "_house_at")) fd51 := fun_of (st := s_Net__house_at) FD51
  obtain ⟨fd52, FD52⟩ := c.d.def_ 52 (d := hd_Net__send) rfl
  have F52 : Fun K "_send" "Net._send" s_Net__send (He.fAd K ("Net", some "_send")) fd52 := fun_of (st := s_Net__send) FD52
  obtain ⟨fd53, FD53⟩ := c.d.def_ 53 (d := hd_Net__letters) rfl
  have F53 : Fun K "letters" "Net.letters" s_Net__letters (He.fAd K ("Net", some "letters")) fd53 := fun_of (st := s_Net__letters) FD53
  obtain ⟨fd54, FD54⟩ := c.d.def_ 54 (d := hd_Net__nexts) rfl
  have F54 : Fun K "nexts" "Net.nexts" s_Net__nexts (He.fAd K ("Net", some "nexts")) fd54 := fun_of (st := s_Net__nexts) FD54
  obtain ⟨fd55, FD55⟩ := c.d.def_ 55 (d := hd_Net__befores) rfl
  have F55 : Fun K "befores" "Net.befores" s_Net__befores (He.fAd K ("Net", some "befores")) fd55 := fun_of (st := s_Net__befores) FD55
  obtain ⟨fd56, FD56⟩ := c.d.def_ 56 (d := hd_Net__check_letters) rfl
  have F56 : Fun K "_check_letters" "Net._check_letters" s_Net__check_letters (He.fAd K ("Net", some "_check_letters")) fd56 := fun_of (st := s_Net__check_letters) FD56
  obtain ⟨fd57, FD57⟩ := c.d.def_ 57 (d := hd_Net__check_places) rfl
  have F57 : Fun K "_check_places" "Net._check_places" s_Net__check_places (He.fAd K ("Net", some "_check_places")) fd57 := fun_of (st := s_Net__check_places) FD57
  obtain ⟨fd58, FD58⟩ := c.d.def_ 58 (d := hd_Net__take_befores) rfl
  have F58 : Fun K "_take_befores" "Net._take_befores" s_Net__take_befores (He.fAd K ("Net", some "_take_befores")) fd58 := fun_of (st := s_Net__take_befores) FD58
  obtain ⟨fd59, FD59⟩ := c.d.def_ 59 (d := hd_Net__init) rfl
  have FD59 : FunD K "__init__" "Net.__init__" (defArgs s_Net__init) (defBody s_Net__init) (defScope s_Net__init) [] [("befores", .non), ("letters", .non)] (He.fAd K ("Net", some "__init__")) fd59 := FD59
  obtain ⟨dk59, dbk59⟩ := FD59.kbinds0 (ps := ["self", "size", "nexts", "befores", "letters"]) 3 ["befores", "letters"] [] (fun us _ ws => us ++ ws) (by decide) (fun _ h => nomatch h) (fun r1 _ r3 => r1.append r3) (fun _ _ _ _ _ _ us mv ws l1 l2 l3 => match us, mv, ws, l1, l2, l3 with | [_, _, _], [], [_, _], _, _, _ => rfl)
  obtain ⟨de59, dve59, dbe59⟩ := FD59.binds0 (ps := ["self", "size", "nexts", "befores", "letters"]) 3 (by decide) rfl (fun _ _ _ _ _ _ us its l1 l2 => match us, its, l1, l2 with | [_, _, _], [_, _], _, _ => ⟨_, _, _, _, _, _, rfl, rfl, _, _, _, _, _, _, rfl, rfl, rfl⟩)
  obtain ⟨fd60, FD60⟩ := c.d.def_ 60 (d := hd_NoHouse__init) rfl
  have F60 : Fun K "__init__" "NoHouse.__init__" s_NoHouse__init (He.fAd K ("NoHouse", some "__init__")) fd60 := fun_of (st := s_NoHouse__init) FD60
  obtain ⟨fd61, FD61⟩ := c.d.def_ 61 (d := hd_OffCircle__init) rfl
  have F61 : Fun K "__init__" "OffCircle.__init__" s_OffCircle__init (He.fAd K ("OffCircle", some "__init__")) fd61 := fun_of (st := s_OffCircle__init) FD61
  obtain ⟨fd62, FD62⟩ := c.d.def_ 62 (d := hd__pairs_said_by) rfl
  have F62 : Fun K "_pairs_said_by" "_pairs_said_by" s__pairs_said_by (He.fAd K ("_pairs_said_by", none)) fd62 := fun_of (st := s__pairs_said_by) FD62
  obtain ⟨fd63, FD63⟩ := c.d.def_ 63 (d := hd_sayings) rfl
  have F63 : Fun K "sayings" "sayings" s_sayings (He.fAd K ("sayings", none)) fd63 := fun_of (st := s_sayings) FD63
  obtain ⟨fd64, FD64⟩ := c.d.def_ 64 (d := hd__law_places) rfl
  have F64 : Fun K "_law_places" "_law_places" s__law_places (He.fAd K ("_law_places", none)) fd64 := fun_of (st := s__law_places) FD64
  obtain ⟨fd65, FD65⟩ := c.d.def_ 65 (d := hd_way_length) rfl
  have F65 : Fun K "way_length" "way_length" s_way_length (He.fAd K ("way_length", none)) fd65 := fun_of (st := s_way_length) FD65
  have e := hfa.symm.trans (He.glo_ok X G (c.d.fact 36 rfl))
  cases e
  have b := FunD.bindsA (ps := ["script"]) FD33 fun _ _ _ _ _ _ us hl => match us, hl with | [_], _ => rfl
  let T : T0 K mg := {
    m_ValueError := He.free_ok X G (c.d.fact 0 rfl),
    m_abs := He.free_ok X G (c.d.fact 1 rfl),
    m_bool := He.free_ok X G (c.d.fact 2 rfl),
    m_dict := He.free_ok X G (c.d.fact 3 rfl),
    m_int := He.free_ok X G (c.d.fact 4 rfl),
    m_isinstance := He.free_ok X G (c.d.fact 5 rfl),
    m_len := He.free_ok X G (c.d.fact 6 rfl),
    m_list := He.free_ok X G (c.d.fact 7 rfl),
    m_max := He.free_ok X G (c.d.fact 8 rfl),
    m_min := He.free_ok X G (c.d.fact 9 rfl),
    m_range := He.free_ok X G (c.d.fact 10 rfl),
    m_sorted := He.free_ok X G (c.d.fact 11 rfl),
    m_str := He.free_ok X G (c.d.fact 12 rfl),
    m_tuple := He.free_ok X G (c.d.fact 13 rfl),
    m_zip := He.free_ok X G (c.d.fact 14 rfl),
    a__law_nexts := He.fAd K ("_law_nexts", none),
    fd__law_nexts := fd0,
    g__law_nexts := He.glo_ok X G (c.d.fact 15 rfl),
    F__law_nexts := F0,
    b__law_nexts := F0.binds (ps := ["tape", "places"]) fun _ _ _ _ _ _ us hl => match us, hl with | [_, _], _ => rfl,
    a_Net__next_of := He.fAd K ("Net", some "next_of"),
    fd_Net__next_of := fd1,
    F_Net__next_of := F1,
    b_Net__next_of := F1.binds (ps := ["self", "house"]) fun _ _ _ _ _ _ us hl => match us, hl with | [_, _], _ => rfl,
    a_Net__hold := He.fAd K ("Net", some "hold"),
    fd_Net__hold := fd2,
    F_Net__hold := F2,
    b_Net__hold := F2.binds (ps := ["self", "house", "target"]) fun _ _ _ _ _ _ us hl => match us, hl with | [_, _, _], _ => rfl,
    a_Net__set_before := He.fAd K ("Net", some "set_before"),
    fd_Net__set_before := fd3,
    F_Net__set_before := F3,
    b_Net__set_before := F3.binds (ps := ["self", "house", "before"]) fun _ _ _ _ _ _ us hl => match us, hl with | [_, _, _], _ => rfl,
    a_Net__snapshot := He.fAd K ("Net", some "snapshot"),
    fd_Net__snapshot := fd4,
    F_Net__snapshot := F4,
    b_Net__snapshot := F4.binds (ps := ["self"]) fun _ _ _ _ _ _ us hl => match us, hl with | [_], _ => rfl,
    a_Net__admit := He.fAd K ("Net", some "admit"),
    fd_Net__admit := fd5,
    F_Net__admit := F5,
    b_Net__admit := F5.binds (ps := ["self", "place", "host"]) fun _ _ _ _ _ _ us hl => match us, hl with | [_, _, _], _ => rfl,
    a_Net__check_free := He.fAd K ("Net", some "check_free"),
    fd_Net__check_free := fd6,
    F_Net__check_free := F6,
    b_Net__check_free := F6.binds (ps := ["self", "place"]) fun _ _ _ _ _ _ us hl => match us, hl with | [_, _], _ => rfl,
    a_Net__clone := He.fAd K ("Net", some "clone"),
    fd_Net__clone := fd7,
    F_Net__clone := F7,
    b_Net__clone := F7.binds (ps := ["self"]) fun _ _ _ _ _ _ us hl => match us, hl with | [_], _ => rfl,
    a_Net__tell := He.fAd K ("Net", some "tell"),
    fd_Net__tell := fd8,
    F_Net__tell := F8,
    b_Net__tell := F8.binds (ps := ["self", "house"]) fun _ _ _ _ _ _ us hl => match us, hl with | [_, _], _ => rfl,
    a_Net__ask := He.fAd K ("Net", some "ask"),
    fd_Net__ask := fd9,
    F_Net__ask := F9,
    b_Net__ask := F9.binds (ps := ["self", "house"]) fun _ _ _ _ _ _ us hl => match us, hl with | [_, _], _ => rfl,
    a_Net__repeat := He.fAd K ("Net", some "repeat"),
    fd_Net__repeat := fd10,
    F_Net__repeat := F10,
    b_Net__repeat := F10.binds (ps := ["self", "at"]) fun _ _ _ _ _ _ us hl => match us, hl with | [_, _], _ => rfl,
    a_Net__lose := He.fAd K ("Net", some "lose"),
    fd_Net__lose := fd11,
    F_Net__lose := F11,
    b_Net__lose := F11.binds (ps := ["self", "at"]) fun _ _ _ _ _ _ us hl => match us, hl with | [_, _], _ => rfl,
    a_Net__read := He.fAd K ("Net", some "read"),
    fd_Net__read := fd12,
    F_Net__read := F12,
    b_Net__read := F12.binds (ps := ["self", "at"]) fun _ _ _ _ _ _ us hl => match us, hl with | [_, _], _ => rfl,
    a__lengths_from := He.fAd K ("_lengths_from", none),
    fd__lengths_from := fd13,
    g__lengths_from := He.glo_ok X G (c.d.fact 16 rfl),
    F__lengths_from := F13,
    b__lengths_from := F13.binds (ps := ["net", "start"]) fun _ _ _ _ _ _ us hl => match us, hl with | [_, _], _ => rfl,
    a_house_at := He.fAd K ("house_at", none),
    fd_house_at := fd14,
    g_house_at := He.glo_ok X G (c.d.fact 17 rfl),
    F_house_at := F14,
    b_house_at := F14.binds (ps := ["net", "start", "distance"]) fun _ _ _ _ _ _ us hl => match us, hl with | [_, _, _], _ => rfl,
    a_answer := He.fAd K ("answer", none),
    fd_answer := fd15,
    g_answer := He.glo_ok X G (c.d.fact 18 rfl),
    F_answer := F15,
    b_answer := F15.binds (ps := ["net", "house", "key"]) fun _ _ _ _ _ _ us hl => match us, hl with | [_, _, _], _ => rfl,
    a_ring_answers := He.fAd K ("ring_answers", none),
    fd_ring_answers := fd16,
    g_ring_answers := He.glo_ok X G (c.d.fact 19 rfl),
    F_ring_answers := F16,
    b_ring_answers := F16.binds (ps := ["net", "house", "key"]) fun _ _ _ _ _ _ us hl => match us, hl with | [_, _, _], _ => rfl,
    a_told_answer := He.fAd K ("told_answer", none),
    fd_told_answer := fd17,
    g_told_answer := He.glo_ok X G (c.d.fact 20 rfl),
    F_told_answer := F17,
    b_told_answer := F17.binds (ps := ["net", "house", "key"]) fun _ _ _ _ _ _ us hl => match us, hl with | [_, _, _], _ => rfl,
    a__check_key := He.fAd K ("_check_key", none),
    fd__check_key := fd18,
    g__check_key := He.glo_ok X G (c.d.fact 21 rfl),
    F__check_key := F18,
    b__check_key := F18.binds (ps := ["net", "house", "key"]) fun _ _ _ _ _ _ us hl => match us, hl with | [_, _, _], _ => rfl,
    a__law_stranger := He.fAd K ("_law_stranger", none),
    fd__law_stranger := fd19,
    g__law_stranger := He.glo_ok X G (c.d.fact 22 rfl),
    F__law_stranger := F19,
    b__law_stranger := F19.binds (ps := ["tape", "size", "nexts"]) fun _ _ _ _ _ _ us hl => match us, hl with | [_, _, _], _ => rfl,
    a__law_far := He.fAd K ("_law_far", none),
    fd__law_far := fd20,
    g__law_far := He.glo_ok X G (c.d.fact 23 rfl),
    F__law_far := F20,
    b__law_far := F20.binds (ps := ["size", "start", "end"]) fun _ _ _ _ _ _ us hl => match us, hl with | [_, _, _], _ => rfl,
    a__law_between := He.fAd K ("_law_between", none),
    fd__law_between := fd21,
    g__law_between := He.glo_ok X G (c.d.fact 24 rfl),
    F__law_between := F21,
    b__law_between := F21.binds (ps := ["size", "start", "place", "end"]) fun _ _ _ _ _ _ us hl => match us, hl with | [_, _, _, _], _ => rfl,
    a__law_read := He.fAd K ("_law_read", none),
    fd__law_read := fd22,
    g__law_read := He.glo_ok X G (c.d.fact 25 rfl),
    F__law_read := F22,
    b__law_read := F22.binds (ps := ["size", "nexts", "behinds", "post", "at"]) fun _ _ _ _ _ _ us hl => match us, hl with | [_, _, _, _, _], _ => rfl,
    a__law_deed := He.fAd K ("_law_deed", none),
    fd__law_deed := fd23,
    g__law_deed := He.glo_ok X G (c.d.fact 26 rfl),
    F__law_deed := F23,
    b__law_deed := F23.binds (ps := ["tape", "net", "size", "nexts", "behinds", "post"]) fun _ _ _ _ _ _ us hl => match us, hl with | [_, _, _, _, _, _], _ => rfl,
    a__law_snapshot := He.fAd K ("_law_snapshot", none),
    fd__law_snapshot := fd24,
    g__law_snapshot := He.glo_ok X G (c.d.fact 27 rfl),
    F__law_snapshot := F24,
    b__law_snapshot := F24.binds (ps := ["size", "nexts", "behinds", "post"]) fun _ _ _ _ _ _ us hl => match us, hl with | [_, _, _, _], _ => rfl,
    a__law_answer := He.fAd K ("_law_answer", none),
    fd__law_answer := fd25,
    g__law_answer := He.glo_ok X G (c.d.fact 28 rfl),
    F__law_answer := F25,
    b__law_answer := F25.binds (ps := ["size", "nexts", "house", "key"]) fun _ _ _ _ _ _ us hl => match us, hl with | [_, _, _, _], _ => rfl,
    a__law_questions := He.fAd K ("_law_questions", none),
    fd__law_questions := fd26,
    g__law_questions := He.glo_ok X G (c.d.fact 29 rfl),
    F__law_questions := F26,
    b__law_questions := F26.binds (ps := ["tape", "size", "places"]) fun _ _ _ _ _ _ us hl => match us, hl with | [_, _, _], _ => rfl,
    a__law_asked := He.fAd K ("_law_asked", none),
    fd__law_asked := fd27,
    g__law_asked := He.glo_ok X G (c.d.fact 30 rfl),
    F__law_asked := F27,
    b__law_asked := F27.binds (ps := ["net", "size", "nexts", "questions"]) fun _ _ _ _ _ _ us hl => match us, hl with | [_, _, _, _], _ => rfl,
    a__law_look_up := He.fAd K ("_law_look_up", none),
    fd__law_look_up := fd28,
    g__law_look_up := He.glo_ok X G (c.d.fact 31 rfl),
    F__law_look_up := F28,
    b__law_look_up := F28.binds (ps := ["kind", "net", "house", "key"]) fun _ _ _ _ _ _ us hl => match us, hl with | [_, _, _, _], _ => rfl,
    a__law_no_house := He.fAd K ("_law_no_house", none),
    fd__law_no_house := fd29,
    g__law_no_house := He.glo_ok X G (c.d.fact 32 rfl),
    F__law_no_house := F29,
    b__law_no_house := F29.binds (ps := ["kind", "net", "house", "key"]) fun _ _ _ _ _ _ us hl => match us, hl with | [_, _, _, _], _ => rfl,
    a__law_off_circle := He.fAd K ("_law_off_circle", none),
    fd__law_off_circle := fd30,
    g__law_off_circle := He.glo_ok X G (c.d.fact 33 rfl),
    F__law_off_circle := F30,
    b__law_off_circle := F30.binds (ps := ["kind", "net", "house", "key"]) fun _ _ _ _ _ _ us hl => match us, hl with | [_, _, _, _], _ => rfl,
    a__law_refused := He.fAd K ("_law_refused", none),
    fd__law_refused := fd31,
    g__law_refused := He.glo_ok X G (c.d.fact 34 rfl),
    F__law_refused := F31,
    b__law_refused := F31.binds (ps := ["tape", "net", "size", "places", "stranger"]) fun _ _ _ _ _ _ us hl => match us, hl with | [_, _, _, _, _], _ => rfl,
    a__law_behinds := He.fAd K ("_law_behinds", none),
    fd__law_behinds := fd32,
    g__law_behinds := He.glo_ok X G (c.d.fact 35 rfl),
    F__law_behinds := F32,
    b__law_behinds := F32.binds (ps := ["tape", "net", "places", "behinds"]) fun _ _ _ _ _ _ us hl => match us, hl with | [_, _, _, _], _ => rfl,
    a_law := He.fAd K ("law", none),
    fd_law := fd33,
    g_law := He.glo_ok X G (c.d.fact 36 rfl),
    F_law := F33,
    b_law := F33.binds (ps := ["script"]) fun _ _ _ _ _ _ us hl => match us, hl with | [_], _ => rfl,
    a_check_on_circle := He.fAd K ("check_on_circle", none),
    fd_check_on_circle := fd34,
    g_check_on_circle := He.glo_ok X G (c.d.fact 37 rfl),
    F_check_on_circle := F34,
    b_check_on_circle := F34.binds (ps := ["size", "place"]) fun _ _ _ _ _ _ us hl => match us, hl with | [_, _], _ => rfl,
    a__law_tape := He.fAd K ("_law_tape", none),
    fd__law_tape := fd35,
    g__law_tape := He.glo_ok X G (c.d.fact 38 rfl),
    F__law_tape := F35,
    b__law_tape := F35.binds (ps := ["script"]) fun _ _ _ _ _ _ us hl => match us, hl with | [_], _ => rfl,
    a__law_pick := He.fAd K ("_law_pick", none),
    fd__law_pick := fd36,
    g__law_pick := He.glo_ok X G (c.d.fact 39 rfl),
    F__law_pick := F36,
    b__law_pick := F36.binds (ps := ["tape", "size"]) fun _ _ _ _ _ _ us hl => match us, hl with | [_, _], _ => rfl,
    a__law_size := He.fAd K ("_law_size", none),
    fd__law_size := fd37,
    g__law_size := He.glo_ok X G (c.d.fact 40 rfl),
    F__law_size := F37,
    b__law_size := F37.binds (ps := ["tape", "count"]) fun _ _ _ _ _ _ us hl => match us, hl with | [_, _], _ => rfl,
    a__law_same := He.fAd K ("_law_same", none),
    fd__law_same := fd38,
    g__law_same := He.glo_ok X G (c.d.fact 41 rfl),
    F__law_same := F38,
    b__law_same := F38.binds (ps := ["actual", "due"]) fun _ _ _ _ _ _ us hl => match us, hl with | [_, _], _ => rfl,
    a_far := He.fAd K ("far", none),
    fd_far := fd39,
    g_far := He.glo_ok X G (c.d.fact 42 rfl),
    F_far := F39,
    b_far := F39.binds (ps := ["size", "start", "end"]) fun _ _ _ _ _ _ us hl => match us, hl with | [_, _, _], _ => rfl,
    a_between := He.fAd K ("between", none),
    fd_between := fd40,
    g_between := He.glo_ok X G (c.d.fact 43 rfl),
    F_between := F40,
    b_between := F40.binds (ps := ["size", "start", "place", "end"]) fun _ _ _ _ _ _ us hl => match us, hl with | [_, _, _, _], _ => rfl,
    a_House__init := He.fAd K ("House", some "__init__"),
    fd_House__init := fd41,
    F_House__init := FD41,
    b_House__init := db41,
    bd_House__init := de41,
    bv_House__init := dve41,
    b1_House__init := dbe41,
    kg_House__init := _,
    kb_House__init := dbk41,
    a_House__tell_letter := He.fAd K ("House", some "tell_letter"),
    fd_House__tell_letter := fd42,
    F_House__tell_letter := F42,
    b_House__tell_letter := F42.binds (ps := ["self"]) fun _ _ _ _ _ _ us hl => match us, hl with | [_], _ => rfl,
    a_House__ask_letter := He.fAd K ("House", some "ask_letter"),
    fd_House__ask_letter := fd43,
    F_House__ask_letter := F43,
    b_House__ask_letter := F43.binds (ps := ["self"]) fun _ _ _ _ _ _ us hl => match us, hl with | [_], _ => rfl,
    a_House__answer_to := He.fAd K ("House", some "_answer_to"),
    fd_House__answer_to := fd44,
    F_House__answer_to := F44,
    b_House__answer_to := F44.binds (ps := ["self", "sender"]) fun _ _ _ _ _ _ us hl => match us, hl with | [_, _], _ => rfl,
    a_House__hear_tell := He.fAd K ("House", some "_hear_tell"),
    fd_House__hear_tell := fd45,
    F_House__hear_tell := F45,
    b_House__hear_tell := F45.binds (ps := ["self", "sender"]) fun _ _ _ _ _ _ us hl => match us, hl with | [_, _], _ => rfl,
    a_House__hear_answer := He.fAd K ("House", some "_hear_answer"),
    fd_House__hear_answer := fd46,
    F_House__hear_answer := F46,
    b_House__hear_answer := F46.binds (ps := ["self", "sender", "named"]) fun _ _ _ _ _ _ us hl => match us, hl with | [_, _, _], _ => rfl,
    a_House__hear := He.fAd K ("House", some "hear"),
    fd_House__hear := fd47,
    F_House__hear := F47,
    b_House__hear := F47.binds (ps := ["self", "letter"]) fun _ _ _ _ _ _ us hl => match us, hl with | [_, _], _ => rfl,
    a_Net__houses := He.fAd K ("Net", some "houses"),
    fd_Net__houses := fd48,
    F_Net__houses := F48,
    b_Net__houses := F48.binds (ps := ["self"]) fun _ _ _ _ _ _ us hl => match us, hl with | [_], _ => rfl,
    a_Net__check_house := He.fAd K ("Net", some "check_house"),
    fd_Net__check_house := fd49,
    F_Net__check_house := F49,
    b_Net__check_house := F49.binds (ps := ["self", "place"]) fun _ _ _ _ _ _ us hl => match us, hl with | [_, _], _ => rfl,
    a_Net__check_letter := He.fAd K ("Net", some "_check_letter"),
    fd_Net__check_letter := fd50,
    F_Net__check_letter := F50,
    b_Net__check_letter := F50.binds (ps := ["self", "at"]) fun _ _ _ _ _ _ us hl => match us, hl with | [_, _], _ => rfl,
    a_Net__house_at := He.fAd K ("Net", some "_house_at"),
    fd_Net__house_at := fd51,
    F_Net__house_at := F51,
    b_Net__house_at := F51.binds (ps := ["self", "place"]) fun _ _ _ _ _ _ us hl => match us, hl with | [_, _], _ => rfl,
    a_Net__send := He.fAd K ("Net", some "_send"),
    fd_Net__send := fd52,
    F_Net__send := F52,
    b_Net__send := F52.binds (ps := ["self", "letter"]) fun _ _ _ _ _ _ us hl => match us, hl with | [_, _], _ => rfl,
    a_Net__letters := He.fAd K ("Net", some "letters"),
    fd_Net__letters := fd53,
    F_Net__letters := F53,
    b_Net__letters := F53.binds (ps := ["self"]) fun _ _ _ _ _ _ us hl => match us, hl with | [_], _ => rfl,
    a_Net__nexts := He.fAd K ("Net", some "nexts"),
    fd_Net__nexts := fd54,
    F_Net__nexts := F54,
    b_Net__nexts := F54.binds (ps := ["self"]) fun _ _ _ _ _ _ us hl => match us, hl with | [_], _ => rfl,
    a_Net__befores := He.fAd K ("Net", some "befores"),
    fd_Net__befores := fd55,
    F_Net__befores := F55,
    b_Net__befores := F55.binds (ps := ["self"]) fun _ _ _ _ _ _ us hl => match us, hl with | [_], _ => rfl,
    a_Net__check_letters := He.fAd K ("Net", some "_check_letters"),
    fd_Net__check_letters := fd56,
    F_Net__check_letters := F56,
    b_Net__check_letters := F56.binds (ps := ["self"]) fun _ _ _ _ _ _ us hl => match us, hl with | [_], _ => rfl,
    a_Net__check_places := He.fAd K ("Net", some "_check_places"),
    fd_Net__check_places := fd57,
    F_Net__check_places := F57,
    b_Net__check_places := F57.binds (ps := ["self"]) fun _ _ _ _ _ _ us hl => match us, hl with | [_], _ => rfl,
    a_Net__take_befores := He.fAd K ("Net", some "_take_befores"),
    fd_Net__take_befores := fd58,
    F_Net__take_befores := F58,
    b_Net__take_befores := F58.binds (ps := ["self", "befores"]) fun _ _ _ _ _ _ us hl => match us, hl with | [_, _], _ => rfl,
    a_Net__init := He.fAd K ("Net", some "__init__"),
    fd_Net__init := fd59,
    F_Net__init := FD59,
    kg_Net__init := _,
    kb_Net__init := dbk59,
    bd_Net__init := de59,
    bv_Net__init := dve59,
    b1_Net__init := dbe59,
    a_NoHouse__init := He.fAd K ("NoHouse", some "__init__"),
    fd_NoHouse__init := fd60,
    F_NoHouse__init := F60,
    b_NoHouse__init := F60.binds (ps := ["self", "place"]) fun _ _ _ _ _ _ us hl => match us, hl with | [_, _], _ => rfl,
    a_OffCircle__init := He.fAd K ("OffCircle", some "__init__"),
    fd_OffCircle__init := fd61,
    F_OffCircle__init := F61,
    b_OffCircle__init := F61.binds (ps := ["self", "place"]) fun _ _ _ _ _ _ us hl => match us, hl with | [_, _], _ => rfl,
    a__pairs_said_by := He.fAd K ("_pairs_said_by", none),
    fd__pairs_said_by := fd62,
    g__pairs_said_by := He.glo_ok X G (c.d.fact 44 rfl),
    F__pairs_said_by := F62,
    b__pairs_said_by := F62.binds (ps := ["letter"]) fun _ _ _ _ _ _ us hl => match us, hl with | [_], _ => rfl,
    a_sayings := He.fAd K ("sayings", none),
    fd_sayings := fd63,
    g_sayings := He.glo_ok X G (c.d.fact 45 rfl),
    F_sayings := F63,
    b_sayings := F63.binds (ps := ["net"]) fun _ _ _ _ _ _ us hl => match us, hl with | [_], _ => rfl,
    a__law_places := He.fAd K ("_law_places", none),
    fd__law_places := fd64,
    g__law_places := He.glo_ok X G (c.d.fact 46 rfl),
    F__law_places := F64,
    b__law_places := F64.binds (ps := ["tape", "size", "count"]) fun _ _ _ _ _ _ us hl => match us, hl with | [_, _, _], _ => rfl,
    a_way_length := He.fAd K ("way_length", none),
    fd_way_length := fd65,
    g_way_length := He.glo_ok X G (c.d.fact 47 rfl),
    F_way_length := F65,
    b_way_length := F65.binds (ps := ["net", "start", "end"]) fun _ _ _ _ _ _ us hl => match us, hl with | [_, _, _], _ => rfl,
    C_House := He.ga K "House",
    mc_House := He.glo_ok X G (c.d.fact 48 rfl),
    cl_House := He.cls_ok (c.d.fact 49 rfl),
    na_House_size := He.noat_ok (c.d.fact 50 rfl),
    na_House_place := He.noat_ok (c.d.fact 51 rfl),
    na_House_next_house := He.noat_ok (c.d.fact 52 rfl),
    na_House_before := He.noat_ok (c.d.fact 53 rfl),
    mk_House := He.mkr_ok (c.d.fact 54 rfl),
    me_House__tell_letter := He.meth_ok (c.d.fact 55 rfl),
    me_House__ask_letter := He.meth_ok (c.d.fact 56 rfl),
    me_House__answer_to := He.meth_ok (c.d.fact 57 rfl),
    me_House__hear_tell := He.meth_ok (c.d.fact 58 rfl),
    me_House__hear_answer := He.meth_ok (c.d.fact 59 rfl),
    me_House__hear := He.meth_ok (c.d.fact 60 rfl),
    C_Net := He.ga K "Net",
    mc_Net := He.glo_ok X G (c.d.fact 61 rfl),
    cl_Net := He.cls_ok (c.d.fact 62 rfl),
    na_Net_size := He.noat_ok (c.d.fact 63 rfl),
    na_Net__nexts := He.noat_ok (c.d.fact 64 rfl),
    na_Net__befores := He.noat_ok (c.d.fact 65 rfl),
    na_Net__letters := He.noat_ok (c.d.fact 66 rfl),
    me_Net__next_of := He.meth_ok (c.d.fact 67 rfl),
    me_Net__hold := He.meth_ok (c.d.fact 68 rfl),
    me_Net__set_before := He.meth_ok (c.d.fact 69 rfl),
    me_Net__snapshot := He.meth_ok (c.d.fact 70 rfl),
    me_Net__admit := He.meth_ok (c.d.fact 71 rfl),
    me_Net__check_free := He.meth_ok (c.d.fact 72 rfl),
    me_Net__clone := He.meth_ok (c.d.fact 73 rfl),
    me_Net__tell := He.meth_ok (c.d.fact 74 rfl),
    me_Net__ask := He.meth_ok (c.d.fact 75 rfl),
    me_Net__repeat := He.meth_ok (c.d.fact 76 rfl),
    me_Net__lose := He.meth_ok (c.d.fact 77 rfl),
    me_Net__read := He.meth_ok (c.d.fact 78 rfl),
    me_Net__houses := He.meth_ok (c.d.fact 79 rfl),
    me_Net__check_house := He.meth_ok (c.d.fact 80 rfl),
    me_Net__check_letter := He.meth_ok (c.d.fact 81 rfl),
    me_Net__house_at := He.meth_ok (c.d.fact 82 rfl),
    me_Net__send := He.meth_ok (c.d.fact 83 rfl),
    me_Net__letters := He.meth_ok (c.d.fact 84 rfl),
    me_Net__nexts := He.meth_ok (c.d.fact 85 rfl),
    me_Net__befores := He.meth_ok (c.d.fact 86 rfl),
    me_Net__check_letters := He.meth_ok (c.d.fact 87 rfl),
    me_Net__check_places := He.meth_ok (c.d.fact 88 rfl),
    me_Net__take_befores := He.meth_ok (c.d.fact 89 rfl),
    mk_Net := He.mkr_ok (c.d.fact 90 rfl),
    C_TakenPlace := He.ga K "TakenPlace",
    mc_TakenPlace := He.glo_ok X G (c.d.fact 91 rfl),
    C_NoHouse := He.ga K "NoHouse",
    mc_NoHouse := He.glo_ok X G (c.d.fact 92 rfl),
    C_OffCircle := He.ga K "OffCircle",
    mc_OffCircle := He.glo_ok X G (c.d.fact 93 rfl),
    C_Untold := He.ga K "Untold",
    mc_Untold := He.glo_ok X G (c.d.fact 94 rfl),
    C_RingError := He.ga K "RingError",
    mc_RingError := He.glo_ok X G (c.d.fact 95 rfl),
    C_NoLetter := He.ga K "NoLetter",
    mc_NoLetter := He.glo_ok X G (c.d.fact 96 rfl),
    er_NoHouse := errC_mk (c.exf 0 rfl) (He.eqO_ok (c.exf 1 rfl)) (He.eqO_ok (c.exf 2 rfl)) (of_decide_eq_true (c.exf 3 rfl)) (c.exf 4 rfl) (He.eqO_ok (c.exf 5 rfl)) (He.eqO_ok (c.exf 6 rfl)) (of_decide_eq_true (c.exf 7 rfl)) (of_decide_eq_true (c.exf 8 rfl)),
    ox_NoHouse := ⟨oexB_ok (c.exf 9 rfl), (He.eqO_ok (c.exf 10 rfl)), (of_decide_eq_true (c.exf 3 rfl)), (of_decide_eq_true (c.exf 11 rfl)), (c.exf 12 rfl)⟩,
    mi_NoHouse := (He.eqO_ok (c.exf 13 rfl)),
    ti_NoHouse := (of_decide_eq_true (c.exf 14 rfl)),
    na_NoHouse_place := (He.eqO_ok (c.exf 15 rfl)),
    ki_NoHouse_TakenPlace := (of_decide_eq_true (c.exf 16 rfl)),
    ex_NoHouse_TakenPlace := exm_sub (of_decide_eq_true (c.exf 17 rfl)) (c.exf 18 rfl) (of_decide_eq_true (c.exf 19 rfl)) (of_decide_eq_true (c.exf 20 rfl)),
    ki_NoHouse_NoHouse := (of_decide_eq_true (c.exf 21 rfl)),
    ex_NoHouse_NoHouse := exm_sub (of_decide_eq_true (c.exf 3 rfl)) (c.exf 0 rfl) (of_decide_eq_true (c.exf 11 rfl)) (of_decide_eq_true (c.exf 22 rfl)),
    ki_NoHouse_OffCircle := (of_decide_eq_true (c.exf 23 rfl)),
    ex_NoHouse_OffCircle := exm_sub (of_decide_eq_true (c.exf 24 rfl)) (c.exf 25 rfl) (of_decide_eq_true (c.exf 26 rfl)) (of_decide_eq_true (c.exf 27 rfl)),
    ki_NoHouse_Untold := (of_decide_eq_true (c.exf 28 rfl)),
    ex_NoHouse_Untold := exm_sub (of_decide_eq_true (c.exf 29 rfl)) (c.exf 30 rfl) (of_decide_eq_true (c.exf 31 rfl)) (of_decide_eq_true (c.exf 32 rfl)),
    ki_NoHouse_RingError := (of_decide_eq_true (c.exf 33 rfl)),
    ex_NoHouse_RingError := exm_sub (of_decide_eq_true (c.exf 34 rfl)) (c.exf 35 rfl) (of_decide_eq_true (c.exf 36 rfl)) (of_decide_eq_true (c.exf 37 rfl)),
    ki_NoHouse_NoLetter := (of_decide_eq_true (c.exf 38 rfl)),
    ex_NoHouse_NoLetter := exm_sub (of_decide_eq_true (c.exf 39 rfl)) (c.exf 40 rfl) (of_decide_eq_true (c.exf 41 rfl)) (of_decide_eq_true (c.exf 42 rfl)),
    ki_NoHouse_ValueError := (of_decide_eq_true (c.exf 43 rfl)),
    er_OffCircle := errC_mk (c.exf 25 rfl) (He.eqO_ok (c.exf 44 rfl)) (He.eqO_ok (c.exf 45 rfl)) (of_decide_eq_true (c.exf 24 rfl)) (c.exf 46 rfl) (He.eqO_ok (c.exf 47 rfl)) (He.eqO_ok (c.exf 6 rfl)) (of_decide_eq_true (c.exf 7 rfl)) (of_decide_eq_true (c.exf 48 rfl)),
    ox_OffCircle := ⟨oexB_ok (c.exf 49 rfl), (He.eqO_ok (c.exf 50 rfl)), (of_decide_eq_true (c.exf 24 rfl)), (of_decide_eq_true (c.exf 26 rfl)), (c.exf 51 rfl)⟩,
    mi_OffCircle := (He.eqO_ok (c.exf 52 rfl)),
    ti_OffCircle := (of_decide_eq_true (c.exf 53 rfl)),
    na_OffCircle_place := (He.eqO_ok (c.exf 54 rfl)),
    ki_OffCircle_TakenPlace := (of_decide_eq_true (c.exf 55 rfl)),
    ex_OffCircle_TakenPlace := exm_sub (of_decide_eq_true (c.exf 17 rfl)) (c.exf 18 rfl) (of_decide_eq_true (c.exf 19 rfl)) (of_decide_eq_true (c.exf 56 rfl)),
    ki_OffCircle_NoHouse := (of_decide_eq_true (c.exf 57 rfl)),
    ex_OffCircle_NoHouse := exm_sub (of_decide_eq_true (c.exf 3 rfl)) (c.exf 0 rfl) (of_decide_eq_true (c.exf 11 rfl)) (of_decide_eq_true (c.exf 58 rfl)),
    ki_OffCircle_OffCircle := (of_decide_eq_true (c.exf 59 rfl)),
    ex_OffCircle_OffCircle := exm_sub (of_decide_eq_true (c.exf 24 rfl)) (c.exf 25 rfl) (of_decide_eq_true (c.exf 26 rfl)) (of_decide_eq_true (c.exf 60 rfl)),
    ki_OffCircle_Untold := (of_decide_eq_true (c.exf 61 rfl)),
    ex_OffCircle_Untold := exm_sub (of_decide_eq_true (c.exf 29 rfl)) (c.exf 30 rfl) (of_decide_eq_true (c.exf 31 rfl)) (of_decide_eq_true (c.exf 62 rfl)),
    ki_OffCircle_RingError := (of_decide_eq_true (c.exf 63 rfl)),
    ex_OffCircle_RingError := exm_sub (of_decide_eq_true (c.exf 34 rfl)) (c.exf 35 rfl) (of_decide_eq_true (c.exf 36 rfl)) (of_decide_eq_true (c.exf 64 rfl)),
    ki_OffCircle_NoLetter := (of_decide_eq_true (c.exf 65 rfl)),
    ex_OffCircle_NoLetter := exm_sub (of_decide_eq_true (c.exf 39 rfl)) (c.exf 40 rfl) (of_decide_eq_true (c.exf 41 rfl)) (of_decide_eq_true (c.exf 66 rfl)),
    ki_OffCircle_ValueError := (of_decide_eq_true (c.exf 67 rfl)) }
  exact ⟨fd33, fun s v => b s [v] rfl, fun base _ _ => T.ok_law⟩
end Z
open PySem PySem.W PySem.Calls PyProof.Rows
set_option maxHeartbeats 0 in
theorem PySem.Challenge.cw_ringlaps_k32_answer_walks_holds : PySem.Challenge.rw_ringlaps_k32_answer_walks.Holds := by
  w_on; o_law
  refine HandSHeadRun.head_any (r := OpenLaw.row PySem.Challenge.rw_ringlaps_k32_answer_walks) (q := view (OpenLaw.row PySem.Challenge.rw_ringlaps_k32_answer_walks).prog [77]) (H := Z.heK) (ob := Z.heOb) (M := 30000) (loose := Z.heLoose) (d := HandSHeadRun.topDef (OpenLaw.row PySem.Challenge.rw_ringlaps_k32_answer_walks).prog 77) (kwd := []) Z.heOb_eq
    (by kernel_rfl) (fun s => by kernel_rfl) Z.heRun (by kernel_rfl) (by kernel_rfl) (by kernel_rfl) (by rfl) (by first | assumption | decide +kernel) (by decide +kernel) ⟨rfl, rfl, rfl, rfl, rfl, by decide +kernel⟩ ?hw ?hc
  case hw => w_witness2
  case hc =>
    refine L2.walk_ofE (l := PySem.Challenge.rw_ringlaps_k32_answer_walks) (n := 63) (k := 12) (x := "script") (CX := L2.CX0) rfl (by decide) (by kernel_rfl) ⟨rfl, by decide, by decide⟩ ?F (fun _ _ _ _ z => z)
    intro w mg fa h Y G hmg0
    obtain ⟨K, KX, c⟩ := Y
    have hmg : mg ("law" : PySem.Str) = some (.ref fa) := by
      have e : (HandSHeadRun.topDef (OpenLaw.row PySem.Challenge.rw_ringlaps_k32_answer_walks).prog 77).name = ("law" : PySem.Str) := by kernel_rfl
      rw [← e]
      exact hmg0
    obtain ⟨fd, hb, hF⟩ := Z.heFacts (P := (PySem.Challenge.rw_ringlaps_k32_answer_walks).prog) (w := w) KX G hmg c
    exact ⟨K, fd, Z.sp_law K, KX, hb, fun H a ns hl _ hS => ⟨a, ns, rfl, hS, hl, fun _ => rfl⟩, hF⟩
#print axioms PySem.Challenge.cw_ringlaps_k32_answer_walks_holds
