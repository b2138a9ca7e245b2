import PyProof.Rows.All
import Wide.All
import OpenK.AllK
import Wide.FinOn
import PySem.Challenge.RW_ringlaps_k10_admit_hold_take_out
import HandS.ForMost
import HandS.Star
import HandS.Defaults
import HandS.MakeKw
import HandS.Style
import HandS.Zip0
import HandS.Zip
import KE.KDictZip
import HandS.Steps
import HandS.ListItems
import HandS.Codes
import HandS.Conv
import HandS.Dict
import HandS.DictComp
import HandS.More
import HandS.Small
import HandS.MakeKwOnly
import HandS.ForDict
import HandS.Walk
import HandS.Wide
import HandS.Flow
import HandS.IsInst
import HandS.Sort
import HandS.SortKw
import HandS.Iter
import KE.KEqSeq
import KE.KUnpackStar
import KE.KDictSum
import HandS.ExcInit
import HandS.ExcInitHot
import HandS.ExcCtx
import HandS.HotCalls
import HandS.ExcOwn
import HandS.SetFor
import KE.KSortTupAny
import HandS.SetBool
import HandS.Strs
import HandS.SortOrd
import HandS.ExcValue
import KE.KExcIs
import HandS.SetKeys
import HandS.Head0
import HandS.Head1
import HandS.Head2
import HandS.HeadEnd
import HandS.HeadHook1
import HandS.HeadHook2
set_option Elab.async false
set_option linter.all false
set_option maxRecDepth 100000
set_option maxHeartbeats 4000000
namespace Z
open PySem PySem.Spec PyProof.Rows L2
def topS (i : Nat) : Stmt := PySem.Challenge.pw_ringlaps_k10_admit_hold_take_out.main.body.getD i (.Pass ⟨0, 0, 0, 0⟩)
abbrev s__law_nexts : Stmt := topS 27
theorem sc__law_nexts : FnScope ["tape", "places", "nexts", "count", "first", "last", "ring", "at"] ["tape", "places"] (defScope s__law_nexts) := ⟨rfl, rfl, rfl, by decide +kernel, rfl, by decide +kernel, by decide +kernel⟩
abbrev s_Net__next_of : Stmt := inClass (topS 21) 5
theorem sc_Net__next_of : FnScope ["self", "house"] ["self", "house"] (defScope s_Net__next_of) := ⟨rfl, rfl, rfl, by decide +kernel, rfl, by decide +kernel, by decide +kernel⟩
abbrev s_Net__before_of : Stmt := inClass (topS 21) 6
theorem sc_Net__before_of : FnScope ["self", "house"] ["self", "house"] (defScope s_Net__before_of) := ⟨rfl, rfl, rfl, by decide +kernel, rfl, by decide +kernel, by decide +kernel⟩
abbrev s_Net__hold : Stmt := inClass (topS 21) 15
theorem sc_Net__hold : FnScope ["self", "house", "target", "old"] ["self", "house", "target"] (defScope s_Net__hold) := ⟨rfl, rfl, rfl, by decide +kernel, rfl, by decide +kernel, by decide +kernel⟩
abbrev s_Net__set_before : Stmt := inClass (topS 21) 16
theorem sc_Net__set_before : FnScope ["self", "house", "before"] ["self", "house", "before"] (defScope s_Net__set_before) := ⟨rfl, rfl, rfl, by decide +kernel, rfl, by decide +kernel, by decide +kernel⟩
abbrev s_Net__admit : Stmt := inClass (topS 21) 14
theorem sc_Net__admit : FnScope ["self", "place", "host"] ["self", "place", "host"] (defScope s_Net__admit) := ⟨rfl, rfl, rfl, by decide +kernel, rfl, by decide +kernel, by decide +kernel⟩
abbrev s_Net__take_out : Stmt := inClass (topS 21) 17
theorem sc_Net__take_out : FnScope ["self", "house"] ["self", "house"] (defScope s_Net__take_out) := ⟨rfl, rfl, rfl, by decide +kernel, rfl, by decide +kernel, by decide +kernel⟩
abbrev s_Net__is_named : Stmt := inClass (topS 21) 20
theorem sc_Net__is_named : FnScope ["self", "house", "others", "other", "letter"] ["self", "house"] (defScope s_Net__is_named) := ⟨rfl, rfl, rfl, by decide +kernel, rfl, by decide +kernel, by decide +kernel⟩
abbrev s_Net__check_free : Stmt := inClass (topS 21) 19
theorem sc_Net__check_free : FnScope ["self", "place"] ["self", "place"] (defScope s_Net__check_free) := ⟨rfl, rfl, rfl, by decide +kernel, rfl, by decide +kernel, by decide +kernel⟩
abbrev s_Net__snapshot : Stmt := inClass (topS 21) 7
theorem sc_Net__snapshot : FnScope ["self", "rows", "house"] ["self"] (defScope s_Net__snapshot) := ⟨rfl, rfl, rfl, by decide +kernel, rfl, by decide +kernel, by decide +kernel⟩
abbrev s_Net__houses : Stmt := inClass (topS 21) 1
theorem sc_Net__houses : FnScope ["self"] ["self"] (defScope s_Net__houses) := ⟨rfl, rfl, rfl, by decide +kernel, rfl, by decide +kernel, by decide +kernel⟩
abbrev s_Net__tell : Stmt := inClass (topS 21) 9
theorem sc_Net__tell : FnScope ["self", "house"] ["self", "house"] (defScope s_Net__tell) := ⟨rfl, rfl, rfl, by decide +kernel, rfl, by decide +kernel, by decide +kernel⟩
abbrev s_Net__ask : Stmt := inClass (topS 21) 10
theorem sc_Net__ask : FnScope ["self", "house"] ["self", "house"] (defScope s_Net__ask) := ⟨rfl, rfl, rfl, by decide +kernel, rfl, by decide +kernel, by decide +kernel⟩
abbrev s_Net__repeat : Stmt := inClass (topS 21) 13
theorem sc_Net__repeat : FnScope ["self", "at"] ["self", "at"] (defScope s_Net__repeat) := ⟨rfl, rfl, rfl, by decide +kernel, rfl, by decide +kernel, by decide +kernel⟩
abbrev s_Net__lose : Stmt := inClass (topS 21) 12
theorem sc_Net__lose : FnScope ["self", "at"] ["self", "at"] (defScope s_Net__lose) := ⟨rfl, rfl, rfl, by decide +kernel, rfl, by decide +kernel, by decide +kernel⟩
abbrev s_Net__read : Stmt := inClass (topS 21) 11
theorem sc_Net__read : FnScope ["self", "at", "letter", "reader", "house", "answer"] ["self", "at"] (defScope s_Net__read) := ⟨rfl, rfl, rfl, by decide +kernel, rfl, by decide +kernel, by decide +kernel⟩
abbrev s__law_far : Stmt := topS 35
theorem sc__law_far : FnScope ["size", "start", "end", "steps"] ["size", "start", "end"] (defScope s__law_far) := ⟨rfl, rfl, rfl, by decide +kernel, rfl, by decide +kernel, by decide +kernel⟩
abbrev s__law_between : Stmt := topS 36
theorem sc__law_between : FnScope ["size", "start", "place", "end"] ["size", "start", "place", "end"] (defScope s__law_between) := ⟨rfl, rfl, rfl, by decide +kernel, rfl, by decide +kernel, by decide +kernel⟩
abbrev s_far : Stmt := topS 15
theorem sc_far : FnScope ["size", "start", "end"] ["size", "start", "end"] (defScope s_far) := ⟨rfl, rfl, rfl, by decide +kernel, rfl, by decide +kernel, by decide +kernel⟩
abbrev s_between : Stmt := topS 16
theorem sc_between : FnScope ["size", "start", "place", "end"] ["size", "start", "place", "end"] (defScope s_between) := ⟨rfl, rfl, rfl, by decide +kernel, rfl, by decide +kernel, by decide +kernel⟩
abbrev s_check_on_circle : Stmt := topS 17
theorem sc_check_on_circle : FnScope ["size", "place"] ["size", "place"] (defScope s_check_on_circle) := ⟨rfl, rfl, rfl, by decide +kernel, rfl, by decide +kernel, by decide +kernel⟩
abbrev s__law_letter : Stmt := topS 29
theorem sc__law_letter : FnScope ["tape", "some", "names", "word", "k"] ["tape", "some"] (defScope s__law_letter) := ⟨rfl, rfl, rfl, by decide +kernel, rfl, by decide +kernel, by decide +kernel⟩
abbrev s__law_plain : Stmt := topS 30
theorem sc__law_plain : FnScope ["error", "kinds"] ["error"] (defScope s__law_plain) := ⟨rfl, rfl, rfl, by decide +kernel, rfl, by decide +kernel, by decide +kernel⟩
abbrev s__law_place : Stmt := topS 31
theorem sc__law_place : FnScope ["tape", "size", "nexts", "houses", "kind", "house"] ["tape", "size", "nexts"] (defScope s__law_place) := ⟨rfl, rfl, rfl, by decide +kernel, rfl, by decide +kernel, by decide +kernel⟩
abbrev s__law_drawn : Stmt := topS 32
theorem sc__law_drawn : FnScope ["tape", "size", "nexts", "count", "words", "word", "one", "two"] ["tape", "size", "nexts", "count"] (defScope s__law_drawn) := ⟨rfl, rfl, rfl, by decide +kernel, rfl, by decide +kernel, by decide +kernel⟩
abbrev s__law_call : Stmt := topS 33
theorem sc__law_call : FnScope ["net", "deed"] ["net", "deed"] (defScope s__law_call) := ⟨rfl, rfl, rfl, by decide +kernel, rfl, by decide +kernel, by decide +kernel⟩
abbrev s__law_done : Stmt := topS 34
theorem sc__law_done : FnScope ["net", "deed", "e"] ["net", "deed"] (defScope s__law_done) := ⟨rfl, rfl, rfl, by decide +kernel, rfl, by decide +kernel, by decide +kernel⟩
abbrev s__law_lost : Stmt := topS 38
theorem sc__law_lost : FnScope ["net", "word", "place", "e"] ["net", "word", "place"] (defScope s__law_lost) := ⟨rfl, rfl, rfl, by decide +kernel, rfl, by decide +kernel, by decide +kernel⟩
abbrev s__law_named : Stmt := topS 39
theorem sc__law_named : FnScope ["nexts", "behinds", "post", "house", "other", "letter"] ["nexts", "behinds", "post", "house"] (defScope s__law_named) := ⟨rfl, rfl, rfl, by decide +kernel, rfl, by decide +kernel, by decide +kernel⟩
abbrev s__law_admitted : Stmt := topS 40
theorem sc__law_admitted : FnScope ["size", "nexts", "place", "host"] ["size", "nexts", "place", "host"] (defScope s__law_admitted) := ⟨rfl, rfl, rfl, by decide +kernel, rfl, by decide +kernel, by decide +kernel⟩
abbrev s__law_due : Stmt := topS 41
theorem sc__law_due : FnScope ["size", "nexts", "behinds", "post", "deed", "place", "house", "old"] ["size", "nexts", "behinds", "post", "deed"] (defScope s__law_due) := ⟨rfl, rfl, rfl, by decide +kernel, rfl, by decide +kernel, by decide +kernel⟩
abbrev s__law_says : Stmt := topS 42
theorem sc__law_says : FnScope ["net", "size", "nexts", "behinds", "post", "held", "kept", "rows", "house", "before"] ["net", "size", "nexts", "behinds", "post"] (defScope s__law_says) := ⟨rfl, rfl, rfl, by decide +kernel, rfl, by decide +kernel, by decide +kernel⟩
abbrev s__law_step : Stmt := topS 43
theorem sc__law_step : FnScope ["net", "size", "nexts", "behinds", "post", "deed", "due"] ["net", "size", "nexts", "behinds", "post", "deed"] (defScope s__law_step) := ⟨rfl, rfl, rfl, by decide +kernel, rfl, by decide +kernel, by decide +kernel⟩
abbrev s__law_freeing : Stmt := topS 44
theorem sc__law_freeing : FnScope ["nexts", "behinds", "post", "house", "deeds", "other", "k", "at"] ["nexts", "behinds", "post", "house"] (defScope s__law_freeing) := ⟨rfl, rfl, rfl, by decide +kernel, rfl, by decide +kernel, by decide +kernel⟩
abbrev s_law : Stmt := topS 45
theorem sc_law : FnScope ["script", "tape", "turns", "count", "size", "places", "nexts", "behinds", "place", "k", "post", "net", "deed", "houses", "house", "deeds"] ["script"] (defScope s_law) := ⟨rfl, rfl, rfl, by decide +kernel, rfl, by decide +kernel, by decide +kernel⟩
abbrev s__law_tape : Stmt := topS 23
theorem sc__law_tape : FnScope ["script", "cells", "cell"] ["script"] (defScope s__law_tape) := ⟨rfl, rfl, rfl, by decide +kernel, rfl, by decide +kernel, by decide +kernel⟩
abbrev s__law_pick : Stmt := topS 24
theorem sc__law_pick : FnScope ["tape", "size", "cells", "cell", "k", "number", "used", "mixed"] ["tape", "size"] (defScope s__law_pick) := ⟨rfl, rfl, rfl, by decide +kernel, rfl, by decide +kernel, by decide +kernel⟩
abbrev s__law_size : Stmt := topS 25
theorem sc__law_size : FnScope ["tape", "count", "kind", "least"] ["tape", "count"] (defScope s__law_size) := ⟨rfl, rfl, rfl, by decide +kernel, rfl, by decide +kernel, by decide +kernel⟩
abbrev s__law_same : Stmt := topS 28
theorem sc__law_same : FnScope ["actual", "due", "k"] ["actual", "due"] (defScope s__law_same) := ⟨rfl, rfl, rfl, by decide +kernel, rfl, by decide +kernel, by decide +kernel⟩
abbrev s_House__init : Stmt := inClass (topS 19) 0
theorem sc_House__init : FnScope ["self", "size", "place", "next_house", "before"] ["self", "size", "place", "next_house", "before"] (defScope s_House__init) := ⟨rfl, rfl, rfl, by decide +kernel, rfl, by decide +kernel, by decide +kernel⟩
abbrev s_House__tell_letter : Stmt := inClass (topS 19) 1
theorem sc_House__tell_letter : FnScope ["self"] ["self"] (defScope s_House__tell_letter) := ⟨rfl, rfl, rfl, by decide +kernel, rfl, by decide +kernel, by decide +kernel⟩
abbrev s_House__ask_letter : Stmt := inClass (topS 19) 2
theorem sc_House__ask_letter : FnScope ["self"] ["self"] (defScope s_House__ask_letter) := ⟨rfl, rfl, rfl, by decide +kernel, rfl, by decide +kernel, by decide +kernel⟩
abbrev s_House__answer_to : Stmt := inClass (topS 19) 4
theorem sc_House__answer_to : FnScope ["self", "sender"] ["self", "sender"] (defScope s_House__answer_to) := ⟨rfl, rfl, rfl, by decide +kernel, rfl, by decide +kernel, by decide +kernel⟩
abbrev s_House__hear_tell : Stmt := inClass (topS 19) 5
theorem sc_House__hear_tell : FnScope ["self", "sender"] ["self", "sender"] (defScope s_House__hear_tell) := ⟨rfl, rfl, rfl, by decide +kernel, rfl, by decide +kernel, by decide +kernel⟩
abbrev s_House__hear_answer : Stmt := inClass (topS 19) 6
theorem sc_House__hear_answer : FnScope ["self", "sender", "named"] ["self", "sender", "named"] (defScope s_House__hear_answer) := ⟨rfl, rfl, rfl, by decide +kernel, rfl, by decide +kernel, by decide +kernel⟩
abbrev s_House__hear : Stmt := inClass (topS 19) 3
theorem sc_House__hear : FnScope ["self", "letter", "word", "sender"] ["self", "letter"] (defScope s_House__hear) := ⟨rfl, rfl, rfl, by decide +kernel, rfl, by decide +kernel, by decide +kernel⟩
abbrev s_Net__check_house : Stmt := inClass (topS 21) 18
theorem sc_Net__check_house : FnScope ["self", "place"] ["self", "place"] (defScope s_Net__check_house) := ⟨rfl, rfl, rfl, by decide +kernel, rfl, by decide +kernel, by decide +kernel⟩
abbrev s_Net__check_letter : Stmt := inClass (topS 21) 23
theorem sc_Net__check_letter : FnScope ["self", "at"] ["self", "at"] (defScope s_Net__check_letter) := ⟨rfl, rfl, rfl, by decide +kernel, rfl, by decide +kernel, by decide +kernel⟩
abbrev s_Net__house_at : Stmt := inClass (topS 21) 21
theorem sc_Net__house_at : FnScope ["self", "place"] ["self", "place"] (defScope s_Net__house_at) := ⟨rfl, rfl, rfl, by decide +kernel, rfl, by decide +kernel, by decide +kernel⟩
abbrev s_Net__send : Stmt := inClass (topS 21) 22
theorem sc_Net__send : FnScope ["self", "letter"] ["self", "letter"] (defScope s_Net__send) := ⟨rfl, rfl, rfl, by decide +kernel, rfl, by decide +kernel, by decide +kernel⟩
abbrev s_Net__letters : Stmt := inClass (topS 21) 4
theorem sc_Net__letters : FnScope ["self"] ["self"] (defScope s_Net__letters) := ⟨rfl, rfl, rfl, by decide +kernel, rfl, by decide +kernel, by decide +kernel⟩
abbrev s_Net__nexts : Stmt := inClass (topS 21) 2
theorem sc_Net__nexts : FnScope ["self", "house"] ["self"] (defScope s_Net__nexts) := ⟨rfl, rfl, rfl, by decide +kernel, rfl, by decide +kernel, by decide +kernel⟩
abbrev s_Net__befores : Stmt := inClass (topS 21) 3
theorem sc_Net__befores : FnScope ["self", "befores", "house"] ["self"] (defScope s_Net__befores) := ⟨rfl, rfl, rfl, by decide +kernel, rfl, by decide +kernel, by decide +kernel⟩
abbrev s_Net__check_letters : Stmt := inClass (topS 21) 26
theorem sc_Net__check_letters : FnScope ["self", "letter", "place"] ["self"] (defScope s_Net__check_letters) := ⟨rfl, rfl, rfl, by decide +kernel, rfl, by decide +kernel, by decide +kernel⟩
abbrev s_Net__check_places : Stmt := inClass (topS 21) 24
theorem sc_Net__check_places : FnScope ["self", "house"] ["self"] (defScope s_Net__check_places) := ⟨rfl, rfl, rfl, by decide +kernel, rfl, by decide +kernel, by decide +kernel⟩
abbrev s_Net__take_befores : Stmt := inClass (topS 21) 25
theorem sc_Net__take_befores : FnScope ["self", "befores", "house"] ["self", "befores"] (defScope s_Net__take_befores) := ⟨rfl, rfl, rfl, by decide +kernel, rfl, by decide +kernel, by decide +kernel⟩
abbrev s_Net__init : Stmt := inClass (topS 21) 0
theorem sc_Net__init : FnScope ["self", "size", "nexts", "befores", "letters", "house"] ["self", "size", "nexts", "befores", "letters"] (defScope s_Net__init) := ⟨rfl, rfl, rfl, by decide +kernel, rfl, by decide +kernel, by decide +kernel⟩
abbrev s_NoHouse__init : Stmt := inClass (topS 4) 0
theorem sc_NoHouse__init : FnScope ["self", "place"] ["self", "place"] (defScope s_NoHouse__init) := ⟨rfl, rfl, rfl, by decide +kernel, rfl, by decide +kernel, by decide +kernel⟩
abbrev s_OffCircle__init : Stmt := inClass (topS 3) 0
theorem sc_OffCircle__init : FnScope ["self", "place"] ["self", "place"] (defScope s_OffCircle__init) := ⟨rfl, rfl, rfl, by decide +kernel, rfl, by decide +kernel, by decide +kernel⟩
abbrev s_TakenPlace__init : Stmt := inClass (topS 5) 0
theorem sc_TakenPlace__init : FnScope ["self", "place"] ["self", "place"] (defScope s_TakenPlace__init) := ⟨rfl, rfl, rfl, by decide +kernel, rfl, by decide +kernel, by decide +kernel⟩
abbrev s_StillNamed__init : Stmt := inClass (topS 6) 0
theorem sc_StillNamed__init : FnScope ["self", "place"] ["self", "place"] (defScope s_StillNamed__init) := ⟨rfl, rfl, rfl, by decide +kernel, rfl, by decide +kernel, by decide +kernel⟩
abbrev s__law_read : Stmt := topS 37
theorem sc__law_read : FnScope ["size", "nexts", "behinds", "post", "at", "letter", "reader", "sender", "before"] ["size", "nexts", "behinds", "post", "at"] (defScope s__law_read) := ⟨rfl, rfl, rfl, by decide +kernel, rfl, by decide +kernel, by decide +kernel⟩
abbrev s__law_places : Stmt := topS 26
theorem sc__law_places : FnScope ["tape", "size", "count", "places", "k", "place", "other"] ["tape", "size", "count"] (defScope s__law_places) := ⟨rfl, rfl, rfl, by decide +kernel, rfl, by decide +kernel, by decide +kernel⟩
/-! ### what the top has left, read off by names -/
theorem fun_of {K : PySem.W.Frag} {x qual : Str} {st : Stmt} {f : Addr} {fd : FuncData} (F : FunD K x qual (defArgs st) (defBody st) (defScope st) [] [] f fd) : Fun K x qual st f fd := by
  obtain ⟨oc, od, dV, kV, doc, pm, an, cdv, ct, osl, e, lk, hc, hd, _⟩ := F.ex
  have e2 : dV = .none := by
    rcases hd with ⟨_, h⟩ | ⟨h, _⟩
    · exact h
    · exact absurd rfl h
  subst e2
  exact ⟨⟨oc, od, kV, doc, pm, an, cdv, ct, osl, e, lk, hc⟩, F.kp⟩
def oexB (K : PySem.W.Frag) (C : Addr) : Bool := match K.lookup C with
  | some ⟨.type T, _, .cls cd, sl⟩ => (match cd.mro, sl.toList with
    | .ref C' :: bm, [_, _, _, _, some (.builtin n), _] => decide (T = "type") && (decide (C' = C) && (decide (n = "ValueError.__new__") && (!cd.hasDel && (cd.hasDict && PySem.HandSPX.refsVE bm))))
    | _, _ => false)
  | _ => false
theorem oexB_ok {K : PySem.W.Frag} {C : Addr} (h : oexB K C = true) : ∃ nm q N bs bm sn sub ab col dd k0 k1 k2 k3 k5, K.lookup C = some (excClassObj nm q C N bs bm true sn sub ab col dd k0 k1 k2 k3 k5 "ValueError.__new__") ∧ PySem.HandSPX.refsVE bm = true := by
  unfold oexB at h
  split at h
  · rename_i T dd cd sl ho
    split at h
    · rename_i C' bm k0 k1 k2 k3 n k5 hm hs
      obtain ⟨h0, h⟩ := He.ba h
      obtain ⟨h1, h⟩ := He.ba h
      obtain ⟨h2, h⟩ := He.ba h
      obtain ⟨h3, h⟩ := He.ba h
      obtain ⟨h4, h5⟩ := He.ba h
      obtain rfl := of_decide_eq_true h0
      obtain rfl := of_decide_eq_true h1
      obtain rfl := of_decide_eq_true h2
      obtain ⟨c1, c2, c3, c4, c5, c6, c7, c8, c9, c10, c11⟩ := cd
      simp only at hm h3 h4
      subst hm
      have h3' : c11 = false := by simpa using h3
      subst h3' h4
      have es : sl = #[k0, k1, k2, k3, some (.builtin "ValueError.__new__"), k5] := by
        apply Array.toList_inj.mp
        rw [hs]
      subst es
      exact ⟨c1, c5, c4, c2, bm, c7, c8, c9, c10, dd, k0, k1, k2, k3, k5, ho, h5⟩
    · cases h
  · cases h
/-! ### what the names reach, each address once: a mask of bits -/
def bitQ (m a : Nat) : Bool := Nat.beq (Nat.land (Nat.shiftRight m a) 1) 1
def seeQ : List Addr → Nat → List Addr → (Nat → List Addr → List Addr) → List Addr
  | [], m, l, k => k m l
  | a :: r, m, l, k => HandSHeadRun.frNat a fun a => match bitQ m a with
    | true => seeQ r m l k
    | false => HandSHeadRun.frNat (Nat.lor m (Nat.shiftLeft 1 a)) fun m => seeQ r m (a :: l) k
def goQ (g : Addr → Option Obj) : List Addr → Nat → List Addr → (Nat → List Addr → List Addr) → List Addr
  | [], m, l, k => k m l
  | a :: r, m, l, k => match g a with
    | some o => seeQ (He.refsD o) m l fun m l => goQ g r m l k
    | none => goQ g r m l k
def asQ (g : Addr → Option Obj) : Nat → Nat → List Addr → List Addr
  | 0, _, f => f
  | n + 1, m, f => f ++ goQ g f m [] fun m l => asQ g n m l
abbrev heAl : Type := Bool × List He.FnW
def heObs (fa : List He.Fa) (fn : List He.DefD) (ex : PySem.W.Frag → List Bool) (K : PySem.W.Frag) : heAl := (((fa.all fun f => f.ok K) && fn.all fun d => d.ok K) && (ex K).all id, fn.map fun d => He.fnW K d.at_)
def heVal (fn : List He.DefD) : heAl := (true, fn.map He.DefD.val)
def HeSays (fa : List He.Fa) (fn : List He.DefD) (ex : PySem.W.Frag → List Bool) (K : PySem.W.Frag) : Prop := heObs fa fn ex K = heVal fn
def heObsG (n : Nat) (fa : List He.Fa) (fn : List He.DefD) (ex : PySem.W.Frag → List Bool) (g : Addr → Option Obj) : heAl := heObs fa fn ex (He.frG g (asQ g n (Nat.shiftLeft 1 mainGlobals) [mainGlobals]))
def heHook (n : Nat) (fa : List He.Fa) (fn : List He.DefD) (ex : PySem.W.Frag → List Bool) : PySem.W.Hook where
  α := heAl
  obs := fun s => heObsG n fa fn ex s.heap.get?
  val := fun _ => heVal fn
  says := fun _ h => ∃ K : PySem.W.Frag, K.In h ∧ HeSays fa fn ex K
  of := fun _ _ e => ⟨_, He.frG_in, e⟩
  keeps := fun _ _ _ ⟨K, hK, c⟩ k => ⟨K, PySem.W.Frag.In.keeps hK k, c⟩
theorem heObsG_eq {n : Nat} {fa : List He.Fa} {fn : List He.DefD} {ex : PySem.W.Frag → List Bool} {g : Addr → Option Obj} {s : Shared} (h : ∀ a, g a = s.heap.get? a) : heObsG n fa fn ex g = (heHook n fa fn ex).obs s := by
  have e : g = s.heap.get? := funext h
  rw [e] <;> rfl
section
variable {fa : List He.Fa} {fn : List He.DefD} {ex : PySem.W.Frag → List Bool} {K : PySem.W.Frag}
theorem HeSays.d (c : HeSays fa fn ex K) : He.SaysD fa fn K := by
  have c1 := (He.ba (show (((fa.all fun f => f.ok K) && fn.all fun d => d.ok K) && (ex K).all id) = true from congrArg (fun z : heAl => z.1) c)).1
  have c2 : fn.map (fun d => He.fnW K d.at_) = fn.map He.DefD.val := congrArg (fun z : heAl => z.2) c
  exact Prod.ext c1 c2
theorem HeSays.exf (c : HeSays fa fn ex K) (i : Nat) {b : Bool} (h : (ex K)[i]? = some b := by rfl) : b = true := by
  have c1 := (He.ba (show (((fa.all fun f => f.ok K) && fn.all fun d => d.ok K) && (ex K).all id) = true from congrArg (fun z : heAl => z.1) c)).2
  exact List.all_eq_true.mp c1 b (List.mem_of_getElem? h)
end
def hd__law_nexts : He.DefD := ⟨("_law_nexts", none), "_law_nexts", "_law_nexts", defArgs s__law_nexts, defBody s__law_nexts, defScope s__law_nexts, [], []⟩
def hd_Net__next_of : He.DefD := ⟨("Net", some "next_of"), "next_of", "Net.next_of", defArgs s_Net__next_of, defBody s_Net__next_of, defScope s_Net__next_of, [], []⟩
def hd_Net__before_of : He.DefD := ⟨("Net", some "before_of"), "before_of", "Net.before_of", defArgs s_Net__before_of, defBody s_Net__before_of, defScope s_Net__before_of, [], []⟩
def hd_Net__hold : He.DefD := ⟨("Net", some "hold"), "hold", "Net.hold", defArgs s_Net__hold, defBody s_Net__hold, defScope s_Net__hold, [], []⟩
def hd_Net__set_before : He.DefD := ⟨("Net", some "set_before"), "set_before", "Net.set_before", defArgs s_Net__set_before, defBody s_Net__set_before, defScope s_Net__set_before, [], []⟩
def hd_Net__admit : He.DefD := ⟨("Net", some "admit"), "admit", "Net.admit", defArgs s_Net__admit, defBody s_Net__admit, defScope s_Net__admit, [], []⟩
def hd_Net__take_out : He.DefD := ⟨("Net", some "take_out"), "take_out", "Net.take_out", defArgs s_Net__take_out, defBody s_Net__take_out, defScope s_Net__take_out, [], []⟩
def hd_Net__is_named : He.DefD := ⟨("Net", some "_is_named"), "_is_named", "Net._is_named", defArgs s_Net__is_named, defBody s_Net__is_named, defScope s_Net__is_named, [], []⟩
def hd_Net__check_free : He.DefD := ⟨("Net", some "check_free"), "check_free", "Net.check_free", defArgs s_Net__check_free, defBody s_Net__check_free, defScope s_Net__check_free, [], []⟩
def hd_Net__snapshot : He.DefD := ⟨("Net", some "snapshot"), "snapshot", "Net.snapshot", defArgs s_Net__snapshot, defBody s_Net__snapshot, defScope s_Net__snapshot, [], []⟩
def hd_Net__houses : He.DefD := ⟨("Net", some "houses"), "houses", "Net.houses", defArgs s_Net__houses, defBody s_Net__houses, defScope s_Net__houses, [], []⟩
def hd_Net__tell : He.DefD := ⟨("Net", some "tell"), "tell", "Net.tell", defArgs s_Net__tell, defBody s_Net__tell, defScope s_Net__tell, [], []⟩
def hd_Net__ask : He.DefD := ⟨("Net", some "ask"), "ask", "Net.ask", defArgs s_Net__ask, defBody s_Net__ask, defScope s_Net__ask, [], []⟩
def hd_Net__repeat : He.DefD := ⟨("Net", some "repeat"), "repeat", "Net.repeat", defArgs s_Net__repeat, defBody s_Net__repeat, defScope s_Net__repeat, [], []⟩
def hd_Net__lose : He.DefD := ⟨("Net", some "lose"), "lose", "Net.lose", defArgs s_Net__lose, defBody s_Net__lose, defScope s_Net__lose, [], []⟩
def hd_Net__read : He.DefD := ⟨("Net", some "read"), "read", "Net.read", defArgs s_Net__read, defBody s_Net__read, defScope s_Net__read, [], []⟩
def hd__law_far : He.DefD := ⟨("_law_far", none), "_law_far", "_law_far", defArgs s__law_far, defBody s__law_far, defScope s__law_far, [], []⟩
def hd__law_between : He.DefD := ⟨("_law_between", none), "_law_between", "_law_between", defArgs s__law_between, defBody s__law_between, defScope s__law_between, [], []⟩
def hd_far : He.DefD := ⟨("far", none), "far", "far", defArgs s_far, defBody s_far, defScope s_far, [], []⟩
def hd_between : He.DefD := ⟨("between", none), "between", "between", defArgs s_between, defBody s_between, defScope s_between, [], []⟩
def hd_check_on_circle : He.DefD := ⟨("check_on_circle", none), "check_on_circle", "check_on_circle", defArgs s_check_on_circle, defBody s_check_on_circle, defScope s_check_on_circle, [], []⟩
def hd__law_letter : He.DefD := ⟨("_law_letter", none), "_law_letter", "_law_letter", defArgs s__law_letter, defBody s__law_letter, defScope s__law_letter, [], []⟩
def hd__law_plain : He.DefD := ⟨("_law_plain", none), "_law_plain", "_law_plain", defArgs s__law_plain, defBody s__law_plain, defScope s__law_plain, [], []⟩
def hd__law_place : He.DefD := ⟨("_law_place", none), "_law_place", "_law_place", defArgs s__law_place, defBody s__law_place, defScope s__law_place, [], []⟩
def hd__law_drawn : He.DefD := ⟨("_law_drawn", none), "_law_drawn", "_law_drawn", defArgs s__law_drawn, defBody s__law_drawn, defScope s__law_drawn, [], []⟩
def hd__law_call : He.DefD := ⟨("_law_call", none), "_law_call", "_law_call", defArgs s__law_call, defBody s__law_call, defScope s__law_call, [], []⟩
def hd__law_done : He.DefD := ⟨("_law_done", none), "_law_done", "_law_done", defArgs s__law_done, defBody s__law_done, defScope s__law_done, [], []⟩
def hd__law_lost : He.DefD := ⟨("_law_lost", none), "_law_lost", "_law_lost", defArgs s__law_lost, defBody s__law_lost, defScope s__law_lost, [], []⟩
def hd__law_named : He.DefD := ⟨("_law_named", none), "_law_named", "_law_named", defArgs s__law_named, defBody s__law_named, defScope s__law_named, [], []⟩
def hd__law_admitted : He.DefD := ⟨("_law_admitted", none), "_law_admitted", "_law_admitted", defArgs s__law_admitted, defBody s__law_admitted, defScope s__law_admitted, [], []⟩
def hd__law_due : He.DefD := ⟨("_law_due", none), "_law_due", "_law_due", defArgs s__law_due, defBody s__law_due, defScope s__law_due, [], []⟩
def hd__law_says : He.DefD := ⟨("_law_says", none), "_law_says", "_law_says", defArgs s__law_says, defBody s__law_says, defScope s__law_says, [], []⟩
def hd__law_step : He.DefD := ⟨("_law_step", none), "_law_step", "_law_step", defArgs s__law_step, defBody s__law_step, defScope s__law_step, [], []⟩
def hd__law_freeing : He.DefD := ⟨("_law_freeing", none), "_law_freeing", "_law_freeing", defArgs s__law_freeing, defBody s__law_freeing, defScope s__law_freeing, [], []⟩
def hd_law : He.DefD := ⟨("law", none), "law", "law", defArgs s_law, defBody s_law, defScope s_law, [], []⟩
def hd__law_tape : He.DefD := ⟨("_law_tape", none), "_law_tape", "_law_tape", defArgs s__law_tape, defBody s__law_tape, defScope s__law_tape, [], []⟩
def hd__law_pick : He.DefD := ⟨("_law_pick", none), "_law_pick", "_law_pick", defArgs s__law_pick, defBody s__law_pick, defScope s__law_pick, [], []⟩
def hd__law_size : He.DefD := ⟨("_law_size", none), "_law_size", "_law_size", defArgs s__law_size, defBody s__law_size, defScope s__law_size, [], []⟩
def hd__law_same : He.DefD := ⟨("_law_same", none), "_law_same", "_law_same", defArgs s__law_same, defBody s__law_same, defScope s__law_same, [], []⟩
def hd_House__init : He.DefD := ⟨("House", some "__init__"), "__init__", "House.__init__", defArgs s_House__init, defBody s_House__init, defScope s_House__init, [.non], []⟩
def hd_House__tell_letter : He.DefD := ⟨("House", some "tell_letter"), "tell_letter", "House.tell_letter", defArgs s_House__tell_letter, defBody s_House__tell_letter, defScope s_House__tell_letter, [], []⟩
def hd_House__ask_letter : He.DefD := ⟨("House", some "ask_letter"), "ask_letter", "House.ask_letter", defArgs s_House__ask_letter, defBody s_House__ask_letter, defScope s_House__ask_letter, [], []⟩
def hd_House__answer_to : He.DefD := ⟨("House", some "_answer_to"), "_answer_to", "House._answer_to", defArgs s_House__answer_to, defBody s_House__answer_to, defScope s_House__answer_to, [], []⟩
def hd_House__hear_tell : He.DefD := ⟨("House", some "_hear_tell"), "_hear_tell", "House._hear_tell", defArgs s_House__hear_tell, defBody s_House__hear_tell, defScope s_House__hear_tell, [], []⟩
def hd_House__hear_answer : He.DefD := ⟨("House", some "_hear_answer"), "_hear_answer", "House._hear_answer", defArgs s_House__hear_answer, defBody s_House__hear_answer, defScope s_House__hear_answer, [], []⟩
def hd_House__hear : He.DefD := ⟨("House", some "hear"), "hear", "House.hear", defArgs s_House__hear, defBody s_House__hear, defScope s_House__hear, [], []⟩
def hd_Net__check_house : He.DefD := ⟨("Net", some "check_house"), "check_house", "Net.check_house", defArgs s_Net__check_house, defBody s_Net__check_house, defScope s_Net__check_house, [], []⟩
def hd_Net__check_letter : He.DefD := ⟨("Net", some "_check_letter"), "_check_letter", "Net._check_letter", defArgs s_Net__check_letter, defBody s_Net__check_letter, defScope s_Net__check_letter, [], []⟩
def hd_Net__house_at : He.DefD := ⟨("Net", some "_house_at"), "_house_at", "Net._house_at", defArgs s_Net__house_at, defBody s_Net__house_at, defScope s_Net__house_at, [], []⟩
def hd_Net__send : He.DefD := ⟨("Net", some "_send"), "_send", "Net._send", defArgs s_Net__send, defBody s_Net__send, defScope s_Net__send, [], []⟩
def hd_Net__letters : He.DefD := ⟨("Net", some "letters"), "letters", "Net.letters", defArgs s_Net__letters, defBody s_Net__letters, defScope s_Net__letters, [], []⟩
def hd_Net__nexts : He.DefD := ⟨("Net", some "nexts"), "nexts", "Net.nexts", defArgs s_Net__nexts, defBody s_Net__nexts, defScope s_Net__nexts, [], []⟩
def hd_Net__befores : He.DefD := ⟨("Net", some "befores"), "befores", "Net.befores", defArgs s_Net__befores, defBody s_Net__befores, defScope s_Net__befores, [], []⟩
def hd_Net__check_letters : He.DefD := ⟨("Net", some "_check_letters"), "_check_letters", "Net._check_letters", defArgs s_Net__check_letters, defBody s_Net__check_letters, defScope s_Net__check_letters, [], []⟩
def hd_Net__check_places : He.DefD := ⟨("Net", some "_check_places"), "_check_places", "Net._check_places", defArgs s_Net__check_places, defBody s_Net__check_places, defScope s_Net__check_places, [], []⟩
def hd_Net__take_befores : He.DefD := ⟨("Net", some "_take_befores"), "_take_befores", "Net._take_befores", defArgs s_Net__take_befores, defBody s_Net__take_befores, defScope s_Net__take_befores, [], []⟩
def hd_Net__init : He.DefD := ⟨("Net", some "__init__"), "__init__", "Net.__init__", defArgs s_Net__init, defBody s_Net__init, defScope s_Net__init, [], [("befores", .non), ("letters", .non)]⟩
def hd_NoHouse__init : He.DefD := ⟨("NoHouse", some "__init__"), "__init__", "NoHouse.__init__", defArgs s_NoHouse__init, defBody s_NoHouse__init, defScope s_NoHouse__init, [], []⟩
def hd_OffCircle__init : He.DefD := ⟨("OffCircle", some "__init__"), "__init__", "OffCircle.__init__", defArgs s_OffCircle__init, defBody s_OffCircle__init, defScope s_OffCircle__init, [], []⟩
def hd_TakenPlace__init : He.DefD := ⟨("TakenPlace", some "__init__"), "__init__", "TakenPlace.__init__", defArgs s_TakenPlace__init, defBody s_TakenPlace__init, defScope s_TakenPlace__init, [], []⟩
def hd_StillNamed__init : He.DefD := ⟨("StillNamed", some "__init__"), "__init__", "StillNamed.__init__", defArgs s_StillNamed__init, defBody s_StillNamed__init, defScope s_StillNamed__init, [], []⟩
def hd__law_read : He.DefD := ⟨("_law_read", none), "_law_read", "_law_read", defArgs s__law_read, defBody s__law_read, defScope s__law_read, [], []⟩
def hd__law_places : He.DefD := ⟨("_law_places", none), "_law_places", "_law_places", defArgs s__law_places, defBody s__law_places, defScope s__law_places, [], []⟩
def heFn : List He.DefD := [hd__law_nexts, hd_Net__next_of, hd_Net__before_of, hd_Net__hold, hd_Net__set_before, hd_Net__admit, hd_Net__take_out, hd_Net__is_named, hd_Net__check_free, hd_Net__snapshot, hd_Net__houses, hd_Net__tell, hd_Net__ask, hd_Net__repeat, hd_Net__lose, hd_Net__read, hd__law_far, hd__law_between, hd_far, hd_between, hd_check_on_circle, hd__law_letter, hd__law_plain, hd__law_place, hd__law_drawn, hd__law_call, hd__law_done, hd__law_lost, hd__law_named, hd__law_admitted, hd__law_due, hd__law_says, hd__law_step, hd__law_freeing, hd_law, hd__law_tape, hd__law_pick, hd__law_size, hd__law_same, hd_House__init, hd_House__tell_letter, hd_House__ask_letter, hd_House__answer_to, hd_House__hear_tell, hd_House__hear_answer, hd_House__hear, hd_Net__check_house, hd_Net__check_letter, hd_Net__house_at, hd_Net__send, hd_Net__letters, hd_Net__nexts, hd_Net__befores, hd_Net__check_letters, hd_Net__check_places, hd_Net__take_befores, hd_Net__init, hd_NoHouse__init, hd_OffCircle__init, hd_TakenPlace__init, hd_StillNamed__init, hd__law_read, hd__law_places]
def heFa : List He.Fa := [.free "ValueError", .free "abs", .free "any", .free "bool", .free "dict", .free "int", .free "isinstance", .free "len", .free "list", .free "max", .free "min", .free "range", .free "sorted", .free "str", .free "tuple", .glo "_law_nexts", .glo "_law_far", .glo "_law_between", .glo "far", .glo "between", .glo "check_on_circle", .glo "_law_letter", .glo "_law_plain", .glo "_law_place", .glo "_law_drawn", .glo "_law_call", .glo "_law_done", .glo "_law_lost", .glo "_law_named", .glo "_law_admitted", .glo "_law_due", .glo "_law_says", .glo "_law_step", .glo "_law_freeing", .glo "law", .glo "_law_tape", .glo "_law_pick", .glo "_law_size", .glo "_law_same", .glo "_law_read", .glo "_law_places", .glo "House", .cls "House", .noat "House" "size", .noat "House" "place", .noat "House" "next_house", .noat "House" "before", .mkr "House", .meth "House" "tell_letter", .meth "House" "ask_letter", .meth "House" "_answer_to", .meth "House" "_hear_tell", .meth "House" "_hear_answer", .meth "House" "hear", .glo "Net", .cls "Net", .noat "Net" "size", .noat "Net" "_nexts", .noat "Net" "_befores", .noat "Net" "_letters", .meth "Net" "next_of", .meth "Net" "before_of", .meth "Net" "hold", .meth "Net" "set_before", .meth "Net" "admit", .meth "Net" "take_out", .meth "Net" "_is_named", .meth "Net" "check_free", .meth "Net" "snapshot", .meth "Net" "houses", .meth "Net" "tell", .meth "Net" "ask", .meth "Net" "repeat", .meth "Net" "lose", .meth "Net" "read", .meth "Net" "check_house", .meth "Net" "_check_letter", .meth "Net" "_house_at", .meth "Net" "_send", .meth "Net" "letters", .meth "Net" "nexts", .meth "Net" "befores", .meth "Net" "_check_letters", .meth "Net" "_check_places", .meth "Net" "_take_befores", .mkr "Net", .glo "StillNamed", .glo "TakenPlace", .glo "OffCircle", .glo "NoHouse", .glo "RingError", .glo "NotBetween", .glo "SamePiece", .glo "NotQuiet", .glo "NotAtRest", .glo "Untold", .glo "NoLetter", .glo "BadText"]
def heEx (K : PySem.W.Frag) : List Bool := [PySem.W.isClsIn K (He.ga K "StillNamed"),
  He.eqO (PySem.W.findIn K (.ref (He.ga K "StillNamed")) "__getattribute__") (some (some (.builtin "BaseException.__getattribute__"))),
  He.eqO (PySem.W.findIn K (.ref (He.ga K "StillNamed")) "__getattr__") (some none),
  decide (PySem.W.subIn K (.ref (He.ga K "StillNamed")) (.type "BaseException") = some true),
  PySem.W.hasDictIn K (He.ga K "StillNamed"),
  He.eqO (PySem.W.findIn K (.ref (He.ga K "StillNamed")) "__class__") (some (some (.builtin "object.__class__"))),
  He.eqO (PySem.W.specialIn K (.builtin "object.__class__") "__get__") (some (some (.builtin "getset_descriptor.__get__"))),
  decide (PySem.W.takesIn K (.builtin "object.__class__") = some true),
  decide (PySem.W.mroIn K (He.ga K "StillNamed") (.type "object") = some true),
  oexB K (He.ga K "StillNamed"),
  He.eqO (PySem.W.findIn K (.ref (He.ga K "StillNamed")) "__setattr__") (some (some (.builtin "object.__setattr__"))),
  decide (PySem.W.typeIn K (.ref (He.ga K "StillNamed")) = some (.type "type")),
  PySem.W.keepIn K (.ref (He.ga K "StillNamed")),
  He.eqO (PySem.W.findIn K (.ref (He.ga K "StillNamed")) "__init__") (some (some (.ref (He.fAd K ("StillNamed", some "__init__"))))),
  decide (PySem.W.typeIn K (.ref (He.fAd K ("StillNamed", some "__init__"))) = some (.type "function")),
  He.eqO (PySem.W.findIn K (.ref (He.ga K "StillNamed")) "place") (some none),
  decide (PySem.W.kitOne K (.ref (He.ga K "StillNamed")) (.ref (He.ga K "StillNamed")) = some true),
  decide (PySem.W.subIn K (.ref (He.ga K "StillNamed")) (.ref (He.ga K "StillNamed")) = some true),
  decide (PySem.W.kitOne K (.ref (He.ga K "StillNamed")) (.ref (He.ga K "TakenPlace")) = some false),
  decide (PySem.W.subIn K (.ref (He.ga K "TakenPlace")) (.type "BaseException") = some true),
  PySem.W.isClsIn K (He.ga K "TakenPlace"),
  decide (PySem.W.typeIn K (.ref (He.ga K "TakenPlace")) = some (.type "type")),
  decide (PySem.W.subIn K (.ref (He.ga K "StillNamed")) (.ref (He.ga K "TakenPlace")) = some false),
  decide (PySem.W.kitOne K (.ref (He.ga K "StillNamed")) (.ref (He.ga K "OffCircle")) = some false),
  decide (PySem.W.subIn K (.ref (He.ga K "OffCircle")) (.type "BaseException") = some true),
  PySem.W.isClsIn K (He.ga K "OffCircle"),
  decide (PySem.W.typeIn K (.ref (He.ga K "OffCircle")) = some (.type "type")),
  decide (PySem.W.subIn K (.ref (He.ga K "StillNamed")) (.ref (He.ga K "OffCircle")) = some false),
  decide (PySem.W.kitOne K (.ref (He.ga K "StillNamed")) (.ref (He.ga K "NoHouse")) = some false),
  decide (PySem.W.subIn K (.ref (He.ga K "NoHouse")) (.type "BaseException") = some true),
  PySem.W.isClsIn K (He.ga K "NoHouse"),
  decide (PySem.W.typeIn K (.ref (He.ga K "NoHouse")) = some (.type "type")),
  decide (PySem.W.subIn K (.ref (He.ga K "StillNamed")) (.ref (He.ga K "NoHouse")) = some false),
  decide (PySem.W.kitOne K (.ref (He.ga K "StillNamed")) (.ref (He.ga K "RingError")) = some true),
  decide (PySem.W.subIn K (.ref (He.ga K "RingError")) (.type "BaseException") = some true),
  PySem.W.isClsIn K (He.ga K "RingError"),
  decide (PySem.W.typeIn K (.ref (He.ga K "RingError")) = some (.type "type")),
  decide (PySem.W.subIn K (.ref (He.ga K "StillNamed")) (.ref (He.ga K "RingError")) = some true),
  decide (PySem.W.kitOne K (.ref (He.ga K "StillNamed")) (.ref (He.ga K "NotBetween")) = some false),
  decide (PySem.W.subIn K (.ref (He.ga K "NotBetween")) (.type "BaseException") = some true),
  PySem.W.isClsIn K (He.ga K "NotBetween"),
  decide (PySem.W.typeIn K (.ref (He.ga K "NotBetween")) = some (.type "type")),
  decide (PySem.W.subIn K (.ref (He.ga K "StillNamed")) (.ref (He.ga K "NotBetween")) = some false),
  decide (PySem.W.kitOne K (.ref (He.ga K "StillNamed")) (.ref (He.ga K "SamePiece")) = some false),
  decide (PySem.W.subIn K (.ref (He.ga K "SamePiece")) (.type "BaseException") = some true),
  PySem.W.isClsIn K (He.ga K "SamePiece"),
  decide (PySem.W.typeIn K (.ref (He.ga K "SamePiece")) = some (.type "type")),
  decide (PySem.W.subIn K (.ref (He.ga K "StillNamed")) (.ref (He.ga K "SamePiece")) = some false),
  decide (PySem.W.kitOne K (.ref (He.ga K "StillNamed")) (.ref (He.ga K "NotQuiet")) = some false),
  decide (PySem.W.subIn K (.ref (He.ga K "NotQuiet")) (.type "BaseException") = some true),
  PySem.W.isClsIn K (He.ga K "NotQuiet"),
  decide (PySem.W.typeIn K (.ref (He.ga K "NotQuiet")) = some (.type "type")),
  decide (PySem.W.subIn K (.ref (He.ga K "StillNamed")) (.ref (He.ga K "NotQuiet")) = some false),
  decide (PySem.W.kitOne K (.ref (He.ga K "StillNamed")) (.ref (He.ga K "NotAtRest")) = some false),
  decide (PySem.W.subIn K (.ref (He.ga K "NotAtRest")) (.type "BaseException") = some true),
  PySem.W.isClsIn K (He.ga K "NotAtRest"),
  decide (PySem.W.typeIn K (.ref (He.ga K "NotAtRest")) = some (.type "type")),
  decide (PySem.W.subIn K (.ref (He.ga K "StillNamed")) (.ref (He.ga K "NotAtRest")) = some false),
  decide (PySem.W.kitOne K (.ref (He.ga K "StillNamed")) (.ref (He.ga K "Untold")) = some false),
  decide (PySem.W.subIn K (.ref (He.ga K "Untold")) (.type "BaseException") = some true),
  PySem.W.isClsIn K (He.ga K "Untold"),
  decide (PySem.W.typeIn K (.ref (He.ga K "Untold")) = some (.type "type")),
  decide (PySem.W.subIn K (.ref (He.ga K "StillNamed")) (.ref (He.ga K "Untold")) = some false),
  decide (PySem.W.kitOne K (.ref (He.ga K "StillNamed")) (.ref (He.ga K "NoLetter")) = some false),
  decide (PySem.W.subIn K (.ref (He.ga K "NoLetter")) (.type "BaseException") = some true),
  PySem.W.isClsIn K (He.ga K "NoLetter"),
  decide (PySem.W.typeIn K (.ref (He.ga K "NoLetter")) = some (.type "type")),
  decide (PySem.W.subIn K (.ref (He.ga K "StillNamed")) (.ref (He.ga K "NoLetter")) = some false),
  decide (PySem.W.kitOne K (.ref (He.ga K "StillNamed")) (.ref (He.ga K "BadText")) = some false),
  decide (PySem.W.subIn K (.ref (He.ga K "BadText")) (.type "BaseException") = some true),
  PySem.W.isClsIn K (He.ga K "BadText"),
  decide (PySem.W.typeIn K (.ref (He.ga K "BadText")) = some (.type "type")),
  decide (PySem.W.subIn K (.ref (He.ga K "StillNamed")) (.ref (He.ga K "BadText")) = some false),
  decide (PySem.W.kitOne K (.ref (He.ga K "StillNamed")) (.type "ValueError") = some true),
  He.eqO (PySem.W.findIn K (.ref (He.ga K "TakenPlace")) "__getattribute__") (some (some (.builtin "BaseException.__getattribute__"))),
  He.eqO (PySem.W.findIn K (.ref (He.ga K "TakenPlace")) "__getattr__") (some none),
  PySem.W.hasDictIn K (He.ga K "TakenPlace"),
  He.eqO (PySem.W.findIn K (.ref (He.ga K "TakenPlace")) "__class__") (some (some (.builtin "object.__class__"))),
  decide (PySem.W.mroIn K (He.ga K "TakenPlace") (.type "object") = some true),
  oexB K (He.ga K "TakenPlace"),
  He.eqO (PySem.W.findIn K (.ref (He.ga K "TakenPlace")) "__setattr__") (some (some (.builtin "object.__setattr__"))),
  PySem.W.keepIn K (.ref (He.ga K "TakenPlace")),
  He.eqO (PySem.W.findIn K (.ref (He.ga K "TakenPlace")) "__init__") (some (some (.ref (He.fAd K ("TakenPlace", some "__init__"))))),
  decide (PySem.W.typeIn K (.ref (He.fAd K ("TakenPlace", some "__init__"))) = some (.type "function")),
  He.eqO (PySem.W.findIn K (.ref (He.ga K "TakenPlace")) "place") (some none),
  decide (PySem.W.kitOne K (.ref (He.ga K "TakenPlace")) (.ref (He.ga K "StillNamed")) = some false),
  decide (PySem.W.subIn K (.ref (He.ga K "TakenPlace")) (.ref (He.ga K "StillNamed")) = some false),
  decide (PySem.W.kitOne K (.ref (He.ga K "TakenPlace")) (.ref (He.ga K "TakenPlace")) = some true),
  decide (PySem.W.subIn K (.ref (He.ga K "TakenPlace")) (.ref (He.ga K "TakenPlace")) = some true),
  decide (PySem.W.kitOne K (.ref (He.ga K "TakenPlace")) (.ref (He.ga K "OffCircle")) = some false),
  decide (PySem.W.subIn K (.ref (He.ga K "TakenPlace")) (.ref (He.ga K "OffCircle")) = some false),
  decide (PySem.W.kitOne K (.ref (He.ga K "TakenPlace")) (.ref (He.ga K "NoHouse")) = some false),
  decide (PySem.W.subIn K (.ref (He.ga K "TakenPlace")) (.ref (He.ga K "NoHouse")) = some false),
  decide (PySem.W.kitOne K (.ref (He.ga K "TakenPlace")) (.ref (He.ga K "RingError")) = some true),
  decide (PySem.W.subIn K (.ref (He.ga K "TakenPlace")) (.ref (He.ga K "RingError")) = some true),
  decide (PySem.W.kitOne K (.ref (He.ga K "TakenPlace")) (.ref (He.ga K "NotBetween")) = some false),
  decide (PySem.W.subIn K (.ref (He.ga K "TakenPlace")) (.ref (He.ga K "NotBetween")) = some false),
  decide (PySem.W.kitOne K (.ref (He.ga K "TakenPlace")) (.ref (He.ga K "SamePiece")) = some false),
  decide (PySem.W.subIn K (.ref (He.ga K "TakenPlace")) (.ref (He.ga K "SamePiece")) = some false),
  decide (PySem.W.kitOne K (.ref (He.ga K "TakenPlace")) (.ref (He.ga K "NotQuiet")) = some false),
  decide (PySem.W.subIn K (.ref (He.ga K "TakenPlace")) (.ref (He.ga K "NotQuiet")) = some false),
  decide (PySem.W.kitOne K (.ref (He.ga K "TakenPlace")) (.ref (He.ga K "NotAtRest")) = some false),
  decide (PySem.W.subIn K (.ref (He.ga K "TakenPlace")) (.ref (He.ga K "NotAtRest")) = some false),
  decide (PySem.W.kitOne K (.ref (He.ga K "TakenPlace")) (.ref (He.ga K "Untold")) = some false),
  decide (PySem.W.subIn K (.ref (He.ga K "TakenPlace")) (.ref (He.ga K "Untold")) = some false),
  decide (PySem.W.kitOne K (.ref (He.ga K "TakenPlace")) (.ref (He.ga K "NoLetter")) = some false),
  decide (PySem.W.subIn K (.ref (He.ga K "TakenPlace")) (.ref (He.ga K "NoLetter")) = some false),
  decide (PySem.W.kitOne K (.ref (He.ga K "TakenPlace")) (.ref (He.ga K "BadText")) = some false),
  decide (PySem.W.subIn K (.ref (He.ga K "TakenPlace")) (.ref (He.ga K "BadText")) = some false),
  decide (PySem.W.kitOne K (.ref (He.ga K "TakenPlace")) (.type "ValueError") = some true),
  He.eqO (PySem.W.findIn K (.ref (He.ga K "OffCircle")) "__getattribute__") (some (some (.builtin "BaseException.__getattribute__"))),
  He.eqO (PySem.W.findIn K (.ref (He.ga K "OffCircle")) "__getattr__") (some none),
  PySem.W.hasDictIn K (He.ga K "OffCircle"),
  He.eqO (PySem.W.findIn K (.ref (He.ga K "OffCircle")) "__class__") (some (some (.builtin "object.__class__"))),
  decide (PySem.W.mroIn K (He.ga K "OffCircle") (.type "object") = some true),
  oexB K (He.ga K "OffCircle"),
  He.eqO (PySem.W.findIn K (.ref (He.ga K "OffCircle")) "__setattr__") (some (some (.builtin "object.__setattr__"))),
  PySem.W.keepIn K (.ref (He.ga K "OffCircle")),
  He.eqO (PySem.W.findIn K (.ref (He.ga K "OffCircle")) "__init__") (some (some (.ref (He.fAd K ("OffCircle", some "__init__"))))),
  decide (PySem.W.typeIn K (.ref (He.fAd K ("OffCircle", some "__init__"))) = some (.type "function")),
  He.eqO (PySem.W.findIn K (.ref (He.ga K "OffCircle")) "place") (some none),
  decide (PySem.W.kitOne K (.ref (He.ga K "OffCircle")) (.ref (He.ga K "StillNamed")) = some false),
  decide (PySem.W.subIn K (.ref (He.ga K "OffCircle")) (.ref (He.ga K "StillNamed")) = some false),
  decide (PySem.W.kitOne K (.ref (He.ga K "OffCircle")) (.ref (He.ga K "TakenPlace")) = some false),
  decide (PySem.W.subIn K (.ref (He.ga K "OffCircle")) (.ref (He.ga K "TakenPlace")) = some false),
  decide (PySem.W.kitOne K (.ref (He.ga K "OffCircle")) (.ref (He.ga K "OffCircle")) = some true),
  decide (PySem.W.subIn K (.ref (He.ga K "OffCircle")) (.ref (He.ga K "OffCircle")) = some true),
  decide (PySem.W.kitOne K (.ref (He.ga K "OffCircle")) (.ref (He.ga K "NoHouse")) = some false),
  decide (PySem.W.subIn K (.ref (He.ga K "OffCircle")) (.ref (He.ga K "NoHouse")) = some false),
  decide (PySem.W.kitOne K (.ref (He.ga K "OffCircle")) (.ref (He.ga K "RingError")) = some true),
  decide (PySem.W.subIn K (.ref (He.ga K "OffCircle")) (.ref (He.ga K "RingError")) = some true),
  decide (PySem.W.kitOne K (.ref (He.ga K "OffCircle")) (.ref (He.ga K "NotBetween")) = some false),
  decide (PySem.W.subIn K (.ref (He.ga K "OffCircle")) (.ref (He.ga K "NotBetween")) = some false),
  decide (PySem.W.kitOne K (.ref (He.ga K "OffCircle")) (.ref (He.ga K "SamePiece")) = some false),
  decide (PySem.W.subIn K (.ref (He.ga K "OffCircle")) (.ref (He.ga K "SamePiece")) = some false),
  decide (PySem.W.kitOne K (.ref (He.ga K "OffCircle")) (.ref (He.ga K "NotQuiet")) = some false),
  decide (PySem.W.subIn K (.ref (He.ga K "OffCircle")) (.ref (He.ga K "NotQuiet")) = some false),
  decide (PySem.W.kitOne K (.ref (He.ga K "OffCircle")) (.ref (He.ga K "NotAtRest")) = some false),
  decide (PySem.W.subIn K (.ref (He.ga K "OffCircle")) (.ref (He.ga K "NotAtRest")) = some false),
  decide (PySem.W.kitOne K (.ref (He.ga K "OffCircle")) (.ref (He.ga K "Untold")) = some false),
  decide (PySem.W.subIn K (.ref (He.ga K "OffCircle")) (.ref (He.ga K "Untold")) = some false),
  decide (PySem.W.kitOne K (.ref (He.ga K "OffCircle")) (.ref (He.ga K "NoLetter")) = some false),
  decide (PySem.W.subIn K (.ref (He.ga K "OffCircle")) (.ref (He.ga K "NoLetter")) = some false),
  decide (PySem.W.kitOne K (.ref (He.ga K "OffCircle")) (.ref (He.ga K "BadText")) = some false),
  decide (PySem.W.subIn K (.ref (He.ga K "OffCircle")) (.ref (He.ga K "BadText")) = some false),
  decide (PySem.W.kitOne K (.ref (He.ga K "OffCircle")) (.type "ValueError") = some true),
  He.eqO (PySem.W.findIn K (.ref (He.ga K "NoHouse")) "__getattribute__") (some (some (.builtin "BaseException.__getattribute__"))),
  He.eqO (PySem.W.findIn K (.ref (He.ga K "NoHouse")) "__getattr__") (some none),
  PySem.W.hasDictIn K (He.ga K "NoHouse"),
  He.eqO (PySem.W.findIn K (.ref (He.ga K "NoHouse")) "__class__") (some (some (.builtin "object.__class__"))),
  decide (PySem.W.mroIn K (He.ga K "NoHouse") (.type "object") = some true),
  oexB K (He.ga K "NoHouse"),
  He.eqO (PySem.W.findIn K (.ref (He.ga K "NoHouse")) "__setattr__") (some (some (.builtin "object.__setattr__"))),
  PySem.W.keepIn K (.ref (He.ga K "NoHouse")),
  He.eqO (PySem.W.findIn K (.ref (He.ga K "NoHouse")) "__init__") (some (some (.ref (He.fAd K ("NoHouse", some "__init__"))))),
  decide (PySem.W.typeIn K (.ref (He.fAd K ("NoHouse", some "__init__"))) = some (.type "function")),
  He.eqO (PySem.W.findIn K (.ref (He.ga K "NoHouse")) "place") (some none),
  decide (PySem.W.kitOne K (.ref (He.ga K "NoHouse")) (.ref (He.ga K "StillNamed")) = some false),
  decide (PySem.W.subIn K (.ref (He.ga K "NoHouse")) (.ref (He.ga K "StillNamed")) = some false),
  decide (PySem.W.kitOne K (.ref (He.ga K "NoHouse")) (.ref (He.ga K "TakenPlace")) = some false),
  decide (PySem.W.subIn K (.ref (He.ga K "NoHouse")) (.ref (He.ga K "TakenPlace")) = some false),
  decide (PySem.W.kitOne K (.ref (He.ga K "NoHouse")) (.ref (He.ga K "OffCircle")) = some false),
  decide (PySem.W.subIn K (.ref (He.ga K "NoHouse")) (.ref (He.ga K "OffCircle")) = some false),
  decide (PySem.W.kitOne K (.ref (He.ga K "NoHouse")) (.ref (He.ga K "NoHouse")) = some true),
  decide (PySem.W.subIn K (.ref (He.ga K "NoHouse")) (.ref (He.ga K "NoHouse")) = some true),
  decide (PySem.W.kitOne K (.ref (He.ga K "NoHouse")) (.ref (He.ga K "RingError")) = some true),
  decide (PySem.W.subIn K (.ref (He.ga K "NoHouse")) (.ref (He.ga K "RingError")) = some true),
  decide (PySem.W.kitOne K (.ref (He.ga K "NoHouse")) (.ref (He.ga K "NotBetween")) = some false),
  decide (PySem.W.subIn K (.ref (He.ga K "NoHouse")) (.ref (He.ga K "NotBetween")) = some false),
  decide (PySem.W.kitOne K (.ref (He.ga K "NoHouse")) (.ref (He.ga K "SamePiece")) = some false),
  decide (PySem.W.subIn K (.ref (He.ga K "NoHouse")) (.ref (He.ga K "SamePiece")) = some false),
  decide (PySem.W.kitOne K (.ref (He.ga K "NoHouse")) (.ref (He.ga K "NotQuiet")) = some false),
  decide (PySem.W.subIn K (.ref (He.ga K "NoHouse")) (.ref (He.ga K "NotQuiet")) = some false),
  decide (PySem.W.kitOne K (.ref (He.ga K "NoHouse")) (.ref (He.ga K "NotAtRest")) = some false),
  decide (PySem.W.subIn K (.ref (He.ga K "NoHouse")) (.ref (He.ga K "NotAtRest")) = some false),
  decide (PySem.W.kitOne K (.ref (He.ga K "NoHouse")) (.ref (He.ga K "Untold")) = some false),
  decide (PySem.W.subIn K (.ref (He.ga K "NoHouse")) (.ref (He.ga K "Untold")) = some false),
  decide (PySem.W.kitOne K (.ref (He.ga K "NoHouse")) (.ref (He.ga K "NoLetter")) = some false),
  decide (PySem.W.subIn K (.ref (He.ga K "NoHouse")) (.ref (He.ga K "NoLetter")) = some false),
  decide (PySem.W.kitOne K (.ref (He.ga K "NoHouse")) (.ref (He.ga K "BadText")) = some false),
  decide (PySem.W.subIn K (.ref (He.ga K "NoHouse")) (.ref (He.ga K "BadText")) = some false),
  decide (PySem.W.kitOne K (.ref (He.ga K "NoHouse")) (.type "ValueError") = some true)]
def heLoose0 : List Str := ["_wall", "RingError", "OffCircle", "NoHouse", "TakenPlace", "StillNamed", "NotBetween", "SamePiece", "NotQuiet", "NotAtRest", "Untold", "NoLetter", "BadText", "far", "between", "check_on_circle", "House", "Net", "_law_tape", "_law_pick"]
def heLoose1 : List Str := ["_law_size", "_law_places", "_law_nexts", "_law_same", "_law_letter", "_law_plain", "_law_place", "_law_drawn", "_law_call", "_law_done", "_law_far", "_law_between", "_law_read", "_law_lost", "_law_named", "_law_admitted", "_law_due", "_law_says", "_law_step", "_law_freeing"]
abbrev heLoose : List Str := heLoose0 ++ heLoose1
abbrev heR : PySem.W.OpenRow := PySem.W.OpenLaw.row PySem.Challenge.rw_ringlaps_k10_admit_hold_take_out
abbrev heK : PySem.W.Hook := heHook 5 heFa heFn heEx
def heOb (s : PySem.W.SharedT) : heAl := heObsG 5 heFa heFn heEx (HandSHeadRun.getT s)
theorem heOb_eq (s : PySem.W.SharedT) : heOb s = heK.obs s.abs := heObsG_eq (HandSHeadRun.getT_eq s)
set_option maxHeartbeats 0 in
theorem heRun (w : World) : HandSHeadRun.RunEq heR (PySem.W.view heR.prog [45]) heK heOb 30000 heLoose w := by
  intro os
  kernel_rfl
/-! what is asked of the error in hand: (a, oe) is pinned, its dict at d -/
structure ErrC (K : PySem.W.Frag) (D : Addr) : Prop where
  cl : (PySem.W.clsIn K D).isSome = true
  ga : PySem.W.findIn K (.ref D) "__getattribute__" = some (some (.builtin "BaseException.__getattribute__"))
  gg : PySem.W.findIn K (.ref D) "__getattr__" = some none
  ex : PySem.W.subIn K (.ref D) (.type "BaseException") = some true
  hd : PySem.W.hasDictIn K D = true
  ca : PySem.W.findIn K (.ref D) "__class__" = some (some (.builtin "object.__class__"))
  cn : PySem.W.specialIn K (.builtin "object.__class__") "__get__" = some (some (.builtin "getset_descriptor.__get__"))
  ct : PySem.W.takesIn K (.builtin "object.__class__") = some true
  mo : PySem.W.mroIn K D (.type "object") = some true
structure T0 (K : PySem.W.Frag) (mg : Str → Option Value) where
  m_ValueError : mg "ValueError" = none
  m_abs : mg "abs" = none
  m_any : mg "any" = none
  m_bool : mg "bool" = none
  m_dict : mg "dict" = none
  m_int : mg "int" = none
  m_isinstance : mg "isinstance" = none
  m_len : mg "len" = none
  m_list : mg "list" = none
  m_max : mg "max" = none
  m_min : mg "min" = none
  m_range : mg "range" = none
  m_sorted : mg "sorted" = none
  m_str : mg "str" = none
  m_tuple : mg "tuple" = none
  a__law_nexts : Addr
  fd__law_nexts : FuncData
  F__law_nexts : Fun K "_law_nexts" "_law_nexts" s__law_nexts a__law_nexts fd__law_nexts
  b__law_nexts : Binds K fd__law_nexts ["tape", "places"] []
  g__law_nexts : mg "_law_nexts" = some (.ref a__law_nexts)
  a_Net__next_of : Addr
  fd_Net__next_of : FuncData
  F_Net__next_of : Fun K "next_of" "Net.next_of" s_Net__next_of a_Net__next_of fd_Net__next_of
  b_Net__next_of : Binds K fd_Net__next_of ["self", "house"] []
  a_Net__before_of : Addr
  fd_Net__before_of : FuncData
  F_Net__before_of : Fun K "before_of" "Net.before_of" s_Net__before_of a_Net__before_of fd_Net__before_of
  b_Net__before_of : Binds K fd_Net__before_of ["self", "house"] []
  a_Net__hold : Addr
  fd_Net__hold : FuncData
  F_Net__hold : Fun K "hold" "Net.hold" s_Net__hold a_Net__hold fd_Net__hold
  b_Net__hold : Binds K fd_Net__hold ["self", "house", "target"] []
  a_Net__set_before : Addr
  fd_Net__set_before : FuncData
  F_Net__set_before : Fun K "set_before" "Net.set_before" s_Net__set_before a_Net__set_before fd_Net__set_before
  b_Net__set_before : Binds K fd_Net__set_before ["self", "house", "before"] []
  a_Net__admit : Addr
  fd_Net__admit : FuncData
  F_Net__admit : Fun K "admit" "Net.admit" s_Net__admit a_Net__admit fd_Net__admit
  b_Net__admit : Binds K fd_Net__admit ["self", "place", "host"] []
  a_Net__take_out : Addr
  fd_Net__take_out : FuncData
  F_Net__take_out : Fun K "take_out" "Net.take_out" s_Net__take_out a_Net__take_out fd_Net__take_out
  b_Net__take_out : Binds K fd_Net__take_out ["self", "house"] []
  a_Net__is_named : Addr
  fd_Net__is_named : FuncData
  F_Net__is_named : Fun K "_is_named" "Net._is_named" s_Net__is_named a_Net__is_named fd_Net__is_named
  b_Net__is_named : Binds K fd_Net__is_named ["self", "house"] []
  a_Net__check_free : Addr
  fd_Net__check_free : FuncData
  F_Net__check_free : Fun K "check_free" "Net.check_free" s_Net__check_free a_Net__check_free fd_Net__check_free
  b_Net__check_free : Binds K fd_Net__check_free ["self", "place"] []
  a_Net__snapshot : Addr
  fd_Net__snapshot : FuncData
  F_Net__snapshot : Fun K "snapshot" "Net.snapshot" s_Net__snapshot a_Net__snapshot fd_Net__snapshot
  b_Net__snapshot : Binds K fd_Net__snapshot ["self"] []
  a_Net__houses : Addr
  fd_Net__houses : FuncData
  F_Net__houses : Fun K "houses" "Net.houses" s_Net__houses a_Net__houses fd_Net__houses
  b_Net__houses : Binds K fd_Net__houses ["self"] []
  a_Net__tell : Addr
  fd_Net__tell : FuncData
  F_Net__tell : Fun K "tell" "Net.tell" s_Net__tell a_Net__tell fd_Net__tell
  b_Net__tell : Binds K fd_Net__tell ["self", "house"] []
  a_Net__ask : Addr
  fd_Net__ask : FuncData
  F_Net__ask : Fun K "ask" "Net.ask" s_Net__ask a_Net__ask fd_Net__ask
  b_Net__ask : Binds K fd_Net__ask ["self", "house"] []
  a_Net__repeat : Addr
  fd_Net__repeat : FuncData
  F_Net__repeat : Fun K "repeat" "Net.repeat" s_Net__repeat a_Net__repeat fd_Net__repeat
  b_Net__repeat : Binds K fd_Net__repeat ["self", "at"] []
  a_Net__lose : Addr
  fd_Net__lose : FuncData
  F_Net__lose : Fun K "lose" "Net.lose" s_Net__lose a_Net__lose fd_Net__lose
  b_Net__lose : Binds K fd_Net__lose ["self", "at"] []
  a_Net__read : Addr
  fd_Net__read : FuncData
  F_Net__read : Fun K "read" "Net.read" s_Net__read a_Net__read fd_Net__read
  b_Net__read : Binds K fd_Net__read ["self", "at"] []
  a__law_far : Addr
  fd__law_far : FuncData
  F__law_far : Fun K "_law_far" "_law_far" s__law_far a__law_far fd__law_far
  b__law_far : Binds K fd__law_far ["size", "start", "end"] []
  g__law_far : mg "_law_far" = some (.ref a__law_far)
  a__law_between : Addr
  fd__law_between : FuncData
  F__law_between : Fun K "_law_between" "_law_between" s__law_between a__law_between fd__law_between
  b__law_between : Binds K fd__law_between ["size", "start", "place", "end"] []
  g__law_between : mg "_law_between" = some (.ref a__law_between)
  a_far : Addr
  fd_far : FuncData
  F_far : Fun K "far" "far" s_far a_far fd_far
  b_far : Binds K fd_far ["size", "start", "end"] []
  g_far : mg "far" = some (.ref a_far)
  a_between : Addr
  fd_between : FuncData
  F_between : Fun K "between" "between" s_between a_between fd_between
  b_between : Binds K fd_between ["size", "start", "place", "end"] []
  g_between : mg "between" = some (.ref a_between)
  a_check_on_circle : Addr
  fd_check_on_circle : FuncData
  F_check_on_circle : Fun K "check_on_circle" "check_on_circle" s_check_on_circle a_check_on_circle fd_check_on_circle
  b_check_on_circle : Binds K fd_check_on_circle ["size", "place"] []
  g_check_on_circle : mg "check_on_circle" = some (.ref a_check_on_circle)
  a__law_letter : Addr
  fd__law_letter : FuncData
  F__law_letter : Fun K "_law_letter" "_law_letter" s__law_letter a__law_letter fd__law_letter
  b__law_letter : Binds K fd__law_letter ["tape", "some"] []
  g__law_letter : mg "_law_letter" = some (.ref a__law_letter)
  a__law_plain : Addr
  fd__law_plain : FuncData
  F__law_plain : Fun K "_law_plain" "_law_plain" s__law_plain a__law_plain fd__law_plain
  b__law_plain : Binds K fd__law_plain ["error"] []
  g__law_plain : mg "_law_plain" = some (.ref a__law_plain)
  a__law_place : Addr
  fd__law_place : FuncData
  F__law_place : Fun K "_law_place" "_law_place" s__law_place a__law_place fd__law_place
  b__law_place : Binds K fd__law_place ["tape", "size", "nexts"] []
  g__law_place : mg "_law_place" = some (.ref a__law_place)
  a__law_drawn : Addr
  fd__law_drawn : FuncData
  F__law_drawn : Fun K "_law_drawn" "_law_drawn" s__law_drawn a__law_drawn fd__law_drawn
  b__law_drawn : Binds K fd__law_drawn ["tape", "size", "nexts", "count"] []
  g__law_drawn : mg "_law_drawn" = some (.ref a__law_drawn)
  a__law_call : Addr
  fd__law_call : FuncData
  F__law_call : Fun K "_law_call" "_law_call" s__law_call a__law_call fd__law_call
  b__law_call : Binds K fd__law_call ["net", "deed"] []
  g__law_call : mg "_law_call" = some (.ref a__law_call)
  a__law_done : Addr
  fd__law_done : FuncData
  F__law_done : Fun K "_law_done" "_law_done" s__law_done a__law_done fd__law_done
  b__law_done : Binds K fd__law_done ["net", "deed"] []
  g__law_done : mg "_law_done" = some (.ref a__law_done)
  a__law_lost : Addr
  fd__law_lost : FuncData
  F__law_lost : Fun K "_law_lost" "_law_lost" s__law_lost a__law_lost fd__law_lost
  b__law_lost : Binds K fd__law_lost ["net", "word", "place"] []
  g__law_lost : mg "_law_lost" = some (.ref a__law_lost)
  a__law_named : Addr
  fd__law_named : FuncData
  F__law_named : Fun K "_law_named" "_law_named" s__law_named a__law_named fd__law_named
  b__law_named : Binds K fd__law_named ["nexts", "behinds", "post", "house"] []
  g__law_named : mg "_law_named" = some (.ref a__law_named)
  a__law_admitted : Addr
  fd__law_admitted : FuncData
  F__law_admitted : Fun K "_law_admitted" "_law_admitted" s__law_admitted a__law_admitted fd__law_admitted
  b__law_admitted : Binds K fd__law_admitted ["size", "nexts", "place", "host"] []
  g__law_admitted : mg "_law_admitted" = some (.ref a__law_admitted)
  a__law_due : Addr
  fd__law_due : FuncData
  F__law_due : Fun K "_law_due" "_law_due" s__law_due a__law_due fd__law_due
  b__law_due : Binds K fd__law_due ["size", "nexts", "behinds", "post", "deed"] []
  g__law_due : mg "_law_due" = some (.ref a__law_due)
  a__law_says : Addr
  fd__law_says : FuncData
  F__law_says : Fun K "_law_says" "_law_says" s__law_says a__law_says fd__law_says
  b__law_says : Binds K fd__law_says ["net", "size", "nexts", "behinds", "post"] []
  g__law_says : mg "_law_says" = some (.ref a__law_says)
  a__law_step : Addr
  fd__law_step : FuncData
  F__law_step : Fun K "_law_step" "_law_step" s__law_step a__law_step fd__law_step
  b__law_step : Binds K fd__law_step ["net", "size", "nexts", "behinds", "post", "deed"] []
  g__law_step : mg "_law_step" = some (.ref a__law_step)
  a__law_freeing : Addr
  fd__law_freeing : FuncData
  F__law_freeing : Fun K "_law_freeing" "_law_freeing" s__law_freeing a__law_freeing fd__law_freeing
  b__law_freeing : Binds K fd__law_freeing ["nexts", "behinds", "post", "house"] []
  g__law_freeing : mg "_law_freeing" = some (.ref a__law_freeing)
  a_law : Addr
  fd_law : FuncData
  F_law : Fun K "law" "law" s_law a_law fd_law
  b_law : Binds K fd_law ["script"] []
  g_law : mg "law" = some (.ref a_law)
  a__law_tape : Addr
  fd__law_tape : FuncData
  F__law_tape : Fun K "_law_tape" "_law_tape" s__law_tape a__law_tape fd__law_tape
  b__law_tape : Binds K fd__law_tape ["script"] []
  g__law_tape : mg "_law_tape" = some (.ref a__law_tape)
  a__law_pick : Addr
  fd__law_pick : FuncData
  F__law_pick : Fun K "_law_pick" "_law_pick" s__law_pick a__law_pick fd__law_pick
  b__law_pick : Binds K fd__law_pick ["tape", "size"] []
  g__law_pick : mg "_law_pick" = some (.ref a__law_pick)
  a__law_size : Addr
  fd__law_size : FuncData
  F__law_size : Fun K "_law_size" "_law_size" s__law_size a__law_size fd__law_size
  b__law_size : Binds K fd__law_size ["tape", "count"] []
  g__law_size : mg "_law_size" = some (.ref a__law_size)
  a__law_same : Addr
  fd__law_same : FuncData
  F__law_same : Fun K "_law_same" "_law_same" s__law_same a__law_same fd__law_same
  b__law_same : Binds K fd__law_same ["actual", "due"] []
  g__law_same : mg "_law_same" = some (.ref a__law_same)
  a_House__init : Addr
  fd_House__init : FuncData
  F_House__init : FunD K "__init__" "House.__init__" (defArgs s_House__init) (defBody s_House__init) (defScope s_House__init) [.non] [] a_House__init fd_House__init
  b_House__init : Binds K fd_House__init ["self", "size", "place", "next_house", "before"] []
  bd_House__init : List Value
  bv_House__init : Vals [.non] bd_House__init
  b1_House__init : Binds K fd_House__init ["self", "size", "place", "next_house", "before"] bd_House__init
  kg_House__init : List Value → List Value → List Value
  kb_House__init : KBn K fd_House__init ["self", "size", "place", "next_house", "before"] 4 ["before"] kg_House__init (fun vs zs => vs ++ zs)
  a_House__tell_letter : Addr
  fd_House__tell_letter : FuncData
  F_House__tell_letter : Fun K "tell_letter" "House.tell_letter" s_House__tell_letter a_House__tell_letter fd_House__tell_letter
  b_House__tell_letter : Binds K fd_House__tell_letter ["self"] []
  a_House__ask_letter : Addr
  fd_House__ask_letter : FuncData
  F_House__ask_letter : Fun K "ask_letter" "House.ask_letter" s_House__ask_letter a_House__ask_letter fd_House__ask_letter
  b_House__ask_letter : Binds K fd_House__ask_letter ["self"] []
  a_House__answer_to : Addr
  fd_House__answer_to : FuncData
  F_House__answer_to : Fun K "_answer_to" "House._answer_to" s_House__answer_to a_House__answer_to fd_House__answer_to
  b_House__answer_to : Binds K fd_House__answer_to ["self", "sender"] []
  a_House__hear_tell : Addr
  fd_House__hear_tell : FuncData
  F_House__hear_tell : Fun K "_hear_tell" "House._hear_tell" s_House__hear_tell a_House__hear_tell fd_House__hear_tell
  b_House__hear_tell : Binds K fd_House__hear_tell ["self", "sender"] []
  a_House__hear_answer : Addr
  fd_House__hear_answer : FuncData
  F_House__hear_answer : Fun K "_hear_answer" "House._hear_answer" s_House__hear_answer a_House__hear_answer fd_House__hear_answer
  b_House__hear_answer : Binds K fd_House__hear_answer ["self", "sender", "named"] []
  a_House__hear : Addr
  fd_House__hear : FuncData
  F_House__hear : Fun K "hear" "House.hear" s_House__hear a_House__hear fd_House__hear
  b_House__hear : Binds K fd_House__hear ["self", "letter"] []
  a_Net__check_house : Addr
  fd_Net__check_house : FuncData
  F_Net__check_house : Fun K "check_house" "Net.check_house" s_Net__check_house a_Net__check_house fd_Net__check_house
  b_Net__check_house : Binds K fd_Net__check_house ["self", "place"] []
  a_Net__check_letter : Addr
  fd_Net__check_letter : FuncData
  F_Net__check_letter : Fun K "_check_letter" "Net._check_letter" s_Net__check_letter a_Net__check_letter fd_Net__check_letter
  b_Net__check_letter : Binds K fd_Net__check_letter ["self", "at"] []
  a_Net__house_at : Addr
  fd_Net__house_at : FuncData
  F_Net__house_at : Fun K "_house_at" "Net._house_at" s_Net__house_at a_Net__house_at fd_Net__house_at
  b_Net__house_at : Binds K fd_Net__house_at ["self", "place"] []
  a_Net__send : Addr
  fd_Net__send : FuncData
  F_Net__send : Fun K "_send" "Net._send" s_Net__send a_Net__send fd_Net__send
  b_Net__send : Binds K fd_Net__send ["self", "letter"] []
  a_Net__letters : Addr
  fd_Net__letters : FuncData
  F_Net__letters : Fun K "letters" "Net.letters" s_Net__letters a_Net__letters fd_Net__letters
  b_Net__letters : Binds K fd_Net__letters ["self"] []
  a_Net__nexts : Addr
  fd_Net__nexts : FuncData
  F_Net__nexts : Fun K "nexts" "Net.nexts" s_Net__nexts a_Net__nexts fd_Net__nexts
  b_Net__nexts : Binds K fd_Net__nexts ["self"] []
  a_Net__befores : Addr
  fd_Net__befores : FuncData
  F_Net__befores : Fun K "befores" "Net.befores" s_Net__befores a_Net__befores fd_Net__befores
  b_Net__befores : Binds K fd_Net__befores ["self"] []
  a_Net__check_letters : Addr
  fd_Net__check_letters : FuncData
  F_Net__check_letters : Fun K "_check_letters" "Net._check_letters" s_Net__check_letters a_Net__check_letters fd_Net__check_letters
  b_Net__check_letters : Binds K fd_Net__check_letters ["self"] []
  a_Net__check_places : Addr
  fd_Net__check_places : FuncData
  F_Net__check_places : Fun K "_check_places" "Net._check_places" s_Net__check_places a_Net__check_places fd_Net__check_places
  b_Net__check_places : Binds K fd_Net__check_places ["self"] []
  a_Net__take_befores : Addr
  fd_Net__take_befores : FuncData
  F_Net__take_befores : Fun K "_take_befores" "Net._take_befores" s_Net__take_befores a_Net__take_befores fd_Net__take_befores
  b_Net__take_befores : Binds K fd_Net__take_befores ["self", "befores"] []
  a_Net__init : Addr
  fd_Net__init : FuncData
  F_Net__init : FunD K "__init__" "Net.__init__" (defArgs s_Net__init) (defBody s_Net__init) (defScope s_Net__init) [] [("befores", .non), ("letters", .non)] a_Net__init fd_Net__init
  kg_Net__init : List Value → List Value → List Value
  kb_Net__init : KBn K fd_Net__init ["self", "size", "nexts", "befores", "letters"] 3 ["befores", "letters"] kg_Net__init (fun vs zs => vs ++ zs)
  bd_Net__init : List Value
  bv_Net__init : Vals [.non, .non] bd_Net__init
  b1_Net__init : Binds K fd_Net__init ["self", "size", "nexts", "befores", "letters"] bd_Net__init
  a_NoHouse__init : Addr
  fd_NoHouse__init : FuncData
  F_NoHouse__init : Fun K "__init__" "NoHouse.__init__" s_NoHouse__init a_NoHouse__init fd_NoHouse__init
  b_NoHouse__init : Binds K fd_NoHouse__init ["self", "place"] []
  a_OffCircle__init : Addr
  fd_OffCircle__init : FuncData
  F_OffCircle__init : Fun K "__init__" "OffCircle.__init__" s_OffCircle__init a_OffCircle__init fd_OffCircle__init
  b_OffCircle__init : Binds K fd_OffCircle__init ["self", "place"] []
  a_TakenPlace__init : Addr
  fd_TakenPlace__init : FuncData
  F_TakenPlace__init : Fun K "__init__" "TakenPlace.__init__" s_TakenPlace__init a_TakenPlace__init fd_TakenPlace__init
  b_TakenPlace__init : Binds K fd_TakenPlace__init ["self", "place"] []
  a_StillNamed__init : Addr
  fd_StillNamed__init : FuncData
  F_StillNamed__init : Fun K "__init__" "StillNamed.__init__" s_StillNamed__init a_StillNamed__init fd_StillNamed__init
  b_StillNamed__init : Binds K fd_StillNamed__init ["self", "place"] []
  a__law_read : Addr
  fd__law_read : FuncData
  F__law_read : Fun K "_law_read" "_law_read" s__law_read a__law_read fd__law_read
  b__law_read : Binds K fd__law_read ["size", "nexts", "behinds", "post", "at"] []
  g__law_read : mg "_law_read" = some (.ref a__law_read)
  a__law_places : Addr
  fd__law_places : FuncData
  F__law_places : Fun K "_law_places" "_law_places" s__law_places a__law_places fd__law_places
  b__law_places : Binds K fd__law_places ["tape", "size", "count"] []
  g__law_places : mg "_law_places" = some (.ref a__law_places)
  C_House : Addr
  mc_House : mg "House" = some (.ref C_House)
  cl_House : Cls K C_House
  na_House_size : NoAttr K C_House "size"
  na_House_place : NoAttr K C_House "place"
  na_House_next_house : NoAttr K C_House "next_house"
  na_House_before : NoAttr K C_House "before"
  mk_House : Mk K C_House a_House__init
  me_House__tell_letter : Meth K C_House "tell_letter" a_House__tell_letter
  me_House__ask_letter : Meth K C_House "ask_letter" a_House__ask_letter
  me_House__answer_to : Meth K C_House "_answer_to" a_House__answer_to
  me_House__hear_tell : Meth K C_House "_hear_tell" a_House__hear_tell
  me_House__hear_answer : Meth K C_House "_hear_answer" a_House__hear_answer
  me_House__hear : Meth K C_House "hear" a_House__hear
  C_Net : Addr
  mc_Net : mg "Net" = some (.ref C_Net)
  cl_Net : Cls K C_Net
  na_Net_size : NoAttr K C_Net "size"
  na_Net__nexts : NoAttr K C_Net "_nexts"
  na_Net__befores : NoAttr K C_Net "_befores"
  na_Net__letters : NoAttr K C_Net "_letters"
  me_Net__next_of : Meth K C_Net "next_of" a_Net__next_of
  me_Net__before_of : Meth K C_Net "before_of" a_Net__before_of
  me_Net__hold : Meth K C_Net "hold" a_Net__hold
  me_Net__set_before : Meth K C_Net "set_before" a_Net__set_before
  me_Net__admit : Meth K C_Net "admit" a_Net__admit
  me_Net__take_out : Meth K C_Net "take_out" a_Net__take_out
  me_Net__is_named : Meth K C_Net "_is_named" a_Net__is_named
  me_Net__check_free : Meth K C_Net "check_free" a_Net__check_free
  me_Net__snapshot : Meth K C_Net "snapshot" a_Net__snapshot
  me_Net__houses : Meth K C_Net "houses" a_Net__houses
  me_Net__tell : Meth K C_Net "tell" a_Net__tell
  me_Net__ask : Meth K C_Net "ask" a_Net__ask
  me_Net__repeat : Meth K C_Net "repeat" a_Net__repeat
  me_Net__lose : Meth K C_Net "lose" a_Net__lose
  me_Net__read : Meth K C_Net "read" a_Net__read
  me_Net__check_house : Meth K C_Net "check_house" a_Net__check_house
  me_Net__check_letter : Meth K C_Net "_check_letter" a_Net__check_letter
  me_Net__house_at : Meth K C_Net "_house_at" a_Net__house_at
  me_Net__send : Meth K C_Net "_send" a_Net__send
  me_Net__letters : Meth K C_Net "letters" a_Net__letters
  me_Net__nexts : Meth K C_Net "nexts" a_Net__nexts
  me_Net__befores : Meth K C_Net "befores" a_Net__befores
  me_Net__check_letters : Meth K C_Net "_check_letters" a_Net__check_letters
  me_Net__check_places : Meth K C_Net "_check_places" a_Net__check_places
  me_Net__take_befores : Meth K C_Net "_take_befores" a_Net__take_befores
  mk_Net : Mk K C_Net a_Net__init
  C_StillNamed : Addr
  mc_StillNamed : mg "StillNamed" = some (.ref C_StillNamed)
  C_TakenPlace : Addr
  mc_TakenPlace : mg "TakenPlace" = some (.ref C_TakenPlace)
  C_OffCircle : Addr
  mc_OffCircle : mg "OffCircle" = some (.ref C_OffCircle)
  C_NoHouse : Addr
  mc_NoHouse : mg "NoHouse" = some (.ref C_NoHouse)
  C_RingError : Addr
  mc_RingError : mg "RingError" = some (.ref C_RingError)
  C_NotBetween : Addr
  mc_NotBetween : mg "NotBetween" = some (.ref C_NotBetween)
  C_SamePiece : Addr
  mc_SamePiece : mg "SamePiece" = some (.ref C_SamePiece)
  C_NotQuiet : Addr
  mc_NotQuiet : mg "NotQuiet" = some (.ref C_NotQuiet)
  C_NotAtRest : Addr
  mc_NotAtRest : mg "NotAtRest" = some (.ref C_NotAtRest)
  C_Untold : Addr
  mc_Untold : mg "Untold" = some (.ref C_Untold)
  C_NoLetter : Addr
  mc_NoLetter : mg "NoLetter" = some (.ref C_NoLetter)
  C_BadText : Addr
  mc_BadText : mg "BadText" = some (.ref C_BadText)
  er_StillNamed : ErrC K C_StillNamed
  ox_StillNamed : OexC K C_StillNamed
  mi_StillNamed : PySem.W.findIn K (.ref C_StillNamed) "__init__" = some (some (.ref a_StillNamed__init))
  ti_StillNamed : PySem.W.typeIn K (.ref a_StillNamed__init) = some (.type "function")
  na_StillNamed_place : PySem.W.findIn K (.ref C_StillNamed) "place" = some none
  ki_StillNamed_StillNamed : PySem.W.kitOne K (.ref C_StillNamed) (.ref C_StillNamed) = some true
  ex_StillNamed_StillNamed : PySem.W.exmOne K (.ref C_StillNamed) (.ref C_StillNamed) = some true
  ki_StillNamed_TakenPlace : PySem.W.kitOne K (.ref C_StillNamed) (.ref C_TakenPlace) = some false
  ex_StillNamed_TakenPlace : PySem.W.exmOne K (.ref C_StillNamed) (.ref C_TakenPlace) = some false
  ki_StillNamed_OffCircle : PySem.W.kitOne K (.ref C_StillNamed) (.ref C_OffCircle) = some false
  ex_StillNamed_OffCircle : PySem.W.exmOne K (.ref C_StillNamed) (.ref C_OffCircle) = some false
  ki_StillNamed_NoHouse : PySem.W.kitOne K (.ref C_StillNamed) (.ref C_NoHouse) = some false
  ex_StillNamed_NoHouse : PySem.W.exmOne K (.ref C_StillNamed) (.ref C_NoHouse) = some false
  ki_StillNamed_RingError : PySem.W.kitOne K (.ref C_StillNamed) (.ref C_RingError) = some true
  ex_StillNamed_RingError : PySem.W.exmOne K (.ref C_StillNamed) (.ref C_RingError) = some true
  ki_StillNamed_NotBetween : PySem.W.kitOne K (.ref C_StillNamed) (.ref C_NotBetween) = some false
  ex_StillNamed_NotBetween : PySem.W.exmOne K (.ref C_StillNamed) (.ref C_NotBetween) = some false
  ki_StillNamed_SamePiece : PySem.W.kitOne K (.ref C_StillNamed) (.ref C_SamePiece) = some false
  ex_StillNamed_SamePiece : PySem.W.exmOne K (.ref C_StillNamed) (.ref C_SamePiece) = some false
  ki_StillNamed_NotQuiet : PySem.W.kitOne K (.ref C_StillNamed) (.ref C_NotQuiet) = some false
  ex_StillNamed_NotQuiet : PySem.W.exmOne K (.ref C_StillNamed) (.ref C_NotQuiet) = some false
  ki_StillNamed_NotAtRest : PySem.W.kitOne K (.ref C_StillNamed) (.ref C_NotAtRest) = some false
  ex_StillNamed_NotAtRest : PySem.W.exmOne K (.ref C_StillNamed) (.ref C_NotAtRest) = some false
  ki_StillNamed_Untold : PySem.W.kitOne K (.ref C_StillNamed) (.ref C_Untold) = some false
  ex_StillNamed_Untold : PySem.W.exmOne K (.ref C_StillNamed) (.ref C_Untold) = some false
  ki_StillNamed_NoLetter : PySem.W.kitOne K (.ref C_StillNamed) (.ref C_NoLetter) = some false
  ex_StillNamed_NoLetter : PySem.W.exmOne K (.ref C_StillNamed) (.ref C_NoLetter) = some false
  ki_StillNamed_BadText : PySem.W.kitOne K (.ref C_StillNamed) (.ref C_BadText) = some false
  ex_StillNamed_BadText : PySem.W.exmOne K (.ref C_StillNamed) (.ref C_BadText) = some false
  ki_StillNamed_ValueError : PySem.W.kitOne K (.ref C_StillNamed) (.type "ValueError") = some true
  er_TakenPlace : ErrC K C_TakenPlace
  ox_TakenPlace : OexC K C_TakenPlace
  mi_TakenPlace : PySem.W.findIn K (.ref C_TakenPlace) "__init__" = some (some (.ref a_TakenPlace__init))
  ti_TakenPlace : PySem.W.typeIn K (.ref a_TakenPlace__init) = some (.type "function")
  na_TakenPlace_place : PySem.W.findIn K (.ref C_TakenPlace) "place" = some none
  ki_TakenPlace_StillNamed : PySem.W.kitOne K (.ref C_TakenPlace) (.ref C_StillNamed) = some false
  ex_TakenPlace_StillNamed : PySem.W.exmOne K (.ref C_TakenPlace) (.ref C_StillNamed) = some false
  ki_TakenPlace_TakenPlace : PySem.W.kitOne K (.ref C_TakenPlace) (.ref C_TakenPlace) = some true
  ex_TakenPlace_TakenPlace : PySem.W.exmOne K (.ref C_TakenPlace) (.ref C_TakenPlace) = some true
  ki_TakenPlace_OffCircle : PySem.W.kitOne K (.ref C_TakenPlace) (.ref C_OffCircle) = some false
  ex_TakenPlace_OffCircle : PySem.W.exmOne K (.ref C_TakenPlace) (.ref C_OffCircle) = some false
  ki_TakenPlace_NoHouse : PySem.W.kitOne K (.ref C_TakenPlace) (.ref C_NoHouse) = some false
  ex_TakenPlace_NoHouse : PySem.W.exmOne K (.ref C_TakenPlace) (.ref C_NoHouse) = some false
  ki_TakenPlace_RingError : PySem.W.kitOne K (.ref C_TakenPlace) (.ref C_RingError) = some true
  ex_TakenPlace_RingError : PySem.W.exmOne K (.ref C_TakenPlace) (.ref C_RingError) = some true
  ki_TakenPlace_NotBetween : PySem.W.kitOne K (.ref C_TakenPlace) (.ref C_NotBetween) = some false
  ex_TakenPlace_NotBetween : PySem.W.exmOne K (.ref C_TakenPlace) (.ref C_NotBetween) = some false
  ki_TakenPlace_SamePiece : PySem.W.kitOne K (.ref C_TakenPlace) (.ref C_SamePiece) = some false
  ex_TakenPlace_SamePiece : PySem.W.exmOne K (.ref C_TakenPlace) (.ref C_SamePiece) = some false
  ki_TakenPlace_NotQuiet : PySem.W.kitOne K (.ref C_TakenPlace) (.ref C_NotQuiet) = some false
  ex_TakenPlace_NotQuiet : PySem.W.exmOne K (.ref C_TakenPlace) (.ref C_NotQuiet) = some false
  ki_TakenPlace_NotAtRest : PySem.W.kitOne K (.ref C_TakenPlace) (.ref C_NotAtRest) = some false
  ex_TakenPlace_NotAtRest : PySem.W.exmOne K (.ref C_TakenPlace) (.ref C_NotAtRest) = some false
  ki_TakenPlace_Untold : PySem.W.kitOne K (.ref C_TakenPlace) (.ref C_Untold) = some false
  ex_TakenPlace_Untold : PySem.W.exmOne K (.ref C_TakenPlace) (.ref C_Untold) = some false
  ki_TakenPlace_NoLetter : PySem.W.kitOne K (.ref C_TakenPlace) (.ref C_NoLetter) = some false
  ex_TakenPlace_NoLetter : PySem.W.exmOne K (.ref C_TakenPlace) (.ref C_NoLetter) = some false
  ki_TakenPlace_BadText : PySem.W.kitOne K (.ref C_TakenPlace) (.ref C_BadText) = some false
  ex_TakenPlace_BadText : PySem.W.exmOne K (.ref C_TakenPlace) (.ref C_BadText) = some false
  ki_TakenPlace_ValueError : PySem.W.kitOne K (.ref C_TakenPlace) (.type "ValueError") = some true
  er_OffCircle : ErrC K C_OffCircle
  ox_OffCircle : OexC K C_OffCircle
  mi_OffCircle : PySem.W.findIn K (.ref C_OffCircle) "__init__" = some (some (.ref a_OffCircle__init))
  ti_OffCircle : PySem.W.typeIn K (.ref a_OffCircle__init) = some (.type "function")
  na_OffCircle_place : PySem.W.findIn K (.ref C_OffCircle) "place" = some none
  ki_OffCircle_StillNamed : PySem.W.kitOne K (.ref C_OffCircle) (.ref C_StillNamed) = some false
  ex_OffCircle_StillNamed : PySem.W.exmOne K (.ref C_OffCircle) (.ref C_StillNamed) = some false
  ki_OffCircle_TakenPlace : PySem.W.kitOne K (.ref C_OffCircle) (.ref C_TakenPlace) = some false
  ex_OffCircle_TakenPlace : PySem.W.exmOne K (.ref C_OffCircle) (.ref C_TakenPlace) = some false
  ki_OffCircle_OffCircle : PySem.W.kitOne K (.ref C_OffCircle) (.ref C_OffCircle) = some true
  ex_OffCircle_OffCircle : PySem.W.exmOne K (.ref C_OffCircle) (.ref C_OffCircle) = some true
  ki_OffCircle_NoHouse : PySem.W.kitOne K (.ref C_OffCircle) (.ref C_NoHouse) = some false
  ex_OffCircle_NoHouse : PySem.W.exmOne K (.ref C_OffCircle) (.ref C_NoHouse) = some false
  ki_OffCircle_RingError : PySem.W.kitOne K (.ref C_OffCircle) (.ref C_RingError) = some true
  ex_OffCircle_RingError : PySem.W.exmOne K (.ref C_OffCircle) (.ref C_RingError) = some true
  ki_OffCircle_NotBetween : PySem.W.kitOne K (.ref C_OffCircle) (.ref C_NotBetween) = some false
  ex_OffCircle_NotBetween : PySem.W.exmOne K (.ref C_OffCircle) (.ref C_NotBetween) = some false
  ki_OffCircle_SamePiece : PySem.W.kitOne K (.ref C_OffCircle) (.ref C_SamePiece) = some false
  ex_OffCircle_SamePiece : PySem.W.exmOne K (.ref C_OffCircle) (.ref C_SamePiece) = some false
  ki_OffCircle_NotQuiet : PySem.W.kitOne K (.ref C_OffCircle) (.ref C_NotQuiet) = some false
  ex_OffCircle_NotQuiet : PySem.W.exmOne K (.ref C_OffCircle) (.ref C_NotQuiet) = some false
  ki_OffCircle_NotAtRest : PySem.W.kitOne K (.ref C_OffCircle) (.ref C_NotAtRest) = some false
  ex_OffCircle_NotAtRest : PySem.W.exmOne K (.ref C_OffCircle) (.ref C_NotAtRest) = some false
  ki_OffCircle_Untold : PySem.W.kitOne K (.ref C_OffCircle) (.ref C_Untold) = some false
  ex_OffCircle_Untold : PySem.W.exmOne K (.ref C_OffCircle) (.ref C_Untold) = some false
  ki_OffCircle_NoLetter : PySem.W.kitOne K (.ref C_OffCircle) (.ref C_NoLetter) = some false
  ex_OffCircle_NoLetter : PySem.W.exmOne K (.ref C_OffCircle) (.ref C_NoLetter) = some false
  ki_OffCircle_BadText : PySem.W.kitOne K (.ref C_OffCircle) (.ref C_BadText) = some false
  ex_OffCircle_BadText : PySem.W.exmOne K (.ref C_OffCircle) (.ref C_BadText) = some false
  ki_OffCircle_ValueError : PySem.W.kitOne K (.ref C_OffCircle) (.type "ValueError") = some true
  er_NoHouse : ErrC K C_NoHouse
  ox_NoHouse : OexC K C_NoHouse
  mi_NoHouse : PySem.W.findIn K (.ref C_NoHouse) "__init__" = some (some (.ref a_NoHouse__init))
  ti_NoHouse : PySem.W.typeIn K (.ref a_NoHouse__init) = some (.type "function")
  na_NoHouse_place : PySem.W.findIn K (.ref C_NoHouse) "place" = some none
  ki_NoHouse_StillNamed : PySem.W.kitOne K (.ref C_NoHouse) (.ref C_StillNamed) = some false
  ex_NoHouse_StillNamed : PySem.W.exmOne K (.ref C_NoHouse) (.ref C_StillNamed) = some false
  ki_NoHouse_TakenPlace : PySem.W.kitOne K (.ref C_NoHouse) (.ref C_TakenPlace) = some false
  ex_NoHouse_TakenPlace : PySem.W.exmOne K (.ref C_NoHouse) (.ref C_TakenPlace) = some false
  ki_NoHouse_OffCircle : PySem.W.kitOne K (.ref C_NoHouse) (.ref C_OffCircle) = some false
  ex_NoHouse_OffCircle : PySem.W.exmOne K (.ref C_NoHouse) (.ref C_OffCircle) = some false
  ki_NoHouse_NoHouse : PySem.W.kitOne K (.ref C_NoHouse) (.ref C_NoHouse) = some true
  ex_NoHouse_NoHouse : PySem.W.exmOne K (.ref C_NoHouse) (.ref C_NoHouse) = some true
  ki_NoHouse_RingError : PySem.W.kitOne K (.ref C_NoHouse) (.ref C_RingError) = some true
  ex_NoHouse_RingError : PySem.W.exmOne K (.ref C_NoHouse) (.ref C_RingError) = some true
  ki_NoHouse_NotBetween : PySem.W.kitOne K (.ref C_NoHouse) (.ref C_NotBetween) = some false
  ex_NoHouse_NotBetween : PySem.W.exmOne K (.ref C_NoHouse) (.ref C_NotBetween) = some false
  ki_NoHouse_SamePiece : PySem.W.kitOne K (.ref C_NoHouse) (.ref C_SamePiece) = some false
  ex_NoHouse_SamePiece : PySem.W.exmOne K (.ref C_NoHouse) (.ref C_SamePiece) = some false
  ki_NoHouse_NotQuiet : PySem.W.kitOne K (.ref C_NoHouse) (.ref C_NotQuiet) = some false
  ex_NoHouse_NotQuiet : PySem.W.exmOne K (.ref C_NoHouse) (.ref C_NotQuiet) = some false
  ki_NoHouse_NotAtRest : PySem.W.kitOne K (.ref C_NoHouse) (.ref C_NotAtRest) = some false
  ex_NoHouse_NotAtRest : PySem.W.exmOne K (.ref C_NoHouse) (.ref C_NotAtRest) = some false
  ki_NoHouse_Untold : PySem.W.kitOne K (.ref C_NoHouse) (.ref C_Untold) = some false
  ex_NoHouse_Untold : PySem.W.exmOne K (.ref C_NoHouse) (.ref C_Untold) = some false
  ki_NoHouse_NoLetter : PySem.W.kitOne K (.ref C_NoHouse) (.ref C_NoLetter) = some false
  ex_NoHouse_NoLetter : PySem.W.exmOne K (.ref C_NoHouse) (.ref C_NoLetter) = some false
  ki_NoHouse_BadText : PySem.W.kitOne K (.ref C_NoHouse) (.ref C_BadText) = some false
  ex_NoHouse_BadText : PySem.W.exmOne K (.ref C_NoHouse) (.ref C_BadText) = some false
  ki_NoHouse_ValueError : PySem.W.kitOne K (.ref C_NoHouse) (.type "ValueError") = some true
namespace T0
variable {K : PySem.W.Frag} {mg : Str → Option Value} (T : T0 K mg)
theorem k__law_nexts : PySem.W.keepIn K (.ref T.a__law_nexts) = true := T.F__law_nexts.kp
theorem k_Net__next_of : PySem.W.keepIn K (.ref T.a_Net__next_of) = true := T.F_Net__next_of.kp
theorem k_Net__before_of : PySem.W.keepIn K (.ref T.a_Net__before_of) = true := T.F_Net__before_of.kp
theorem k_Net__hold : PySem.W.keepIn K (.ref T.a_Net__hold) = true := T.F_Net__hold.kp
theorem k_Net__set_before : PySem.W.keepIn K (.ref T.a_Net__set_before) = true := T.F_Net__set_before.kp
theorem k_Net__admit : PySem.W.keepIn K (.ref T.a_Net__admit) = true := T.F_Net__admit.kp
theorem k_Net__take_out : PySem.W.keepIn K (.ref T.a_Net__take_out) = true := T.F_Net__take_out.kp
theorem k_Net__is_named : PySem.W.keepIn K (.ref T.a_Net__is_named) = true := T.F_Net__is_named.kp
theorem k_Net__check_free : PySem.W.keepIn K (.ref T.a_Net__check_free) = true := T.F_Net__check_free.kp
theorem k_Net__snapshot : PySem.W.keepIn K (.ref T.a_Net__snapshot) = true := T.F_Net__snapshot.kp
theorem k_Net__houses : PySem.W.keepIn K (.ref T.a_Net__houses) = true := T.F_Net__houses.kp
theorem k_Net__tell : PySem.W.keepIn K (.ref T.a_Net__tell) = true := T.F_Net__tell.kp
theorem k_Net__ask : PySem.W.keepIn K (.ref T.a_Net__ask) = true := T.F_Net__ask.kp
theorem k_Net__repeat : PySem.W.keepIn K (.ref T.a_Net__repeat) = true := T.F_Net__repeat.kp
theorem k_Net__lose : PySem.W.keepIn K (.ref T.a_Net__lose) = true := T.F_Net__lose.kp
theorem k_Net__read : PySem.W.keepIn K (.ref T.a_Net__read) = true := T.F_Net__read.kp
theorem k__law_far : PySem.W.keepIn K (.ref T.a__law_far) = true := T.F__law_far.kp
theorem k__law_between : PySem.W.keepIn K (.ref T.a__law_between) = true := T.F__law_between.kp
theorem k_far : PySem.W.keepIn K (.ref T.a_far) = true := T.F_far.kp
theorem k_between : PySem.W.keepIn K (.ref T.a_between) = true := T.F_between.kp
theorem k_check_on_circle : PySem.W.keepIn K (.ref T.a_check_on_circle) = true := T.F_check_on_circle.kp
theorem k__law_letter : PySem.W.keepIn K (.ref T.a__law_letter) = true := T.F__law_letter.kp
theorem k__law_plain : PySem.W.keepIn K (.ref T.a__law_plain) = true := T.F__law_plain.kp
theorem k__law_place : PySem.W.keepIn K (.ref T.a__law_place) = true := T.F__law_place.kp
theorem k__law_drawn : PySem.W.keepIn K (.ref T.a__law_drawn) = true := T.F__law_drawn.kp
theorem k__law_call : PySem.W.keepIn K (.ref T.a__law_call) = true := T.F__law_call.kp
theorem k__law_done : PySem.W.keepIn K (.ref T.a__law_done) = true := T.F__law_done.kp
theorem k__law_lost : PySem.W.keepIn K (.ref T.a__law_lost) = true := T.F__law_lost.kp
theorem k__law_named : PySem.W.keepIn K (.ref T.a__law_named) = true := T.F__law_named.kp
theorem k__law_admitted : PySem.W.keepIn K (.ref T.a__law_admitted) = true := T.F__law_admitted.kp
theorem k__law_due : PySem.W.keepIn K (.ref T.a__law_due) = true := T.F__law_due.kp
theorem k__law_says : PySem.W.keepIn K (.ref T.a__law_says) = true := T.F__law_says.kp
theorem k__law_step : PySem.W.keepIn K (.ref T.a__law_step) = true := T.F__law_step.kp
theorem k__law_freeing : PySem.W.keepIn K (.ref T.a__law_freeing) = true := T.F__law_freeing.kp
theorem k_law : PySem.W.keepIn K (.ref T.a_law) = true := T.F_law.kp
theorem k__law_tape : PySem.W.keepIn K (.ref T.a__law_tape) = true := T.F__law_tape.kp
theorem k__law_pick : PySem.W.keepIn K (.ref T.a__law_pick) = true := T.F__law_pick.kp
theorem k__law_size : PySem.W.keepIn K (.ref T.a__law_size) = true := T.F__law_size.kp
theorem k__law_same : PySem.W.keepIn K (.ref T.a__law_same) = true := T.F__law_same.kp
theorem k_House__init : PySem.W.keepIn K (.ref T.a_House__init) = true := T.F_House__init.kp
theorem k_House__tell_letter : PySem.W.keepIn K (.ref T.a_House__tell_letter) = true := T.F_House__tell_letter.kp
theorem k_House__ask_letter : PySem.W.keepIn K (.ref T.a_House__ask_letter) = true := T.F_House__ask_letter.kp
theorem k_House__answer_to : PySem.W.keepIn K (.ref T.a_House__answer_to) = true := T.F_House__answer_to.kp
theorem k_House__hear_tell : PySem.W.keepIn K (.ref T.a_House__hear_tell) = true := T.F_House__hear_tell.kp
theorem k_House__hear_answer : PySem.W.keepIn K (.ref T.a_House__hear_answer) = true := T.F_House__hear_answer.kp
theorem k_House__hear : PySem.W.keepIn K (.ref T.a_House__hear) = true := T.F_House__hear.kp
theorem k_Net__check_house : PySem.W.keepIn K (.ref T.a_Net__check_house) = true := T.F_Net__check_house.kp
theorem k_Net__check_letter : PySem.W.keepIn K (.ref T.a_Net__check_letter) = true := T.F_Net__check_letter.kp
theorem k_Net__house_at : PySem.W.keepIn K (.ref T.a_Net__house_at) = true := T.F_Net__house_at.kp
theorem k_Net__send : PySem.W.keepIn K (.ref T.a_Net__send) = true := T.F_Net__send.kp
theorem k_Net__letters : PySem.W.keepIn K (.ref T.a_Net__letters) = true := T.F_Net__letters.kp
theorem k_Net__nexts : PySem.W.keepIn K (.ref T.a_Net__nexts) = true := T.F_Net__nexts.kp
theorem k_Net__befores : PySem.W.keepIn K (.ref T.a_Net__befores) = true := T.F_Net__befores.kp
theorem k_Net__check_letters : PySem.W.keepIn K (.ref T.a_Net__check_letters) = true := T.F_Net__check_letters.kp
theorem k_Net__check_places : PySem.W.keepIn K (.ref T.a_Net__check_places) = true := T.F_Net__check_places.kp
theorem k_Net__take_befores : PySem.W.keepIn K (.ref T.a_Net__take_befores) = true := T.F_Net__take_befores.kp
theorem k_Net__init : PySem.W.keepIn K (.ref T.a_Net__init) = true := T.F_Net__init.kp
theorem k_NoHouse__init : PySem.W.keepIn K (.ref T.a_NoHouse__init) = true := T.F_NoHouse__init.kp
theorem k_OffCircle__init : PySem.W.keepIn K (.ref T.a_OffCircle__init) = true := T.F_OffCircle__init.kp
theorem k_TakenPlace__init : PySem.W.keepIn K (.ref T.a_TakenPlace__init) = true := T.F_TakenPlace__init.kp
theorem k_StillNamed__init : PySem.W.keepIn K (.ref T.a_StillNamed__init) = true := T.F_StillNamed__init.kp
theorem k__law_read : PySem.W.keepIn K (.ref T.a__law_read) = true := T.F__law_read.kp
theorem k__law_places : PySem.W.keepIn K (.ref T.a__law_places) = true := T.F__law_places.kp
end T0
theorem un1 {k : Nat} {A : Around} (r : Room k A) : A.units + 1 < cLine := by have := r.un; omega
theorem iteT' {b : Bool} {A B : Prop} (h : b = true) (a : A) : if b = true then A else B := by rw [if_pos h]; exact a
theorem iteF' {b : Bool} {A B : Prop} (h : b = false) (a : B) : if b = true then A else B := by rw [if_neg (by rw [h]; exact Bool.false_ne_true)]; exact a
theorem small1000' {n : Nat} (h : n ≤ 100000) : n < sizeLine := Nat.lt_of_le_of_lt h (by decide)
theorem upd_self {H : Hp} {t : Addr} {o : HO} (h : H t = Option.some o) : H = upd H t o := by
  funext b
  unfold upd
  split
  · rename_i e
    rw [e, h]
  · rfl
theorem at_ints {cs : List Int} {a : Nat} (h : a < cs.length) : atI (cs.map V.int) (a : Int) = Option.some (.int (cs[a])) := by
  refine atI_nat ?_
  rw [List.getElem?_map, List.getElem?_eq_getElem h]
  rfl
theorem at_getD {cs : List Int} {a : Nat} (h : a < cs.length) : atI (cs.map V.int) (a : Int) = Option.some (.int (cs.getD a 0)) := by
  refine atI_nat ?_
  rw [List.getElem?_map, List.getElem?_eq_getElem h, List.getD_eq_getElem?_getD, List.getElem?_eq_getElem h]
  rfl
theorem fmod_range (x : Int) {n : Int} (h : 0 < n) : 0 ≤ x.fmod n ∧ x.fmod n < n := ⟨Int.fmod_nonneg_of_pos x h, Int.fmod_lt_of_pos x h⟩
theorem mod_small (x : Int) {m : Int} (h : 0 < m) (h2 : m ≤ 9223372036854775808) : -(2 ^ 64) < x.fmod m ∧ x.fmod m < 2 ^ 64 := by
  have h3 := Int.fmod_nonneg_of_pos x h
  have h4 := Int.fmod_lt_of_pos x h
  constructor <;> omega
theorem cdivn (x : Int) {n : Int} (h : 0 < n) (h2 : n ≤ 1000000001) : CDivN x n := ⟨by omega, by omega⟩
theorem cdivw (x : Int) {n : Int} (h : 0 < n) (h2 : n ≤ 4000000000) : CDivW x n := wide_div (b := 63) h (by omega) (by decide) (by decide)
local macro_rules | `(tactic| walk_at "side") => `(tactic| first
  | with_reducible assumption
  | decide
  | ((with_reducible apply mod_small) <;> decide)
  | exact Or.inl ⟨by decide, by decide⟩
  | (apply Or.inl; (with_reducible apply mod_small) <;> decide)
  | exact Or.inr ⟨by decide, by decide⟩
  | ((with_reducible apply cdivn) <;> first | decide | omega)
  | ((with_reducible apply cdivw) <;> first | decide | omega)
  | (dsimp only; first | decide | omega)
  | exact ⟨by dsimp only; first | decide | omega, by dsimp only; first | decide | omega⟩)
local macro_rules | `(tactic| walk_at "go1") => `(tactic| first
  | refine ⟨_, rfl, ?_⟩
  | refine ⟨_, _, rfl, rfl, ?_⟩
  | refine Or.inl ⟨_, rfl, ?_⟩
  | refine ⟨_, _, _, _, rfl, rfl, (by first | assumption | exact SqL.of (by assumption) | exact upd_same | exact SqL.of upd_same), (by rfl), ?_⟩
  | refine ⟨rfl, ?_⟩
  | refine ⟨(show (_ : Prop) from by walk_at "side"), ?_⟩)
local macro_rules | `(tactic| walk_at "go") => `(tactic| repeat (walk_at "go1"))
section
variable {X : Cx} {K : PySem.W.Frag}
theorem ix_listK (h : X.K = K := by rfl) : IxR X (rIxL K) := by subst h; exact ix_list
theorem ix_tupK (h : X.K = K := by rfl) : IxR X (rIxT K) := by subst h; exact ix_tup
theorem ix_seqK (h : X.K = K := by rfl) : IxR X (rIx K) := by subst h; exact ix_seq
theorem sl_listK (h : X.K = K := by rfl) : SlR X (rSlL K) := by subst h; exact sl_list
theorem sl_tupK (h : X.K = K := by rfl) : SlR X (rSlT K) := by subst h; exact sl_tup
theorem op_in_seqK (h : X.K = K := by rfl) : OpR X (compareOp .In) (rIn K false) := by subst h; exact op_in_seq
theorem op_notIn_seqK (h : X.K = K := by rfl) : OpR X (compareOp .NotIn) (rIn K true) := by subst h; exact op_notIn_seq
def rLen (K : PySem.W.Frag) : List V → Hp → VK → Prop := fun xs H Q => ∃ p ys, xs = [.ref p] ∧ (SqL K H p ys ∨ SqT K H p ys) ∧ Q (.int ys.length) H
theorem call_lenK (h : X.K = K := by rfl) : CallR X (.builtin "len") (rLen K) := by subst h; exact call_len_seq
def rListOf (K : PySem.W.Frag) : List V → Hp → VK → Prop := fun xs H Q => ∃ p ys, xs = [.ref p] ∧ (SqL K H p ys ∨ SqT K H p ys) ∧ ∀ l, H l = none → Q (.ref l) (upd H l (.lst ys))
theorem call_list_ofK (h : X.K = K := by rfl) : CallR X (.type "list") (rListOf K) := by subst h; exact call_list_of
def rTupleOf (K : PySem.W.Frag) : List V → Hp → VK → Prop := fun xs H Q => ∃ p ys, xs = [.ref p] ∧ ((SqL K H p ys ∧ ∀ l, H l = none → Q (.ref l) (upd H l (.tup ys))) ∨ (SqT K H p ys ∧ Q (.ref p) H))
theorem call_tuple_ofK (h : X.K = K := by rfl) : CallR X (.type "tuple") (rTupleOf K) := by subst h; exact call_tuple_of
theorem call_isinstK (h : X.K = K := by rfl) : CallR X (.builtin "isinstance") (rIsi K) := by subst h; exact call_isi
theorem cr_sortedK (h : X.K = K := by rfl) : CallR X (.builtin "sorted") (rSorted K) := by subst h; exact cr_sorted
theorem call_sumK (hc : X.calm = true := by rfl) (h : X.K = K := by rfl) : CallR X (.builtin "sum") (rSum K) := by subst h; exact cr_sum hc
end
section
variable {σ : L2.St} {H : Hp} {ta tb tc : TE} {x y z : V}
theorem val_I0 {g : Int → Int → V} {i j : Int} (ha : Val ta σ H (.int i)) (hb : Val tb σ H (.int j)) : Val (tOp (rI0 g) ta tb) σ H (g i j) := fun _ q => ha _ (hb _ ⟨i, j, rfl, rfl, q⟩)
theorem val_I {C : Int → Int → Prop} {g : Int → Int → V} {i j : Int} (ha : Val ta σ H (.int i)) (hb : Val tb σ H (.int j)) (hc : C i j) : Val (tOp (rI C g) ta tb) σ H (g i j) := fun _ q => ha _ (hb _ ⟨i, j, rfl, rfl, hc, q⟩)
theorem val_eq (ha : Val ta σ H x) (hb : Val tb σ H y) (hs : scal x y = true) : Val (tOp rEq ta tb) σ H (.bl (decide (x = y))) := fun _ q => ha _ (hb _ ⟨hs, q⟩)
theorem val_ne (ha : Val ta σ H x) (hb : Val tb σ H y) (hs : scal x y = true) : Val (tOp rNe ta tb) σ H (.bl (!decide (x = y))) := fun _ q => ha _ (hb _ ⟨hs, q⟩)
theorem val_chain {g : Int → Int → Bool} {g' : Int → Int → Bool} {i j k : Int} (ha : Val ta σ H (.int i)) (hb : Val tb σ H (.int j)) (hc : Val tc σ H (.int k)) :
    Val (tChain (rI0 fun i j => .bl (g i j)) (rI0 fun i j => .bl (g' i j)) ta tb tc) σ H (.bl (g i j && g' j k)) := fun Q q => ha _ (hb _ ⟨i, j, rfl, rfl, _, rfl, by
  cases e : g i j with
  | true =>
    refine iteT (hc _ ⟨j, k, rfl, rfl, ?_⟩)
    rw [e] at q
    exact q
  | false =>
    rw [e] at q
    exact iteF q⟩)
theorem val_ixL {K : PySem.W.Frag} {p : Addr} {xs : List V} {i : Int} (ha : Val ta σ H (.ref p)) (hb : Val tb σ H (.int i)) (h : SqL K H p xs) (h2 : atI xs i = Option.some x) : Val (tOp (rIxL K) ta tb) σ H x := fun _ q => ha _ (hb _ ⟨p, xs, i, x, rfl, rfl, h, h2, q⟩)
theorem val_ixT {K : PySem.W.Frag} {p : Addr} {xs : List V} {i : Int} (ha : Val ta σ H (.ref p)) (hb : Val tb σ H (.int i)) (h : SqT K H p xs) (h2 : atI xs i = Option.some x) : Val (tOp (rIxT K) ta tb) σ H x := fun _ q => ha _ (hb _ ⟨p, xs, i, x, rfl, rfl, h, h2, q⟩)
theorem val_andV {a b : Bool} (ha : Val ta σ H (.bl a)) (hb : a = true → Val tb σ H (.bl b)) : Val (tAndV ta tb) σ H (.bl (a && b)) := fun Q q => ha _ ⟨a, rfl, by
  cases a with
  | true => exact iteT (hb rfl _ q)
  | false => exact iteF q⟩
theorem val_orV {a b : Bool} (ha : Val ta σ H (.bl a)) (hb : a = false → Val tb σ H (.bl b)) : Val (tOrV ta tb) σ H (.bl (a || b)) := fun Q q => ha _ ⟨a, rfl, by
  cases a with
  | true => exact iteT q
  | false => exact iteF (hb rfl _ q)⟩
theorem val_notV {a : Bool} (ha : Val ta σ H (.bl a)) : Val (tNotV ta) σ H (.bl (!a)) := fun _ q => ha _ ⟨a, rfl, q⟩
def ValA (ta : TA) (σ : L2.St) (H : Hp) (vs : List V) : Prop := ∀ Q : List V → Hp → Prop, Q vs H → ta σ H Q
theorem valA_nil : ValA tNil σ H [] := fun _ q => q
theorem valA_cons {tr : TA} {vs : List V} (h : Val ta σ H x) (hr : ValA tr σ H vs) : ValA (tCons ta tr) σ H (x :: vs) := fun _ q => h _ (hr _ q)
theorem go_lst {tr : TA} {vs : List V} {Q : VK} (h : ValA tr σ H vs) (hz : vs.length ≤ 100000) (q : ∀ p, H p = none → Q (.ref p) (upd H p (.lst vs))) : tLst tr σ H Q := h _ ⟨Nat.le_trans hz (by decide), q⟩
theorem go_tup {tr : TA} {vs : List V} {Q : VK} (h : ValA tr σ H vs) (hz : vs.length ≤ 100000) (q : ∀ p, H p = none → Q (.ref p) (upd H p (.tup vs))) : tTup tr σ H Q := h _ ⟨Nat.le_trans hz (by decide), q⟩
theorem val_call {tr : TA} {vs : List V} {sp : Sp} {dvs : List V} {E : XK} (h : ValA tr σ H vs) (hs : ∀ Q : VK, Q x H → sp (vs ++ dvs) H Q E) : Val (tCall sp dvs E tr) σ H x := fun _ q => h _ (hs _ q)
theorem val_cb {tr : TA} {vs : List V} {r : List V → Hp → VK → Prop} (h : ValA tr σ H vs) (hs : ∀ Q : VK, Q x H → r vs H Q) : Val (tCB r tr) σ H x := fun _ q => h _ (hs _ q)
variable {D : Ends} {tz tu tw : TS} {i : Nat} {tt tv : TT}
theorem o_asg (h : ta σ H fun v H' => tz D (σ.set i (some v)) H') : tSeq (tAsg ta (gName i)) tz D σ H := h
theorem o_ret (h : ta σ H D.rt) : tRet ta D σ H := h
theorem o_drop (h : ta σ H fun _ H' => tz D σ H') : tSeq (tDrop ta) tz D σ H := h
theorem v_asg (h : Val ta σ H x) (k : tz D (σ.set i (some x)) H) : tSeq (tAsg ta (gName i)) tz D σ H := h _ k
theorem v_asg1 (h : Val ta σ H x) (k : D.nx (σ.set i (some x)) H) : tAsg ta (gName i) D σ H := h _ k
theorem lc_yes {A B : Hp → Prop} (h : A H) : tYes σ H (fun b H3 => if b = true then A H3 else B H3) := by show (if true = true then A H else B H); exact iteT h
theorem g_name {v : V} {Q : L2.St → Hp → Prop} (h : Q (σ.set i (some v)) H) : gName i v σ H Q := h
theorem v_ret (h : Val ta σ H x) (k : D.rt x H) : tRet ta D σ H := h _ k
theorem v_if {b : Bool} (h : Ans tt σ H b) (h1 : b = true → tu { D with nx := tz D } σ H) (h2 : b = false → tw { D with nx := tz D } σ H) : tSeq (tIfS tt tu tw) tz D σ H := h _ (by
  cases b with
  | true => exact iteT (h1 rfl)
  | false => exact iteF (h2 rfl))
theorem v_if1 {b : Bool} (h : Ans tt σ H b) (h1 : b = true → tu D σ H) (h2 : b = false → tw D σ H) : tIfS tt tu tw D σ H := h _ (by
  cases b with
  | true => exact iteT (h1 rfl)
  | false => exact iteF (h2 rfl))
/-- an if without else: the rest once more where the test says no -/
theorem v_when {b : Bool} (h : Ans tt σ H b) (h1 : b = true → tu { D with nx := tz D } σ H) (h2 : b = false → tz D σ H) : tSeq (tIfS tt tu tNext) tz D σ H := v_if h h1 h2
theorem ans_t {b : Bool} (h : Val ta σ H (.bl b)) : Ans (tTest ta) σ H b := fun _ q => h _ ⟨b, rfl, q⟩
theorem ans_b {b : Bool} (h : Val ta σ H (.bl b)) : Ans (tB ta) σ H b := fun _ q => h _ ⟨b, rfl, q⟩
theorem ans_a {a b : Bool} (h : Ans tt σ H a) (h2 : a = true → Ans tv σ H b) : Ans (tAnd tt tv) σ H (a && b) := fun _ q => h _ (by
  cases a with
  | true => exact iteT (h2 rfl _ q)
  | false => exact iteF q)
theorem ans_o {a b : Bool} (h : Ans tt σ H a) (h2 : a = false → Ans tv σ H b) : Ans (tOr tt tv) σ H (a || b) := fun _ q => h _ (by
  cases a with
  | true => exact iteT q
  | false => exact iteF (h2 rfl _ q))
theorem ans_n {a : Bool} (h : Ans tt σ H a) : Ans (tNot tt) σ H (!a) := fun _ q => h _ q
theorem Val.to (h : Val ta σ H x) (e : x = y) : Val ta σ H y := e ▸ h
theorem Val.go {Q : VK} (h : Val ta σ H x) (q : Q x H) : ta σ H Q := h Q q
end
local macro_rules | `(tactic| walk_at "sql") => `(tactic| first
  | with_reducible assumption
  | exact SqL.of (by assumption)
  | exact SqL.of upd_same)
local macro_rules | `(tactic| walk_at "sqt") => `(tactic| first
  | with_reducible assumption
  | exact SqT.of (by assumption)
  | exact SqT.of upd_same)
local macro_rules | `(tactic| walk_at "at") => `(tactic| first
  | with_reducible assumption
  | exact at_getD (by omega)
  | exact at_ints (by assumption)
  | rfl)
local macro_rules | `(tactic| walk_at "val") => `(tactic| first
  | with_reducible assumption
  | with_reducible exact val_c
  | ((with_reducible apply val_var); rfl)
  | ((with_reducible apply val_I0); (· walk_at "val"); (· walk_at "val"))
  | ((with_reducible apply val_I); (· walk_at "val"); (· walk_at "val"); (· walk_at "side"))
  | ((with_reducible apply val_eq); (· walk_at "val"); (· walk_at "val"); (· rfl))
  | ((with_reducible apply val_ne); (· walk_at "val"); (· walk_at "val"); (· rfl))
  | ((with_reducible apply val_chain); (· walk_at "val"); (· walk_at "val"); (· walk_at "val"))
  | ((with_reducible apply val_andV); (· walk_at "val"); (· intro _; walk_at "val"))
  | ((with_reducible apply val_orV); (· walk_at "val"); (· intro _; walk_at "val"))
  | ((with_reducible apply val_notV); (· walk_at "val"))
  | ((with_reducible apply val_ixL); (· walk_at "val"); (· walk_at "val"); (· walk_at "sql"); (· walk_at "at"))
  | ((with_reducible apply val_ixT); (· walk_at "val"); (· walk_at "val"); (· walk_at "sqt"); (· walk_at "at"))
  | with_reducible exact valA_nil
  | ((with_reducible apply valA_cons); (· walk_at "val"); (· walk_at "val"))
  | ((with_reducible apply val_cb); (· walk_at "val"); (· intro _ q; exact Or.inl ⟨_, rfl, q⟩))
  | ((with_reducible apply val_call); (· walk_at "val"); (· intro _ q; walk_at "sp")))
local macro_rules | `(tactic| walk_at "ans") => `(tactic| first
  | ((with_reducible apply ans_t); (· walk_at "val"))
  | ((with_reducible apply ans_b); (· walk_at "val"))
  | ((with_reducible apply ans_a); (· walk_at "ans"); (· intro _; walk_at "ans"))
  | ((with_reducible apply ans_o); (· walk_at "ans"); (· intro _; walk_at "ans"))
  | ((with_reducible apply ans_n); (· walk_at "ans")))
local macro_rules | `(tactic| walk_at "len") => `(tactic| first
  | (simp only [List.length_cons, List.length_nil, List.length_map, List.length_append]; omega)
  | assumption)
theorem Same.fresh {H H' : Hp} {p : Addr} {o : HO} (e : Same H H') (h : H p = Option.none) : Same H (upd H' p o) := fun a u ha => by
  rw [upd_ne (ne_of_none ha h)]
  exact e a u ha
theorem take_map_succ {xs : List Int} {j : Nat} {x : Int} (h : xs[j]? = Option.some x) : ((xs.take j).map V.int) ++ [.int x] = (xs.take (j + 1)).map V.int := by
  rw [List.take_add_one, h, List.map_append]
  rfl
theorem lenL {n : Nat} (h : n ≤ 100000) : n ≤ sizeLine := Nat.le_trans h (by decide)
theorem dec_int (i j : Int) : decide (V.int i = V.int j) = decide (i = j) := decide_eq_decide.mpr ⟨V.int.inj, congrArg V.int⟩
local macro_rules | `(tactic| walk_at "nf") => `(tactic| ((try refine g_name ?_); dsimp only [List.set_cons_zero, List.set_cons_succ]))
theorem lk0 {a : Str} {v : V} {r : List (Str × V)} : ((a, v) :: r).lookup a = Option.some v := by rw [List.lookup_cons_self]
theorem lk1 {a b : Str} {v : V} {r : List (Str × V)} (h : (a == b) = false) : ((b, v) :: r).lookup a = r.lookup a := by rw [List.lookup_cons, h]
theorem pf0 {a : Str} {v u : V} {r : List (Str × V)} : putF a v ((a, u) :: r) = (a, v) :: r := by
  unfold putF
  rw [if_pos rfl]
theorem pf1 {a b : Str} {v u : V} {r : List (Str × V)} (h : ¬ b = a) : putF a v ((b, u) :: r) = (b, u) :: putF a v r := by
  rw [putF, if_neg h]
theorem pfN {a : Str} {v : V} : putF a v [] = [(a, v)] := rfl
local macro_rules | `(tactic| walk_at "lk") => `(tactic| (repeat (rw [lk1 (by decide +kernel)])); first | exact lk0 | rfl)
local macro_rules | `(tactic| walk_at "pf") => `(tactic| repeat (first | rw [pfN] | rw [pf0] | rw [pf1 (by decide +kernel)]))
/-! ### a, b, *c = a tuple -/
theorem un_starT {prog : Program} {w : World} {A : Around} {E : Value → Shared → Prop} {s : Shared} {l : Addr} {items : Array Value} {i : Nat} {Q : List Value → Shared → Prop} (hl : IsTup s.heap l items) (hh : A.handled = none) (hi : i ≤ items.size) (hz : items.size ≤ 16384)
    (h : ∀ h₂ tk, Heap.ExtBut s.heap.objs.size s.heap h₂ → Q (items.toList.take i ++ [.ref h₂.objs.size]) { s with heap := h₂.push (seqObj "list" (items.toList.drop i).toArray 0), toks := tk }) : wpAny (model prog w) A (unpackItems (.ref l) (i + 1) (some i)) Q E s := by
  have hlt : l ≠ s.heap.objs.size := by obtain ⟨o, ho, _⟩ := hl; exact Nat.ne_of_lt (Heap.lt_size ho)
  have hll : l < s.heap.objs.size := by obtain ⟨o, ho, _⟩ := hl; exact Heap.lt_size ho
  unfold unpackItems
  refine wpAny_bind ?_
  unfold notIterableAtAll
  refine wpAny_bind (wpAny_specialOf hl.typeIs slot_tuple_iter.lookup ?_)
  refine wpAny_pure ?_
  simp only [Bool.false_eq_true, if_false]
  refine wpAny_bind (wpAny_holding (iter_tuple hl ?_))
  refine wpAny_bind (wpAny_holding (draw_tuple hlt i 0 _ _ ⟨_, Heap.get?_push_size _ rfl, rfl, rfl⟩ (hl.push _) (by omega) fun h₁ hit₁ hs₁ => ?_))
  have hl₁ : IsTup h₁ l items := (hl.push _).extBut hs₁.extBut hlt
  rw [Nat.zero_add] at hit₁
  have hit₁' := hit₁
  obtain ⟨oi, hoi, _⟩ := hit₁'
  have hl₁' := hl₁
  obtain ⟨ol, hol, _⟩ := hl₁'
  rw [List.drop_zero]
  have hfl : (items.toList.take i).length = i := by rw [List.length_take, Array.length_toList]; omega
  rw [if_neg (show ¬ ((items.toList.take i).length < i) by rw [hfl]; omega)]
  refine wpAny_bind (wpAny_holding (PySem.W.kun_collect (s := { s with heap := h₁ }) (T := "tuple_iterator") (.inr (.inr (.inr rfl))) (Walks.tuple (A := A.in1) hh s.heap.objs.size l hlt items) (fun j u st => st.1.typeIs) (k := i) (by omega) ⟨hit₁, hl₁⟩ (Heap.lt_size hoi) (Heap.lt_size hol) (fun h₂ tk hk => ?_) (by rw [sizeLine_eq]; omega)))
  have hrl : (items.toList.drop i).length = items.size - i := by rw [List.length_drop, Array.length_toList]
  show wpAny _ _ (if (items.toList.drop i).length < i + 1 - 1 - i then _ else _) _ _ _
  rw [if_neg (by rw [hrl]; omega)]
  show wpAny _ _ (newList ((items.toList.drop i).take ((items.toList.drop i).length - (i + 1 - 1 - i))) >>= fun d => pure (items.toList.take i ++ [d] ++ (items.toList.drop i).drop ((items.toList.drop i).length - (i + 1 - 1 - i)))) _ _ _
  have e0 : (items.toList.drop i).length - (i + 1 - 1 - i) = (items.toList.drop i).length := by omega
  rw [e0, List.take_length, List.drop_length]
  simp only [List.append_nil]
  have he : Heap.ExtBut s.heap.objs.size s.heap h₂ := fun b o hb e => hk b o hb (hs₁.extBut b o hb (Heap.get?_push_of_some _ e))
  exact wpAny_bind (wpAny_newList (wpAny_pure (h h₂ tk he)) (by rw [hrl, sizeLine_eq]; omega))
section
variable {X : Cx}
theorem pgs_star {t : Expr} {g : TG} {p : Pos} (h : PG X t g) (hs : (assignEach [.Starred t p] X.env).map (·.2) = [assign t X.env] := by rfl) : PGs X [.Starred t p] (gCons g gNil) := by
  refine ⟨fun pins s σ H vs us Q I r h' => ?_⟩
  obtain ⟨v, vr, e1, h'⟩ := h'
  subst e1
  cases r with
  | cons r rr =>
    rw [hs]
    refine assignInOrder_cons (thn (h.run pins s σ H _ _ _ I r h') fun _ s1 ⟨σ1, H1, I1, q1⟩ => ?_)
    obtain ⟨e, q1⟩ := q1
    subst e
    cases rr
    exact assignInOrder_nil ⟨σ1, H1, I1, q1⟩
def gStar (K : PySem.W.Frag) (i : Nat) (t : TGs) : TG := fun v σ H Q => ∃ a xs, v = .ref a ∧ SqT K H a xs ∧ i ≤ xs.length ∧ xs.length ≤ 1000 ∧ ∀ D, H D = none → t (xs.take i ++ [.ref D]) σ (upd H D (.lst (xs.drop i))) Q
theorem pg_star {es : List Expr} {k : Nat} {t : TGs} {i : Nat} {pos : Pos} (hc : X.calm = true) (h : PGs X es t) (hn : (assignEach es X.env).length = i + 1 := by rfl) (hst : (assignEach es X.env).findIdx? (·.1) = some i := by rfl) : PG X (.Tuple es k pos) (gStar X.K i t) := by
  refine ⟨fun pins s σ H v u Q I r hw => ?_⟩
  obtain ⟨a, xs, e1, hq, hi, hl, hw⟩ := hw
  subst e1
  cases r
  obtain ⟨its, rv, ht, hz⟩ := I.tuple hq
  rw [assign_Tuple]
  refine wpAny_bind (wpAny_standAt ?_)
  unfold unpack
  rw [hn, hst]
  have hlen : its.length = xs.length := rv.length.symm
  refine wpAny_bind (wpAny_holding (un_starT ht (I.ok.hd hc) (by simp [hlen, hi]) (by simp [hlen]; omega) fun h₂ tk he => ?_))
  have I1 : Inv X pins σ H { s with heap := h₂, toks := tk } := I.kept (t' := tk) fun b o e => he b o (Nat.ne_of_lt (Heap.lt_size e)) e
  have vd : Vals (xs.drop i) (its.drop i) := rv.drop i
  have hD : H h₂.objs.size = none := I1.hok.fresh (Nat.le_refl _)
  have I2 : Inv X pins σ (upd H h₂.objs.size (.lst (xs.drop i))) { s with heap := h₂.push (seqObj "list" (its.drop i).toArray 0), toks := tk } := I1.laid (t' := tk) (fun b u e => Heap.get?_push_of_some _ e) (Nat.le_refl _)
    (show ObjOk X.prog X.w _ _ _ (.lst (xs.drop i)) from ⟨by rw [List.length_drop, sizeLine_eq]; omega, its.drop i, 0, vd, Heap.get?_push_size _ rfl⟩)
  have vt : Vals (xs.take i ++ [.ref h₂.objs.size]) (its.take i ++ [.ref h₂.objs.size]) := (rv.take i).append (.cons rfl .nil)
  exact h.run pins _ σ _ _ _ Q I2 (by simpa using vt) (hw _ hD)
end
/-! ### dicts of ints -/
theorem seq_nat {n k : Nat} (h : k < n) : seqIndex? (k : Int) n = some k := by
  refine (ixN_seq (n := n) (i := k) (j := k) ?_).1
  unfold ixN
  rw [if_pos (by omega), if_pos (by omega), Int.toNat_natCast]
/-- a key that a row of pairs over a list without doubles does not have yet -/
theorem valV_none_of {f : Int → V} {ys : List Int} {y : Int} (h : y ∉ ys) : valV (ys.map fun z => ((Sum.inl z : Key), f z)) (Sum.inl y) = none := by
  induction ys with
  | nil => rfl
  | cons z r ih =>
    rw [List.map_cons, valV_neg (fun e => h (List.mem_cons.mpr (Or.inl (Sum.inl.inj e).symm))), ih (fun e => h (List.mem_cons_of_mem _ e))]
theorem not_in_take {ys : List Int} {i : Nat} {y : Int} (hn : ys.Nodup) (h : ys[i]? = some y) : y ∉ ys.take i := by
  intro hm
  obtain ⟨j, hj⟩ := List.mem_iff_getElem?.mp hm
  obtain ⟨hi, e⟩ := List.getElem?_eq_some_iff.mp h
  rw [List.getElem?_take] at hj
  split at hj
  · rename_i hlt
    obtain ⟨hj', e2⟩ := List.getElem?_eq_some_iff.mp hj
    have z : ys[j] = ys[i] := by rw [e2, e]
    have := (List.getElem_inj hn).mp z
    omega
  · cases hj
/-- a dict block over any walk -/
theorem dc_it {J : It} {n : Nat} {G : Hp → Prop} {Y : Nat → Hp → V → Hp → Prop} (w : Walk J n G Y) {g : TG} {tt : TT} {tk tv : TE} {vs : List Nat} {σ : L2.St} {H1 : Hp} {D : Addr} {Qd : Hp → Prop} (Pv : Nat → Hp → Prop) (h0 : Pv 0 (upd H1 D (.dK []))) (hG : ∀ i H, i ≤ n → Pv i H → G H)
    (hs : ∀ i x H H', i < n → Pv i H → Y i H x H' → g x (wipe σ vs) H' fun σ2 H2 => wipe σ2 vs = wipe σ vs ∧ tt σ2 H2 fun b H3 =>
      if b = true then tk σ2 H3 fun y H4 => tv σ2 H4 fun z H5 => ∃ kvs k, y = kV k ∧ H5 D = some (.dK kvs) ∧ kvs.length < sizeLine ∧ Pv (i + 1) (upd H5 D (.dK (putK kvs k z))) else Pv (i + 1) H3) (hd : ∀ H, Pv n H → Qd H) :
    ∃ W : Nat → Nat → Hp → Prop, (∃ m, W 0 m (upd H1 D (.dK []))) ∧ ∀ i m H, W i m H →
      (J.stop i H ∧ Qd H) ∨ (J.go i H ∧ ∃ Nx : Hp → Prop, (∀ H', Nx H' → ∃ m', m' < m ∧ W (i + 1) m' H') ∧ ∀ x H', J.yld i H x H' → g x (wipe σ vs) H' fun σ2 H2 => wipe σ2 vs = wipe σ vs ∧ tt σ2 H2 fun b H3 =>
        if b = true then tk σ2 H3 fun y H4 => tv σ2 H4 fun z H5 => ∃ kvs k, y = kV k ∧ H5 D = some (.dK kvs) ∧ kvs.length < sizeLine ∧ Nx (upd H5 D (.dK (putK kvs k z))) else Nx H3) := by
  refine ⟨fun i m H => i + m = n ∧ Pv i H, ⟨n, Nat.zero_add n, h0⟩, fun i m H hp => ?_⟩
  have q := hG i H (hp.1 ▸ Nat.le_add_right i m) hp.2
  cases m with
  | zero =>
    obtain ⟨rfl, p⟩ := hp
    exact .inl ⟨w.stops H q, hd H p⟩
  | succ m =>
    obtain ⟨e, p⟩ := hp
    have hi : i < n := by omega
    exact .inr ⟨w.goes i H hi q, Pv (i + 1), fun H' p' => ⟨m, Nat.lt_succ_self m, by omega, p'⟩, fun x H' y => hs i x H H' hi p (w.yields i H x H' hi q y)⟩
/-- a dict block over a list that the block leaves as it is -/
theorem dc_list {K : PySem.W.Frag} {a : Addr} {xs : List V} {g : TG} {tt : TT} {tk tv : TE} {vs : List Nat} {σ : L2.St} {H1 : Hp} {D : Addr} {Qd : Hp → Prop} (Pv : Nat → Hp → Prop) (h0 : Pv 0 (upd H1 D (.dK []))) (hl : ∀ i H, i ≤ xs.length → Pv i H → SqL K H a xs)
    (hs : ∀ i x H, xs[i]? = some x → Pv i H → g x (wipe σ vs) H fun σ2 H2 => wipe σ2 vs = wipe σ vs ∧ tt σ2 H2 fun b H3 =>
      if b = true then tk σ2 H3 fun y H4 => tv σ2 H4 fun z H5 => ∃ kvs k, y = kV k ∧ H5 D = some (.dK kvs) ∧ kvs.length < sizeLine ∧ Pv (i + 1) (upd H5 D (.dK (putK kvs k z))) else Pv (i + 1) H3) (hd : ∀ H, Pv xs.length H → Qd H) :
    ∃ W : Nat → Nat → Hp → Prop, (∃ m, W 0 m (upd H1 D (.dK []))) ∧ ∀ i m H, W i m H →
      ((Itl K a).stop i H ∧ Qd H) ∨ ((Itl K a).go i H ∧ ∃ Nx : Hp → Prop, (∀ H', Nx H' → ∃ m', m' < m ∧ W (i + 1) m' H') ∧ ∀ x H', (Itl K a).yld i H x H' → g x (wipe σ vs) H' fun σ2 H2 => wipe σ2 vs = wipe σ vs ∧ tt σ2 H2 fun b H3 =>
        if b = true then tk σ2 H3 fun y H4 => tv σ2 H4 fun z H5 => ∃ kvs k, y = kV k ∧ H5 D = some (.dK kvs) ∧ kvs.length < sizeLine ∧ Nx (upd H5 D (.dK (putK kvs k z))) else Nx H3) :=
  dc_it walk_list Pv h0 hl (fun i x H H' _ p y => by
    obtain ⟨rfl, e⟩ := y
    exact hs i x _ e p) hd
/-- an expression over a dict that is locked meanwhile -/
def tLock (te : TE) : TE := fun σ H Q => ∃ (d : Addr) (kvs : List (Key × V)), H d = some (.dK kvs) ∧ ∀ od, te σ (upd H d (.frz od (.dK kvs))) fun x H' => H' d = some (.frz od (.dK kvs)) ∧ Q x (upd H' d (.dK kvs))
theorem pe_lock {X : Cx} {e : Expr} {te : TE} (he : PE X e te) : PE X e (tLock te) := by
  refine ⟨fun pins s σ H Q I h => ?_⟩
  obtain ⟨d, kvs, hd, q⟩ := h
  have nf := I.nofrz hd trivial
  obtain ⟨od, J⟩ := I.lock hd trivial
  exact thn (he.run pins s σ _ _ J (q od)) fun u s1 ⟨x, H1, I1, r, h1, q1⟩ => ⟨x, _, I1.unlock h1 nf, r, q1⟩
/-! ### own errors: made, raised, caught, asked; defs called from a suite -/
/-- o.m(..) where what leaves it is wished for at the caller's slots -/
def tMethN (C : Addr) (m : Str) (sp : Sp) (E : L2.St → XK) (ta : TE) (t : TA) : TE := fun σ H Q => ta σ H fun x H1 => ∃ a dx fs, x = .ref a ∧ H1 a = some (.ins C dx fs) ∧ fs.lookup m = none ∧ t σ H1 fun vs H2 => sp (x :: vs) H2 Q (E σ)
section
variable {X : Cx} {CX : CXT} {lv : Nat} {g C : Addr} {gd : FuncData} {pn : List Str} {sp : Sp} {W : L2.St → XK} {x m : Str} {q0 q1 q2 : Pos} {u0 ob : Expr} {ur : List Expr} {to : TE} {ta : TA}
theorem pe_methN {pl : Sem Bool} (hob : PE X ob to) (cl : Cls X.K C) (me : Meth X.K C m g) (fn : FnOk X.prog X.w X.K X.mg X.base CX lv g gd pn sp) (room : Room lv X.A) (bi : Binds X.K gd pn []) (pass : ∀ σ, PassesAt CX X σ (W σ)) (har : PA X (u0 :: ur) ta)
    (st : starEach (u0 :: ur) X.env = (false, eval u0 X.env) :: starEach ur X.env := by rfl) (nokw : (backTo q2 (starEach ur X.env)).any (·.1) = false := by rfl)
    (ev : eval (.Call (.Attribute ob m q1) (u0 :: ur) [] q2) X.env = (do
      let r ← eval ob X.env
      standAt q1.atName
      let (k, fst) ← holding [r] (getMethod r m pl)
      callWith q2 k fst (backTo q2 (starEach (u0 :: ur) X.env)) (backToKw q2 (keywordEach [] X.env))) := by rfl) :
    PE X (.Call (.Attribute ob m q1) (u0 :: ur) [] q2) (tMethN C m sp W to ta) := by
  refine ⟨fun pins s σ H Q inv wish => ?_⟩
  refine PySem.W.methodCall_KW (pl := pl) (thn (hob.run pins s σ H _ inv wish) fun v s1 ⟨y, H1, inv1, rel, a, dx, fs, ey, ea, no, wish1⟩ => ?_) ev
  subst ey
  obtain rfl : v = Value.ref a := rel
  refine getmeth_ok inv1 ea cl me no ?_
  refine PySem.W.callWith_K (first := [.ref a]) (h₀ := X.base) inv.ok.mod.kin me.kp (thn (har.run q2 pins s1 σ H1 _ inv1 wish1) fun us s2 ⟨ys, H2, inv2, rels, wish2⟩ => ⟨inv2.kIn, ?_⟩) st nokw
  exact run_fnS (us := .ref a :: us) (vs := .ref a :: ys) fn room bi (pass σ) inv2 (.cons rfl rels) wish2
end
/-- C(e, ..): an own error by its own __init__, where nothing is handled -/
theorem pmkN {X : Cx} {CX : CXT} {x : Str} {u0 : Expr} {ur : List Expr} {ta : TA} {q0 q1 : Pos} {C ini : Addr} {lv : Nat} {fd : FuncData} {pn : List Str} {sp : Sp} (cl : OexC X.K C) (hin : PySem.W.findIn X.K (.ref C) "__init__" = some (some (.ref ini))) (ity : PySem.W.typeIn X.K (.ref ini) = some (.type "function"))
    (fn : FnOk X.prog X.w X.K X.mg X.base CX lv ini fd pn sp) (room : Room (lv + 1) X.A) (bi : Binds X.K fd pn []) (pass : Passes CX X (fun _ _ _ => False)) (gl : Gl X x) (mx : X.mg x = some (.ref C)) (har : PA X (u0 :: ur) ta)
    (nd0 : (x == ("__debug__" : Str)) = false := by decide) (st : starEach (u0 :: ur) X.env = (false, eval u0 X.env) :: starEach ur X.env := by rfl) (nokw : (backTo q1 (starEach ur X.env)).any (·.1) = false := by rfl) :
    L2N.PMk X (.Call (.Name x q0) (u0 :: ur) [] q1) (tMkO C sp [] ta) := by
  intro pins s σ H Q inv wish
  obtain ⟨_, _, _, _, bm, _, _, _, _, _, _, _, _, _, _, hC, hbm⟩ := cl.cls
  refine wpAny_Call_Name_kw (ld_glob inv gl mx ?_ nd0)
  refine PySem.W.callWith_K (h₀ := X.base) inv.ok.mod.kin cl.kC (thn (har.run q1 pins s σ H _ inv wish) fun us s1 ⟨ys, H1, inv1, rels, hz, wish1⟩ => ⟨inv1.kIn, ?_⟩) st nokw
  show wpAny _ _ (call (.ref C) us) _ _ _
  obtain ⟨hp, gs, dr, tk, os⟩ := s1
  have big : hp.objs.size ≤ hp.objs.size + 1 := Nat.le_succ _
  have wish2 := wish1 (hp.objs.size + 1) (inv1.hok.fresh big)
  rw [List.append_nil] at wish2
  have keep : ∀ b o, hp.get? b = some o → ((hp.push (PySem.W.kdv_tup us)).push (PySem.HandSPX.excO C hp.objs.size)).get? b = some o := fun b o e => Heap.get?_push_of_some _ (Heap.get?_push_of_some _ e)
  have there : ((hp.push (PySem.W.kdv_tup us)).push (PySem.HandSPX.excO C hp.objs.size)).get? (hp.objs.size + 1) = some (PySem.HandSPX.excO C hp.objs.size) := by heap_get
  have inv2 : Inv X pins σ (upd H1 (hp.objs.size + 1) (exo (hp.objs.size + 1) C none)) ⟨(hp.push (PySem.W.kdv_tup us)).push (PySem.HandSPX.excO C hp.objs.size), gs, dr, tk, os⟩ :=
    inv1.laid (t' := tk) (a := hp.objs.size + 1) (o := exo (hp.objs.size + 1) C none) (h' := (hp.push (PySem.W.kdv_tup us)).push (PySem.HandSPX.excO C hp.objs.size)) keep big (exo_ok there)
  have rels2 : Vals (V.ref (hp.objs.size + 1) :: ys) (Value.ref (hp.objs.size + 1) :: us) := .cons rfl rels
  have ln : (Value.ref (hp.objs.size + 1) :: us ++ []).length = pn.length := by
    have e := rels2.length
    rw [fn.len _ _ _ _ wish2] at e
    rw [List.append_nil]
    exact e.symm
  have few : us.length ≤ sizeLine := by
    rw [← Paired.length rels, sizeLine_eq]
    omega
  have bnd := bi _ (Value.ref (hp.objs.size + 1) :: us) inv2.kIn ln
  rw [List.append_nil] at bnd
  refine wpAny_call (PySem.HandSPX.call_own F.excBase_ValueError (fun Y => PySem.HandSPX.refsVE_contains Y bm hbm) (inv1.kIn _ _ hC) (PySem.W.looks_findIn inv1.kIn hin) (fun me => PySem.W.bind_fn inv1.kIn me ity) few
    (codeAny_mono (fn.run _ X.stack _ _ ⟨Value.ref (hp.objs.size + 1) :: us, []⟩ (Value.ref (hp.objs.size + 1) :: us) _ _ (fun _ _ _ => False) (room.make C us []) (inv2.env0.make C us []) bnd rels2 wish2) fun r s' post => ?_))
  cases r with
  | error er => exact pass pins σ _ _ er s' inv2 post
  | ok fl =>
    cases fl with
    | ret u =>
      obtain ⟨v, H2, os2, bare2, un2, hok2, rv, ev, d, fs, ea, ed, hd1, wish3⟩ := post
      subst ev
      obtain ⟨h2, gs2, dr2, tk2, os3⟩ := s'
      obtain ⟨t0, G, J, kG, ge, hoe, na⟩ := mk_end0 (d2 := dr2) (t2 := tk2) inv1 big keep un2 hok2 os2 bare2 ea ed hd1
      refine ⟨rv, hp.objs.size + 1, _, _, ⟨G, gs2, dr2, tk2, os3⟩, _, .ref C, some d, rfl, J, kG, ge, hoe, ⟨rfl, rfl, fun zs hv => ?_⟩, rfl, rfl, na, rfl, bare2, raises_own cl.exC cl.tyC, wish3⟩
      cases hv
      rfl
    | next => exact False.elim post
    | brk => exact False.elim post
    | cont => exact False.elim post
section
variable {P : Program} {w : World} {K : PySem.W.Frag} {mg : Str → Option Value} {base : Heap}
/-- a def that may raise own errors -/
theorem Fun_okN {x qual : Str} {st : Stmt} {f : Addr} {fd : FuncData} {N ps : List Str} {k : Nat} {sp : Sp} (F : Fun K x qual st f fd) (S : FnScope N ps (defScope st)) (len : ∀ vs H Q E, sp vs H Q E → vs.length = ps.length)
    (body : ∀ (cdv : Value) (A : Around) (outer : List Env) (s : Shared) (H : Hp) (vs : List V) (Q : VK) (E : XK), Room k (A.deeper (envOfC qual (defScope st) s.heap.objs.size f cdv)) → sp vs H Q E →
      ∃ t, PSs (cxOf (L2N.CX P w) P w K mg base N qual (defScope st) f cdv A outer s H E) (defBody st) t ∧ t { nx := fun _ H' => Q .non H', rt := Q } (start N vs) H) : FnOk P w K mg base (L2N.CX P w) (k + 1) f fd ps sp := by
  obtain ⟨oc, od, kV, doc, pm, an, cdv, ct, osl, rfl, lk, hcd⟩ := F.ex
  exact fn_of lk hcd S len fun A outer s H vs Q E room wish => body cdv A outer s H vs Q E room wish
/-- a def that lets nothing out may stand where one that raises is asked for -/
theorem calmN {f : Addr} {fd : FuncData} {ps : List Str} {k : Nat} {sp : Sp} (G : FnOk P w K mg base CX0 k f fd ps sp) : FnOk P w K mg base (L2N.CX P w) k f fd ps sp :=
  ⟨G.len, fun A outer s H args us vs Q E a b c d e => codeAny_mono (G.run A outer s H args us vs Q E a b c d e) fun r s' z => match r, z with
    | .ok (.ret u), z => z
    | .ok .next, z => z.elim
    | .ok .brk, z => z.elim
    | .ok .cont, z => z.elim
    | .error _, z => z.elim⟩
theorem takesN {X : Cx} : L2N.Takes X (fun _ _ _ _ => False) := fun _ _ z => by
  obtain ⟨_, _, _, _, _, _, _, _, _, _, _, _, _, _, _, _, z⟩ := z
  exact z.elim
/-! a def that is called while p is handled -/
structure FnP (P : Program) (w : World) (K : PySem.W.Frag) (mg : Str → Option Value) (base : Heap) (k : Nat) (f : Addr) (fd : FuncData) (ps : List Str) (sp : Addr × Obj → Sp) : Prop where
  len : ∀ p vs H Q E, sp p vs H Q E → vs.length = ps.length
  run : ∀ (A : Around) (outer : List Env) (s : Shared) (H : Hp) (args : Args) (us : List Value) (vs : List V) (Q : VK) (E : XK) (p : Addr × Obj), L2H.RoomH k A → L2H.Hot1 A p → L2H.PinOk outer H s p → Env0 P w K mg base A outer s H → BindsTo s fd args (ps.zip us) → Vals vs us → sp p vs H Q E →
    codeAny (model P w) A (.call (.ref f) args) (CR CX0 outer P w H s Q E) s
theorem FnP.mono {j k : Nat} {f : Addr} {fd : FuncData} {ps : List Str} {sp : Addr × Obj → Sp} (F : FnP P w K mg base j f fd ps sp) (h : j ≤ k) : FnP P w K mg base k f fd ps sp :=
  ⟨F.len, fun A outer s H args us vs Q E p r => F.run A outer s H args us vs Q E p (r.mono h)⟩
/-- the body, walked while p is handled: X.pn = [p] -/
theorem Fun_okP {x qual : Str} {st : Stmt} {f : Addr} {fd : FuncData} {N ps : List Str} {k : Nat} {sp : Addr × Obj → Sp} (F : Fun K x qual st f fd) (S : FnScope N ps (defScope st)) (len : ∀ p vs H Q E, sp p vs H Q E → vs.length = ps.length)
    (body : ∀ (cdv : Value) (A : Around) (outer : List Env) (s : Shared) (H : Hp) (vs : List V) (Q : VK) (E : XK) (p : Addr × Obj), L2H.Hot1 A p → L2H.RoomH k (A.deeper (envOfC qual (defScope st) s.heap.objs.size f cdv)) → sp p vs H Q E →
      ∃ t, PSs (L2H.cxH CX0 P w K mg base N qual (defScope st) f cdv A outer s H E p) (defBody st) t ∧ t { nx := fun _ H' => Q .non H', rt := Q } (start N vs) H) : FnP P w K mg base (k + 1) f fd ps sp := by
  obtain ⟨oc, od, kV, doc, pm, an, cdv, ct, osl, rfl, lk, hcd⟩ := F.ex
  refine ⟨len, fun A outer s H args us vs Q E p room hot pin e0 bnd rels wish => ?_⟩
  have ln := len _ _ _ _ _ wish
  have inK : K.In s.heap := e0.mod.kin.keeps fun b o e => (e0.bs b o e).1
  have lim : s.heap.NoLimit := e0.mod.nolimit.keeps fun b o e => (e0.bs b o e).1
  have kinds : ∀ y ∈ ps.zip us, (defScope st).names.lookup y.1 = some .local ∨ ((defScope st).names.lookup y.1 = some .cell ∧ ((cellsFrom (s.heap.objs.size + 1) (defScope st).names []).lookup y.1).isSome = true) := by
    rintro ⟨n, v⟩ hy
    have mem := (List.of_mem_zip hy).1
    rcases S.par n mem with q | q
    · exact .inl q
    · exact .inr ⟨q, PySem.W.cellsFrom_some _ _ _ (.inl q)⟩
  refine codeAny_call_function room.depth (inK _ _ lk) rfl S.co S.gen rfl (PySem.W.codeRec_of inK hcd) (bnd _ _ _ _ ?_)
  refine wpAny_newFunctionEnv_cells S.kind kinds fun env he s1 ic => ?_
  subst he
  refine ⟨lim.keeps ic.toInCall.keep, codeAny_func ?_⟩
  obtain ⟨t, ht, hq⟩ := body cdv A outer s H vs Q E p hot (room.deeper _) wish
  have inv : Inv (L2H.cxH CX0 P w K mg base N qual (defScope st) f cdv A outer s H E p) [] (L2.start N vs) H s1 := L2H.inv_startH S pin e0 ln rels ic
  refine wpAny_mono (ht.run [] s1 (L2.start N vs) H _ inv hq) (fun fl s' z => ?_) fun e s' z => z
  cases fl with
  | ret u =>
    obtain ⟨v, σ', H', J, rv, q⟩ := z
    exact ⟨v, H', J.os, J.bare, J.base, J.hok, rv, q⟩
  | next =>
    obtain ⟨σ', H', J, q⟩ := z
    exact ⟨.non, H', J.os, J.bare, J.base, J.hok, rfl, q⟩
  | brk =>
    obtain ⟨_, _, _, q⟩ := z
    exact q.elim
  | cont =>
    obtain ⟨_, _, _, q⟩ := z
    exact q.elim
end
/-- p is handled in X -/
def HotP (X : Cx) (p : Addr × Obj) : Prop := L2H.Hot1 X.A p ∧ p ∈ X.pn
theorem HotP.c {X : Cx} {p : Addr × Obj} (h : HotP X p) : L2H.HotC X := ⟨p, h.1, h.2⟩
theorem hotS {X : Cx} {a : Addr} {oe : Obj} {cls : Value} {d : Option Addr} {pn : List (Addr × Obj)} (hz : L2N.Zn cls d oe) (hf : ∃ vs, oe.data = .fields vs) : HotP (X.suite a ((a, oe) :: pn)) (a, oe) :=
  ⟨⟨rfl, let ⟨vs, e⟩ := hf; ⟨vs, e, hz.2.2 vs e⟩⟩, List.mem_cons_self⟩
def tCallP (sp : Sp) (t : TA) : TE := fun σ H Q => t σ H fun vs H1 => sp vs H1 Q (fun _ _ _ => False)
theorem pe_callP {X : Cx} {k : Nat} {f : Addr} {fd : FuncData} {ps : List Str} {sp : Addr × Obj → Sp} {p : Addr × Obj} {x : Str} {u0 : Expr} {ur : List Expr} {ta : TA} {q0 q1 : Pos} (F : FnP X.prog X.w X.K X.mg X.base k f fd ps sp) (room : L2H.RoomH k X.A) (hp : HotP X p) (gl : Gl X x) (mx : X.mg x = some (.ref f)) (hk : PySem.W.keepIn X.K (.ref f) = true)
    (bi : Binds X.K fd ps []) (har : PA X (u0 :: ur) ta) (nd0 : (x == ("__debug__" : Str)) = false := by decide) (st : starEach (u0 :: ur) X.env = (false, eval u0 X.env) :: starEach ur X.env := by rfl) (nokw : (backTo q1 (starEach ur X.env)).any (·.1) = false := by rfl) :
    PE X (.Call (.Name x q0) (u0 :: ur) [] q1) (tCallP (sp p) ta) := by
  refine ⟨fun pins s σ H Q inv wish => ?_⟩
  refine wpAny_Call_Name_kw (ld_glob inv gl mx ?_ nd0)
  refine PySem.W.callWith_K (h₀ := X.base) inv.ok.mod.kin hk (thn (har.run q1 pins s σ H _ inv wish) fun us s1 ⟨ys, H1, inv1, rels, wish1⟩ => ⟨inv1.kIn, ?_⟩) st nokw
  have ln : us.length = ps.length := by rw [← rels.length]; exact F.len _ _ _ _ _ wish1
  have bnd := bi s1 us inv1.kIn (by rw [List.append_nil]; exact ln)
  rw [List.append_nil] at bnd
  have pp := inv1.pin p (List.mem_append_left _ hp.2)
  have pin : L2H.PinOk X.stack H1 s1 p := ⟨pp.1, pp.2.1, fun hm => (List.mem_cons.mp (inv1.stkSub p.1 hm)).elim pp.2.2.1 pp.2.2.2.1, pp.2.2.2.2⟩
  refine wpAny_call (codeAny_mono (F.run X.A X.stack s1 H1 ⟨us, []⟩ us ys Q _ p room hp.1 pin inv1.env0 bnd rels wish1) fun r s' post => ?_)
  cases r with
  | error e => exact post.elim
  | ok fl =>
    cases fl with
    | ret u => exact inv1.after post
    | next => exact False.elim post
    | brk => exact False.elim post
    | cont => exact False.elim post
/-- the error p: of the class at D, its fields fs at d -/
structure ErrAt (D : Addr) (d : Addr) (fs : List (Str × V)) (p : Addr × Obj) (H : Hp) : Prop where
  cls : p.2.cls = .ref D
  dic : p.2.dict = some d
  fld : ∃ vs, p.2.data = .fields vs
  at_ : H d = some (.xd fs)
theorem ErrAt.same {D d : Addr} {fs : List (Str × V)} {p : Addr × Obj} {H H' : Hp} (e : ErrAt D d fs p H) (s : Same H H') : ErrAt D d fs p H' := ⟨e.cls, e.dic, e.fld, s _ _ e.at_⟩
theorem errS {D d a : Addr} {fs : List (Str × V)} {oe : Obj} {H : Hp} (hz : L2N.Zn (.ref D) (some d) oe) (hf : ∃ vs, oe.data = .fields vs) (h : H d = some (.xd fs)) : ErrAt D d fs (a, oe) H := ⟨hz.1, hz.2.1, hf, h⟩
/-- isinstance(e, T), e the error in hand -/
def rIsP (K : PySem.W.Frag) (p : Addr × Obj) : List V → Hp → VK → Prop := fun xs H Q => ∃ (c : V) (cv : Value) (b : Bool) (D d : Addr) (fs : List (Str × V)), xs = [.ref p.1, c] ∧ (∀ u, RelV c u → u = cv) ∧ ErrC K D ∧ ErrAt D d fs p H ∧ PySem.W.kitOne K (.ref D) cv = some b ∧ Q (.bl b) H
theorem call_isP {X : Cx} {p : Addr × Obj} (hp : p ∈ X.pn) : CallR X (.builtin "isinstance") (rIsP X.K p) := by
  intro pins s σ H xs us Q inv rels wish
  obtain ⟨c, cv, b, D, d, fs, rfl, one, C, e, kit, q⟩ := wish
  cases rels with
  | cons r0 rr =>
    cases rr with
    | cons r1 rr =>
      cases rr
      cases r0
      cases one _ r1
      obtain ⟨mA, hns, _⟩ : ObjOk X.prog X.w H s.heap d (.xd fs) := inv.hok d _ e.at_
      obtain ⟨od, ho, _⟩ := lookIn_ns hns
      obtain ⟨vs, hv⟩ := e.fld
      have J : PySem.W.InstAt s.heap p.1 p.2 D (some od) := ⟨(inv.pin p (List.mem_append_left _ hp)).1, e.cls, by unfold PySem.W.notCls; rw [hv] <;> rfl, by rw [e.dic]; exact ho⟩
      exact PySem.W.kia_one (PySem.W.kitx_exc C.cl C.ga C.gg C.ex C.ca C.cn C.ct C.mo) inv.kIn J kit (fun z => nomatch z) fun tk => ⟨.bl b, H, inv.kept (t' := tk) fun _ _ z => z, rfl, q⟩
/-- e.f, e the error in hand -/
def tXp (K : PySem.W.Frag) (p : Addr × Obj) (n : Str) (te : TE) : TE := fun σ H Q => te σ H fun x H1 => ∃ (D d : Addr) (fs : List (Str × V)) (v : V), x = .ref p.1 ∧ ErrC K D ∧ PySem.W.findIn K (.ref D) n = some none ∧ ErrAt D d fs p H1 ∧ fs.lookup n = some v ∧ Q v H1
theorem pe_xp {X : Cx} {p : Addr × Obj} {ex : Expr} {te : TE} {pos : Pos} {n : Str} (hp : p ∈ X.pn) (he : PE X ex te) (hb : attributeBase ex n X.env (eval ex X.env) = eval ex X.env := by rfl) : PE X (.Attribute ex n pos) (tXp X.K p n te) := by
  refine ⟨fun pins s σ H Q inv wish => attr_of hb (thn (he.run pins s σ H _ inv wish) fun u s1 post => ?_)⟩
  obtain ⟨x, H1, inv1, rx, D, d, fs, v, rfl, C, no, e, l, q⟩ := post
  obtain rfl : u = Value.ref p.1 := rx
  obtain ⟨mA, hns, hr⟩ : ObjOk X.prog X.w H1 s1.heap d (.xd fs) := inv1.hok d _ e.at_
  obtain ⟨od, ho, hl⟩ := lookIn_ns hns
  obtain ⟨z, hz, rz⟩ := RelO.some_of (v := v) (o := mA n) (by rw [← l]; exact hr n)
  obtain ⟨vs, hv⟩ := e.fld
  have J : PySem.W.InstAt s1.heap p.1 p.2 D (some od) := ⟨(inv1.pin p (List.mem_append_left _ hp)).1, e.cls, by unfold PySem.W.notCls; rw [hv] <;> rfl, by rw [e.dic]; exact ho⟩
  exact HandSPX.exc_get inv1.kIn J C.ga C.gg C.ex (PySem.W.findObj_own C.hd no rfl (by rw [hl, hz])) (handed_of rz) ⟨v, H1, inv1.tok _, rz, q⟩
/-! try with several clauses, with or without a name -/
/-- what the clauses wish of an error of the body -/
def wM (K : PySem.W.Frag) (Wout : WX) (D : Ends) : List (Value × Option Nat × (Addr → Value → Option Addr → TS)) → WX
  | [] => Wout
  | (c, none, ts) :: r => fun cls d σ H => ∃ b, PySem.W.exmOne K cls c = some b ∧ (b = true → ∀ a, H a = none → ts a cls d D σ H) ∧ (b = false → wM K Wout D r cls d σ H)
  | (c, some i, ts) :: r => fun cls d σ H => ∃ b, PySem.W.exmOne K cls c = some b ∧
      (b = true → ∀ a, H a = none → ts a cls d { nx := fun σ' H' => D.nx (σ'.set i none) H', rt := D.rt, bk := fun σ' H' => D.bk (σ'.set i none) H', ct := fun σ' H' => D.ct (σ'.set i none) H' } (σ.set i (some (.ref a))) H) ∧ (b = false → wM K Wout D r cls d σ H)
inductive HdM (X : Cx) : List ExceptHandler → List (Value × Option Nat × (Addr → Value → Option Addr → TS)) → Prop
  | nil : HdM X [] []
  | bare {x : Str} {c : Value} {ts : Addr → Value → Option Addr → TS} {st : Stmt} {suite : List Stmt} {np p' : Pos} {hds : List ExceptHandler} {l : List (Value × Option Nat × (Addr → Value → Option Addr → TS))} (nm : Names X x c)
      (su : ∀ (a : Addr) (oe : Obj) (cls : Value) (d : Option Addr) (pn : List (Addr × Obj)), L2N.Zn cls d oe → (∃ vs, oe.data = .fields vs) → PSs (X.suite a ((a, oe) :: pn)) (st :: suite) (ts a cls d)) (r : HdM X hds l) :
      HdM X (.ExceptHandler (some (.Name x np)) none (st :: suite) p' :: hds) ((c, none, ts) :: l)
  | name {x n : Str} {i : Nat} {c : Value} {ts : Addr → Value → Option Addr → TS} {st : Stmt} {suite : List Stmt} {np p' : Pos} {hds : List ExceptHandler} {l : List (Value × Option Nat × (Addr → Value → Option Addr → TS))} (two : X.N.Nodup) (slot : X.N[i]? = some n) (loc : X.env.kindOf n = some .local) (nm : Names X x c)
      (su : ∀ (a : Addr) (oe : Obj) (cls : Value) (d : Option Addr) (pn : List (Addr × Obj)), L2N.Zn cls d oe → (∃ vs, oe.data = .fields vs) → PSs (X.suite a ((a, oe) :: pn)) (st :: suite) (ts a cls d)) (r : HdM X hds l) :
      HdM X (.ExceptHandler (some (.Name x np)) (some n) (st :: suite) p' :: hds) ((c, some i, ts) :: l)
theorem ps_tryM {X : Cx} {body : List Stmt} {h0 : ExceptHandler} {hds : List ExceptHandler} {l : List (Value × Option Nat × (Addr → Value → Option Addr → TS))} {pos : Pos} {tb : WX → TS} {Wout : WX} (stk : X.stack = X.env :: X.outer) (frm : X.env.frame = some X.env.locals) (tk : L2N.Takes X Wout)
    (bd : ∀ (W : WX) (pn : List (Addr × Obj)) (xe : Value → Shared → Prop), L2N.Takes (X.tr pn xe) W → PassesOwn (model X.prog X.w) X.A X.env xe → PSs (X.tr pn xe) body (tb W))
    (hh : HdM X (h0 :: hds) l) : PS X (.Try body (h0 :: hds) [] [] pos) (fun D σ H => tb (wM X.K Wout D l) D σ H) := by
  refine ⟨fun pins s σ H D inv wish => ?_⟩
  have ok := inv.ok
  have frs0 : X.A.frames = some (X.env :: X.outer) := by rw [ok.frames, stk]
  refine wpAny_Try_except ?_
  refine wpAny_mono ((bd (wM X.K Wout D l) (X.pn ++ pins) (fun e sa => wpAny (model X.prog X.w) X.A (noteFrame e X.env) (fun _ sb => wpAny (model X.prog X.w) X.A (setFlight e none) (fun _ sc => wpAny (model X.prog X.w) X.A (handleBy e X.env (h0 :: hds)) (SP X pins D) X.xe sc) X.xe sb) X.xe sa)
    (fun u s' air => ?_) PassesOwn.looking).run [] s σ H D (inv.toTry _) wish) (fun f s1 post => ?_) (fun e s1 he => he)
  · obtain ⟨a, B, sI, pins', σ', H', cls, d, rfl, inv', nb, up, sky, na, os, ag, wish'⟩ := air
    have inv0 : Inv X pins σ' H' sI := inv'.ofTry ok
    have sky0 : Sky B (X.env :: X.outer) a (L2N.Zn cls d) X.env.locals s'.heap := by rw [← stk]; exact sky
    show wpAny (model X.prog X.w) X.A (noteFrame (.ref a) X.env) _ _ _
    refine L2N.Sky.land L2N.Zn.steady frs0 frm sky0 fun hA flA upA => ?_
    have invA : Inv X pins σ' H' { s' with heap := hA } := inv0.landed nb flA.1 (up.trans upA) os ag
    obtain ⟨oA, vA, geA, zA, dA⟩ := flA.there
    have off : a ∉ frs (X.env :: X.outer) := fun hm => by
      obtain ⟨_, o', e', hnf⟩ := flA.2.2.1.mem hm
      rw [geA] at e'
      cases e'
      exact hnf _ dA
    have offL : a ≠ X.env.locals := fun z => off (List.mem_filterMap.mpr ⟨X.env, List.mem_cons_self, by rw [frm, z]⟩)
    have offF : a ∉ X.fs := fun hm => by
      obtain ⟨e, he, q⟩ := List.mem_filterMap.mp hm
      exact off (List.mem_filterMap.mpr ⟨e, List.mem_cons_of_mem _ he, q⟩)
    have invS := invA.suite geA dA na offL offF
    have asks : ∀ {x : Str} {c : Value} {np : Pos}, Names X x c → ∀ {Q : Value → Shared → Prop} {E : Value → Shared → Prop}, Q c { s' with heap := hA } → wpAny (model X.prog X.w) (X.A.mark (some (.ref a))) (eval (.Name x np) X.env) Q E { s' with heap := hA } := fun {x c np} nm {Q E} q => by
      obtain ⟨hg, hdbg, hm | ⟨hm, hv, hnn⟩⟩ := nm
      · exact ld_glob (X := X.suite a ((a, oA) :: (X.pn ++ pins))) invS hg hm q hdbg
      · exact ld_blt (X := X.suite a ((a, oA) :: (X.pn ++ pins))) invS hg hm hv q hnn hdbg
    have LT : PySem.W.Looks (model X.prog X.w) hA (typeOf (.ref a)) cls := fun A Q E s k q => wpAny_typeOf_ref (k _ _ geA) (by rw [zA.1]; exact q)
    suffices go : ∀ {hs : List ExceptHandler} {ls : List (Value × Option Nat × (Addr → Value → Option Addr → TS))}, HdM X hs ls → wM X.K Wout D ls cls d σ' H' → wpAny (model X.prog X.w) X.A (handleBy (.ref a) X.env hs) (SP X pins D) X.xe { s' with heap := hA } from go hh wish'
    intro hs ls hk
    induction hk with
    | nil =>
      intro wo
      refine wpAny_handleBy_nil ?_
      obtain ⟨_, _, _, oB, vB, TB, _, _, geB, _, dB, fldB, _⟩ := id flA
      unfold PySem.passOn
      refine wpAny_bind (wpAny_field geB dB fldB ?_)
      rw [if_neg (by simp : ¬ ((Value.ref TB == Value.none) = true))]
      have fin : wpAny (model X.prog X.w) X.A (setFlight (.ref a) X.env.frame) (fun _ sx => wpAny (model X.prog X.w) X.A (throw (.ref a) : Sem Flow) (SP X pins D) X.xe sx) X.xe { s' with heap := hA } := by
        rw [frm]
        refine HandSPX.setFlight_upZ flA fun hB heB upB => wpAny_throw (tk _ _ ?_)
        exact ⟨a, B, sI, pins, σ', H', cls, d, rfl, inv0, nb, (up.trans upA).trans upB, .inr (.inr (by rw [stk]; exact heB)), na, os, ag, wo⟩
      first
        | exact wpAny_bind (wpAny_pure (wpAny_bind fin))
        | exact wpAny_bind fin
    | @bare x c ts st suite np p' hs2 l2 nm su r ih =>
      intro wo
      obtain ⟨b, hb1, yes, no⟩ := wo
      refine wpAny_handleBy_cons (codeAny_handlers_test (asks nm ((PySem.W.exm_one (M := model X.prog X.w) invA.kIn LT hb1).here ?_))) (by intro q; cases q)
      cases b with
      | false => exact ih (no rfl)
      | true =>
        refine codeAny_handlers_suite ?_
        refine HandSPX.lands_againZ flA fun hB flB upB => ?_
        have invB : Inv X pins σ' H' { s' with heap := hB } := inv0.landed nb flB.1 ((up.trans upA).trans upB) os ag
        obtain ⟨oB, vB, geB, zB, dB⟩ := flB.there
        refine wpAny_mono ((su a oB cls d (X.pn ++ pins) zB ⟨_, dB⟩).run [] _ _ H' _ (invB.suite geB dB na offL offF) (yes rfl a na)) (fun f s6 post => ?_) (fun _ _ z => False.elim z)
        cases f with
        | next => exact let ⟨_, _, I6, q6⟩ := post; ⟨_, _, I6.unsuite ok, q6⟩
        | brk => exact let ⟨_, _, I6, q6⟩ := post; ⟨_, _, I6.unsuite ok, q6⟩
        | cont => exact let ⟨_, _, I6, q6⟩ := post; ⟨_, _, I6.unsuite ok, q6⟩
        | ret u => exact let ⟨_, _, _, I6, r6, q6⟩ := post; ⟨_, _, _, I6.unsuite ok, r6, q6⟩
    | @name x n i c ts st suite np p' hs2 l2 two slot loc nm su r ih =>
      intro wo
      obtain ⟨b, hb1, yes, no⟩ := wo
      refine wpAny_handleBy_cons (codeAny_handlers_test (asks nm ((PySem.W.exm_one (M := model X.prog X.w) invA.kIn LT hb1).here ?_))) (by intro q; cases q)
      cases b with
      | false => exact ih (no rfl)
      | true =>
        refine codeAny_handlers_suite_as ?_
        refine HandSPX.lands_againZ flA fun hB flB upB => ?_
        have invB : Inv X pins σ' H' { s' with heap := hB } := inv0.landed nb flB.1 ((up.trans upA).trans upB) os ag
        obtain ⟨oB, vB, geB, zB, dB⟩ := flB.there
        refine store_ok (X := X.suite a ((a, oB) :: (X.pn ++ pins))) (v := .ref a) (invB.suite geB dB na offL offF) two slot (.inl loc) rfl (fun s5 inv5 => ?_) (.inr loc)
        refine wpAny_mono ((su a oB cls d (X.pn ++ pins) zB ⟨_, dB⟩).run [] s5 _ H' _ inv5 (yes rfl a na)) (fun f s6 post => ?_) (fun _ _ z => False.elim z)
        have gone : ∀ {σ6 : L2.St} {H6 : Hp} {Q : Shared → Prop}, Inv (X.suite a ((a, oB) :: (X.pn ++ pins))) [] σ6 H6 s6 → (∀ s7, Inv X pins (σ6.set i none) H6 s7 → Q s7) →
            wpAny (model X.prog X.w) X.A (do bindName X.env n .none; unbindBehindTheSuite X.env n p') (fun _ s7 => Q s7) X.xe s6 := fun {σ6 H6 Q} I6 hq => gone_ok (I6.unsuite ok) two slot loc hq
        cases f with
        | next => exact let ⟨_, _, I6, q6⟩ := post; gone I6 fun s7 I7 => ⟨_, _, I7, q6⟩
        | brk => exact let ⟨_, _, I6, q6⟩ := post; gone I6 fun s7 I7 => ⟨_, _, I7, q6⟩
        | cont => exact let ⟨_, _, I6, q6⟩ := post; gone I6 fun s7 I7 => ⟨_, _, I7, q6⟩
        | ret u => exact let ⟨_, _, _, I6, r6, q6⟩ := post; gone I6 fun s7 I7 => ⟨_, _, _, I7, r6, q6⟩
  · cases f with
    | next => exact let ⟨_, _, I1, q⟩ := post; wpAny_execs_nil ⟨_, _, I1.ofTry ok, q⟩
    | brk => exact let ⟨_, _, I1, q⟩ := post; ⟨_, _, I1.ofTry ok, q⟩
    | cont => exact let ⟨_, _, I1, q⟩ := post; ⟨_, _, I1.ofTry ok, q⟩
    | ret u => exact let ⟨_, _, _, I1, r, q⟩ := post; ⟨_, _, _, I1.ofTry ok, r, q⟩
/-- xs.count(b) of bools -/
theorem eqb_count {k : Bool} : ∀ {us : List Value} {bs : List Bool}, Vals (bs.map V.bl) us → us.countP (fun v => match v with | .bool c => c == k | _ => false) = bs.count k
  | [], [], _ => rfl
  | _ :: _, [], h => nomatch h
  | [], _ :: _, h => nomatch h
  | u :: us, b :: bs, h => by
    cases h with
    | cons r t =>
      have e : u = Value.bool b := r
      subst e
      rw [List.countP_cons, List.count_cons, eqb_count t]
def rCntB (K : PySem.W.Frag) : V → List V → Hp → VK → Prop := fun x xs H Q => ∃ (p : Addr) (bs : List Bool) (k : Bool), x = .ref p ∧ xs = [.bl k] ∧ SqL K H p (bs.map V.bl) ∧ Q (.int (bs.count k : Nat)) H
theorem mt_lcountB {X : Cx} : MtR X "list.count" (rCntB X.K) := by
  intro pins s σ H x xs v us Q inv rx rxs wish
  obtain ⟨p, bs, k, rfl, rfl, hs, q⟩ := wish
  cases rx
  obtain ⟨u, rfl, ru⟩ := rxs.one
  have eu : u = Value.bool k := ru
  subst eu
  obtain ⟨its, rv, ⟨⟨cls, dd, data, sl⟩, n, ho, hc, hdn, hd⟩, hlen⟩ := inv.list hs
  simp only at hc hd
  subst hc hd
  have all : ∀ {us : List Value} {bs : List Bool}, Vals (bs.map V.bl) us → ∀ y ∈ us, ∃ b, y = Value.bool b := by
    intro us
    induction us with
    | nil => exact fun _ y hy => nomatch hy
    | cons u us ih =>
      intro bs h y hy
      cases bs with
      | nil => cases h
      | cons b bs =>
        cases h with
        | cons r t =>
          rcases List.mem_cons.mp hy with e | e
          · exact ⟨b, e.trans r⟩
          · exact ih t y e
  refine call_meets PySem.F.slot_list_count ⟨_, ho, rfl⟩ PySem.F.entry_list_count (PySem.F.args_list_count_2 _ _)
    (SeqAt.list_countAt p its.toArray n dd sl (.bool k) (fun v => match v with | .bool c => c == k | _ => false)) ⟨ho, fun y hy => ?_, ?_⟩
  · obtain ⟨b, rfl⟩ := all rv y (by simpa using hy)
    exact SeqAt.EqAt.bool_bool b k
  · refine ⟨.int (bs.count k : Nat), H, inv.tok _, ⟨s.toks, ?_⟩, q⟩
    show Value.int ((its.toArray.toList.countP _ : Nat) : Int) s.toks = Value.int ((bs.count k : Nat) : Int) s.toks
    rw [show its.toArray.toList = its from rfl, eqb_count rv]
theorem exm_sub {K : PySem.W.Frag} {R D : Addr} {b : Bool} (h1 : PySem.W.subIn K (.ref D) (.type "BaseException") = some true) (h2 : PySem.W.isClsIn K D = true) (h3 : PySem.W.typeIn K (.ref D) = some (.type "type")) (h4 : PySem.W.subIn K (.ref R) (.ref D) = some b) : PySem.W.exmOne K (.ref R) (.ref D) = some b := by
  have i : (PySem.W.clsIn K D).isSome = true := h2
  unfold PySem.W.exmOne PySem.W.kitCls
  rw [if_pos (by rw [h1]; rfl)]
  show (if ((PySem.W.clsIn K D).isSome && PySem.W.typeIn K (.ref D) == some (.type "type")) = true then PySem.W.subIn K (.ref R) (.ref D) else none) = some b
  rw [if_pos (by rw [i, h3]; rfl)]
  exact h4
/-- what the top has of a class whose errors are raised -/
theorem errC_mk {K : PySem.W.Frag} {D : Addr} (cl : PySem.W.isClsIn K D = true) (ga : PySem.W.findIn K (.ref D) "__getattribute__" = some (some (.builtin "BaseException.__getattribute__"))) (gg : PySem.W.findIn K (.ref D) "__getattr__" = some none) (ex : PySem.W.subIn K (.ref D) (.type "BaseException") = some true)
    (hd : PySem.W.hasDictIn K D = true) (ca : PySem.W.findIn K (.ref D) "__class__" = some (some (.builtin "object.__class__"))) (cn : PySem.W.specialIn K (.builtin "object.__class__") "__get__" = some (some (.builtin "getset_descriptor.__get__")))
    (ct : PySem.W.takesIn K (.builtin "object.__class__") = some true) (mo : PySem.W.mroIn K D (.type "object") = some true) : ErrC K D := ⟨cl, ga, gg, ex, hd, ca, cn, ct, mo⟩
/-- __init__ of an error with one field; with two -/
def sp_err1 (f : Str) (C : Addr) : Sp := fun vs H Q _ => ∃ (a : Addr) (v : V), vs = [.ref a, v] ∧ H a = some (exo a C none) ∧ ∀ d, H d = none → d ≠ a → Q .non (upd (upd H d (exd d [(f, v)])) a (exo a C (some d)))
def sp_err2 (f g : Str) (C : Addr) : Sp := fun vs H Q _ => ∃ (a : Addr) (v u : V), vs = [.ref a, v, u] ∧ H a = some (exo a C none) ∧ ∀ d, H d = none → d ≠ a → Q .non (upd (upd (upd H d (exd d [(f, v)])) a (exo a C (some d))) d (exd d [(g, u), (f, v)]))
theorem del_upds {H : Hp} {a d : Addr} {o1 o2 : HO} {x : HO} (na : H a = none) (ne : d ≠ a) : upd (del (upd (upd H d o1) a o2) a) d x = upd H d x := by
  funext b
  by_cases h : b = d
  · rw [h, upd_same, upd_same]
  · rw [upd_ne h, upd_ne h]
    by_cases h2 : b = a
    · rw [h2, del_same, na]
    · rw [del_ne h2, upd_ne h2, upd_ne h]
theorem raise1 {C : Addr} {f : Str} {H : Hp} {v : V} {Q : XK} (h : ∀ d, H d = none → Q (.ref C) (some d) (upd H d (.xd [(f, v)]))) : [v].length ≤ 1000 ∧ ∀ a, H a = none → sp_err1 f C (.ref a :: ([v] ++ [])) (upd H a (exo a C none))
    (fun u H2 => u = .non ∧ ∃ (d : Addr) (fs : List (Str × V)), H2 a = some (exo a C (some d)) ∧ H2 d = some (exd d fs) ∧ H d = none ∧ Q (.ref C) (some d) (upd (del H2 a) d (.xd fs))) (fun _ _ _ => False) := by
  refine ⟨by show 1 ≤ 1000; decide, fun a na => ⟨a, v, rfl, upd_same, fun d nd ne => ⟨rfl, d, _, upd_same, (upd_ne ne).trans upd_same, ?_, ?_⟩⟩⟩
  · rw [upd_ne ne] at nd
    exact nd
  · have e : upd (del (upd (upd (upd H a (exo a C none)) d (exd d [(f, v)])) a (exo a C (some d))) a) d (.xd [(f, v)]) = upd H d (.xd [(f, v)]) := by
      funext b
      by_cases h1 : b = d
      · rw [h1, upd_same, upd_same]
      · rw [upd_ne h1, upd_ne h1]
        by_cases h2 : b = a
        · rw [h2, del_same, na]
        · rw [del_ne h2, upd_ne h2, upd_ne h1, upd_ne h2]
    rw [e]
    refine h d ?_
    rw [upd_ne ne] at nd
    exact nd
theorem raise2 {C : Addr} {f g : Str} {H : Hp} {v u : V} {Q : XK} (h : ∀ d, H d = none → Q (.ref C) (some d) (upd H d (.xd [(g, u), (f, v)]))) : [v, u].length ≤ 1000 ∧ ∀ a, H a = none → sp_err2 f g C (.ref a :: ([v, u] ++ [])) (upd H a (exo a C none))
    (fun z H2 => z = .non ∧ ∃ (d : Addr) (fs : List (Str × V)), H2 a = some (exo a C (some d)) ∧ H2 d = some (exd d fs) ∧ H d = none ∧ Q (.ref C) (some d) (upd (del H2 a) d (.xd fs))) (fun _ _ _ => False) := by
  refine ⟨by show 2 ≤ 1000; decide, fun a na => ⟨a, v, u, rfl, upd_same, fun d nd ne => ⟨rfl, d, _, (upd_ne ne.symm).trans upd_same, upd_same, ?_, ?_⟩⟩⟩
  · rw [upd_ne ne] at nd
    exact nd
  · have e : upd (del (upd (upd (upd (upd H a (exo a C none)) d (exd d [(f, v)])) a (exo a C (some d))) d (exd d [(g, u), (f, v)])) a) d (.xd [(g, u), (f, v)]) = upd H d (.xd [(g, u), (f, v)]) := by
      funext b
      by_cases h1 : b = d
      · rw [h1, upd_same, upd_same]
      · rw [upd_ne h1, upd_ne h1]
        by_cases h2 : b = a
        · rw [h2, del_same, na]
        · rw [del_ne h2, upd_ne h1, upd_ne h2, upd_ne h1, upd_ne h2]
    rw [e]
    refine h d ?_
    rw [upd_ne ne] at nd
    exact nd
/-! the same, for a suite: its reading may not name the pinned object -/
def rIsS (K : PySem.W.Frag) (a : Addr) (cls : Value) (d : Option Addr) : List V → Hp → VK → Prop := fun xs H Q => ∃ (c : V) (cv : Value) (b : Bool) (D dd : Addr) (fs : List (Str × V)), xs = [.ref a, c] ∧ (∀ u, RelV c u → u = cv) ∧ cls = .ref D ∧ d = some dd ∧ ErrC K D ∧ H dd = some (.xd fs) ∧ PySem.W.kitOne K (.ref D) cv = some b ∧ Q (.bl b) H
theorem call_isS {X : Cx} {a : Addr} {oe : Obj} {cls : Value} {d : Option Addr} {pn : List (Addr × Obj)} (hz : L2N.Zn cls d oe) (hf : ∃ vs, oe.data = .fields vs) : CallR (X.suite a ((a, oe) :: pn)) (.builtin "isinstance") (rIsS X.K a cls d) := fun pins s σ H xs us Q inv rels wish => by
  obtain ⟨c, cv, b, D, dd, fs, e, one, rfl, rfl, C, h, kit, q⟩ := wish
  exact call_isP (X := X.suite a ((a, oe) :: pn)) (p := (a, oe)) List.mem_cons_self pins s σ H xs us Q inv rels ⟨c, cv, b, D, dd, fs, e, one, C, ⟨hz.1, hz.2.1, hf, h⟩, kit, q⟩
def tXs (K : PySem.W.Frag) (a : Addr) (cls : Value) (d : Option Addr) (n : Str) (te : TE) : TE := fun σ H Q => te σ H fun x H1 => ∃ (D dd : Addr) (fs : List (Str × V)) (v : V), x = .ref a ∧ cls = .ref D ∧ d = some dd ∧ ErrC K D ∧ PySem.W.findIn K (.ref D) n = some none ∧ H1 dd = some (.xd fs) ∧ fs.lookup n = some v ∧ Q v H1
theorem pe_xs {X : Cx} {a : Addr} {oe : Obj} {cls : Value} {d : Option Addr} {pn : List (Addr × Obj)} {ex : Expr} {te : TE} {pos : Pos} {n : Str} (hz : L2N.Zn cls d oe) (hf : ∃ vs, oe.data = .fields vs) (he : PE (X.suite a ((a, oe) :: pn)) ex te)
    (hb : attributeBase ex n X.env (eval ex X.env) = eval ex X.env := by rfl) : PE (X.suite a ((a, oe) :: pn)) (.Attribute ex n pos) (tXs X.K a cls d n te) := by
  refine ⟨fun pins s σ H Q inv wish => attr_of hb (thn (he.run pins s σ H _ inv wish) fun u s1 post => ?_)⟩
  obtain ⟨x, H1, inv1, rx, D, dd, fs, v, rfl, rfl, rfl, C, no, eh, l, q⟩ := post
  obtain rfl : u = Value.ref a := rx
  obtain ⟨mA, hns, hr⟩ : ObjOk X.prog X.w H1 s1.heap dd (.xd fs) := inv1.hok dd _ eh
  obtain ⟨od, ho, hl⟩ := lookIn_ns hns
  obtain ⟨z, hz1, rz⟩ := RelO.some_of (v := v) (o := mA n) (by rw [← l]; exact hr n)
  obtain ⟨vs, hv⟩ := hf
  have J : PySem.W.InstAt s1.heap a oe D (some od) := ⟨(inv1.pin (a, oe) (List.mem_append_left _ List.mem_cons_self)).1, hz.1, by unfold PySem.W.notCls; rw [hv] <;> rfl, by rw [hz.2.1]; exact ho⟩
  exact HandSPX.exc_get inv1.kIn J C.ga C.gg C.ex (PySem.W.findObj_own C.hd no rfl (by rw [hl, hz1])) (handed_of rz) ⟨v, H1, inv1.tok _, rz, q⟩
/-- a call from a suite -/
def tCallS1 (sp : Addr × Obj → Sp) (a : Addr) (cls : Value) (d : Option Addr) (t : TA) : TE := fun σ H Q => t σ H fun vs H1 => ∀ oe, L2N.Zn cls d oe → (∃ vs, oe.data = .fields vs) → sp (a, oe) vs H1 Q (fun _ _ _ => False)
theorem pe_callS1 {X : Cx} {a : Addr} {oe : Obj} {cls : Value} {d : Option Addr} {pn : List (Addr × Obj)} {k : Nat} {f : Addr} {fd : FuncData} {ps : List Str} {sp : Addr × Obj → Sp} {x : Str} {u0 : Expr} {ur : List Expr} {ta : TA} {q0 q1 : Pos} (F : FnP X.prog X.w X.K X.mg X.base k f fd ps sp) (room : Room k X.A)
    (hz : L2N.Zn cls d oe) (hf : ∃ vs, oe.data = .fields vs) (gl : Gl X x) (mx : X.mg x = some (.ref f)) (hk : PySem.W.keepIn X.K (.ref f) = true) (bi : Binds X.K fd ps []) (har : PA (X.suite a ((a, oe) :: pn)) (u0 :: ur) ta) (nd0 : (x == ("__debug__" : Str)) = false := by decide)
    (st : starEach (u0 :: ur) X.env = (false, eval u0 X.env) :: starEach ur X.env := by rfl) (nokw : (backTo q1 (starEach ur X.env)).any (·.1) = false := by rfl) : PE (X.suite a ((a, oe) :: pn)) (.Call (.Name x q0) (u0 :: ur) [] q1) (tCallS1 sp a cls d ta) := by
  have har2 : PA (X.suite a ((a, oe) :: pn)) (u0 :: ur) (fun σ H Q => ∃ R, ta σ H R ∧ ∀ vs H1, R vs H1 → Q vs H1) :=
    ⟨fun pos pins s σ H Q inv ⟨R, w, i⟩ => thn (har.run pos pins s σ H R inv w) fun us s' ⟨vs, H', J, r, q⟩ => ⟨vs, H', J, r, i vs H' q⟩⟩
  exact ⟨fun pins s σ H Q inv wish => (pe_callP (X := X.suite a ((a, oe) :: pn)) (p := (a, oe)) F (L2H.roomH_mark room _) (hotS hz hf) gl mx hk bi har2 nd0 st nokw).run pins s σ H Q inv ⟨_, wish, fun vs H1 q => q oe hz hf⟩⟩
theorem hotD {P : Program} {w : World} {K : PySem.W.Frag} {mg : Str → Option Value} {base : Heap} {N : List Str} {qual : Str} {sc : Scope} {f : Addr} {cd : Value} {A : Around} {outer : List Env} {s : Shared} {H : Hp} {E : XK} {p : Addr × Obj} (hot : L2H.Hot1 A p) :
    HotP (L2H.cxH CX0 P w K mg base N qual sc f cd A outer s H E p) p := ⟨hot, List.mem_cons_self⟩
/-! ### the tape of drawn numbers -/
/-- all that was tracked stays, but what stands at t -/
def Kp (t : Addr) (H H' : Hp) : Prop := ∀ b o, b ≠ t → H b = some o → H' b = some o
theorem Kp.refl (t : Addr) (H : Hp) : Kp t H H := fun _ _ _ h => h
theorem Kp.trans {t : Addr} {H H1 H2 : Hp} (a : Kp t H H1) (b : Kp t H1 H2) : Kp t H H2 := fun c o n h => b c o n (a c o n h)
theorem Kp.of_same {t : Addr} {H H' : Hp} (a : Same H H') : Kp t H H' := fun c o _ h => a c o h
theorem Kp.put {t : Addr} {H : Hp} {o : HO} : Kp t H (upd H t o) := fun b u n h => by rw [upd_ne n]; exact h
theorem same_upd {H : Hp} {p : Addr} {o : HO} (h : H p = none) : Same H (upd H p o) := fun b x e => by
  rw [upd_ne (ne_of_none e h)]
  exact e
theorem Kp.new {t : Addr} {H H' : Hp} {p : Addr} {o : HO} (a : Kp t H H') (h : H' p = none) : Kp t H (upd H' p o) := a.trans (.of_same (same_upd h))
def Tape (H : Hp) (t c : Addr) : Prop := ∃ (cs : List Int) (a : Nat) (b k r : Int), H t = some (.lst [.ref c, .int a, .int b, .int k, .int r]) ∧ H c = some (.lst (cs.map V.int)) ∧ c ≠ t ∧ a < cs.length
theorem Tape.same {H H' : Hp} {t c : Addr} (h : Tape H t c) (s : Same H H') : Tape H' t c := by
  obtain ⟨cs, a, b, k, r, h1, h2, h3, h4⟩ := h
  exact ⟨cs, a, b, k, r, s _ _ h1, s _ _ h2, h3, h4⟩
theorem Tape.off {H : Hp} {t c m : Addr} (h : Tape H t c) (n : H m = none) : m ≠ t ∧ m ≠ c := by
  obtain ⟨cs, a, b, k, r, h1, h2, h3, h4⟩ := h
  exact ⟨fun e => ne_of_none h1 n e.symm, fun e => ne_of_none h2 n e.symm⟩
theorem Tape.put {H : Hp} {t c m : Addr} {o : HO} (h : Tape H t c) (n : m ≠ t ∧ m ≠ c) : Tape (upd H m o) t c := by
  obtain ⟨cs, a, b, k, r, h1, h2, h3, h4⟩ := h
  exact ⟨cs, a, b, k, r, by rw [upd_ne n.1.symm]; exact h1, by rw [upd_ne n.2.symm]; exact h2, h3, h4⟩
theorem Tape.set {H : Hp} {t c : Addr} {cs : List Int} {a : Nat} {b k r : Int} (h2 : H c = Option.some (.lst (cs.map V.int))) (h3 : c ≠ t) (h4 : a < cs.length) : Tape (upd H t (.lst [.ref c, .int a, .int b, .int k, .int r])) t c :=
  ⟨cs, a, b, k, r, upd_same, by rw [upd_ne h3]; exact h2, h3, h4⟩
theorem ix5 (a b c d e : V) : ixN [a, b, c, d, e].length 0 = Option.some 0 ∧ ixN [a, b, c, d, e].length 1 = Option.some 1 ∧ ixN [a, b, c, d, e].length 2 = Option.some 2 ∧ ixN [a, b, c, d, e].length 3 = Option.some 3 ∧ ixN [a, b, c, d, e].length 4 = Option.some 4 := ⟨rfl, rfl, rfl, rfl, rfl⟩
theorem sz5 (a b c d e : V) : [a, b, c, d, e].length ≤ sizeLine := by show 5 ≤ sizeLine; decide
section
variable {P : Program} {w : World} {K : PySem.W.Frag} {mg : Str → Option Value} {base : Heap}
def sp__law_tape (K : PySem.W.Frag) : Sp := fun vs H Q _ => ∃ (a : Addr) (ns : List Int), vs = [.ref a] ∧ SqL K H a (ns.map V.int) ∧ ns.length ≤ 1000 ∧ ∀ H' t c, Same H H' → H t = none → Tape H' t c → Q (.ref t) H'
theorem T0.ok__law_tape (T : T0 K mg) : FnOk P w K mg base CX0 1 T.a__law_tape T.fd__law_tape ["script"] (sp__law_tape K) := by
  refine T.F__law_tape.ok sc__law_tape (fun vs H Q E h => ?_) (fun cdv A outer s H vs Q E hr h => ?_)
  · obtain ⟨a, ns, rfl, _⟩ := h
    rfl
  · obtain ⟨a, ns, rfl, hS, hlen, q⟩ := h
    refine ⟨_, (pss_cons (ps_setLc (i := 1) (own := [("cell", 2)]) (g := gName 2) (by rfl) sc__law_tape.nd rfl rfl (sw_true rfl rfl rfl (by decide +kernel)) (pi_list (pv 0)) (blkOk_by (own := [("cell", 2)]) (N := ["script", "cells", "cell"]) (sc := defScope s__law_tape) (by decide +kernel)) (fun _ _ _ _ _ => pg_name (i := 2) sc__law_tape.nd rfl (Or.inl rfl)) (fun _ _ _ _ _ => pts_nil) (fun _ _ _ _ _ => (pe_callB call_abs (by rfl) T.m_abs (by decide +kernel) (pa_cons (pe_callTy call_int1 (by rfl) T.m_int (by decide +kernel) (pa_cons (pv 2) pa_nil)) pa_nil))))
        (C8.pss_cut (ps_if (pt_cmpR op_eq (pe_callB (call_lenK (K := K)) (by rfl) T.m_len PySem.boot_len (pa_cons (pv 1) pa_nil)) pe_int (nomark _)) (pss_one (ps_set (i := 1) sc__law_tape.nd rfl (Or.inl rfl) (pe_lst (pa_cons pe_int pa_nil)))) pss_nil)
        (pss_one (ps_ret (pe_lst (pa_cons (pv 1) (pa_cons pe_int (pa_cons (pe_ix (ix_listK (K := K)) (pv 1) pe_int (fun _ _ => rfl)) (pa_cons pe_int (pa_cons pe_int pa_nil)))))))))), ?_⟩
    -- cells = [..]
    refine ⟨.ref a, rfl, a, rfl, ⟨_, hS⟩, fun D hD => lc_list (K := K) (a := a) (xs := ns.map V.int) (fun i H' => Same H H' ∧ ∃ ms : List Int, ms.length = i ∧ H' D = some (.lst (ms.map V.int))) ⟨same_upd hD, [], rfl, upd_same⟩ (fun i H' _ p => p.1.seq hS) (fun i x H' hx p => ?_) (fun H1 p => ?_)⟩
    · obtain ⟨sm, ms, e1, e2⟩ := p
      rw [List.getElem?_map] at hx
      obtain ⟨n, hn, rfl⟩ := Option.map_eq_some_iff.mp hx
      refine ⟨rfl, ?_⟩
      refine ⟨_, rfl, .inl ⟨_, rfl, _, rfl, ms.map V.int, e2, ?_, ?_⟩⟩
      · have hi : i < ns.length := (List.getElem?_eq_some_iff.mp hn).1
        rw [List.length_map]
        exact small1000' (by omega)
      · refine ⟨fun b o h => ?_, ms ++ [if n < 0 then -n else n], ?_, ?_⟩
        · rw [upd_ne (ne_of_none h hD)]
          exact sm b o h
        · rw [List.length_append, e1]
          rfl
        · rw [upd_same, List.map_append]
          rfl
    · obtain ⟨sm, ms, e1, e2⟩ := p
      rw [List.length_map] at e1
      -- if len(cells) == 0
      refine ⟨fun σ' H' => ∃ (c : Addr) (cs : List Int) (x2 : Option V), σ' = [some (.ref a), some (.ref c), x2] ∧ Same H H' ∧ H c = none ∧ H' c = some (.lst (cs.map V.int)) ∧ 0 < cs.length, ?_, fun σ' H' hM => ?_⟩
      · refine ⟨.ref D, rfl, D, ms.map V.int, rfl, .inl (SqL.of e2), rfl, _, rfl, ite2 (fun e => ?_) (fun e => ?_)⟩
        · refine ⟨by decide, fun p np => ?_⟩
          refine ⟨p, [0], none, rfl, ?_, ?_, upd_same, by decide⟩
          · exact sm.trans (same_upd np)
          · exact sm.free np
        · have h0 : ((ms.map V.int).length : Int) ≠ 0 := fun z => e (decide_eq_true (congrArg V.int z))
          rw [List.length_map] at h0
          exact ⟨D, ms, none, rfl, sm, hD, e2, by omega⟩
      · obtain ⟨c, cs, x2, rfl, sm2, nc, e3, hp⟩ := hM
        refine ⟨.ref c, rfl, .ref c, rfl, c, cs.map V.int, 0, .int (cs[0]), rfl, rfl, SqL.of e3, at_ints hp, sz5 _ _ _ _ _, fun t nt => ?_⟩
        refine q _ t c (sm2.trans (same_upd nt)) (sm2.free nt) (Tape.set (a := 0) e3 (ne_of_none e3 nt) hp)
def sp__law_pick (K : PySem.W.Frag) : Sp := fun vs H Q _ => ∃ (t c : Addr) (n : Int), vs = [.ref t, .int n] ∧ Tape H t c ∧ 0 < n ∧ n ≤ 4000000000 ∧ ∀ x H', 0 ≤ x → x < n → Kp t H H' → Tape H' t c → Q (.int x) H'
theorem T0.ok__law_pick (T : T0 K mg) : FnOk P w K mg base CX0 1 T.a__law_pick T.fd__law_pick ["tape", "size"] (sp__law_pick K) := by
  refine T.F__law_pick.ok sc__law_pick (fun vs H Q E h => ?_) (fun cdv A outer s H vs Q E hr h => ?_)
  · obtain ⟨t, c, n, rfl, _⟩ := h
    rfl
  · obtain ⟨t, c, n, rfl, ⟨cs, a, b, k, r, hT, hC, nct, ha⟩, hn0, hn1, q⟩ := h
    refine ⟨_, (pss_cons (ps_set (i := 2) sc__law_pick.nd rfl (Or.inl rfl) (pe_ix (ix_listK (K := K)) (pv 0) pe_int (fun _ _ => rfl)))
        (pss_cons (ps_set (i := 3) sc__law_pick.nd rfl (Or.inl rfl) (pe_ix (ix_listK (K := K)) (pv 2) (pe_ix (ix_listK (K := K)) (pv 0) pe_int (fun _ _ => rfl)) (fun _ _ => rfl)))
        (pss_cons (ps_set (i := 4) sc__law_pick.nd rfl (Or.inl rfl) (pe_op op_add (pe_ix (ix_listK (K := K)) (pv 0) pe_int (fun _ _ => rfl)) (pe_op op_mul pe_int (pe_ix (ix_listK (K := K)) (pv 0) pe_int (fun _ _ => rfl)))))
        (C8.pss_cut (ps_if (PW.pt (pw_and (pt_cmpR op_ge (pv 3) (pe_op op_pow pe_int pe_int) (nomark _)) (pw_and1 (pt_cmpR op_eq (pe_ix (ix_listK (K := K)) (pv 0) pe_int (fun _ _ => rfl)) pe_int (nomark _))))) (pss_cons (ps_set (i := 5) sc__law_pick.nd rfl (Or.inl rfl) (pe_op op_modN (pe_callTy call_int1 (by rfl) T.m_int (by decide +kernel) (pa_cons (pe_ix (ix_listK (K := K)) (pv 0) pe_int (fun _ _ => rfl)) pa_nil)) (pv 1)))
        (pss_cons (ps_asg ((pe_op op_fdivW (pe_ix (ix_listK (K := K)) (pv 0) pe_int (fun _ _ => rfl)) (pv 1))) (pg_sub (pv 0) pe_int set_list))
        (pss_one (ps_set (i := 6) sc__law_pick.nd rfl (Or.inl rfl) (pe_cmpR op_eq (pe_ix (ix_listK (K := K)) (pv 0) pe_int (fun _ _ => rfl)) pe_int (nomark _)))))) (pss_cons (ps_set (i := 7) sc__law_pick.nd rfl (Or.inl rfl) (pe_op op_modN (pe_callTy call_int1 (by rfl) T.m_int (by decide +kernel) (pa_cons (pe_op op_add (pe_op op_add (pv 3) (pe_op op_mul pe_int (pv 4))) pe_int) pa_nil)) pe_int))
        (pss_cons (ps_set (i := 7) sc__law_pick.nd rfl (Or.inl rfl) (pe_op op_modN (pe_callTy call_int1 (by rfl) T.m_int (by decide +kernel) (pa_cons (pe_op op_mul (pv 7) (pe_op op_add (pv 7) pe_int)) pa_nil)) pe_int))
        (pss_cons (ps_set (i := 7) sc__law_pick.nd rfl (Or.inl rfl) (pe_op op_modN (pe_callTy call_int1 (by rfl) T.m_int (by decide +kernel) (pa_cons (pe_op op_add (pe_op op_mul (pv 7) (pe_op op_add (pv 7) pe_int)) (pe_op op_mul pe_int (pv 4))) pa_nil)) pe_int))
        (pss_cons (ps_set (i := 5) sc__law_pick.nd rfl (Or.inl rfl) (pe_op op_modN (pe_callTy call_int1 (by rfl) T.m_int (by decide +kernel) (pa_cons (pe_op op_fdivN (pv 7) pe_int) pa_nil)) (pv 1)))
        (pss_one (ps_set (i := 6) sc__law_pick.nd rfl (Or.inl rfl) (pe_cmpR op_eq (pe_op op_modN (pe_callTy call_int1 (by rfl) T.m_int (by decide +kernel) (pa_cons (pv 4) pa_nil)) pe_int) pe_int (nomark _)))))))))
        (pss_cons (ps_asg (pe_op op_add (pe_ix (ix_listK (K := K)) (pv 0) pe_int (fun _ _ => rfl)) pe_int) (pg_sub (pv 0) pe_int set_list))
        (C8.pss_cut (ps_if (pt_val (pv 6)) (pss_cons (ps_asg pe_int (pg_sub (pv 0) pe_int set_list))
        (pss_cons (ps_asg (pe_op op_add (pe_ix (ix_listK (K := K)) (pv 0) pe_int (fun _ _ => rfl)) pe_int) (pg_sub (pv 0) pe_int set_list))
        (C8.pss_cut (ps_if (pt_cmpR op_eq (pe_ix (ix_listK (K := K)) (pv 0) pe_int (fun _ _ => rfl)) (pe_callB (call_lenK (K := K)) (by rfl) T.m_len PySem.boot_len (pa_cons (pv 2) pa_nil)) (nomark _)) (pss_cons (ps_asg pe_int (pg_sub (pv 0) pe_int set_list))
        (pss_one (ps_asg (pe_op op_add (pe_ix (ix_listK (K := K)) (pv 0) pe_int (fun _ _ => rfl)) pe_int) (pg_sub (pv 0) pe_int set_list)))) pss_nil)
        (pss_one (ps_asg (pe_ix (ix_listK (K := K)) (pv 2) (pe_ix (ix_listK (K := K)) (pv 0) pe_int (fun _ _ => rfl)) (fun _ _ => rfl)) (pg_sub (pv 0) pe_int set_list)))))) pss_nil)
        (pss_one (ps_ret (pv 5))))))))), ?_⟩
    have st : SqL K H t [.ref c, .int a, .int b, .int k, .int r] := SqL.of hT
    have sc : SqL K H c (cs.map V.int) := SqL.of hC
    -- cells = tape[0]; cell = cells[tape[1]]
    refine ⟨.ref t, rfl, t, _, 0, .ref c, rfl, rfl, st, rfl, ?_⟩
    refine ⟨.ref c, rfl, .ref t, rfl, t, _, 1, .int a, rfl, rfl, st, rfl, c, _, a, .int (cs[a]), rfl, rfl, sc, at_ints ha, ?_⟩
    -- k = tape[3] + 61 * tape[4]
    refine ⟨.ref t, rfl, t, _, 3, .int k, rfl, rfl, st, rfl, .ref t, rfl, t, _, 4, .int r, rfl, rfl, st, rfl, 61, r, rfl, rfl, .inl (by decide), _, _, rfl, rfl, ?_⟩
    refine ⟨fun σ' H' => ∃ (x : Int) (u : Bool) (b' : Int) (y : Option V), σ' = [some (.ref t), some (.int n), some (.ref c), some (.int cs[a]), some (.int (k + 61 * r)), some (.int x), some (.bl u), y] ∧ 0 ≤ x ∧ x < n ∧ H' = upd H t (.lst [.ref c, .int a, .int b', .int k, .int r]), ?_, fun σ' H' hM => ?_⟩
    · -- if cell >= 10 ** 18 and tape[4] == 0
      have hn : n ≠ 0 := by omega
      have fm : ∀ x : Int, 0 ≤ x.fmod n ∧ x.fmod n < n := fun x => fmod_range x hn0
      refine ⟨.int cs[a], rfl, 10, 18, rfl, rfl, ⟨by decide, by decide, by decide⟩, _, _, rfl, rfl, _, rfl, ite2 (fun _ => ?A) (fun _ => ?no1)⟩
      case' A => refine ⟨.ref t, rfl, t, _, 4, .int r, rfl, rfl, st, rfl, rfl, _, rfl, ite2 (fun _ => ?yes) (fun _ => ?no2)⟩
      case yes =>
        walk_at "go"
        exact ⟨_, _, _, none, rfl, (fm _).1, (fm _).2, rfl⟩
      case no1 | no2 =>
        walk_at "go"
        exact ⟨_, _, b, _, rfl, (fm _).1, (fm _).2, upd_self hT⟩
    · obtain ⟨x, u, b', y, rfl, hx0, hx1, rfl⟩ := hM
      have sc' : ∀ xs, SqL K (upd H t (.lst xs)) c (cs.map V.int) := fun xs => SqL.of ((upd_ne nct).trans hC)
      -- tape[3] = tape[3] + 1
      walk_at "go"
      rw [upd_upd]
      refine ⟨fun σ' H' => ∃ (a' : Nat) (b2 k2 r2 : Int), a' < cs.length ∧ σ' = [some (.ref t), some (.int n), some (.ref c), some (.int cs[a]), some (.int (k + 61 * r)), some (.int x), some (.bl u), y] ∧ H' = upd H t (.lst [.ref c, .int a', .int b2, .int k2, .int r2]), ?_, fun σ' H' hM => ?_⟩
      · refine ⟨_, rfl, _, rfl, ?_⟩
        cases u with
        | false => exact iteF ⟨a, b', k + 1, r, ha, rfl, rfl⟩
        | true =>
          refine iteT ?_
          -- tape[3] = 0; tape[1] = tape[1] + 1
          walk_at "go"
          rw [upd_upd]
          walk_at "go"
          rw [upd_upd]
          refine ⟨fun σ' H' => ∃ (a' : Nat) (r2 : Int), a' < cs.length ∧ σ' = [some (.ref t), some (.int n), some (.ref c), some (.int cs[a]), some (.int (k + 61 * r)), some (.int x), some (.bl true), y] ∧ H' = upd H t (.lst [.ref c, .int a', .int b', .int 0, .int r2]), ?_, fun σ' H' hM => ?_⟩
          · -- if tape[1] == len(cells)
            refine ⟨_, rfl, t, _, 1, .int (a + 1), rfl, rfl, SqL.of upd_same, rfl, ?_⟩
            refine ⟨_, rfl, c, _, rfl, .inl (sc' _), rfl, _, rfl, ite2 (fun e => ?_) (fun e => ?_)⟩
            · walk_at "go"
              rw [upd_upd]
              walk_at "go"
              rw [upd_upd]
              exact ⟨0, r + 1, by omega, rfl, rfl⟩
            · rw [List.length_map] at e
              refine ⟨a + 1, r, ?_, rfl, rfl⟩
              have h0 : ((a : Int) + 1) ≠ (cs.length : Int) := fun z => e (decide_eq_true (congrArg V.int z))
              omega
          · obtain ⟨a', r2, ha2, rfl, rfl⟩ := hM
            -- tape[2] = cells[tape[1]]
            refine ⟨_, rfl, _, rfl, t, _, 1, .int a', rfl, rfl, SqL.of upd_same, rfl, c, _, a', .int cs[a'], rfl, rfl, sc' _, at_ints ha2, ?_⟩
            walk_at "go"
            exact ⟨a', _, _, _, ha2, rfl, upd_upd⟩
      · obtain ⟨a', b2, k2, r2, ha2, rfl, rfl⟩ := hM
        exact ⟨_, rfl, q _ _ hx0 hx1 .put (Tape.set hC nct ha2)⟩
local macro_rules | `(tactic| walk_at "kp") => `(tactic| first
  | exact Kp.refl _ _
  | assumption
  | (refine Kp.trans ?_ (by assumption); walk_at "kp"))
local macro_rules | `(tactic| walk_at "pick") => `(tactic|
  refine ⟨_, _, _, rfl, (by assumption), (by first | decide | omega), (by first | decide | omega), fun x H' h0 h1 kp hT => ?_⟩)
def sp__law_size (K : PySem.W.Frag) : Sp := fun vs H Q _ => ∃ (t c : Addr) (n : Int), vs = [.ref t, .int n] ∧ Tape H t c ∧ n ≤ 100 ∧ ∀ x H', 1 ≤ x → n ≤ x → x ≤ 1000000000 → Kp t H H' → Tape H' t c → Q (.int x) H'
theorem T0.ok__law_size (T : T0 K mg) : FnOk P w K mg base CX0 2 T.a__law_size T.fd__law_size ["tape", "count"] (sp__law_size K) := by
  refine T.F__law_size.ok sc__law_size (fun vs H Q E h => ?_) (fun cdv A outer s H vs Q E hr h => ?_)
  · obtain ⟨t, c, n, rfl, _⟩ := h
    rfl
  · obtain ⟨t, c, n, rfl, hT, hn, q⟩ := h
    refine ⟨_, (pss_cons (ps_set (i := 2) sc__law_size.nd rfl (Or.inl rfl) (pe_call T.ok__law_pick hr (by rfl) T.g__law_pick T.k__law_pick T.b__law_pick .nil pass0 (pa_cons (pv 0) (pa_cons pe_int pa_nil))))
        (pss_cons (ps_set (i := 3) sc__law_size.nd rfl (Or.inl rfl) (pe_callB (call_max2 rfl) (by rfl) T.m_max (by decide +kernel) (pa_cons pe_int (pa_cons (pv 1) pa_nil))))
        (pss_cons (ps_if (pt_cmpR op_eq (pv 2) pe_int (nomark _)) (pss_one (ps_ret (pv 3))) pss_nil)
        (pss_cons (ps_if (pt_cmpR op_eq (pv 2) pe_int (nomark _)) (pss_one (ps_ret (pe_op op_add (pv 3) (pe_call T.ok__law_pick hr (by rfl) T.g__law_pick T.k__law_pick T.b__law_pick .nil pass0 (pa_cons (pv 0) (pa_cons pe_int pa_nil)))))) pss_nil)
        (pss_cons (ps_if (pt_cmpR op_eq (pv 2) pe_int (nomark _)) (pss_one (ps_ret (pe_op op_add (pv 3) (pe_call T.ok__law_pick hr (by rfl) T.g__law_pick T.k__law_pick T.b__law_pick .nil pass0 (pa_cons (pv 0) (pa_cons pe_int pa_nil)))))) pss_nil)
        (pss_one (ps_ret (pe_op op_add (pe_op op_add (pv 3) pe_int) (pe_call T.ok__law_pick hr (by rfl) T.g__law_pick T.k__law_pick T.b__law_pick .nil pass0 (pa_cons (pv 0) (pa_cons pe_int pa_nil))))))))))), ?_⟩
    refine ⟨_, rfl, ?_⟩
    walk_at "pick"
    rename_i x H1 h0 h1 kp hT1
    refine ⟨.int n, rfl, 1, n, rfl, ?_⟩
    have l1 : 1 ≤ (if n > 1 then n else (1 : Int)) ∧ n ≤ (if n > 1 then n else (1 : Int)) ∧ (if n > 1 then n else (1 : Int)) ≤ 100 := by split <;> omega
    revert l1
    generalize (if n > 1 then n else (1 : Int)) = l
    intro l1
    refine ⟨_, rfl, rfl, _, rfl, ite2 (fun _ => ?_) (fun _ => ?_)⟩
    · exact ⟨_, rfl, q _ _ (by omega) (by omega) (by omega) (by walk_at "kp") hT1⟩
    refine ⟨_, rfl, rfl, _, rfl, ite2 (fun _ => ?_) (fun _ => ?_)⟩
    · refine ⟨_, rfl, _, rfl, ?_⟩
      walk_at "pick"
      exact ⟨_, _, rfl, rfl, q _ _ (by omega) (by omega) (by omega) (by walk_at "kp") (by assumption)⟩
    refine ⟨_, rfl, rfl, _, rfl, ite2 (fun _ => ?_) (fun _ => ?_)⟩
    · refine ⟨_, rfl, _, rfl, ?_⟩
      walk_at "pick"
      exact ⟨_, _, rfl, rfl, q _ _ (by omega) (by omega) (by omega) (by walk_at "kp") (by assumption)⟩
    · refine ⟨_, rfl, _, _, rfl, rfl, _, rfl, ?_⟩
      walk_at "pick"
      exact ⟨_, _, rfl, rfl, q _ _ (by omega) (by omega) (by omega) (by walk_at "kp") (by assumption)⟩
/-! ### _law_same -/
theorem op_isB {X : Cx} : OpR X (compareOp .Is) (fun x y H Q => ∃ b, y = .bl b ∧ Q (.bl (decide (x = .bl b))) H) := by
  intro pins s σ H x y v u Q I rx ry h
  obtain ⟨b, rfl, q⟩ := h
  cases (show u = Value.bool b from ry)
  cases x with
  | bl c =>
    cases (show v = Value.bool c from rx)
    refine is_bool (fin_bl I q ?_)
    cases b <;> cases c <;> rfl
  | non => cases rx; exact wpAny_is_plain rfl (fin_bl I q rfl)
  | int _ => obtain ⟨t, rfl⟩ := rx; exact wpAny_is_plain rfl (fin_bl I q rfl)
  | str _ => obtain ⟨t, rfl⟩ := rx; exact wpAny_is_plain rfl (fin_bl I q rfl)
  | byt _ => obtain ⟨t, rfl⟩ := rx; exact wpAny_is_plain rfl (fin_bl I q rfl)
  | flt _ => obtain ⟨t, rfl⟩ := rx; exact wpAny_is_plain rfl (fin_bl I q rfl)
  | ref _ => cases rx; exact wpAny_is_plain rfl (fin_bl I q rfl)
  | ty _ => cases rx; exact wpAny_is_plain rfl (fin_bl I q rfl)
def atomV : V → Bool
  | .non => true
  | .bl _ => true
  | .int _ => true
  | .str _ => true
  | _ => false
/-- the same data, of at most this depth -/
inductive Sm (K : PySem.W.Frag) : Nat → Hp → V → V → Prop
  | atom {d : Nat} {H : Hp} {x : V} : atomV x = true → Sm K (d + 1) H x x
  | lst {d : Nat} {H : Hp} {a b : Addr} {xs ys : List V} : SqL K H a xs → SqL K H b ys → xs.length = ys.length → ys.length ≤ 100000 → (∀ (i : Nat) x y, xs[i]? = some x → ys[i]? = some y → Sm K d H x y) → Sm K (d + 1) H (.ref a) (.ref b)
  | tup {d : Nat} {H : Hp} {a b : Addr} {xs ys : List V} : SqT K H a xs → SqT K H b ys → xs.length = ys.length → ys.length ≤ 100000 → (∀ (i : Nat) x y, xs[i]? = some x → ys[i]? = some y → Sm K d H x y) → Sm K (d + 1) H (.ref a) (.ref b)
  | dic {d : Nat} {H : Hp} {a b : Addr} {xs ys : List (Key × V)} : H a = some (.dK xs) → H b = some (.dK ys) → xs.length = ys.length → ys.length ≤ 100000 → (∀ (i : Nat) x y, xs[i]? = some x → ys[i]? = some y → x.1 = y.1) →
      (∀ (i : Nat) x y, xs[i]? = some x → ys[i]? = some y → Sm K (d + 1) H x.2 y.2) → Sm K (d + 4) H (.ref a) (.ref b)
theorem same_t {K : PySem.W.Frag} {H H' : Hp} {a : Addr} {xs : List V} (e : Same H H') (h : SqT K H a xs) : SqT K H' a xs := by
  rcases h with (h | ⟨o, h⟩) | h
  · exact .inl (.inl (e _ _ h))
  · exact .inl (.inr ⟨o, e _ _ h⟩)
  · exact .inr h
theorem Sm.same {K : PySem.W.Frag} {d : Nat} {H : Hp} {x y : V} (h : Sm K d H x y) : ∀ {H' : Hp}, Same H H' → Sm K d H' x y := by
  induction h with
  | atom h => exact fun _ => .atom h
  | lst h1 h2 h3 h4 _ ih => exact fun s => .lst (s.seq h1) (s.seq h2) h3 h4 fun i x y e1 e2 => ih i x y e1 e2 s
  | tup h1 h2 h3 h4 _ ih => exact fun s => .tup (same_t s h1) (same_t s h2) h3 h4 fun i x y e1 e2 => ih i x y e1 e2 s
  | dic h1 h2 h3 h4 h5 _ ih => exact fun s => .dic (s _ _ h1) (s _ _ h2) h3 h4 h5 fun i x y e1 e2 => ih i x y e1 e2 s
theorem Sm.succ {K : PySem.W.Frag} {d : Nat} {H : Hp} {x y : V} (h : Sm K d H x y) : Sm K (d + 1) H x y := by
  induction h with
  | atom h => exact .atom h
  | lst h1 h2 h3 h4 _ ih => exact .lst h1 h2 h3 h4 ih
  | tup h1 h2 h3 h4 _ ih => exact .tup h1 h2 h3 h4 ih
  | dic h1 h2 h3 h4 h5 _ ih => exact .dic h1 h2 h3 h4 h5 ih
theorem Sm.int {K : PySem.W.Frag} {d : Nat} {H : Hp} {i j : Int} (h : i = j) : Sm K (d + 1) H (.int i) (.int j) := by subst h; exact .atom rfl
theorem Sm.bl {K : PySem.W.Frag} {d : Nat} {H : Hp} {i j : Bool} (h : i = j) : Sm K (d + 1) H (.bl i) (.bl j) := by subst h; exact .atom rfl
theorem tyx_l {K : PySem.W.Frag} {H : Hp} {a : Addr} {xs : List V} (h : SqL K H a xs) : TyX K H (.ref a) (.type "list") := by
  rcases h with (h | ⟨o, h⟩) | ⟨o, its, n, h1, h2, _⟩
  · exact .base (.lst h)
  · exact .base (.frz h)
  · exact .kList h1 h2
theorem tyx_t {K : PySem.W.Frag} {H : Hp} {a : Addr} {xs : List V} (h : SqT K H a xs) : TyX K H (.ref a) (.type "tuple") := by
  rcases h with (h | ⟨o, h⟩) | ⟨o, its, n, h1, h2, _⟩
  · exact .base (.tup h)
  · exact .fTuple h
  · exact .kTuple h1 h2
theorem pair_ix {R : V → V → Prop} : ∀ {xs ys : List V}, Paired R xs ys → ∀ (i : Nat) x y, xs[i]? = some x → ys[i]? = some y → R x y
  | _, _, .nil, i, x, y, h, _ => by simp at h
  | _, _, .cons r _, 0, x, y, h, g => by
    cases h
    cases g
    exact r
  | _, _, .cons _ t, i + 1, x, y, h, g => pair_ix t i x y h g
theorem Sm.lstP {K : PySem.W.Frag} {d : Nat} {H : Hp} {a b : Addr} {xs ys : List V} (h1 : SqL K H a xs) (h2 : SqL K H b ys) (h3 : ys.length ≤ 100000) (p : Paired (Sm K d H) xs ys) : Sm K (d + 1) H (.ref a) (.ref b) :=
  .lst h1 h2 p.length h3 (pair_ix p)
theorem Sm.tupP {K : PySem.W.Frag} {d : Nat} {H : Hp} {a b : Addr} {xs ys : List V} (h1 : SqT K H a xs) (h2 : SqT K H b ys) (h3 : ys.length ≤ 100000) (p : Paired (Sm K d H) xs ys) : Sm K (d + 1) H (.ref a) (.ref b) :=
  .tup h1 h2 p.length h3 (pair_ix p)
def sp__law_same (d : Nat) (K : PySem.W.Frag) : Sp := fun vs H Q _ => ∃ x y, vs = [x, y] ∧ Sm K d H x y ∧ ∀ H', Same H H' → Q (.bl true) H'
theorem fnok_never {CX : CXT} {k : Nat} {f : Addr} {fd : FuncData} {ps : List Str} {sp : Sp} (h : ∀ vs H Q E, ¬ sp vs H Q E) : FnOk P w K mg base CX k f fd ps sp where
  len := fun vs H Q E z => (h vs H Q E z).elim
  run := fun A outer s H args us vs Q E hr h0 hb hv z => (h vs H Q E z).elim
theorem T0.ok__law_same_succ (T : T0 K mg) {d : Nat} (G : FnOk P w K mg base CX0 d T.a__law_same T.fd__law_same ["actual", "due"] (sp__law_same d K)) : FnOk P w K mg base CX0 (d + 1) T.a__law_same T.fd__law_same ["actual", "due"] (sp__law_same (d + 1) K) := by
  refine T.F__law_same.ok sc__law_same (fun vs H Q E h => ?_) (fun cdv A outer s H vs Q E hr h => ?_)
  · obtain ⟨x, y, rfl, _⟩ := h
    rfl
  · obtain ⟨x, y, rfl, hS, q⟩ := h
    refine ⟨_, (pss_cons (ps_if (pt_cmpR op_isN (pv 1) pe_non (nomark _)) (pss_one (ps_ret (pe_cmpR op_isN (pv 0) pe_non (nomark _)))) pss_nil)
        (pss_cons (ps_if (pt_cmpR op_isB (pv 1) pe_bl (nomark _)) (pss_one (ps_ret (pe_cmpR op_isB (pv 0) pe_bl (nomark _)))) pss_nil)
        (pss_cons (ps_if (pt_cmpR op_isB (pv 1) pe_bl (nomark _)) (pss_one (ps_ret (pe_cmpR op_isB (pv 0) pe_bl (nomark _)))) pss_nil)
        (pss_cons (ps_if (pt_val (pe_callB (call_isinstK (K := K)) (by rfl) T.m_isinstance (by decide +kernel) (pa_cons (pv 1) (pa_cons (pe_bltn (v := .ty "int") (by rfl) T.m_int (by decide +kernel) rfl) pa_nil)))) (pss_one (ps_ret (pe_and (pe_callB (call_isinstK (K := K)) (by rfl) T.m_isinstance (by decide +kernel) (pa_cons (pv 0) (pa_cons (pe_bltn (v := .ty "int") (by rfl) T.m_int (by decide +kernel) rfl) pa_nil))) (pe_and (pe_not (pe_callB (call_isinstK (K := K)) (by rfl) T.m_isinstance (by decide +kernel) (pa_cons (pv 0) (pa_cons (pe_bltn (v := .ty "bool") (by rfl) T.m_bool (by decide +kernel) rfl) pa_nil)))) (pe_one (pe_cmpR op_eq (pv 0) (pv 1) (nomark _))))))) pss_nil)
        (pss_cons (ps_if (pt_val (pe_callB (call_isinstK (K := K)) (by rfl) T.m_isinstance (by decide +kernel) (pa_cons (pv 1) (pa_cons (pe_bltn (v := .ty "str") (by rfl) T.m_str (by decide +kernel) rfl) pa_nil)))) (pss_one (ps_ret (pe_and (pe_callB (call_isinstK (K := K)) (by rfl) T.m_isinstance (by decide +kernel) (pa_cons (pv 0) (pa_cons (pe_bltn (v := .ty "str") (by rfl) T.m_str (by decide +kernel) rfl) pa_nil))) (pe_one (pe_cmpR op_eq (pv 0) (pv 1) (nomark _)))))) pss_nil)
        (pss_cons (ps_if (pt_val (pe_callB (call_isinstK (K := K)) (by rfl) T.m_isinstance (by decide +kernel) (pa_cons (pv 1) (pa_cons (pe_bltn (v := .ty "dict") (by rfl) T.m_dict (by decide +kernel) rfl) pa_nil)))) (pss_one (ps_ret (pe_and (pe_callB (call_isinstK (K := K)) (by rfl) T.m_isinstance (by decide +kernel) (pa_cons (pv 0) (pa_cons (pe_bltn (v := .ty "dict") (by rfl) T.m_dict (by decide +kernel) rfl) pa_nil))) (pe_one (pe_call G hr (by rfl) T.g__law_same T.k__law_same T.b__law_same .nil pass0 (pa_cons (LiI.pe_listItems rfl (pv 0) (by rfl) T.m_list (by decide +kernel)) (pa_cons (LiI.pe_listItems rfl (pv 1) (by rfl) T.m_list (by decide +kernel)) pa_nil))))))) pss_nil)
        (C8.pss_cut (ps_if (PW.pt (pw_and (pt_val (pe_callB (call_isinstK (K := K)) (by rfl) T.m_isinstance (by decide +kernel) (pa_cons (pv 1) (pa_cons (pe_bltn (v := .ty "tuple") (by rfl) T.m_tuple (by decide +kernel) rfl) pa_nil)))) (pw_and1 (pt_not (pt_val (pe_callB (call_isinstK (K := K)) (by rfl) T.m_isinstance (by decide +kernel) (pa_cons (pv 0) (pa_cons (pe_bltn (v := .ty "tuple") (by rfl) T.m_tuple (by decide +kernel) rfl) pa_nil)))))))) (pss_one (ps_ret pe_bl)) pss_nil)
        (C8.pss_cut (ps_if (PW.pt (pw_and (pt_val (pe_callB (call_isinstK (K := K)) (by rfl) T.m_isinstance (by decide +kernel) (pa_cons (pv 1) (pa_cons (pe_bltn (v := .ty "list") (by rfl) T.m_list (by decide +kernel) rfl) pa_nil)))) (pw_and1 (pt_not (pt_val (pe_callB (call_isinstK (K := K)) (by rfl) T.m_isinstance (by decide +kernel) (pa_cons (pv 0) (pa_cons (pe_bltn (v := .ty "list") (by rfl) T.m_list (by decide +kernel) rfl) pa_nil)))))))) (pss_one (ps_ret pe_bl)) pss_nil)
        (pss_cons (ps_if (pt_cmpR op_ne (pe_callB (call_lenK (K := K)) (by rfl) T.m_len PySem.boot_len (pa_cons (pv 0) pa_nil)) (pe_callB (call_lenK (K := K)) (by rfl) T.m_len PySem.boot_len (pa_cons (pv 1) pa_nil)) (nomark _)) (pss_one (ps_ret pe_bl)) pss_nil)
        (pss_cons (ps_for PassesOwn.never rfl (pi_range1 (by rfl) T.m_range (pa_cons (pe_callB (call_lenK (K := K)) (by rfl) T.m_len PySem.boot_len (pa_cons (pv 1) pa_nil)) pa_nil)) (pg_name (i := 2) sc__law_same.nd rfl (Or.inl rfl)) (pss_one (ps_if (pt_not (pt_val (pe_call G hr (by rfl) T.g__law_same T.k__law_same T.b__law_same .nil pass0 (pa_cons (pe_ix ix_seq (pv 0) (pv 2) (fun _ _ => rfl)) (pa_cons (pe_ix ix_seq (pv 1) (pv 2) (fun _ _ => rfl)) pa_nil))))) (pss_one (ps_ret pe_bl)) pss_nil)))
        (pss_one (ps_ret pe_bl)))))))))))), ?_⟩
    refine ⟨_, rfl, rfl, _, rfl, ite2 (fun e => ?_) (fun e => ?_)⟩
    · have e := of_decide_eq_true e
      subst e
      cases hS with
      | atom _ => exact ⟨_, rfl, rfl, q _ (.refl _)⟩
    refine ⟨_, rfl, _, rfl, _, rfl, ite2 (fun e => ?_) (fun e => ?_)⟩
    · have e := of_decide_eq_true e
      subst e
      cases hS with
      | atom _ => exact ⟨_, rfl, _, rfl, q _ (.refl _)⟩
    refine ⟨_, rfl, _, rfl, _, rfl, ite2 (fun e => ?_) (fun e => ?_)⟩
    · have e := of_decide_eq_true e
      subst e
      cases hS with
      | atom _ => exact ⟨_, rfl, _, rfl, q _ (.refl _)⟩
    rename_i hn ht
    have hS' : (x = y ∧ atomV x = true) ∨ (∃ (T : String) (a b : Addr) (xs ys : List V), x = .ref a ∧ y = .ref b ∧ (T = "list" ∧ SqL K H a xs ∧ SqL K H b ys ∨ T = "tuple" ∧ SqT K H a xs ∧ SqT K H b ys) ∧ xs.length = ys.length ∧ ys.length ≤ 100000 ∧ ∀ (i : Nat) x y, xs[i]? = some x → ys[i]? = some y → Sm K d H x y) ∨
        (∃ (e : Nat) (a b : Addr) (xs ys : List (Key × V)), d = e + 3 ∧ x = .ref a ∧ y = .ref b ∧ H a = some (.dK xs) ∧ H b = some (.dK ys) ∧ xs.length = ys.length ∧ ys.length ≤ 100000 ∧ (∀ (i : Nat) x y, xs[i]? = some x → ys[i]? = some y → x.1 = y.1) ∧
          ∀ (i : Nat) x y, xs[i]? = some x → ys[i]? = some y → Sm K (e + 1) H x.2 y.2) := by
      cases hS with
      | atom h => exact .inl ⟨rfl, h⟩
      | lst h1 h2 h3 h4 h5 => exact .inr (.inl ⟨"list", _, _, _, _, rfl, rfl, .inl ⟨rfl, h1, h2⟩, h3, h4, h5⟩)
      | tup h1 h2 h3 h4 h5 => exact .inr (.inl ⟨"tuple", _, _, _, _, rfl, rfl, .inr ⟨rfl, h1, h2⟩, h3, h4, h5⟩)
      | dic h1 h2 h3 h4 h5 h6 => exact .inr (.inr ⟨_, _, _, _, _, rfl, rfl, rfl, h1, h2, h3, h4, h5, h6⟩)
    rcases hS' with ⟨rfl, hx⟩ | ⟨t, a, b, xs, ys, rfl, rfl, hk, hl, hz, hi⟩ | ⟨c, a, b, xs, ys, rfl, rfl, rfl, h1, h2, hl, hz, hk, hi⟩
    · cases x with
      | non => exact absurd (decide_eq_true rfl) hn
      | bl b => cases b with
        | true => exact absurd (decide_eq_true rfl) ht
        | false => exact absurd (decide_eq_true rfl) e
      | int i =>
        refine ⟨_, rfl, _, _, _, _, true, rfl, .ty "int", .base (.int _), kit_ty (by decide +kernel), _, rfl, iteT ?_⟩
        refine ⟨_, rfl, _, _, _, _, true, rfl, .ty "int", .base (.int _), kit_ty (by decide +kernel), _, rfl, iteT ?_⟩
        refine ⟨_, rfl, _, _, _, _, false, rfl, .ty "bool", .base (.int _), kit_ty (by decide +kernel), _, rfl, _, rfl, iteT ?_⟩
        refine ⟨_, rfl, _, rfl, rfl, ?_⟩
        rw [decide_eq_true rfl]
        exact q _ (.refl _)
      | str i =>
        refine ⟨_, rfl, _, _, _, _, false, rfl, .ty "int", .base (.str _), kit_ty (by decide +kernel), _, rfl, iteF ?_⟩
        refine ⟨_, rfl, _, _, _, _, true, rfl, .ty "str", .base (.str _), kit_ty (by decide +kernel), _, rfl, iteT ?_⟩
        refine ⟨_, rfl, _, _, _, _, true, rfl, .ty "str", .base (.str _), kit_ty (by decide +kernel), _, rfl, iteT ?_⟩
        refine ⟨_, rfl, _, rfl, rfl, ?_⟩
        rw [decide_eq_true rfl]
        exact q _ (.refl _)
      | _ => cases hx
    · have tb : TyX K H (.ref b) (.type t) := by
        rcases hk with ⟨rfl, _, h⟩ | ⟨rfl, _, h⟩
        · exact tyx_l h
        · exact tyx_t h
      have ta : TyX K H (.ref a) (.type t) := by
        rcases hk with ⟨rfl, h, _⟩ | ⟨rfl, h, _⟩
        · exact tyx_l h
        · exact tyx_t h
      have tt : t = "list" ∨ t = "tuple" := hk.imp (fun h => h.1) (fun h => h.1)
      refine ⟨_, rfl, _, _, _, _, false, rfl, .ty "int", tb, kit_ty (by rcases tt with rfl | rfl <;> decide +kernel), _, rfl, iteF ?_⟩
      refine ⟨_, rfl, _, _, _, _, false, rfl, .ty "str", tb, kit_ty (by rcases tt with rfl | rfl <;> decide +kernel), _, rfl, iteF ?_⟩
      refine ⟨_, rfl, _, _, _, _, false, rfl, .ty "dict", tb, kit_ty (by rcases tt with rfl | rfl <;> decide +kernel), _, rfl, iteF ?_⟩
      refine ⟨fun σ' H' => σ' = [some (.ref a), some (.ref b), none] ∧ H = H', ?_, ?_⟩
      · rcases tt with rfl | rfl
        · refine ⟨_, rfl, _, _, _, _, false, rfl, .ty "tuple", tb, kit_ty (by decide +kernel), _, rfl, iteF (iteF ⟨rfl, rfl⟩)⟩
        · refine ⟨_, rfl, _, _, _, _, true, rfl, .ty "tuple", tb, kit_ty (by decide +kernel), _, rfl, iteT ?_⟩
          refine ⟨_, rfl, _, _, _, _, true, rfl, .ty "tuple", ta, kit_ty (by decide +kernel), _, rfl, iteF ⟨rfl, rfl⟩⟩
      rintro _ _ ⟨rfl, rfl⟩
      refine ⟨fun σ' H' => σ' = [some (.ref a), some (.ref b), none] ∧ H = H', ?_, ?_⟩
      · rcases tt with rfl | rfl
        · refine ⟨_, rfl, _, _, _, _, true, rfl, .ty "list", tb, kit_ty (by decide +kernel), _, rfl, iteT ?_⟩
          refine ⟨_, rfl, _, _, _, _, true, rfl, .ty "list", ta, kit_ty (by decide +kernel), _, rfl, iteF ⟨rfl, rfl⟩⟩
        · refine ⟨_, rfl, _, _, _, _, false, rfl, .ty "list", tb, kit_ty (by decide +kernel), _, rfl, iteF (iteF ⟨rfl, rfl⟩)⟩
      rintro _ _ ⟨rfl, rfl⟩
      have la : SqL K H a xs ∨ SqT K H a xs := hk.imp (fun h => h.2.1) (fun h => h.2.1)
      have lb : SqL K H b ys ∨ SqT K H b ys := hk.imp (fun h => h.2.2) (fun h => h.2.2)
      refine ⟨_, rfl, a, xs, rfl, la, _, rfl, b, ys, rfl, lb, rfl, _, rfl, ?_⟩
      rw [hl, decide_eq_true rfl]
      refine iteF ?_
      -- for k in range(len(due))
      refine ⟨_, rfl, b, ys, rfl, lb, (ys.length : Int), rfl, by omega, by omega, ?_⟩
      rw [Int.toNat_natCast]
      refine for_range (lo := 0) (n := ys.length) (fun _ σ' H' => (∃ o, σ' = [some (.ref a), some (.ref b), o]) ∧ Same H H') ⟨⟨none, rfl⟩, .refl _⟩ (fun i σ' H' hlt p => ?_) (fun σ' H' p => ?_)
      · obtain ⟨⟨o, rfl⟩, sm⟩ := p
        obtain ⟨u, hu⟩ : ∃ u, xs[i]? = some u := ⟨_, List.getElem?_eq_getElem (by omega)⟩
        obtain ⟨v, hv⟩ : ∃ v, ys[i]? = some v := ⟨_, List.getElem?_eq_getElem (by omega)⟩
        rw [Int.zero_add]
        have sa : ∀ Q : VK, Q u H' → rIx K (.ref a) (.int (i : Int)) H' Q := fun Q h => by
          rcases la with l | l
          · exact .inl ⟨a, xs, i, u, rfl, rfl, sm.seq l, atI_nat hu, h⟩
          · exact .inr (.inl ⟨a, xs, i, u, rfl, rfl, same_t sm l, atI_nat hu, h⟩)
        have sb : ∀ Q : VK, Q v H' → rIx K (.ref b) (.int (i : Int)) H' Q := fun Q h => by
          rcases lb with l | l
          · exact .inl ⟨b, ys, i, v, rfl, rfl, sm.seq l, atI_nat hv, h⟩
          · exact .inr (.inl ⟨b, ys, i, v, rfl, rfl, same_t sm l, atI_nat hv, h⟩)
        refine ⟨_, rfl, _, rfl, sa _ ⟨_, rfl, _, rfl, sb _ ⟨u, v, rfl, (hi i u v hu hv).same sm, fun H2 s2 => ⟨true, rfl, iteF ?_⟩⟩⟩⟩
        exact ⟨⟨_, rfl⟩, sm.trans s2⟩
      · obtain ⟨⟨o, rfl⟩, sm⟩ := p
        exact q _ sm
    · have tb : TyX K H (.ref b) (.type "dict") := .base (.dK h2)
      have ta : TyX K H (.ref a) (.type "dict") := .base (.dK h1)
      refine ⟨_, rfl, _, _, _, _, false, rfl, .ty "int", tb, kit_ty (by decide +kernel), _, rfl, iteF ?_⟩
      refine ⟨_, rfl, _, _, _, _, false, rfl, .ty "str", tb, kit_ty (by decide +kernel), _, rfl, iteF ?_⟩
      refine ⟨_, rfl, _, _, _, _, true, rfl, .ty "dict", tb, kit_ty (by decide +kernel), _, rfl, iteT ?_⟩
      refine ⟨_, rfl, _, _, _, _, true, rfl, .ty "dict", ta, kit_ty (by decide +kernel), _, rfl, iteT ?_⟩
      refine ⟨_, rfl, a, xs, rfl, h1, fun H2 p1 t1 s2 n1 nt1 np1 e1 pr1 => ?_⟩
      refine ⟨_, rfl, b, ys, rfl, s2 _ _ h2, fun H3 p2 t2 s3 n2 nt2 np2 e2 pr2 => ?_⟩
      have l1 : t1.length = xs.length := pr1.length
      have l2 : t2.length = ys.length := pr2.length
      refine ⟨_, _, rfl, .lst (SqL.of (s3 _ _ e1)) (SqL.of e2) (by rw [List.length_map, List.length_map]; omega) (by rw [List.length_map]; omega) (fun i u v hu hv => ?_), fun H4 s4 => q _ (Same.trans (Same.trans s2 s3) s4)⟩
      rw [List.getElem?_map] at hu hv
      obtain ⟨u1, hu1, rfl⟩ := Option.map_eq_some_iff.mp hu
      obtain ⟨v1, hv1, rfl⟩ := Option.map_eq_some_iff.mp hv
      obtain ⟨x1, hx1, r1⟩ := paired_get pr1 hu1
      obtain ⟨x2, hx2, r2⟩ := paired_get pr2 hv1
      refine .tup (SqT.of (s3 _ _ r1)) (SqT.of r2) rfl (by show 2 ≤ 100000; decide) (fun j y z hy hz => ?_)
      have e12 := hk i x1 x2 hx1 hx2
      match j with
      | 0 =>
        cases hy
        cases hz
        rw [e12]
        exact .atom (by cases x2.1 <;> rfl)
      | 1 =>
        cases hy
        cases hz
        exact (hi i x1 x2 hx1 hx2).same (Same.trans s2 s3)
      | j + 2 => cases hy
theorem T0.ok__law_same (T : T0 K mg) : ∀ d : Nat, FnOk P w K mg base CX0 d T.a__law_same T.fd__law_same ["actual", "due"] (sp__law_same d K)
  | 0 => fnok_never fun vs H Q E h => by
    obtain ⟨x, y, _, h, _⟩ := h
    cases h
  | d + 1 => T.ok__law_same_succ (T.ok__law_same d)
/-! ### _law_same while an error is handled -/
theorem fnp_never {k : Nat} {f : Addr} {fd : FuncData} {ps : List Str} {sp : Addr × Obj → Sp} (h : ∀ p vs H Q E, ¬ sp p vs H Q E) : FnP P w K mg base k f fd ps sp where
  len := fun p vs H Q E z => (h p vs H Q E z).elim
  run := fun A outer s H args us vs Q E p h1 h2 h3 h4 h5 h6 z => (h p vs H Q E z).elim
theorem T0.okp__law_same_succ (T : T0 K mg) {d : Nat} (hd3 : d + 1 ≤ 3) (G : FnP P w K mg base d T.a__law_same T.fd__law_same ["actual", "due"] (fun _ => sp__law_same d K)) : FnP P w K mg base (d + 1) T.a__law_same T.fd__law_same ["actual", "due"] (fun _ => sp__law_same (d + 1) K) := by
  refine Fun_okP T.F__law_same sc__law_same (fun p vs H Q E h => ?_) (fun cdv A outer s H vs Q E p hot hr h => ?_)
  · obtain ⟨x, y, rfl, _⟩ := h
    rfl
  · obtain ⟨x, y, rfl, hS, q⟩ := h
    refine ⟨_, (pss_cons (ps_if (pt_cmpR op_isN (pv 1) pe_non (nomark _)) (pss_one (ps_ret (pe_cmpR op_isN (pv 0) pe_non (nomark _)))) pss_nil)
        (pss_cons (ps_if (pt_cmpR op_isB (pv 1) pe_bl (nomark _)) (pss_one (ps_ret (pe_cmpR op_isB (pv 0) pe_bl (nomark _)))) pss_nil)
        (pss_cons (ps_if (pt_cmpR op_isB (pv 1) pe_bl (nomark _)) (pss_one (ps_ret (pe_cmpR op_isB (pv 0) pe_bl (nomark _)))) pss_nil)
        (pss_cons (ps_if (pt_val (pe_callB (call_isinstK (K := K)) (by rfl) T.m_isinstance (by decide +kernel) (pa_cons (pv 1) (pa_cons (pe_bltn (v := .ty "int") (by rfl) T.m_int (by decide +kernel) rfl) pa_nil)))) (pss_one (ps_ret (pe_and (pe_callB (call_isinstK (K := K)) (by rfl) T.m_isinstance (by decide +kernel) (pa_cons (pv 0) (pa_cons (pe_bltn (v := .ty "int") (by rfl) T.m_int (by decide +kernel) rfl) pa_nil))) (pe_and (pe_not (pe_callB (call_isinstK (K := K)) (by rfl) T.m_isinstance (by decide +kernel) (pa_cons (pv 0) (pa_cons (pe_bltn (v := .ty "bool") (by rfl) T.m_bool (by decide +kernel) rfl) pa_nil)))) (pe_one (pe_cmpR op_eq (pv 0) (pv 1) (nomark _))))))) pss_nil)
        (pss_cons (ps_if (pt_val (pe_callB (call_isinstK (K := K)) (by rfl) T.m_isinstance (by decide +kernel) (pa_cons (pv 1) (pa_cons (pe_bltn (v := .ty "str") (by rfl) T.m_str (by decide +kernel) rfl) pa_nil)))) (pss_one (ps_ret (pe_and (pe_callB (call_isinstK (K := K)) (by rfl) T.m_isinstance (by decide +kernel) (pa_cons (pv 0) (pa_cons (pe_bltn (v := .ty "str") (by rfl) T.m_str (by decide +kernel) rfl) pa_nil))) (pe_one (pe_cmpR op_eq (pv 0) (pv 1) (nomark _)))))) pss_nil)
        (pss_cons (ps_if (pt_val (pe_callB (call_isinstK (K := K)) (by rfl) T.m_isinstance (by decide +kernel) (pa_cons (pv 1) (pa_cons (pe_bltn (v := .ty "dict") (by rfl) T.m_dict (by decide +kernel) rfl) pa_nil)))) (pss_one (ps_never)) pss_nil)
        (C8.pss_cut (ps_if (PW.pt (pw_and (pt_val (pe_callB (call_isinstK (K := K)) (by rfl) T.m_isinstance (by decide +kernel) (pa_cons (pv 1) (pa_cons (pe_bltn (v := .ty "tuple") (by rfl) T.m_tuple (by decide +kernel) rfl) pa_nil)))) (pw_and1 (pt_not (pt_val (pe_callB (call_isinstK (K := K)) (by rfl) T.m_isinstance (by decide +kernel) (pa_cons (pv 0) (pa_cons (pe_bltn (v := .ty "tuple") (by rfl) T.m_tuple (by decide +kernel) rfl) pa_nil)))))))) (pss_one (ps_ret pe_bl)) pss_nil)
        (C8.pss_cut (ps_if (PW.pt (pw_and (pt_val (pe_callB (call_isinstK (K := K)) (by rfl) T.m_isinstance (by decide +kernel) (pa_cons (pv 1) (pa_cons (pe_bltn (v := .ty "list") (by rfl) T.m_list (by decide +kernel) rfl) pa_nil)))) (pw_and1 (pt_not (pt_val (pe_callB (call_isinstK (K := K)) (by rfl) T.m_isinstance (by decide +kernel) (pa_cons (pv 0) (pa_cons (pe_bltn (v := .ty "list") (by rfl) T.m_list (by decide +kernel) rfl) pa_nil)))))))) (pss_one (ps_ret pe_bl)) pss_nil)
        (pss_cons (ps_if (pt_cmpR op_ne (pe_callB (call_lenK (K := K)) (by rfl) T.m_len PySem.boot_len (pa_cons (pv 0) pa_nil)) (pe_callB (call_lenK (K := K)) (by rfl) T.m_len PySem.boot_len (pa_cons (pv 1) pa_nil)) (nomark _)) (pss_one (ps_ret pe_bl)) pss_nil)
        (pss_cons (L2H.ps_forH PassesOwn.leaving (hotD hot).c (L2H.pi_range1H rfl T.m_range (pa_cons (pe_callB (call_lenK (K := K)) (by rfl) T.m_len PySem.boot_len (pa_cons (pv 1) pa_nil)) pa_nil)) (pg_name (i := 2) sc__law_same.nd rfl (Or.inl rfl)) (pss_one (ps_if (pt_not (pt_val (pe_callP G hr (hotD hot) rfl T.g__law_same T.k__law_same T.b__law_same (pa_cons (pe_ix ix_seq (pv 0) (pv 2) (fun _ _ => rfl)) (pa_cons (pe_ix ix_seq (pv 1) (pv 2) (fun _ _ => rfl)) pa_nil))))) (pss_one (ps_ret pe_bl)) pss_nil)))
        (pss_one (ps_ret pe_bl)))))))))))), ?_⟩
    refine ⟨_, rfl, rfl, _, rfl, ite2 (fun e => ?_) (fun e => ?_)⟩
    · have e := of_decide_eq_true e
      subst e
      cases hS with
      | atom _ => exact ⟨_, rfl, rfl, q _ (.refl _)⟩
    refine ⟨_, rfl, _, rfl, _, rfl, ite2 (fun e => ?_) (fun e => ?_)⟩
    · have e := of_decide_eq_true e
      subst e
      cases hS with
      | atom _ => exact ⟨_, rfl, _, rfl, q _ (.refl _)⟩
    refine ⟨_, rfl, _, rfl, _, rfl, ite2 (fun e => ?_) (fun e => ?_)⟩
    · have e := of_decide_eq_true e
      subst e
      cases hS with
      | atom _ => exact ⟨_, rfl, _, rfl, q _ (.refl _)⟩
    rename_i hn ht
    have hS' : (x = y ∧ atomV x = true) ∨ (∃ (T : String) (a b : Addr) (xs ys : List V), x = .ref a ∧ y = .ref b ∧ (T = "list" ∧ SqL K H a xs ∧ SqL K H b ys ∨ T = "tuple" ∧ SqT K H a xs ∧ SqT K H b ys) ∧ xs.length = ys.length ∧ ys.length ≤ 100000 ∧ ∀ (i : Nat) x y, xs[i]? = some x → ys[i]? = some y → Sm K d H x y) ∨
        (∃ (e : Nat) (a b : Addr) (xs ys : List (Key × V)), d = e + 3 ∧ x = .ref a ∧ y = .ref b ∧ H a = some (.dK xs) ∧ H b = some (.dK ys) ∧ xs.length = ys.length ∧ ys.length ≤ 100000 ∧ (∀ (i : Nat) x y, xs[i]? = some x → ys[i]? = some y → x.1 = y.1) ∧
          ∀ (i : Nat) x y, xs[i]? = some x → ys[i]? = some y → Sm K (e + 1) H x.2 y.2) := by
      cases hS with
      | atom h => exact .inl ⟨rfl, h⟩
      | lst h1 h2 h3 h4 h5 => exact .inr (.inl ⟨"list", _, _, _, _, rfl, rfl, .inl ⟨rfl, h1, h2⟩, h3, h4, h5⟩)
      | tup h1 h2 h3 h4 h5 => exact .inr (.inl ⟨"tuple", _, _, _, _, rfl, rfl, .inr ⟨rfl, h1, h2⟩, h3, h4, h5⟩)
      | dic h1 h2 h3 h4 h5 h6 => exact .inr (.inr ⟨_, _, _, _, _, rfl, rfl, rfl, h1, h2, h3, h4, h5, h6⟩)
    rcases hS' with ⟨rfl, hx⟩ | ⟨t, a, b, xs, ys, rfl, rfl, hk, hl, hz, hi⟩ | ⟨c, a, b, xs, ys, rfl, rfl, rfl, h1, h2, hl, hz, hk, hi⟩
    · cases x with
      | non => exact absurd (decide_eq_true rfl) hn
      | bl b => cases b with
        | true => exact absurd (decide_eq_true rfl) ht
        | false => exact absurd (decide_eq_true rfl) e
      | int i =>
        refine ⟨_, rfl, _, _, _, _, true, rfl, .ty "int", .base (.int _), kit_ty (by decide +kernel), _, rfl, iteT ?_⟩
        refine ⟨_, rfl, _, _, _, _, true, rfl, .ty "int", .base (.int _), kit_ty (by decide +kernel), _, rfl, iteT ?_⟩
        refine ⟨_, rfl, _, _, _, _, false, rfl, .ty "bool", .base (.int _), kit_ty (by decide +kernel), _, rfl, _, rfl, iteT ?_⟩
        refine ⟨_, rfl, _, rfl, rfl, ?_⟩
        rw [decide_eq_true rfl]
        exact q _ (.refl _)
      | str i =>
        refine ⟨_, rfl, _, _, _, _, false, rfl, .ty "int", .base (.str _), kit_ty (by decide +kernel), _, rfl, iteF ?_⟩
        refine ⟨_, rfl, _, _, _, _, true, rfl, .ty "str", .base (.str _), kit_ty (by decide +kernel), _, rfl, iteT ?_⟩
        refine ⟨_, rfl, _, _, _, _, true, rfl, .ty "str", .base (.str _), kit_ty (by decide +kernel), _, rfl, iteT ?_⟩
        refine ⟨_, rfl, _, rfl, rfl, ?_⟩
        rw [decide_eq_true rfl]
        exact q _ (.refl _)
      | _ => cases hx
    · have tb : TyX K H (.ref b) (.type t) := by
        rcases hk with ⟨rfl, _, h⟩ | ⟨rfl, _, h⟩
        · exact tyx_l h
        · exact tyx_t h
      have ta : TyX K H (.ref a) (.type t) := by
        rcases hk with ⟨rfl, h, _⟩ | ⟨rfl, h, _⟩
        · exact tyx_l h
        · exact tyx_t h
      have tt : t = "list" ∨ t = "tuple" := hk.imp (fun h => h.1) (fun h => h.1)
      refine ⟨_, rfl, _, _, _, _, false, rfl, .ty "int", tb, kit_ty (by rcases tt with rfl | rfl <;> decide +kernel), _, rfl, iteF ?_⟩
      refine ⟨_, rfl, _, _, _, _, false, rfl, .ty "str", tb, kit_ty (by rcases tt with rfl | rfl <;> decide +kernel), _, rfl, iteF ?_⟩
      refine ⟨_, rfl, _, _, _, _, false, rfl, .ty "dict", tb, kit_ty (by rcases tt with rfl | rfl <;> decide +kernel), _, rfl, iteF ?_⟩
      refine ⟨fun σ' H' => σ' = [some (.ref a), some (.ref b), none] ∧ H = H', ?_, ?_⟩
      · rcases tt with rfl | rfl
        · refine ⟨_, rfl, _, _, _, _, false, rfl, .ty "tuple", tb, kit_ty (by decide +kernel), _, rfl, iteF (iteF ⟨rfl, rfl⟩)⟩
        · refine ⟨_, rfl, _, _, _, _, true, rfl, .ty "tuple", tb, kit_ty (by decide +kernel), _, rfl, iteT ?_⟩
          refine ⟨_, rfl, _, _, _, _, true, rfl, .ty "tuple", ta, kit_ty (by decide +kernel), _, rfl, iteF ⟨rfl, rfl⟩⟩
      rintro _ _ ⟨rfl, rfl⟩
      refine ⟨fun σ' H' => σ' = [some (.ref a), some (.ref b), none] ∧ H = H', ?_, ?_⟩
      · rcases tt with rfl | rfl
        · refine ⟨_, rfl, _, _, _, _, true, rfl, .ty "list", tb, kit_ty (by decide +kernel), _, rfl, iteT ?_⟩
          refine ⟨_, rfl, _, _, _, _, true, rfl, .ty "list", ta, kit_ty (by decide +kernel), _, rfl, iteF ⟨rfl, rfl⟩⟩
        · refine ⟨_, rfl, _, _, _, _, false, rfl, .ty "list", tb, kit_ty (by decide +kernel), _, rfl, iteF (iteF ⟨rfl, rfl⟩)⟩
      rintro _ _ ⟨rfl, rfl⟩
      have la : SqL K H a xs ∨ SqT K H a xs := hk.imp (fun h => h.2.1) (fun h => h.2.1)
      have lb : SqL K H b ys ∨ SqT K H b ys := hk.imp (fun h => h.2.2) (fun h => h.2.2)
      refine ⟨_, rfl, a, xs, rfl, la, _, rfl, b, ys, rfl, lb, rfl, _, rfl, ?_⟩
      rw [hl, decide_eq_true rfl]
      refine iteF ?_
      -- for k in range(len(due))
      refine ⟨_, rfl, b, ys, rfl, lb, (ys.length : Int), rfl, by omega, by omega, ?_⟩
      rw [Int.toNat_natCast]
      refine for_range (lo := 0) (n := ys.length) (fun _ σ' H' => (∃ o, σ' = [some (.ref a), some (.ref b), o]) ∧ Same H H') ⟨⟨none, rfl⟩, .refl _⟩ (fun i σ' H' hlt p => ?_) (fun σ' H' p => ?_)
      · obtain ⟨⟨o, rfl⟩, sm⟩ := p
        obtain ⟨u, hu⟩ : ∃ u, xs[i]? = some u := ⟨_, List.getElem?_eq_getElem (by omega)⟩
        obtain ⟨v, hv⟩ : ∃ v, ys[i]? = some v := ⟨_, List.getElem?_eq_getElem (by omega)⟩
        rw [Int.zero_add]
        have sa : ∀ Q : VK, Q u H' → rIx K (.ref a) (.int (i : Int)) H' Q := fun Q h => by
          rcases la with l | l
          · exact .inl ⟨a, xs, i, u, rfl, rfl, sm.seq l, atI_nat hu, h⟩
          · exact .inr (.inl ⟨a, xs, i, u, rfl, rfl, same_t sm l, atI_nat hu, h⟩)
        have sb : ∀ Q : VK, Q v H' → rIx K (.ref b) (.int (i : Int)) H' Q := fun Q h => by
          rcases lb with l | l
          · exact .inl ⟨b, ys, i, v, rfl, rfl, sm.seq l, atI_nat hv, h⟩
          · exact .inr (.inl ⟨b, ys, i, v, rfl, rfl, same_t sm l, atI_nat hv, h⟩)
        refine ⟨_, rfl, _, rfl, sa _ ⟨_, rfl, _, rfl, sb _ ⟨u, v, rfl, (hi i u v hu hv).same sm, fun H2 s2 => ⟨true, rfl, iteF ?_⟩⟩⟩⟩
        exact ⟨⟨_, rfl⟩, sm.trans s2⟩
      · obtain ⟨⟨o, rfl⟩, sm⟩ := p
        exact q _ sm
    · exact absurd hd3 (by omega)
theorem T0.okp__law_same (T : T0 K mg) : ∀ d : Nat, d ≤ 3 → FnP P w K mg base d T.a__law_same T.fd__law_same ["actual", "due"] (fun _ => sp__law_same d K)
  | 0, _ => fnp_never fun p vs H Q E h => by
    obtain ⟨x, y, _, h, _⟩ := h
    cases h
  | d + 1, h => T.okp__law_same_succ h (T.okp__law_same d (Nat.le_of_succ_le h))
/-! ### far -/
def farL (n a b : Int) : Int := (b - a - 1).fmod n + 1
def sp_far (K : PySem.W.Frag) : Sp := fun vs H Q _ => ∃ n a b : Int, vs = [.int n, .int a, .int b] ∧ 0 < n ∧ Q (.int (farL n a b)) H
theorem T0.ok_far (T : T0 K mg) : FnOk P w K mg base CX0 1 T.a_far T.fd_far ["size", "start", "end"] (sp_far K) := by
  refine T.F_far.ok sc_far (fun vs H Q E h => ?_) (fun cdv A outer s H vs Q E hr h => ?_)
  · obtain ⟨n, a, b, rfl, _⟩ := h
    rfl
  · obtain ⟨n, a, b, rfl, hn, q⟩ := h
    refine ⟨_, (pss_one (ps_ret (pe_op op_add (pe_op op_modN (pe_op op_sub (pe_op op_sub (pv 2) (pv 1)) pe_int) (pv 0)) pe_int))), ?_⟩
    exact ⟨_, rfl, _, rfl, _, _, rfl, rfl, _, _, rfl, rfl, _, rfl, _, _, rfl, rfl, by omega, _, _, rfl, rfl, q⟩
theorem far_range (a b : Int) {n : Int} (h : 0 < n) : 1 ≤ farL n a b ∧ farL n a b ≤ n := by
  have := fmod_range (b - a - 1) h
  unfold farL
  omega
theorem far_emod (a b : Int) {n : Int} (h : 0 < n) : farL n a b = (b - a - 1) % n + 1 := by
  unfold farL
  rw [Int.fmod_eq_emod_of_nonneg _ (by omega)]
theorem far_eq (a b : Int) {n : Int} (h : 0 < n) : farL n a b = if (b - a).fmod n = 0 then n else (b - a).fmod n := by
  rw [far_emod a b h, Int.fmod_eq_emod_of_nonneg _ (by omega)]
  have e := Int.emod_add_mul_ediv (b - a) n
  have h0 := Int.emod_nonneg (b - a) (by omega : n ≠ 0)
  have h1 := Int.emod_lt_of_pos (b - a) h
  by_cases z : (b - a) % n = 0
  · rw [if_pos z]
    rw [z] at e
    rw [show b - a - 1 = (n - 1) + n * ((b - a) / n - 1) by rw [Int.mul_sub]; omega, Int.add_mul_emod_self_left, Int.emod_eq_of_lt (by omega) (by omega)]
    omega
  · rw [if_neg z]
    rw [show b - a - 1 = ((b - a) % n - 1) + n * ((b - a) / n) by omega, Int.add_mul_emod_self_left, Int.emod_eq_of_lt (by omega) (by omega)]
    omega
def sp_between (K : PySem.W.Frag) : Sp := fun vs H Q _ => ∃ n a p b : Int, vs = [.int n, .int a, .int p, .int b] ∧ 0 < n ∧ Q (.bl (decide (farL n a p < farL n a b))) H
theorem T0.ok_between (T : T0 K mg) : FnOk P w K mg base CX0 2 T.a_between T.fd_between ["size", "start", "place", "end"] (sp_between K) := by
  refine T.F_between.ok sc_between (fun vs H Q E h => ?_) (fun cdv A outer s H vs Q E hr h => ?_)
  · obtain ⟨n, a, p, b, rfl, _⟩ := h
    rfl
  · obtain ⟨n, a, p, b, rfl, hn, q⟩ := h
    refine ⟨_, (pss_one (ps_ret (pe_cmpR op_lt (pe_call T.ok_far hr (by rfl) T.g_far T.k_far T.b_far .nil pass0 (pa_cons (pv 0) (pa_cons (pv 1) (pa_cons (pv 2) pa_nil)))) (pe_call T.ok_far hr (by rfl) T.g_far T.k_far T.b_far .nil pass0 (pa_cons (pv 0) (pa_cons (pv 1) (pa_cons (pv 3) pa_nil)))) (nomark _)))), ?_⟩
    exact ⟨_, rfl, _, rfl, _, rfl, _, _, _, rfl, hn, _, rfl, _, rfl, _, rfl, _, _, _, rfl, hn, _, _, rfl, rfl, q⟩
/-! ### a house -/
def hf (n p x : Int) (b : V) : List (Str × V) := [("size", .int n), ("place", .int p), ("next_house", .int x), ("before", b)]
theorem hf_size {n p x : Int} {b : V} : (hf n p x b).lookup ("size" : Str) = some (.int n) := by unfold hf; walk_at "lk"
theorem hf_place {n p x : Int} {b : V} : (hf n p x b).lookup ("place" : Str) = some (.int p) := by unfold hf; walk_at "lk"
theorem hf_next {n p x : Int} {b : V} : (hf n p x b).lookup ("next_house" : Str) = some (.int x) := by unfold hf; walk_at "lk"
theorem hf_before {n p x : Int} {b : V} : (hf n p x b).lookup ("before" : Str) = some b := by unfold hf; walk_at "lk"
def HouseAt (C : Addr) (H : Hp) (a : Addr) (n p x : Int) (b : V) : Prop := ∃ dx, H a = some (.ins C dx (hf n p x b))
def sp_House__init (C : Addr) : Sp := fun vs H Q _ => ∃ (h dx : Addr) (n p x : Int) (b : V), vs = [.ref h, .int n, .int p, .int x, b] ∧ H h = some (.ins C dx []) ∧ ∀ H', HouseAt C H' h n p x b → Kp h H H' → Q .non H'
theorem T0.ok_House__init (T : T0 K mg) : FnOk P w K mg base CX0 1 T.a_House__init T.fd_House__init ["self", "size", "place", "next_house", "before"] (sp_House__init T.C_House) := by
  refine T.F_House__init.ok sc_House__init (fun vs H Q E h => ?_) (fun cdv A outer s H vs Q E hr h => ?_)
  · obtain ⟨h, dx, n, p, x, b, rfl, _⟩ := h
    rfl
  · obtain ⟨h, dx, n, p, x, b, rfl, hh, q⟩ := h
    refine ⟨_, (pss_cons (ps_fld (pv 0) (pv 1) rfl)
        (pss_cons (ps_fld (pv 0) (pv 2) rfl)
        (pss_cons (ps_fld (pv 0) (pv 3) rfl)
        (pss_one (ps_fld (pv 0) (pv 4) rfl))))), ?_⟩
    refine ⟨_, rfl, _, rfl, h, _, dx, [], rfl, hh, T.cl_House, T.na_House_size, (by show 0 < 1000; decide), ?_⟩
    refine ⟨_, rfl, _, rfl, h, _, dx, _, rfl, upd_same, T.cl_House, T.na_House_place, (by show 1 < 1000; decide), ?_⟩
    refine ⟨_, rfl, _, rfl, h, _, dx, _, rfl, upd_same, T.cl_House, T.na_House_next_house, (by show 2 < 1000; decide), ?_⟩
    refine ⟨_, rfl, _, rfl, h, _, dx, _, rfl, upd_same, T.cl_House, T.na_House_before, (by show 3 < 1000; decide), ?_⟩
    refine q _ ⟨dx, ?_⟩ (fun b' o ne e => ?_)
    · rw [upd_same]
      have e : putF "before" b (putF "next_house" (.int x) (putF "place" (.int p) (putF "size" (.int n) []))) = hf n p x b := by
        walk_at "pf"
        rfl
      exact congrArg (fun z => some (HO.ins _ _ z)) e
    · rw [upd_ne ne, upd_ne ne, upd_ne ne, upd_ne ne]
      exact e
def sp_letter (C : Addr) (z : Str) : Sp := fun vs H Q _ => ∃ (h : Addr) (n p x : Int) (b : V), vs = [.ref h] ∧ HouseAt C H h n p x b ∧ ∀ l, H l = none → Q (.ref l) (upd H l (.tup [.str z, .int x, .int p]))
theorem T0.ok_House__tell_letter (T : T0 K mg) : FnOk P w K mg base CX0 1 T.a_House__tell_letter T.fd_House__tell_letter ["self"] (sp_letter T.C_House "tell") := by
  refine T.F_House__tell_letter.ok sc_House__tell_letter (fun vs H Q E h => ?_) (fun cdv A outer s H vs Q E hr h => ?_)
  · obtain ⟨h, n, p, x, b, rfl, _⟩ := h
    rfl
  · obtain ⟨h, n, p, x, b, rfl, ⟨dx, hh⟩, q⟩ := h
    refine ⟨_, (pss_one (ps_ret (pe_tup (pa_cons pe_str (pa_cons (show PE _ _ (tFld K _ _) from pe_fld (pv 0) rfl) (pa_cons (show PE _ _ (tFld K _ _) from pe_fld (pv 0) rfl) pa_nil)))))), ?_⟩
    refine ⟨_, rfl, h, _, dx, _, _, rfl, hh, T.cl_House, T.na_House_next_house, hf_next, ?_⟩
    refine ⟨_, rfl, h, _, dx, _, _, rfl, hh, T.cl_House, T.na_House_place, hf_place, lenL (by show 3 ≤ 100000; decide), q⟩
theorem T0.ok_House__ask_letter (T : T0 K mg) : FnOk P w K mg base CX0 1 T.a_House__ask_letter T.fd_House__ask_letter ["self"] (sp_letter T.C_House "ask") := by
  refine T.F_House__ask_letter.ok sc_House__ask_letter (fun vs H Q E h => ?_) (fun cdv A outer s H vs Q E hr h => ?_)
  · obtain ⟨h, n, p, x, b, rfl, _⟩ := h
    rfl
  · obtain ⟨h, n, p, x, b, rfl, ⟨dx, hh⟩, q⟩ := h
    refine ⟨_, (pss_one (ps_ret (pe_tup (pa_cons pe_str (pa_cons (show PE _ _ (tFld K _ _) from pe_fld (pv 0) rfl) (pa_cons (show PE _ _ (tFld K _ _) from pe_fld (pv 0) rfl) pa_nil)))))), ?_⟩
    refine ⟨_, rfl, h, _, dx, _, _, rfl, hh, T.cl_House, T.na_House_next_house, hf_next, ?_⟩
    refine ⟨_, rfl, h, _, dx, _, _, rfl, hh, T.cl_House, T.na_House_place, hf_place, lenL (by show 3 ≤ 100000; decide), q⟩
/-- what a house without a before, or with one, answers -/
def okB (b : V) : Prop := b = .non ∨ ∃ z : Int, b = .int z
def sp_House__answer_to (C : Addr) : Sp := fun vs H Q _ => ∃ (h : Addr) (n p x u : Int) (b : V), vs = [.ref h, .int u] ∧ HouseAt C H h n p x b ∧ (b = .non → Q .non H) ∧ (∀ z : Int, b = .int z → ∀ l, H l = none → Q (.ref l) (upd H l (.tup [.str "answer", .int u, .int p, .int z]))) ∧ okB b
theorem T0.ok_House__answer_to (T : T0 K mg) : FnOk P w K mg base CX0 1 T.a_House__answer_to T.fd_House__answer_to ["self", "sender"] (sp_House__answer_to T.C_House) := by
  refine T.F_House__answer_to.ok sc_House__answer_to (fun vs H Q E h => ?_) (fun cdv A outer s H vs Q E hr h => ?_)
  · obtain ⟨h, n, p, x, u, b, rfl, _⟩ := h
    rfl
  · obtain ⟨h, n, p, x, u, b, rfl, ⟨dx, hh⟩, q0, q1, ob⟩ := h
    refine ⟨_, (pss_cons (ps_if (pt_cmpR op_isN (show PE _ _ (tFld K _ _) from pe_fld (pv 0) rfl) pe_non (nomark _)) (pss_one (ps_ret pe_non)) pss_nil)
        (pss_one (ps_ret (pe_tup (pa_cons pe_str (pa_cons (pv 1) (pa_cons (show PE _ _ (tFld K _ _) from pe_fld (pv 0) rfl) (pa_cons (show PE _ _ (tFld K _ _) from pe_fld (pv 0) rfl) pa_nil)))))))), ?_⟩
    refine ⟨_, rfl, h, _, dx, _, _, rfl, hh, T.cl_House, T.na_House_before, hf_before, rfl, _, rfl, ite2 (fun e => ?_) (fun e => ?_)⟩
    · exact q0 (of_decide_eq_true e)
    · rcases ob with rfl | ⟨z, rfl⟩
      · exact absurd (decide_eq_true rfl) e
      · refine ⟨_, rfl, _, rfl, h, _, dx, _, _, rfl, hh, T.cl_House, T.na_House_place, hf_place, ?_⟩
        exact ⟨_, rfl, h, _, dx, _, _, rfl, hh, T.cl_House, T.na_House_before, hf_before, lenL (by show 4 ≤ 100000; decide), q1 z rfl⟩
def hTell (n p u : Int) (b : V) : V := match b with
  | .int z => if farL n z u < farL n z p then .int u else .int z
  | _ => .int u
def hAns (n p x u m : Int) : Int := if x = u ∧ farL n p m < farL n p u then m else x
theorem hf_pb {n p x : Int} {b c : V} : putF "before" c (hf n p x b) = hf n p x c := by
  unfold hf
  walk_at "pf"
theorem hf_pn {n p x y : Int} {b : V} : putF "next_house" (.int y) (hf n p x b) = hf n p y b := by
  unfold hf
  walk_at "pf"
def sp_House__hear_tell (C : Addr) : Sp := fun vs H Q _ => ∃ (h : Addr) (n p x u : Int) (b : V), vs = [.ref h, .int u] ∧ HouseAt C H h n p x b ∧ okB b ∧ 0 < n ∧ ∀ H', HouseAt C H' h n p x (hTell n p u b) → Kp h H H' → Q .non H'
theorem T0.ok_House__hear_tell (T : T0 K mg) : FnOk P w K mg base CX0 3 T.a_House__hear_tell T.fd_House__hear_tell ["self", "sender"] (sp_House__hear_tell T.C_House) := by
  refine T.F_House__hear_tell.ok sc_House__hear_tell (fun vs H Q E h => ?_) (fun cdv A outer s H vs Q E hr h => ?_)
  · obtain ⟨h, n, p, x, u, b, rfl, _⟩ := h
    rfl
  · obtain ⟨h, n, p, x, u, b, rfl, ⟨dx, hh⟩, ob, hn, q⟩ := h
    refine ⟨_, (pss_one (ps_if (PW.pt (pw_or (pt_cmpR op_isN (show PE _ _ (tFld K _ _) from pe_fld (pv 0) rfl) pe_non (nomark _)) (pw_or1 (pt_val (pe_call T.ok_between hr (by rfl) T.g_between T.k_between T.b_between .nil pass0 (pa_cons (show PE _ _ (tFld K _ _) from pe_fld (pv 0) rfl) (pa_cons (show PE _ _ (tFld K _ _) from pe_fld (pv 0) rfl) (pa_cons (pv 1) (pa_cons (show PE _ _ (tFld K _ _) from pe_fld (pv 0) rfl) pa_nil))))))))) (pss_one (ps_fld (pv 0) (pv 1) rfl)) pss_nil)), ?_⟩
    have set : ∀ Q' : L2.St → Hp → Prop, (∀ H', HouseAt T.C_House H' h n p x (.int u) → Kp h H H' → Q' [some (.ref h), some (.int u)] H') → sFld K (tVar 0) (tVar 1) "before" { nx := Q', rt := Q } [some (.ref h), some (.int u)] H := fun Q' k =>
      ⟨_, rfl, _, rfl, h, _, dx, _, rfl, hh, T.cl_House, T.na_House_before, (by show 4 < 1000; decide), k _ ⟨dx, by rw [upd_same, hf_pb]⟩ .put⟩
    refine ⟨_, rfl, h, _, dx, _, _, rfl, hh, T.cl_House, T.na_House_before, hf_before, rfl, _, rfl, ite2 (fun e => ?_) (fun e => ?_)⟩
    · have e := of_decide_eq_true e
      subst e
      exact iteT (set _ fun H' h1 h2 => q H' h1 h2)
    · rcases ob with rfl | ⟨z, rfl⟩
      · exact absurd (decide_eq_true rfl) e
      · refine ⟨_, rfl, h, _, dx, _, _, rfl, hh, T.cl_House, T.na_House_size, hf_size, _, rfl, h, _, dx, _, _, rfl, hh, T.cl_House, T.na_House_before, hf_before, ?_⟩
        refine ⟨_, rfl, _, rfl, h, _, dx, _, _, rfl, hh, T.cl_House, T.na_House_place, hf_place, n, z, u, p, rfl, hn, _, rfl, ite2 (fun f => ?_) (fun f => ?_)⟩
        · refine set _ fun H' h1 h2 => q H' ?_ h2
          have f := of_decide_eq_true f
          rw [show hTell n p u (.int z) = .int u from if_pos f]
          exact h1
        · have f : ¬ (farL n z u < farL n z p) := fun g => f (decide_eq_true g)
          refine q H ?_ (.refl _ _)
          rw [show hTell n p u (.int z) = .int z from if_neg f]
          exact ⟨dx, hh⟩
def sp_House__hear_answer (C : Addr) : Sp := fun vs H Q _ => ∃ (h : Addr) (n p x u m : Int) (b : V), vs = [.ref h, .int u, .int m] ∧ HouseAt C H h n p x b ∧ 0 < n ∧ ∀ H', HouseAt C H' h n p (hAns n p x u m) b → Kp h H H' → Q .non H'
theorem T0.ok_House__hear_answer (T : T0 K mg) : FnOk P w K mg base CX0 3 T.a_House__hear_answer T.fd_House__hear_answer ["self", "sender", "named"] (sp_House__hear_answer T.C_House) := by
  refine T.F_House__hear_answer.ok sc_House__hear_answer (fun vs H Q E h => ?_) (fun cdv A outer s H vs Q E hr h => ?_)
  · obtain ⟨h, n, p, x, u, m, b, rfl, _⟩ := h
    rfl
  · obtain ⟨h, n, p, x, u, m, b, rfl, ⟨dx, hh⟩, hn, q⟩ := h
    refine ⟨_, (pss_one (ps_if (PW.pt (pw_and (pt_cmpR op_eq (show PE _ _ (tFld K _ _) from pe_fld (pv 0) rfl) (pv 1) (nomark _)) (pw_and1 (pt_val (pe_call T.ok_between hr (by rfl) T.g_between T.k_between T.b_between .nil pass0 (pa_cons (show PE _ _ (tFld K _ _) from pe_fld (pv 0) rfl) (pa_cons (show PE _ _ (tFld K _ _) from pe_fld (pv 0) rfl) (pa_cons (pv 2) (pa_cons (pv 1) pa_nil))))))))) (pss_one (ps_fld (pv 0) (pv 2) rfl)) pss_nil)), ?_⟩
    refine ⟨_, rfl, h, _, dx, _, _, rfl, hh, T.cl_House, T.na_House_next_house, hf_next, _, rfl, rfl, _, rfl, ite2 (fun e => ?_) (fun e => ?_)⟩
    · have e := V.int.inj (of_decide_eq_true e)
      refine ⟨_, rfl, h, _, dx, _, _, rfl, hh, T.cl_House, T.na_House_size, hf_size, _, rfl, h, _, dx, _, _, rfl, hh, T.cl_House, T.na_House_place, hf_place, ?_⟩
      refine ⟨_, rfl, _, rfl, n, p, m, u, rfl, hn, _, rfl, ite2 (fun f => ?_) (fun f => ?_)⟩
      · have f := of_decide_eq_true f
        have g : hAns n p x u m = m := if_pos ⟨e, f⟩
        rw [g] at q
        exact ⟨_, rfl, _, rfl, h, _, dx, _, rfl, hh, T.cl_House, T.na_House_next_house, (by show 4 < 1000; decide), q _ ⟨dx, by rw [upd_same, hf_pn]⟩ .put⟩
      · have f : ¬ (farL n p m < farL n p u) := fun g => f (decide_eq_true g)
        have g : hAns n p x u m = x := if_neg (fun z => f z.2)
        rw [g] at q
        exact q H ⟨dx, hh⟩ (.refl _ _)
    · have e : ¬ x = u := fun g => e (decide_eq_true (congrArg V.int g))
      have g : hAns n p x u m = x := if_neg (fun z => e z.1)
      rw [g] at q
      exact q H ⟨dx, hh⟩ (.refl _ _)
/-- a letter as a row of values -/
inductive Let where
  | tell (r u : Int) | ask (r u : Int) | answer (r u m : Int)
def Let.vals : Let → List V
  | .tell r u => [.str "tell", .int r, .int u]
  | .ask r u => [.str "ask", .int r, .int u]
  | .answer r u m => [.str "answer", .int r, .int u, .int m]
/-- the before, the next behind the letter, and the answer -/
def hB (n p : Int) (b : V) : Let → V
  | .tell _ u => hTell n p u b
  | _ => b
def hN (n p x : Int) : Let → Int
  | .answer _ u m => hAns n p x u m
  | _ => x
def hA (p : Int) (b : V) : Let → Option (List V)
  | .ask _ u => match b with
    | .int z => some [.str "answer", .int u, .int p, .int z]
    | _ => none
  | _ => none
def sp_House__hear (K : PySem.W.Frag) (C : Addr) : Sp := fun vs H Q _ => ∃ (h l : Addr) (n p x : Int) (b : V) (L : Let), vs = [.ref h, .ref l] ∧ HouseAt C H h n p x b ∧ okB b ∧ 0 < n ∧ SqT K H l L.vals ∧
  ∀ v H', HouseAt C H' h n p (hN n p x L) (hB n p b L) → Kp h H H' → (match hA p b L with | none => v = .non | some ys => ∃ a, v = .ref a ∧ H' a = some (.tup ys)) → Q v H'
theorem T0.ok_House__hear (T : T0 K mg) : FnOk P w K mg base CX0 4 T.a_House__hear T.fd_House__hear ["self", "letter"] (sp_House__hear K T.C_House) := by
  refine T.F_House__hear.ok sc_House__hear (fun vs H Q E h => ?_) (fun cdv A outer s H vs Q E hr h => ?_)
  · obtain ⟨h, l, n, p, x, b, L, rfl, _⟩ := h
    rfl
  · obtain ⟨h, l, n, p, x, b, L, rfl, hh, ob, hn, hl, q⟩ := h
    refine ⟨_, (pss_cons (ps_set (i := 2) sc_House__hear.nd rfl (Or.inl rfl) (pe_ix (ix_tupK (K := K)) (pv 1) pe_int (fun _ _ => rfl)))
        (pss_cons (ps_set (i := 3) sc_House__hear.nd rfl (Or.inl rfl) (pe_ix (ix_tupK (K := K)) (pv 1) pe_int (fun _ _ => rfl)))
        (pss_cons (ps_if (pt_cmpR op_eq (pv 2) pe_str (nomark _)) (pss_one (ps_ret (pe_meth (pv 0) T.cl_House T.me_House__answer_to T.ok_House__answer_to (hr.mono (by decide)) T.b_House__answer_to .nil pass0 (pa_cons (pv 3) pa_nil)))) pss_nil)
        (pss_cons (ps_if (pt_cmpR op_eq (pv 2) pe_str (nomark _)) (pss_one (ps_expr (pe_meth (pv 0) T.cl_House T.me_House__hear_tell T.ok_House__hear_tell hr T.b_House__hear_tell .nil pass0 (pa_cons (pv 3) pa_nil)))) (pss_one (ps_expr (pe_meth (pv 0) T.cl_House T.me_House__hear_answer T.ok_House__hear_answer hr T.b_House__hear_answer .nil pass0 (pa_cons (pv 3) (pa_cons (pe_ix (ix_tupK (K := K)) (pv 1) pe_int (fun _ _ => rfl)) pa_nil))))))
        (pss_one (ps_ret pe_non)))))), ?_⟩
    cases L with
    | tell r u =>
      refine ⟨_, rfl, l, _, 0, .str "tell", rfl, rfl, hl, rfl, _, rfl, l, _, 2, .int u, rfl, rfl, hl, rfl, ?_⟩
      refine ⟨_, rfl, rfl, _, rfl, ?_⟩
      rw [show decide (V.str "tell" = V.str "ask") = false by decide +kernel]
      refine iteF ⟨_, rfl, rfl, _, rfl, ?_⟩
      rw [show decide (V.str "tell" = V.str "tell") = true by decide +kernel]
      obtain ⟨dx, hh'⟩ := hh
      refine iteT ⟨_, rfl, h, dx, _, rfl, hh', ?_, _, rfl, h, n, p, x, u, b, rfl, ⟨dx, hh'⟩, ob, hn, fun H' h1 h2 => ?_⟩
      · unfold hf; walk_at "lk"
      · exact q .non H' h1 h2 rfl
    | ask r u =>
      refine ⟨_, rfl, l, _, 0, .str "ask", rfl, rfl, hl, rfl, _, rfl, l, _, 2, .int u, rfl, rfl, hl, rfl, ?_⟩
      refine ⟨_, rfl, rfl, _, rfl, ?_⟩
      rw [show decide (V.str "ask" = V.str "ask") = true by decide +kernel]
      obtain ⟨dx, hh'⟩ := hh
      refine iteT ⟨_, rfl, h, dx, _, rfl, hh', ?_, _, rfl, h, n, p, x, u, b, rfl, ⟨dx, hh'⟩, fun e => ?_, fun z e l' nl => ?_, ob⟩
      · unfold hf; walk_at "lk"
      · subst e
        exact q .non H ⟨dx, hh'⟩ (.refl _ _) rfl
      · subst e
        refine q (.ref l') _ ⟨dx, ?_⟩ (Kp.of_same (same_upd nl)) ⟨l', rfl, upd_same⟩
        rw [upd_ne (ne_of_none hh' nl)]
        exact hh'
    | answer r u m =>
      refine ⟨_, rfl, l, _, 0, .str "answer", rfl, rfl, hl, rfl, _, rfl, l, _, 2, .int u, rfl, rfl, hl, rfl, ?_⟩
      refine ⟨_, rfl, rfl, _, rfl, ?_⟩
      rw [show decide (V.str "answer" = V.str "ask") = false by decide +kernel]
      refine iteF ⟨_, rfl, rfl, _, rfl, ?_⟩
      rw [show decide (V.str "answer" = V.str "tell") = false by decide +kernel]
      obtain ⟨dx, hh'⟩ := hh
      refine iteF ⟨_, rfl, h, dx, _, rfl, hh', ?_, _, rfl, _, rfl, l, _, 3, .int m, rfl, rfl, hl, rfl, h, n, p, x, u, m, b, rfl, ⟨dx, hh'⟩, hn, fun H' h1 h2 => ?_⟩
      · unfold hf; walk_at "lk"
      · exact q .non H' h1 h2 rfl
--CUT
--CUT
/-! ### a net -/
def nf (n : Int) (dn db dl : Addr) : List (Str × V) := [("size", .int n), ("_nexts", .ref dn), ("_befores", .ref db), ("_letters", .ref dl)]
theorem nf_size {n : Int} {dn db dl : Addr} : (nf n dn db dl).lookup ("size" : Str) = some (.int n) := by unfold nf; walk_at "lk"
theorem nf_nexts {n : Int} {dn db dl : Addr} : (nf n dn db dl).lookup ("_nexts" : Str) = some (.ref dn) := by unfold nf; walk_at "lk"
theorem nf_befores {n : Int} {dn db dl : Addr} : (nf n dn db dl).lookup ("_befores" : Str) = some (.ref db) := by unfold nf; walk_at "lk"
theorem nf_letters {n : Int} {dn db dl : Addr} : (nf n dn db dl).lookup ("_letters" : Str) = some (.ref dl) := by unfold nf; walk_at "lk"
/-- the net at a; ks its houses in the order in which they came -/
structure NetAt (C : Addr) (H : Hp) (a : Addr) (n : Int) (dn db dl : Addr) (nx bf : List (Key × V)) (ls : List V) : Prop where
  me : ∃ dx, H a = some (.ins C dx (nf n dn db dl))
  hn : H dn = some (.dK nx)
  hb : H db = some (.dK bf)
  hl : H dl = some (.lst ls)
theorem none_back {H H1 : Hp} {p : Addr} (s : Same H H1) (h : H1 p = none) : H p = none := by
  cases e : H p with
  | none => rfl
  | some o => rw [s _ _ e] at h; cases h
theorem NetAt.same {C a dn db dl : Addr} {H H' : Hp} {n : Int} {nx bf : List (Key × V)} {ls : List V} (N : NetAt C H a n dn db dl nx bf ls) (s : Same H H') : NetAt C H' a n dn db dl nx bf ls :=
  ⟨let ⟨dx, e⟩ := N.me; ⟨dx, s _ _ e⟩, s _ _ N.hn, s _ _ N.hb, s _ _ N.hl⟩
def sp_Net__houses (C : Addr) : Sp := fun vs H Q _ => ∃ (h dn db dl : Addr) (n : Int) (nx bf : List (Key × V)) (ls : List V) (ks : List Int), vs = [.ref h] ∧ NetAt C H h n dn db dl nx bf ls ∧ nx.map (·.1) = ks.map Sum.inl ∧ ks.length < 64 ∧
  ∀ (ys : List Int) (p : Addr), ys.Perm ks → ys.Pairwise (· ≤ ·) → H p = none → Q (.ref p) (upd H p (.lst (ys.map V.int)))
theorem T0.ok_Net__houses (T : T0 K mg) : FnOk P w K mg base CX0 1 T.a_Net__houses T.fd_Net__houses ["self"] (sp_Net__houses T.C_Net) := by
  refine T.F_Net__houses.ok sc_Net__houses (fun vs H Q E h => ?_) (fun cdv A outer s H vs Q E hr h => ?_)
  · obtain ⟨h, dn, db, dl, n, nx, bf, ls, ks, rfl, _⟩ := h
    rfl
  · obtain ⟨h, dn, db, dl, n, nx, bf, ls, ks, rfl, hN, hk, h64, q⟩ := h
    obtain ⟨dx, hh⟩ := hN.me
    refine ⟨_, (pss_one (ps_ret (pe_callB (call_sortedDI rfl) (by rfl) T.m_sorted (by decide +kernel) (pa_cons (show PE _ _ (tFld K _ _) from pe_fld (pv 0) rfl) pa_nil)))), ?_⟩
    exact ⟨_, rfl, h, _, dx, _, _, rfl, hh, T.cl_Net, T.na_Net__nexts, nf_nexts, dn, nx, ks, rfl, .inl hN.hn, hk, h64, q⟩
def sp_Net__check_house (C : Addr) : Sp := fun vs H Q _ => ∃ (h dn db dl : Addr) (n p : Int) (nx bf : List (Key × V)) (ls : List V), vs = [.ref h, .int p] ∧ NetAt C H h n dn db dl nx bf ls ∧ (valV nx (.inl p)).isSome = true ∧ Q .non H
theorem T0.ok_Net__check_house (T : T0 K mg) : FnOk P w K mg base CX0 1 T.a_Net__check_house T.fd_Net__check_house ["self", "place"] (sp_Net__check_house T.C_Net) := by
  refine T.F_Net__check_house.ok sc_Net__check_house (fun vs H Q E h => ?_) (fun cdv A outer s H vs Q E hr h => ?_)
  · obtain ⟨h, dn, db, dl, n, p, nx, bf, ls, rfl, _⟩ := h
    rfl
  · obtain ⟨h, dn, db, dl, n, p, nx, bf, ls, rfl, hN, hk, q⟩ := h
    obtain ⟨dx, hh⟩ := hN.me
    refine ⟨_, (pss_one (ps_if (pt_cmp (pc_dnotin (un1 hr) (pv 1) (show PE _ _ (tFld K _ _) from pe_fld (pv 0) rfl))) (pss_one (ps_never)) pss_nil)), ?_⟩
    refine ⟨_, rfl, _, rfl, h, _, dx, _, _, rfl, hh, T.cl_Net, T.na_Net__nexts, nf_nexts, dn, _, rfl, DGet.k (k := Sum.inl p) hN.hn, _, rfl, ?_⟩
    rw [hk]
    exact iteF q
def sp_check_on_circle : Sp := fun vs H Q _ => ∃ (n p : Int), vs = [.int n, .int p] ∧ 0 ≤ p ∧ p < n ∧ Q .non H
theorem T0.ok_check_on_circle (T : T0 K mg) : FnOk P w K mg base CX0 1 T.a_check_on_circle T.fd_check_on_circle ["size", "place"] sp_check_on_circle := by
  refine T.F_check_on_circle.ok sc_check_on_circle (fun vs H Q E h => ?_) (fun cdv A outer s H vs Q E hr h => ?_)
  · obtain ⟨n, p, rfl, _⟩ := h
    rfl
  · obtain ⟨n, p, rfl, p0, p1, q⟩ := h
    refine ⟨_, (pss_one (ps_if (PW.pt (pw_or (pt_cmpR op_lt (pv 1) pe_int (nomark _)) (pw_or1 (pt_cmpR op_ge (pv 1) (pv 0) (nomark _))))) (pss_one (ps_never)) pss_nil)), ?_⟩
    refine ⟨_, rfl, _, _, rfl, rfl, _, rfl, ite2 (fun e => absurd (of_decide_eq_true e) (by omega)) (fun _ => ?_)⟩
    refine ⟨_, rfl, _, rfl, _, _, rfl, rfl, _, rfl, ite2 (fun e => absurd (of_decide_eq_true e) (by omega)) (fun _ => ?_)⟩
    exact q
def sp_Net__check_letter (C : Addr) : Sp := fun vs H Q _ => ∃ (h dn db dl : Addr) (n p : Int) (nx bf : List (Key × V)) (ls : List V), vs = [.ref h, .int p] ∧ NetAt C H h n dn db dl nx bf ls ∧ 0 ≤ p ∧ p < ls.length ∧ Q .non H
theorem T0.ok_Net__check_letter (T : T0 K mg) : FnOk P w K mg base CX0 1 T.a_Net__check_letter T.fd_Net__check_letter ["self", "at"] (sp_Net__check_letter T.C_Net) := by
  refine T.F_Net__check_letter.ok sc_Net__check_letter (fun vs H Q E h => ?_) (fun cdv A outer s H vs Q E hr h => ?_)
  · obtain ⟨h, dn, db, dl, n, p, nx, bf, ls, rfl, _⟩ := h
    rfl
  · obtain ⟨h, dn, db, dl, n, p, nx, bf, ls, rfl, hN, p0, p1, q⟩ := h
    obtain ⟨dx, hh⟩ := hN.me
    refine ⟨_, (pss_one (ps_if (PW.pt (pw_or (pt_cmpR op_lt (pv 1) pe_int (nomark _)) (pw_or1 (pt_cmpR op_ge (pv 1) (pe_callB (call_lenK (K := K)) (by rfl) T.m_len PySem.boot_len (pa_cons (show PE _ _ (tFld K _ _) from pe_fld (pv 0) rfl) pa_nil)) (nomark _))))) (pss_one (ps_never)) pss_nil)), ?_⟩
    refine ⟨_, rfl, _, _, rfl, rfl, _, rfl, ite2 (fun e => absurd (of_decide_eq_true e) (by omega)) (fun _ => ?_)⟩
    refine ⟨_, rfl, _, rfl, h, _, dx, _, _, rfl, hh, T.cl_Net, T.na_Net__letters, nf_letters, dl, ls, rfl, .inl (SqL.of hN.hl), _, _, rfl, rfl, _, rfl, ite2 (fun e => absurd (of_decide_eq_true e) (by omega)) (fun _ => ?_)⟩
    exact q
theorem dget_of {H : Hp} {a : Addr} {kvs : List (Key × V)} {k : Key} {v : V} (e : H a = some (.dK kvs)) (h : valV kvs k = some v) : DGet H a (kV k) (some v) := h ▸ DGet.k e
def sp_Net__house_at (C D : Addr) : Sp := fun vs H Q _ => ∃ (h dn db dl : Addr) (n p x : Int) (b : V) (nx bf : List (Key × V)) (ls : List V), vs = [.ref h, .int p] ∧ NetAt C H h n dn db dl nx bf ls ∧ valV nx (.inl p) = some (.int x) ∧ valV bf (.inl p) = some b ∧
  ∀ H' r, Same H H' → H r = none → HouseAt D H' r n p x b → Q (.ref r) H'
theorem T0.ok_Net__house_at (T : T0 K mg) : FnOk P w K mg base CX0 3 T.a_Net__house_at T.fd_Net__house_at ["self", "place"] (sp_Net__house_at T.C_Net T.C_House) := by
  refine T.F_Net__house_at.ok sc_Net__house_at (fun vs H Q E h => ?_) (fun cdv A outer s H vs Q E hr h => ?_)
  · obtain ⟨h, dn, db, dl, n, p, x, b, nx, bf, ls, rfl, _⟩ := h
    rfl
  · obtain ⟨h, dn, db, dl, n, p, x, b, nx, bf, ls, rfl, hN, hx, hb, q⟩ := h
    obtain ⟨dx, hh⟩ := hN.me
    refine ⟨_, (pss_one (ps_ret (pe_make T.mk_House T.ok_House__init hr (by rfl) T.mc_House T.b_House__init .nil pass0 (pa_cons (show PE _ _ (tFld K _ _) from pe_fld (pv 0) rfl) (pa_cons (pv 1) (pa_cons (pe_dget (un1 hr) (show PE _ _ (tFld K _ _) from pe_fld (pv 0) rfl) (pv 1) (fun _ _ => rfl)) (pa_cons (pe_dget (un1 hr) (show PE _ _ (tFld K _ _) from pe_fld (pv 0) rfl) (pv 1) (fun _ _ => rfl)) pa_nil))))))), ?_⟩
    refine ⟨_, rfl, h, _, dx, _, _, rfl, hh, T.cl_Net, T.na_Net_size, nf_size, _, rfl, ?_⟩
    refine ⟨_, rfl, h, _, dx, _, _, rfl, hh, T.cl_Net, T.na_Net__nexts, nf_nexts, _, rfl, dn, _, rfl, dget_of hN.hn hx, ?_⟩
    refine ⟨_, rfl, h, _, dx, _, _, rfl, hh, T.cl_Net, T.na_Net__befores, nf_befores, _, rfl, db, _, rfl, dget_of hN.hb hb, ?_⟩
    refine fun r dx' nr ndx ne => ⟨r, dx', n, p, x, b, rfl, upd_same, fun H' hA k => ⟨rfl, q H' r (fun c o e => ?_) nr hA⟩⟩
    refine k c o (ne_of_none e nr) ?_
    rw [upd_ne (ne_of_none e nr), upd_ne (ne_of_none e ndx)]
    exact e
def sp_Net__send (C : Addr) : Sp := fun vs H Q _ => ∃ (h dn db dl : Addr) (n : Int) (nx bf : List (Key × V)) (ls : List V) (v : V), vs = [.ref h, v] ∧ NetAt C H h n dn db dl nx bf ls ∧ ls.length ≤ 100000 ∧ Q v (upd H dl (.lst (ls ++ [v])))
theorem T0.ok_Net__send (T : T0 K mg) : FnOk P w K mg base CX0 1 T.a_Net__send T.fd_Net__send ["self", "letter"] (sp_Net__send T.C_Net) := by
  refine T.F_Net__send.ok sc_Net__send (fun vs H Q E h => ?_) (fun cdv A outer s H vs Q E hr h => ?_)
  · obtain ⟨h, dn, db, dl, n, nx, bf, ls, v, rfl, _⟩ := h
    rfl
  · obtain ⟨h, dn, db, dl, n, nx, bf, ls, v, rfl, hN, hz, q⟩ := h
    obtain ⟨dx, hh⟩ := hN.me
    refine ⟨_, (pss_cons (ps_expr (pe_bm PySem.F.plainAttrs_list PySem.F.slot_list_append PySem.F.type_list_append mt_append (show PE _ _ (tFld K _ _) from pe_fld (pv 0) rfl) (pa_cons (pv 1) pa_nil)))
        (pss_one (ps_ret (pv 1)))), ?_⟩
    refine ⟨_, rfl, h, _, dx, _, _, rfl, hh, T.cl_Net, T.na_Net__letters, nf_letters, ?_⟩
    exact ⟨.inl ⟨rfl, _, SqL.of hN.hl⟩, _, rfl, dl, ls, v, rfl, rfl, hN.hl, small1000' hz, _, rfl, q⟩
def sp_Net__letters (C : Addr) : Sp := fun vs H Q _ => ∃ (h dn db dl : Addr) (n : Int) (nx bf : List (Key × V)) (ls : List V), vs = [.ref h] ∧ NetAt C H h n dn db dl nx bf ls ∧ ∀ p, H p = none → Q (.ref p) (upd H p (.lst ls))
theorem T0.ok_Net__letters (T : T0 K mg) : FnOk P w K mg base CX0 1 T.a_Net__letters T.fd_Net__letters ["self"] (sp_Net__letters T.C_Net) := by
  refine T.F_Net__letters.ok sc_Net__letters (fun vs H Q E h => ?_) (fun cdv A outer s H vs Q E hr h => ?_)
  · obtain ⟨h, dn, db, dl, n, nx, bf, ls, rfl, _⟩ := h
    rfl
  · obtain ⟨h, dn, db, dl, n, nx, bf, ls, rfl, hN, q⟩ := h
    obtain ⟨dx, hh⟩ := hN.me
    refine ⟨_, (pss_one (ps_ret (pe_callTy (call_list_ofK (K := K)) (by rfl) T.m_list (by decide +kernel) (pa_cons (show PE _ _ (tFld K _ _) from pe_fld (pv 0) rfl) pa_nil)))), ?_⟩
    exact ⟨_, rfl, h, _, dx, _, _, rfl, hh, T.cl_Net, T.na_Net__letters, nf_letters, dl, ls, rfl, .inl (SqL.of hN.hl), q⟩
def sp_Net__say (C : Addr) (z : Str) : Sp := fun vs H Q _ => ∃ (h dn db dl : Addr) (n p x : Int) (b : V) (nx bf : List (Key × V)) (ls : List V), vs = [.ref h, .int p] ∧ NetAt C H h n dn db dl nx bf ls ∧ valV nx (.inl p) = some (.int x) ∧ valV bf (.inl p) = some b ∧ ls.length ≤ 1000 ∧
  ∀ H' l, Same H H' → H l = none → H' l = some (.tup [.str z, .int x, .int p]) → Q (.ref l) (upd H' dl (.lst (ls ++ [.ref l])))
theorem T0.ok_Net__tell (T : T0 K mg) : FnOk P w K mg base CX0 4 T.a_Net__tell T.fd_Net__tell ["self", "house"] (sp_Net__say T.C_Net "tell") := by
  refine T.F_Net__tell.ok sc_Net__tell (fun vs H Q E h => ?_) (fun cdv A outer s H vs Q E hr h => ?_)
  · obtain ⟨h, dn, db, dl, n, p, x, b, nx, bf, ls, rfl, _⟩ := h
    rfl
  · obtain ⟨h, dn, db, dl, n, p, x, b, nx, bf, ls, rfl, hN, hx, hb, hz, q⟩ := h
    obtain ⟨dx, hh⟩ := hN.me
    refine ⟨_, (pss_cons (ps_expr (pe_meth (pv 0) T.cl_Net T.me_Net__check_house T.ok_Net__check_house (hr.mono (by decide)) T.b_Net__check_house .nil pass0 (pa_cons (pv 1) pa_nil)))
        (pss_one (ps_ret (pe_meth (pv 0) T.cl_Net T.me_Net__send T.ok_Net__send (hr.mono (by decide)) T.b_Net__send .nil pass0 (pa_cons (pe_meth0 (pe_meth (pv 0) T.cl_Net T.me_Net__house_at T.ok_Net__house_at hr T.b_Net__house_at .nil pass0 (pa_cons (pv 1) pa_nil)) T.cl_House T.me_House__tell_letter T.ok_House__tell_letter (hr.mono (by decide)) T.b_House__tell_letter .nil pass0) pa_nil))))), ?_⟩
    refine ⟨_, rfl, h, dx, _, rfl, hh, (by unfold nf; walk_at "lk"), _, rfl, h, dn, db, dl, n, p, nx, bf, ls, rfl, hN, (by rw [hx]; rfl), ?_⟩
    refine ⟨_, rfl, h, dx, _, rfl, hh, (by unfold nf; walk_at "lk"), _, rfl, h, dx, _, rfl, hh, (by unfold nf; walk_at "lk"), _, rfl, h, dn, db, dl, n, p, x, b, nx, bf, ls, rfl, hN, hx, hb, fun H1 r sm nr hA => ?_⟩
    obtain ⟨d2, hA2⟩ := id hA
    refine ⟨r, d2, _, rfl, hA2, (by unfold hf; walk_at "lk"), r, n, p, x, b, rfl, hA, fun l nl => ?_⟩
    refine ⟨h, dn, db, dl, n, nx, bf, ls, .ref l, rfl, (hN.same sm).same (same_upd nl), by omega, q _ l (Same.trans sm (same_upd nl)) ?_ upd_same⟩
    cases e : H l with
    | none => rfl
    | some o => rw [sm _ _ e] at nl; cases nl
theorem T0.ok_Net__ask (T : T0 K mg) : FnOk P w K mg base CX0 4 T.a_Net__ask T.fd_Net__ask ["self", "house"] (sp_Net__say T.C_Net "ask") := by
  refine T.F_Net__ask.ok sc_Net__ask (fun vs H Q E h => ?_) (fun cdv A outer s H vs Q E hr h => ?_)
  · obtain ⟨h, dn, db, dl, n, p, x, b, nx, bf, ls, rfl, _⟩ := h
    rfl
  · obtain ⟨h, dn, db, dl, n, p, x, b, nx, bf, ls, rfl, hN, hx, hb, hz, q⟩ := h
    obtain ⟨dx, hh⟩ := hN.me
    refine ⟨_, (pss_cons (ps_expr (pe_meth (pv 0) T.cl_Net T.me_Net__check_house T.ok_Net__check_house (hr.mono (by decide)) T.b_Net__check_house .nil pass0 (pa_cons (pv 1) pa_nil)))
        (pss_one (ps_ret (pe_meth (pv 0) T.cl_Net T.me_Net__send T.ok_Net__send (hr.mono (by decide)) T.b_Net__send .nil pass0 (pa_cons (pe_meth0 (pe_meth (pv 0) T.cl_Net T.me_Net__house_at T.ok_Net__house_at hr T.b_Net__house_at .nil pass0 (pa_cons (pv 1) pa_nil)) T.cl_House T.me_House__ask_letter T.ok_House__ask_letter (hr.mono (by decide)) T.b_House__ask_letter .nil pass0) pa_nil))))), ?_⟩
    refine ⟨_, rfl, h, dx, _, rfl, hh, (by unfold nf; walk_at "lk"), _, rfl, h, dn, db, dl, n, p, nx, bf, ls, rfl, hN, (by rw [hx]; rfl), ?_⟩
    refine ⟨_, rfl, h, dx, _, rfl, hh, (by unfold nf; walk_at "lk"), _, rfl, h, dx, _, rfl, hh, (by unfold nf; walk_at "lk"), _, rfl, h, dn, db, dl, n, p, x, b, nx, bf, ls, rfl, hN, hx, hb, fun H1 r sm nr hA => ?_⟩
    obtain ⟨d2, hA2⟩ := id hA
    refine ⟨r, d2, _, rfl, hA2, (by unfold hf; walk_at "lk"), r, n, p, x, b, rfl, hA, fun l nl => ?_⟩
    refine ⟨h, dn, db, dl, n, nx, bf, ls, .ref l, rfl, (hN.same sm).same (same_upd nl), by omega, q _ l (Same.trans sm (same_upd nl)) ?_ upd_same⟩
    cases e : H l with
    | none => rfl
    | some o => rw [sm _ _ e] at nl; cases nl
def sp_Net__lose (C : Addr) : Sp := fun vs H Q _ => ∃ (h dn db dl : Addr) (n : Int) (k : Nat) (v : V) (nx bf : List (Key × V)) (ls : List V), vs = [.ref h, .int k] ∧ NetAt C H h n dn db dl nx bf ls ∧ ls[k]? = some v ∧ ls.length ≤ 1000 ∧ Q v (upd H dl (.lst (ls.eraseIdx k)))
theorem T0.ok_Net__lose (T : T0 K mg) : FnOk P w K mg base CX0 2 T.a_Net__lose T.fd_Net__lose ["self", "at"] (sp_Net__lose T.C_Net) := by
  refine T.F_Net__lose.ok sc_Net__lose (fun vs H Q E h => ?_) (fun cdv A outer s H vs Q E hr h => ?_)
  · obtain ⟨h, dn, db, dl, n, k, v, nx, bf, ls, rfl, _⟩ := h
    rfl
  · obtain ⟨h, dn, db, dl, n, k, v, nx, bf, ls, rfl, hN, hv, hz, q⟩ := h
    obtain ⟨dx, hh⟩ := hN.me
    have hk := (List.getElem?_eq_some_iff.mp hv).1
    refine ⟨_, (pss_cons (ps_expr (pe_meth (pv 0) T.cl_Net T.me_Net__check_letter T.ok_Net__check_letter hr T.b_Net__check_letter .nil pass0 (pa_cons (pv 1) pa_nil)))
        (pss_one (ps_ret (pe_bm PySem.F.plainAttrs_list PySem.F.slot_list_pop PySem.F.type_list_pop mt_popAt (show PE _ _ (tFld K _ _) from pe_fld (pv 0) rfl) (pa_cons (pv 1) pa_nil))))), ?_⟩
    refine ⟨_, rfl, h, dx, _, rfl, hh, (by unfold nf; walk_at "lk"), _, rfl, h, dn, db, dl, n, k, nx, bf, ls, rfl, hN, by omega, by omega, ?_⟩
    refine ⟨_, rfl, h, _, dx, _, _, rfl, hh, T.cl_Net, T.na_Net__letters, nf_letters, .inl ⟨rfl, _, SqL.of hN.hl⟩, _, rfl, dl, ls, k, k, v, rfl, rfl, hN.hl, by omega, by omega, seq_nat hk, hv, q⟩
def sp_Net__repeat (C : Addr) : Sp := fun vs H Q _ => ∃ (h dn db dl : Addr) (n : Int) (k : Nat) (v : V) (nx bf : List (Key × V)) (ls : List V), vs = [.ref h, .int k] ∧ NetAt C H h n dn db dl nx bf ls ∧ ls[k]? = some v ∧ ls.length ≤ 1000 ∧ Q v (upd H dl (.lst (ls ++ [v])))
theorem T0.ok_Net__repeat (T : T0 K mg) : FnOk P w K mg base CX0 2 T.a_Net__repeat T.fd_Net__repeat ["self", "at"] (sp_Net__repeat T.C_Net) := by
  refine T.F_Net__repeat.ok sc_Net__repeat (fun vs H Q E h => ?_) (fun cdv A outer s H vs Q E hr h => ?_)
  · obtain ⟨h, dn, db, dl, n, k, v, nx, bf, ls, rfl, _⟩ := h
    rfl
  · obtain ⟨h, dn, db, dl, n, k, v, nx, bf, ls, rfl, hN, hv, hz, q⟩ := h
    obtain ⟨dx, hh⟩ := hN.me
    have hk := (List.getElem?_eq_some_iff.mp hv).1
    refine ⟨_, (pss_cons (ps_expr (pe_meth (pv 0) T.cl_Net T.me_Net__check_letter T.ok_Net__check_letter hr T.b_Net__check_letter .nil pass0 (pa_cons (pv 1) pa_nil)))
        (pss_one (ps_ret (pe_meth (pv 0) T.cl_Net T.me_Net__send T.ok_Net__send hr T.b_Net__send .nil pass0 (pa_cons (pe_ix (ix_listK (K := K)) (show PE _ _ (tFld K _ _) from pe_fld (pv 0) rfl) (pv 1) (fun _ _ => rfl)) pa_nil))))), ?_⟩
    refine ⟨_, rfl, h, dx, _, rfl, hh, (by unfold nf; walk_at "lk"), _, rfl, h, dn, db, dl, n, k, nx, bf, ls, rfl, hN, by omega, by omega, ?_⟩
    refine ⟨_, rfl, h, dx, _, rfl, hh, (by unfold nf; walk_at "lk"), _, rfl, h, _, dx, _, _, rfl, hh, T.cl_Net, T.na_Net__letters, nf_letters, _, rfl, dl, ls, k, v, rfl, rfl, SqL.of hN.hl, atI_nat hv, ?_⟩
    exact ⟨h, dn, db, dl, n, nx, bf, ls, v, rfl, hN, by omega, q⟩
def sp_Net__nexts (C : Addr) : Sp := fun vs H Q _ => ∃ (h dn db dl : Addr) (n : Int) (nx bf : List (Key × V)) (ls : List V) (ks : List Int) (f : Int → V), vs = [.ref h] ∧ NetAt C H h n dn db dl nx bf ls ∧ nx.map (·.1) = ks.map Sum.inl ∧ ks.length < 64 ∧ ks.Nodup ∧ (∀ k ∈ ks, valV nx (.inl k) = some (f k)) ∧
  ∀ (ys : List Int) (p : Addr) (H' : Hp), ys.Perm ks → ys.Pairwise (· ≤ ·) → Same H H' → H p = none → H' p = some (.dK (ys.map fun y => (.inl y, f y))) → Q (.ref p) H'
theorem T0.ok_Net__nexts (T : T0 K mg) : FnOk P w K mg base CX0 2 T.a_Net__nexts T.fd_Net__nexts ["self"] (sp_Net__nexts T.C_Net) := by
  refine T.F_Net__nexts.ok sc_Net__nexts (fun vs H Q E h => ?_) (fun cdv A outer s H vs Q E hr h => ?_)
  · obtain ⟨h, dn, db, dl, n, nx, bf, ls, ks, f, rfl, _⟩ := h
    rfl
  · obtain ⟨h, dn, db, dl, n, nx, bf, ls, ks, f, rfl, hN, hk, h64, hnd, hf, q⟩ := h
    obtain ⟨dx, hh⟩ := hN.me
    refine ⟨_, (pss_one (ps_ret (pe_dc (own := [("house", 1)]) (g := gName 1) (by rfl) sc_Net__nexts.nd (pi_list (pe_meth0 (pv 0) T.cl_Net T.me_Net__houses T.ok_Net__houses hr T.b_Net__houses .nil pass0)) (blkOk_by (own := [("house", 1)]) (N := ["self", "house"]) (sc := defScope s_Net__nexts) (by decide +kernel)) (fun _ _ _ _ _ => pg_name (i := 1) sc_Net__nexts.nd rfl (Or.inl rfl)) (fun _ _ _ _ _ => pts_nil) (fun _ _ _ _ _ => (pv 1)) (fun _ _ _ _ _ => (pe_dget (un1 hr) (show PE _ _ (tFld K _ _) from pe_fld (pv 0) rfl) (pv 1) (fun _ _ => rfl)))))), ?_⟩
    refine ⟨_, rfl, h, dx, _, rfl, hh, (by unfold nf; walk_at "lk"), h, dn, db, dl, n, nx, bf, ls, ks, rfl, hN, hk, h64, fun ys l perm pw nl => ?_⟩
    have hl : upd H l (.lst (ys.map V.int)) l = some (.lst (ys.map V.int)) := upd_same
    have sm := same_upd (o := .lst (ys.map V.int)) nl
    generalize upd H l (.lst (ys.map V.int)) = H1 at hl sm
    have ynd : ys.Nodup := perm.nodup_iff.mpr hnd
    have ylen := perm.length_eq
    refine ⟨l, rfl, ⟨_, SqL.of hl⟩, fun D hD => ?_⟩
    refine dc_list (K := K) (a := l) (xs := ys.map V.int) (fun i H' => Same H1 H' ∧ H' D = some (.dK ((ys.take i).map fun y => (.inl y, f y)))) ⟨same_upd hD, upd_same⟩ (fun i H' _ p => SqL.of (p.1 _ _ hl)) (fun i x H' hx pv => ?_) (fun H2 pv => ?_)
    · obtain ⟨s2, e2⟩ := pv
      rw [List.getElem?_map] at hx
      obtain ⟨y, hy, rfl⟩ := Option.map_eq_some_iff.mp hx
      have hN2 := (hN.same sm).same s2
      obtain ⟨dx, hh⟩ := hN2.me
      refine ⟨rfl, lc_yes ?_⟩
      refine ⟨_, rfl, _, rfl, h, _, dx, _, _, rfl, hh, T.cl_Net, T.na_Net__nexts, nf_nexts, _, rfl, dn, _, rfl, dget_of (k := Sum.inl y) hN2.hn (hf y (perm.mem_iff.mp (List.mem_of_getElem? hy))), _, Sum.inl y, rfl, e2, small1000' (by rw [List.length_map, List.length_take]; omega), fun b o e => ?_, ?_⟩
      · rw [upd_ne (ne_of_none e hD)]
        exact s2 b o e
      · rw [upd_same, putK_new _ (valV_none_of (not_in_take ynd hy)), List.take_add_one, hy, List.map_append]
        rfl
    · obtain ⟨s2, e2⟩ := pv
      rw [List.length_map, List.take_length] at e2
      exact q ys D H2 perm pw (Same.trans sm s2) (none_back sm hD) e2
def sp_Net__befores (C : Addr) : Sp := fun vs H Q _ => ∃ (h dn db dl : Addr) (n : Int) (nx bf : List (Key × V)) (ls : List V) (ks : List Int) (f : Int → V), vs = [.ref h] ∧ NetAt C H h n dn db dl nx bf ls ∧ nx.map (·.1) = ks.map Sum.inl ∧ ks.length < 64 ∧ ks.Nodup ∧ (∀ k ∈ ks, valV bf (.inl k) = some (f k)) ∧
  ∀ (ys : List Int) (p : Addr) (H' : Hp), ys.Perm ks → ys.Pairwise (· ≤ ·) → Same H H' → H p = none → H' p = some (.dK ((ys.filter fun y => decide (f y ≠ .non)).map fun y => (.inl y, f y))) → Q (.ref p) H'
theorem filter_step {f : Int → V} {ys : List Int} {i : Nat} {y : Int} (h : ys[i]? = some y) : (ys.take (i + 1)).filter (fun y => decide (f y ≠ .non)) = if f y = .non then (ys.take i).filter (fun y => decide (f y ≠ .non)) else (ys.take i).filter (fun y => decide (f y ≠ .non)) ++ [y] := by
  rw [List.take_add_one, h, List.filter_append]
  show _ ++ List.filter _ [y] = _
  by_cases e : f y = .non
  · rw [if_pos e]
    simp only [List.filter_cons, List.filter_nil, e, ne_eq, not_true_eq_false, decide_false, Bool.false_eq_true, if_false, List.append_nil]
  · rw [if_neg e]
    simp only [List.filter_cons, List.filter_nil, e, ne_eq, not_false_eq_true, decide_true, if_true]
theorem T0.ok_Net__befores (T : T0 K mg) : FnOk P w K mg base CX0 2 T.a_Net__befores T.fd_Net__befores ["self"] (sp_Net__befores T.C_Net) := by
  refine T.F_Net__befores.ok sc_Net__befores (fun vs H Q E h => ?_) (fun cdv A outer s H vs Q E hr h => ?_)
  · obtain ⟨h, dn, db, dl, n, nx, bf, ls, ks, f, rfl, _⟩ := h
    rfl
  · obtain ⟨h, dn, db, dl, n, nx, bf, ls, ks, f, rfl, hN, hk, h64, hnd, hf, q⟩ := h
    obtain ⟨dx, hh⟩ := hN.me
    refine ⟨_, (pss_cons (ps_set (i := 1) sc_Net__befores.nd rfl (Or.inr rfl) (show PE _ _ (tFld K _ _) from pe_fld (pv 0) rfl))
        (pss_one (ps_ret (pe_dc (own := [("house", 2)]) (g := gName 2) (by rfl) sc_Net__befores.nd (pi_list (pe_meth0 (pv 0) T.cl_Net T.me_Net__houses T.ok_Net__houses hr T.b_Net__houses .nil pass0)) (blkOk_by (own := [("house", 2)]) (N := ["self", "befores", "house"]) (sc := defScope s_Net__befores) (by decide +kernel)) (fun _ _ _ _ _ => pg_name (i := 2) sc_Net__befores.nd rfl (Or.inl rfl)) (fun _ _ _ _ _ => pts_one (pt_cmpR op_notN (pe_dget (un1 hr) (pv 1) (pv 2) (fun _ _ => rfl)) pe_non (nomark _))) (fun _ _ _ _ _ => (pv 2)) (fun _ _ _ _ _ => (pe_dget (un1 hr) (pv 1) (pv 2) (fun _ _ => rfl))))))), ?_⟩
    refine ⟨_, rfl, h, _, dx, _, _, rfl, hh, T.cl_Net, T.na_Net__befores, nf_befores, ?_⟩
    refine ⟨_, rfl, h, dx, _, rfl, hh, (by unfold nf; walk_at "lk"), h, dn, db, dl, n, nx, bf, ls, ks, rfl, hN, hk, h64, fun ys l perm pw nl => ?_⟩
    have hl : upd H l (.lst (ys.map V.int)) l = some (.lst (ys.map V.int)) := upd_same
    have sm := same_upd (o := .lst (ys.map V.int)) nl
    generalize upd H l (.lst (ys.map V.int)) = H1 at hl sm
    have ynd : ys.Nodup := perm.nodup_iff.mpr hnd
    have ylen := perm.length_eq
    refine ⟨l, rfl, ⟨_, SqL.of hl⟩, fun D hD => ?_⟩
    refine dc_list (K := K) (a := l) (xs := ys.map V.int) (fun i H' => Same H1 H' ∧ H' D = some (.dK (((ys.take i).filter fun y => decide (f y ≠ .non)).map fun y => (.inl y, f y)))) ⟨same_upd hD, upd_same⟩ (fun i H' _ p => SqL.of (p.1 _ _ hl)) (fun i x H' hx pv => ?_) (fun H2 pv => ?_)
    · obtain ⟨s2, e2⟩ := pv
      rw [List.getElem?_map] at hx
      obtain ⟨y, hy, rfl⟩ := Option.map_eq_some_iff.mp hx
      have hN2 := (hN.same sm).same s2
      have g := dget_of (k := Sum.inl y) hN2.hb (hf y (perm.mem_iff.mp (List.mem_of_getElem? hy)))
      have fs := filter_step (f := f) hy
      refine ⟨rfl, _, rfl, _, rfl, db, _, rfl, g, ?_⟩
      refine ⟨rfl, _, rfl, ?_⟩
      by_cases e : f y = .non
      · rw [if_pos e] at fs
        refine iteF' (by rw [decide_eq_true e]; rfl) ?_
        rw [fs]
        exact ⟨s2, e2⟩
      · rw [if_neg e] at fs
        refine iteT' (by rw [decide_eq_false e]; rfl) ?_
        have nin : y ∉ (ys.take i).filter fun y => decide (f y ≠ .non) := fun m => not_in_take ynd hy (List.mem_filter.mp m).1
        refine ⟨_, rfl, _, rfl, _, rfl, db, _, rfl, g, _, Sum.inl y, rfl, e2, small1000' ?_, fun b o e => ?_, ?_⟩
        · rw [List.length_map]
          refine Nat.le_trans (List.length_filter_le _ _) ?_
          rw [List.length_take]
          omega
        · rw [upd_ne (ne_of_none e hD)]
          exact s2 b o e
        · rw [upd_same, putK_new _ (valV_none_of nin), fs, List.map_append]
          rfl
    · obtain ⟨s2, e2⟩ := pv
      rw [List.length_map, List.take_length] at e2
      exact q ys D H2 perm pw (Same.trans sm s2) (none_back sm hD) e2
theorem NetAt.setl {C a dn db dl : Addr} {H : Hp} {n : Int} {nx bf : List (Key × V)} {ls ls' : List V} (N : NetAt C H a n dn db dl nx bf ls) : NetAt C (upd H dl (.lst ls')) a n dn db dl nx bf ls' where
  me := let ⟨dx, e⟩ := N.me; ⟨dx, (upd_ne (fun z => by rw [z, N.hl] at e; cases e)).trans e⟩
  hn := (upd_ne (fun z => by have e := N.hn; rw [z, N.hl] at e; cases e)).trans N.hn
  hb := (upd_ne (fun z => by have e := N.hb; rw [z, N.hl] at e; cases e)).trans N.hb
  hl := upd_same
theorem NetAt.setb {C a dn db dl : Addr} {H : Hp} {n : Int} {nx bf bf' : List (Key × V)} {ls : List V} (N : NetAt C H a n dn db dl nx bf ls) (ne : db ≠ dn) : NetAt C (upd H db (.dK bf')) a n dn db dl nx bf' ls where
  me := let ⟨dx, e⟩ := N.me; ⟨dx, (upd_ne (fun z => by rw [z, N.hb] at e; cases e)).trans e⟩
  hn := (upd_ne (Ne.symm ne)).trans N.hn
  hb := upd_same
  hl := (upd_ne (fun z => by have e := N.hl; rw [z, N.hb] at e; cases e)).trans N.hl
theorem NetAt.setn {C a dn db dl : Addr} {H : Hp} {n : Int} {nx nx' bf : List (Key × V)} {ls : List V} (N : NetAt C H a n dn db dl nx bf ls) (ne : db ≠ dn) : NetAt C (upd H dn (.dK nx')) a n dn db dl nx' bf ls where
  me := let ⟨dx, e⟩ := N.me; ⟨dx, (upd_ne (fun z => by rw [z, N.hn] at e; cases e)).trans e⟩
  hn := upd_same
  hb := (upd_ne ne).trans N.hb
  hl := (upd_ne (fun z => by have e := N.hl; rw [z, N.hn] at e; cases e)).trans N.hl
theorem scal_ok {x y : V} (h : okB x) (g : okB y) : scal x y = true := by
  rcases h with rfl | ⟨i, rfl⟩ <;> rcases g with rfl | ⟨j, rfl⟩ <;> rfl
theorem okB_hB {n p : Int} {b : V} {L : Let} (h : okB b) : okB (hB n p b L) := by
  cases L with
  | tell r u =>
    show okB (hTell n p u b)
    unfold hTell
    split <;> first | exact .inr ⟨_, rfl⟩ | assumption | (split <;> first | exact .inr ⟨_, rfl⟩ | assumption)
  | ask r u => exact h
  | answer r u m => exact h
def Let.to : Let → Int
  | .tell r _ => r
  | .ask r _ => r
  | .answer r _ _ => r
theorem Let.at1 (L : Let) : atI L.vals (1 : Int) = some (.int L.to) := by cases L <;> rfl
/-- what reading leaves: the two dicts, the letters, what is returned -/
structure RdPost (C h dn db dl : Addr) (n r x : Int) (b : V) (L : Let) (nx bf : List (Key × V)) (ls : List V) (H H' : Hp) (v : V) : Prop where
  keep : ∀ a o, a ≠ dn → a ≠ db → a ≠ dl → H a = some o → H' a = some o
  net : NetAt C H' h n dn db dl (if hA r b L = none ∧ hB n r b L = b ∧ hN n r x L ≠ x then putK nx (.inl r) (.int (hN n r x L)) else nx) (if hA r b L = none ∧ hB n r b L ≠ b then putK bf (.inl r) (hB n r b L) else bf) ls
  told : ∃ a, v = .ref a ∧ H' a = some (.tup (if hA r b L ≠ none then [.str "wrote", .int r, hB n r b L] else if hB n r b L ≠ b then [.str "before", .int r, hB n r b L] else if hN n r x L ≠ x then [.str "next", .int r, .int (hN n r x L)] else [.str "kept", .int r, .non]))
def sp_Net__read (K : PySem.W.Frag) (C : Addr) : Sp := fun vs H Q _ => ∃ (h dn db dl lt : Addr) (n x : Int) (b : V) (k : Nat) (L : Let) (nx bf : List (Key × V)) (ls : List V), vs = [.ref h, .int k] ∧ NetAt C H h n dn db dl nx bf ls ∧ ls[k]? = some (.ref lt) ∧ H lt = some (.tup L.vals) ∧ valV nx (.inl L.to) = some (.int x) ∧ valV bf (.inl L.to) = some b ∧ okB b ∧ 0 < n ∧ db ≠ dn ∧ nx.length ≤ 1000 ∧ bf.length ≤ 1000 ∧ ls.length ≤ 1000 ∧
  ∀ H' v ls', (match hA L.to b L with | none => ls' = ls.eraseIdx k | some ys => ∃ a, ls' = ls.eraseIdx k ++ [.ref a] ∧ H' a = some (.tup ys)) → RdPost C h dn db dl n L.to x b L nx bf ls' H H' v → Q v H'
theorem T0.ok_Net__read (T : T0 K mg) : FnOk P w K mg base CX0 5 T.a_Net__read T.fd_Net__read ["self", "at"] (sp_Net__read K T.C_Net) := by
  refine T.F_Net__read.ok sc_Net__read (fun vs H Q E h => ?_) (fun cdv A outer s H vs Q E hr h => ?_)
  · obtain ⟨h, dn, db, dl, lt, n, x, b, k, L, nx, bf, ls, rfl, _⟩ := h
    rfl
  · obtain ⟨h, dn, db, dl, lt, n, x, b, k, L, nx, bf, ls, rfl, hN, hv, hlt, hx, hb, ob, hn, ne, z1, z2, z3, q⟩ := h
    obtain ⟨dx, hh⟩ := hN.me
    have hk := (List.getElem?_eq_some_iff.mp hv).1
    refine ⟨_, (pss_cons (ps_expr (pe_meth (pv 0) T.cl_Net T.me_Net__check_letter T.ok_Net__check_letter (hr.mono (by decide)) T.b_Net__check_letter .nil pass0 (pa_cons (pv 1) pa_nil)))
        (pss_cons (ps_set (i := 2) sc_Net__read.nd rfl (Or.inl rfl) (pe_bm PySem.F.plainAttrs_list PySem.F.slot_list_pop PySem.F.type_list_pop mt_popAt (show PE _ _ (tFld K _ _) from pe_fld (pv 0) rfl) (pa_cons (pv 1) pa_nil)))
        (pss_cons (ps_set (i := 3) sc_Net__read.nd rfl (Or.inl rfl) (pe_ix (ix_tupK (K := K)) (pv 2) pe_int (fun _ _ => rfl)))
        (pss_cons (ps_set (i := 4) sc_Net__read.nd rfl (Or.inl rfl) (pe_meth (pv 0) T.cl_Net T.me_Net__house_at T.ok_Net__house_at (hr.mono (by decide)) T.b_Net__house_at .nil pass0 (pa_cons (pv 3) pa_nil)))
        (pss_cons (ps_set (i := 5) sc_Net__read.nd rfl (Or.inl rfl) (pe_meth (pv 4) T.cl_House T.me_House__hear T.ok_House__hear hr T.b_House__hear .nil pass0 (pa_cons (pv 2) pa_nil)))
        (pss_cons (ps_if (pt_cmpR op_notN (pv 5) pe_non (nomark _)) (pss_cons (ps_expr (pe_meth (pv 0) T.cl_Net T.me_Net__send T.ok_Net__send (hr.mono (by decide)) T.b_Net__send .nil pass0 (pa_cons (pv 5) pa_nil)))
        (pss_one (ps_ret (pe_tup (pa_cons pe_str (pa_cons (pv 3) (pa_cons (show PE _ _ (tFld K _ _) from pe_fld (pv 4) rfl) pa_nil))))))) pss_nil)
        (pss_cons (ps_if (pt_cmpR op_ne (show PE _ _ (tFld K _ _) from pe_fld (pv 4) rfl) (pe_dget (un1 hr) (show PE _ _ (tFld K _ _) from pe_fld (pv 0) rfl) (pv 3) (fun _ _ => rfl)) (nomark _)) (pss_cons (ps_asg (show PE _ _ (tFld K _ _) from pe_fld (pv 4) rfl) (pg_sub (show PE _ _ (tFld K _ _) from pe_fld (pv 0) rfl) (pv 3) (set_dict (un1 hr))))
        (pss_one (ps_ret (pe_tup (pa_cons pe_str (pa_cons (pv 3) (pa_cons (show PE _ _ (tFld K _ _) from pe_fld (pv 4) rfl) pa_nil))))))) pss_nil)
        (pss_cons (ps_if (pt_cmpR op_ne (show PE _ _ (tFld K _ _) from pe_fld (pv 4) rfl) (pe_dget (un1 hr) (show PE _ _ (tFld K _ _) from pe_fld (pv 0) rfl) (pv 3) (fun _ _ => rfl)) (nomark _)) (pss_cons (ps_asg (show PE _ _ (tFld K _ _) from pe_fld (pv 4) rfl) (pg_sub (show PE _ _ (tFld K _ _) from pe_fld (pv 0) rfl) (pv 3) (set_dict (un1 hr))))
        (pss_one (ps_ret (pe_tup (pa_cons pe_str (pa_cons (pv 3) (pa_cons (show PE _ _ (tFld K _ _) from pe_fld (pv 4) rfl) pa_nil))))))) pss_nil)
        (pss_one (ps_ret (pe_tup (pa_cons pe_str (pa_cons (pv 3) (pa_cons pe_non pa_nil)))))))))))))), ?_⟩
    refine ⟨_, rfl, h, dx, _, rfl, hh, (by unfold nf; walk_at "lk"), _, rfl, h, dn, db, dl, n, k, nx, bf, ls, rfl, hN, by omega, by omega, ?_⟩
    refine ⟨_, rfl, h, _, dx, _, _, rfl, hh, T.cl_Net, T.na_Net__letters, nf_letters, .inl ⟨rfl, _, SqL.of hN.hl⟩, _, rfl, dl, ls, k, k, .ref lt, rfl, rfl, hN.hl, by omega, by omega, seq_nat hk, hv, ?_⟩
    have off : ∀ {a : Addr} {o : HO}, H a = some o → (∀ xs, o ≠ .lst xs) → a ≠ dl := fun e no z => by rw [z, hN.hl] at e; exact no _ (Option.some.inj e).symm
    have k1 : ∀ a o, a ≠ dl → H a = some o → upd H dl (.lst (ls.eraseIdx k)) a = some o := fun a o na e => (upd_ne na).trans e
    have N1 : NetAt T.C_Net (upd H dl (.lst (ls.eraseIdx k))) h n dn db dl nx bf (ls.eraseIdx k) := ⟨⟨dx, k1 _ _ (off hh fun _ z => nomatch z) hh⟩, k1 _ _ (off hN.hn fun _ z => nomatch z) hN.hn, k1 _ _ (off hN.hb fun _ z => nomatch z) hN.hb, upd_same⟩
    have lt1 := k1 _ _ (off hlt fun _ z => nomatch z) hlt
    generalize upd H dl (.lst (ls.eraseIdx k)) = H1 at k1 N1 lt1
    obtain ⟨dx, hh1⟩ := N1.me
    refine ⟨_, rfl, lt, _, 1, _, rfl, rfl, SqT.of lt1, L.at1, ?_⟩
    refine ⟨_, rfl, h, dx, _, rfl, hh1, (by unfold nf; walk_at "lk"), _, rfl, h, dn, db, dl, n, L.to, x, b, nx, bf, _, rfl, N1, hx, hb, fun H2 r2 sm nr hA1 => ?_⟩
    obtain ⟨d2, hA2⟩ := id hA1
    refine ⟨_, rfl, r2, d2, _, rfl, hA2, (by unfold hf; walk_at "lk"), _, rfl, r2, lt, n, L.to, x, b, L, rfl, hA1, ob, hn, SqT.of (sm _ _ lt1), fun v H3 hA3 k3 post => ?_⟩
    have k2 : ∀ a o, a ≠ dl → H a = some o → H3 a = some o := fun a o na e => k3 _ _ (ne_of_none (k1 _ _ na e) nr) (sm _ _ (k1 _ _ na e))
    have kp3 : Same H1 H3 := fun a o e => k3 _ _ (ne_of_none e nr) (sm _ _ e)
    have N3 := N1.same kp3
    obtain ⟨dx, hh3⟩ := N3.me
    have nd : r2 ≠ dl := fun z => by rw [z, N1.hl] at nr; cases nr
    have ndb : r2 ≠ db := fun z => by rw [z, N1.hb] at nr; cases nr
    have ndn : r2 ≠ dn := fun z => by rw [z, N1.hn] at nr; cases nr
    have le : (ls.eraseIdx k).length ≤ 1000 := Nat.le_trans (List.length_eraseIdx_le _ _) z3
    obtain ⟨d3, hA3'⟩ := id hA3
    cases eA : hA L.to b L with
    | some ys =>
      rw [eA] at post
      obtain ⟨a, rfl, hy⟩ := post
      refine ⟨_, rfl, rfl, _, rfl, ?_⟩
      refine iteT' (by rw [decide_eq_false (fun z => nomatch z)]; rfl) ?_
      refine ⟨_, rfl, h, dx, _, rfl, hh3, (by unfold nf; walk_at "lk"), _, rfl, h, dn, db, dl, n, nx, bf, _, .ref a, rfl, N3, by omega, ?_⟩
      refine ⟨_, rfl, _, rfl, r2, _, d3, _, _, rfl, (upd_ne nd).trans hA3', T.cl_House, T.na_House_before, hf_before, lenL (by show 3 ≤ 100000; decide), fun p np => ?_⟩
      have ap : a ≠ dl := fun z => by rw [z, N3.hl] at hy; cases hy
      have hy4 : upd H3 dl (.lst (ls.eraseIdx k ++ [.ref a])) a = some (.tup ys) := (upd_ne ap).trans hy
      refine q _ _ (ls.eraseIdx k ++ [.ref a]) ?_ ⟨fun c o n1 n2 n3 e => ?_, ?_, p, rfl, ?_⟩
      · rw [eA]
        exact ⟨a, rfl, (upd_ne (ne_of_none hy4 np)).trans hy4⟩
      · have e4 : upd H3 dl (.lst (ls.eraseIdx k ++ [.ref a])) c = some o := (upd_ne n3).trans (k2 c o n3 e)
        exact (upd_ne (ne_of_none e4 np)).trans e4
      · rw [eA]
        rw [if_neg (fun z => nomatch z.1), if_neg (fun z => nomatch z.1)]
        exact (N3.setl).same (same_upd np)
      · rw [eA, upd_same, if_pos (fun z => nomatch z)]
    | none =>
      rw [eA] at post
      subst post
      refine ⟨_, rfl, rfl, _, rfl, ?_⟩
      refine iteF' (by rfl) ?_
      have okb := okB_hB (n := n) (p := L.to) (L := L) ob
      refine ⟨_, rfl, r2, _, d3, _, _, rfl, hA3', T.cl_House, T.na_House_before, hf_before, _, rfl, h, _, dx, _, _, rfl, hh3, T.cl_Net, T.na_Net__befores, nf_befores, _, rfl, db, b, rfl, dget_of N3.hb hb, scal_ok okb ob, _, rfl, ?_⟩
      by_cases eb : hB n L.to b L = b
      · refine iteF' (by rw [decide_eq_true eb]; rfl) ?_
        refine ⟨_, rfl, r2, _, d3, _, _, rfl, hA3', T.cl_House, T.na_House_next_house, hf_next, _, rfl, h, _, dx, _, _, rfl, hh3, T.cl_Net, T.na_Net__nexts, nf_nexts, _, rfl, dn, _, rfl, dget_of N3.hn hx, rfl, _, rfl, ?_⟩
        by_cases ex : Z.hN n L.to x L = x
        · refine iteF' (by rw [decide_eq_true (congrArg V.int ex)]; rfl) ?_
          refine ⟨_, rfl, lenL (by show 3 ≤ 100000; decide), fun p np => q _ _ (ls.eraseIdx k) (by rw [eA]) ⟨fun c o n1 n2 n3 e => ?_, ?_, p, rfl, ?_⟩⟩
          · exact (upd_ne (ne_of_none (k2 c o n3 e) np)).trans (k2 c o n3 e)
          · rw [if_neg (fun z => z.2.2 ex), if_neg (fun z => z.2 eb)]
            exact N3.same (same_upd np)
          · rw [upd_same, if_neg (fun z => z eA), if_neg (fun z => z eb), if_neg (fun z => z ex)]
        · refine iteT' (by rw [decide_eq_false (fun z => ex (V.int.inj z))]; rfl) ?_
          refine ⟨_, rfl, r2, _, d3, _, _, rfl, hA3', T.cl_House, T.na_House_next_house, hf_next, ?_⟩
          refine ⟨_, rfl, h, _, dx, _, _, rfl, hh3, T.cl_Net, T.na_Net__nexts, nf_nexts, _, rfl, dn, _, rfl, DPut.k (k := Sum.inl L.to) N3.hn (small1000' (by omega)), ?_⟩
          refine ⟨_, rfl, _, rfl, r2, _, d3, _, _, rfl, (upd_ne ndn).trans hA3', T.cl_House, T.na_House_next_house, hf_next, lenL (by show 3 ≤ 100000; decide), fun p np => q _ _ (ls.eraseIdx k) (by rw [eA]) ⟨fun c o n1 n2 n3 e => ?_, ?_, p, rfl, ?_⟩⟩
          · have e4 := (upd_ne (o := .dK (putK nx (Sum.inl L.to) (.int (Z.hN n L.to x L)))) n1).trans (k2 c o n3 e)
            exact (upd_ne (ne_of_none e4 np)).trans e4
          · rw [if_pos ⟨eA, eb, ex⟩, if_neg (fun z => z.2 eb)]
            exact (N3.setn ne).same (same_upd np)
          · rw [upd_same, if_neg (fun z => z eA), if_neg (fun z => z eb), if_pos ex]
      · refine iteT' (by rw [decide_eq_false eb]; rfl) ?_
        refine ⟨_, rfl, r2, _, d3, _, _, rfl, hA3', T.cl_House, T.na_House_before, hf_before, ?_⟩
        refine ⟨_, rfl, h, _, dx, _, _, rfl, hh3, T.cl_Net, T.na_Net__befores, nf_befores, _, rfl, db, _, rfl, DPut.k (k := Sum.inl L.to) N3.hb (small1000' (by omega)), ?_⟩
        refine ⟨_, rfl, _, rfl, r2, _, d3, _, _, rfl, (upd_ne ndb).trans hA3', T.cl_House, T.na_House_before, hf_before, lenL (by show 3 ≤ 100000; decide), fun p np => q _ _ (ls.eraseIdx k) (by rw [eA]) ⟨fun c o n1 n2 n3 e => ?_, ?_, p, rfl, ?_⟩⟩
        · have e4 := (upd_ne (o := .dK (putK bf (Sum.inl L.to) (hB n L.to b L))) n2).trans (k2 c o n3 e)
          exact (upd_ne (ne_of_none e4 np)).trans e4
        · rw [if_neg (fun z => eb z.2.1), if_pos ⟨eA, eb⟩]
          exact (N3.setb ne).same (same_upd np)
        · rw [upd_same, if_neg (fun z => z eA), if_pos eb]
def sp_Net__check_letters (K : PySem.W.Frag) (C : Addr) : Sp := fun vs H Q _ => ∃ (h dn db dl : Addr) (n : Int) (nx bf : List (Key × V)) (ls : List V), vs = [.ref h] ∧ NetAt C H h n dn db dl nx bf ls ∧ ls.length ≤ 1000 ∧ (∀ v ∈ ls, ∃ (a : Addr) (z : Str) (qs : List Int), v = .ref a ∧ H a = some (.tup (.str z :: qs.map V.int)) ∧ ∀ q ∈ qs, (valV nx (.inl q)).isSome = true) ∧ ∀ H', Same H H' → Q .non H'
theorem T0.ok_Net__check_letters (T : T0 K mg) : FnOk P w K mg base CX0 2 T.a_Net__check_letters T.fd_Net__check_letters ["self"] (sp_Net__check_letters K T.C_Net) := by
  refine T.F_Net__check_letters.ok sc_Net__check_letters (fun vs H Q E h => ?_) (fun cdv A outer s H vs Q E hr h => ?_)
  · obtain ⟨h, dn, db, dl, n, nx, bf, ls, rfl, _⟩ := h
    rfl
  · obtain ⟨h, dn, db, dl, n, nx, bf, ls, rfl, hN, hz, hl, q⟩ := h
    obtain ⟨dx, hh⟩ := hN.me
    refine ⟨_, (pss_one (ps_for PassesOwn.never rfl (pi_list (show PE _ _ (tFld K _ _) from pe_fld (pv 0) rfl)) (pg_name (i := 1) sc_Net__check_letters.nd rfl (Or.inl rfl)) (pss_one (ps_for PassesOwn.never rfl (pi_tup (pe_slice (sl_tupK (K := K)) (pv 1) (po_some pe_int) po_none)) (pg_name (i := 2) sc_Net__check_letters.nd rfl (Or.inl rfl)) (pss_one (ps_expr (pe_meth (pv 0) T.cl_Net T.me_Net__check_house T.ok_Net__check_house hr T.b_Net__check_house .nil pass0 (pa_cons (pv 2) pa_nil)))))))), ?_⟩
    refine ⟨_, rfl, h, _, dx, _, _, rfl, hh, T.cl_Net, T.na_Net__letters, nf_letters, dl, rfl, ⟨_, SqL.of hN.hl⟩, ?_⟩
    refine for_list (K := K) (a := dl) (xs := ls) (fun i σ' H' => ∃ o1 o2, σ' = [some (.ref h), o1, o2] ∧ Same H H') ⟨none, none, rfl, fun _ _ e => e⟩ (fun i σ' H' _ p => by obtain ⟨_, _, _, s⟩ := p; exact SqL.of (s _ _ hN.hl)) (fun i v σ' H1 hv p => ?_) (fun σ' H1 p => ?_)
    · obtain ⟨o1, o2, rfl, s1⟩ := p
      obtain ⟨a, z, qs, rfl, ha, hq⟩ := hl v (List.mem_of_getElem? hv)
      have i1 : HT.sIx (V.str z :: qs.map V.int).length 0 (some (1 : Int)) = 1 := by rw [show (1 : Int) = ((1 : Nat) : Int) from rfl, HT.sIx_nat, List.length_cons]; omega
      have cut : cutV (V.str z :: qs.map V.int) (some 1) none = qs.map V.int := by
        unfold cutV
        rw [i1, HT.sIx_none, List.take_of_length_le (by rw [List.length_drop]; exact Nat.le_refl _)]
        rfl
      refine ⟨_, rfl, 1, rfl, a, _, rfl, SqT.of (s1 _ _ ha), (fun y => by rw [i1] at y; exact absurd y.1 (by decide)), fun u nu => ?_⟩
      rw [cut]
      have hu : upd H1 u (.tup (qs.map V.int)) u = some (.tup (qs.map V.int)) := upd_same
      have s2 := Same.trans s1 (same_upd (o := .tup (qs.map V.int)) nu)
      generalize upd H1 u (.tup (qs.map V.int)) = H2 at hu s2
      refine ⟨u, rfl, ⟨_, SqT.of hu⟩, ?_⟩
      refine for_tup (K := K) (a := u) (xs := qs.map V.int) (fun j σ' H' => ∃ o2, σ' = [some (.ref h), some (.ref a), o2] ∧ Same H2 H') ⟨o2, rfl, fun _ _ e => e⟩ (fun j σ' H' _ p => by obtain ⟨_, _, s⟩ := p; exact SqT.of (s _ _ hu)) (fun j v σ' H3 hv p => ?_) (fun σ' H3 p => ?_)
      · obtain ⟨o2, rfl, s3⟩ := p
        rw [List.getElem?_map] at hv
        obtain ⟨y, hy, rfl⟩ := Option.map_eq_some_iff.mp hv
        have N3 := hN.same (Same.trans s2 s3)
        obtain ⟨dx, hh⟩ := N3.me
        exact ⟨_, rfl, h, dx, _, rfl, hh, (by unfold nf; walk_at "lk"), _, rfl, h, dn, db, dl, n, y, nx, bf, ls, rfl, N3, hq y (List.mem_of_getElem? hy), _, rfl, s3⟩
      · obtain ⟨o2, rfl, s3⟩ := p
        exact ⟨_, _, rfl, Same.trans s2 s3⟩
    · obtain ⟨o1, o2, rfl, s1⟩ := p
      exact q H1 s1
def sp_Net__check_places (C : Addr) : Sp := fun vs H Q _ => ∃ (h dn db dl : Addr) (n : Int) (nx bf : List (Key × V)) (ls : List V) (ks : List Int), vs = [.ref h] ∧ NetAt C H h n dn db dl nx bf ls ∧ nx.map (·.1) = ks.map Sum.inl ∧ ks.length < 64 ∧ (∀ k ∈ ks, 0 ≤ k ∧ k < n ∧ ∃ x, valV nx (.inl k) = some (.int x) ∧ (valV nx (.inl x)).isSome = true) ∧ ∀ H', Same H H' → Q .non H'
theorem T0.ok_Net__check_places (T : T0 K mg) : FnOk P w K mg base CX0 2 T.a_Net__check_places T.fd_Net__check_places ["self"] (sp_Net__check_places T.C_Net) := by
  refine T.F_Net__check_places.ok sc_Net__check_places (fun vs H Q E h => ?_) (fun cdv A outer s H vs Q E hr h => ?_)
  · obtain ⟨h, dn, db, dl, n, nx, bf, ls, ks, rfl, _⟩ := h
    rfl
  · obtain ⟨h, dn, db, dl, n, nx, bf, ls, ks, rfl, hN, hk, h64, hv, q⟩ := h
    obtain ⟨dx, hh⟩ := hN.me
    refine ⟨_, (pss_cons (ps_for PassesOwn.never rfl (pi_list (pe_meth0 (pv 0) T.cl_Net T.me_Net__houses T.ok_Net__houses hr T.b_Net__houses .nil pass0)) (pg_name (i := 1) sc_Net__check_places.nd rfl (Or.inl rfl)) (pss_one (ps_expr (pe_call T.ok_check_on_circle hr (by rfl) T.g_check_on_circle T.k_check_on_circle T.b_check_on_circle .nil pass0 (pa_cons (show PE _ _ (tFld K _ _) from pe_fld (pv 0) rfl) (pa_cons (pv 1) pa_nil))))))
        (pss_one (ps_for PassesOwn.never rfl (pi_list (pe_meth0 (pv 0) T.cl_Net T.me_Net__houses T.ok_Net__houses hr T.b_Net__houses .nil pass0)) (pg_name (i := 1) sc_Net__check_places.nd rfl (Or.inl rfl)) (pss_one (ps_expr (pe_meth (pv 0) T.cl_Net T.me_Net__check_house T.ok_Net__check_house hr T.b_Net__check_house .nil pass0 (pa_cons (pe_dget (un1 hr) (show PE _ _ (tFld K _ _) from pe_fld (pv 0) rfl) (pv 1) (fun _ _ => rfl)) pa_nil))))))), ?_⟩
    refine ⟨_, rfl, h, dx, _, rfl, hh, (by unfold nf; walk_at "lk"), h, dn, db, dl, n, nx, bf, ls, ks, rfl, hN, hk, h64, fun ys l perm pw nl => ?_⟩
    have hl : upd H l (.lst (ys.map V.int)) l = some (.lst (ys.map V.int)) := upd_same
    have sm := same_upd (o := .lst (ys.map V.int)) nl
    generalize upd H l (.lst (ys.map V.int)) = H1 at hl sm
    refine ⟨l, rfl, ⟨_, SqL.of hl⟩, ?_⟩
    refine for_list (K := K) (a := l) (xs := ys.map V.int) (fun i σ' H' => ∃ o1, σ' = [some (.ref h), o1] ∧ H1 = H') ⟨none, rfl, rfl⟩ (fun i σ' H' _ p => by obtain ⟨_, _, rfl⟩ := p; exact SqL.of hl) (fun i v σ' H' hv' p => ?_) (fun σ' H' p => ?_)
    · obtain ⟨o1, rfl, rfl⟩ := p
      rw [List.getElem?_map] at hv'
      obtain ⟨y, hy, rfl⟩ := Option.map_eq_some_iff.mp hv'
      have N1 := hN.same sm
      obtain ⟨dx, hh⟩ := N1.me
      obtain ⟨y0, y1, _⟩ := hv y (perm.mem_iff.mp (List.mem_of_getElem? hy))
      exact ⟨_, rfl, h, _, dx, _, _, rfl, hh, T.cl_Net, T.na_Net_size, nf_size, _, rfl, n, y, rfl, y0, y1, _, rfl, rfl⟩
    obtain ⟨o1, rfl, rfl⟩ := p
    have N1 := hN.same sm
    obtain ⟨dx, hh⟩ := N1.me
    refine ⟨_, rfl, h, dx, _, rfl, hh, (by unfold nf; walk_at "lk"), h, dn, db, dl, n, nx, bf, ls, ks, rfl, N1, hk, h64, fun ys l perm pw nl => ?_⟩
    have hl : upd H1 l (.lst (ys.map V.int)) l = some (.lst (ys.map V.int)) := upd_same
    have sm2 := Same.trans sm (same_upd (o := .lst (ys.map V.int)) nl)
    generalize upd H1 l (.lst (ys.map V.int)) = H2 at hl sm2
    refine ⟨l, rfl, ⟨_, SqL.of hl⟩, ?_⟩
    refine for_list (K := K) (a := l) (xs := ys.map V.int) (fun i σ' H' => ∃ o1, σ' = [some (.ref h), o1] ∧ H2 = H') ⟨_, rfl, rfl⟩ (fun i σ' H' _ p => by obtain ⟨_, _, rfl⟩ := p; exact SqL.of hl) (fun i v σ' H' hv' p => ?_) (fun σ' H' p => ?_)
    · obtain ⟨o1, rfl, rfl⟩ := p
      rw [List.getElem?_map] at hv'
      obtain ⟨y, hy, rfl⟩ := Option.map_eq_some_iff.mp hv'
      have N2 := hN.same sm2
      obtain ⟨dx, hh⟩ := N2.me
      obtain ⟨_, _, x, hx, hx2⟩ := hv y (perm.mem_iff.mp (List.mem_of_getElem? hy))
      refine ⟨_, rfl, h, dx, _, rfl, hh, (by unfold nf; walk_at "lk"), _, rfl, h, _, dx, _, _, rfl, hh, T.cl_Net, T.na_Net__nexts, nf_nexts, _, rfl, dn, _, rfl, dget_of (k := Sum.inl y) N2.hn hx, h, dn, db, dl, n, x, nx, bf, ls, rfl, N2, hx2, _, rfl, rfl⟩
    · obtain ⟨o1, rfl, rfl⟩ := p
      exact q _ sm2
def sp_Net__take_befores (C : Addr) : Sp := fun vs H Q _ => ∃ (h dn db dl d : Addr) (n : Int) (nx bf bs : List (Key × V)) (ls : List V) (js : List Int), vs = [.ref h, .ref d] ∧ NetAt C H h n dn db dl nx bf ls ∧ H d = some (.dK bs) ∧ bs.map (·.1) = js.map Sum.inl ∧ js.length < 64 ∧ (∀ j ∈ js, (valV nx (.inl j)).isSome = true ∧ ∃ x, valV bs (.inl j) = some (.int x) ∧ (valV nx (.inl x)).isSome = true) ∧ d ≠ db ∧ db ≠ dn ∧ bf.length ≤ 1000 ∧
  ∀ H' bf', NetAt C H' h n dn db dl nx bf' ls → (∀ a o, a ≠ db → H a = some o → H' a = some o) → (∀ p : Int, valV bf' (.inl p) = if p ∈ js then valV bs (.inl p) else valV bf (.inl p)) → bf'.length ≤ bf.length + js.length → Q .non H'
theorem T0.ok_Net__take_befores (T : T0 K mg) : FnOk P w K mg base CX0 2 T.a_Net__take_befores T.fd_Net__take_befores ["self", "befores"] (sp_Net__take_befores T.C_Net) := by
  refine T.F_Net__take_befores.ok sc_Net__take_befores (fun vs H Q E h => ?_) (fun cdv A outer s H vs Q E hr h => ?_)
  · obtain ⟨h, dn, db, dl, d, n, nx, bf, bs, ls, js, rfl, _⟩ := h
    rfl
  · obtain ⟨h, dn, db, dl, d, n, nx, bf, bs, ls, js, rfl, hN, hd, hk, h64, hv, ned, ne, hz, q⟩ := h
    refine ⟨_, (pss_one (ps_for PassesOwn.never rfl (pi_list (pe_callB (call_sortedDI rfl) (by rfl) T.m_sorted (by decide +kernel) (pa_cons (pv 1) pa_nil))) (pg_name (i := 2) sc_Net__take_befores.nd rfl (Or.inl rfl)) (pss_cons (ps_expr (pe_meth (pv 0) T.cl_Net T.me_Net__check_house T.ok_Net__check_house hr T.b_Net__check_house .nil pass0 (pa_cons (pv 2) pa_nil)))
        (pss_cons (ps_expr (pe_meth (pv 0) T.cl_Net T.me_Net__check_house T.ok_Net__check_house hr T.b_Net__check_house .nil pass0 (pa_cons (pe_dget (un1 hr) (pv 1) (pv 2) (fun _ _ => rfl)) pa_nil)))
        (pss_one (ps_asg (pe_dget (un1 hr) (pv 1) (pv 2) (fun _ _ => rfl)) (pg_sub (show PE _ _ (tFld K _ _) from pe_fld (pv 0) rfl) (pv 2) (set_dict (un1 hr))))))))), ?_⟩
    refine ⟨_, rfl, d, bs, js, rfl, .inl hd, hk, h64, fun ys l perm pw nl => ?_⟩
    have hl : upd H l (.lst (ys.map V.int)) l = some (.lst (ys.map V.int)) := upd_same
    have sm := same_upd (o := .lst (ys.map V.int)) nl
    generalize upd H l (.lst (ys.map V.int)) = H1 at hl sm
    have ylen := perm.length_eq
    have nldb : l ≠ db := fun z => by rw [z, hN.hb] at nl; cases nl
    refine ⟨l, rfl, ⟨_, SqL.of hl⟩, ?_⟩
    refine for_list (K := K) (a := l) (xs := ys.map V.int) (fun i σ' H' => ∃ o1 bf', σ' = [some (.ref h), some (.ref d), o1] ∧ NetAt T.C_Net H' h n dn db dl nx bf' ls ∧ (∀ a o, a ≠ db → H1 a = some o → H' a = some o) ∧ (∀ p : Int, valV bf' (.inl p) = if p ∈ ys.take i then valV bs (.inl p) else valV bf (.inl p)) ∧ bf'.length ≤ bf.length + i)
      ⟨none, bf, rfl, hN.same sm, fun _ _ _ e => e, fun p => by rw [List.take_zero, if_neg (List.not_mem_nil)], Nat.le_refl _⟩ (fun i σ' H' _ p => by obtain ⟨_, _, _, _, k, _⟩ := p; exact SqL.of (k _ _ nldb hl)) (fun i v σ' H' hv' p => ?_) (fun σ' H' p => ?_)
    · obtain ⟨o1, bf', rfl, N1, k1, vl, ln⟩ := p
      rw [List.getElem?_map] at hv'
      obtain ⟨y, hy, rfl⟩ := Option.map_eq_some_iff.mp hv'
      have hi : i < ys.length := (List.getElem?_eq_some_iff.mp hy).1
      obtain ⟨dx, hh⟩ := N1.me
      obtain ⟨y0, x, hx, hx2⟩ := hv y (perm.mem_iff.mp (List.mem_of_getElem? hy))
      have hd1 := k1 _ _ ned (sm _ _ hd)
      refine ⟨_, rfl, h, dx, _, rfl, hh, (by unfold nf; walk_at "lk"), _, rfl, h, dn, db, dl, n, y, nx, bf', ls, rfl, N1, y0, ?_⟩
      refine ⟨_, rfl, h, dx, _, rfl, hh, (by unfold nf; walk_at "lk"), _, rfl, _, rfl, d, _, rfl, dget_of (k := Sum.inl y) hd1 hx, h, dn, db, dl, n, x, nx, bf', ls, rfl, N1, hx2, ?_⟩
      refine ⟨_, rfl, _, rfl, d, _, rfl, dget_of (k := Sum.inl y) hd1 hx, ?_⟩
      refine ⟨_, rfl, h, _, dx, _, _, rfl, hh, T.cl_Net, T.na_Net__befores, nf_befores, _, rfl, db, _, rfl, DPut.k (k := Sum.inl y) N1.hb (small1000' (by omega)), ?_⟩
      refine ⟨_, _, rfl, N1.setb ne, fun a o na e => (upd_ne na).trans (k1 _ _ na e), fun p => ?_, ?_⟩
      · rw [valV_put, vl p, List.take_add_one, hy, Option.toList_some]
        by_cases e : p = y
        · subst e
          rw [if_pos rfl, if_pos (List.mem_append_right _ (List.mem_singleton.mpr rfl)), hx]
        · have e1 : ¬ (Sum.inl p : Key) = Sum.inl y := fun z => e (Sum.inl.inj z)
          rw [if_neg e1]
          by_cases g : p ∈ ys.take i
          · rw [if_pos g, if_pos (List.mem_append_left _ g)]
          · rw [if_neg g, if_neg (fun z => (List.mem_append.mp z).elim g (fun z => e (List.mem_singleton.mp z)))]
      · have := length_putK bf' (Sum.inl y : Key) (.int x)
        omega
    · obtain ⟨o1, bf', rfl, N1, k1, vl, ln⟩ := p
      refine q H' bf' N1 (fun a o na e => k1 a o na (sm _ _ e)) (fun p => ?_) (by rw [List.length_map] at ln; omega)
      rw [vl p, List.length_map, List.take_length]
      by_cases g : p ∈ ys
      · rw [if_pos g, if_pos (perm.mem_iff.mp g)]
      · rw [if_neg g, if_neg (fun z => g (perm.mem_iff.mpr z))]
def bef (bs : List (Key × V)) (k : Int) : V := (valV bs (.inl k)).getD .non
theorem valV_none_keys {kvs : List (Key × V)} {js : List Int} {p : Int} (h : kvs.map (·.1) = js.map Sum.inl) (hp : p ∉ js) : valV kvs (.inl p) = none := by
  induction kvs generalizing js with
  | nil => rfl
  | cons kv r ih =>
    cases js with
    | nil => cases h
    | cons j js =>
      obtain ⟨k, v⟩ := kv
      have h1 : k = Sum.inl j := (List.cons.inj h).1
      rw [valV_neg (fun e => hp (by rw [h1] at e; rw [Sum.inl.inj e]; exact List.mem_cons_self)), ih (List.cons.inj h).2 (fun m => hp (List.mem_cons_of_mem _ m))]
theorem valV_all_non {ks : List Int} {k : Int} (h : k ∈ ks) : valV (ks.map fun z => ((Sum.inl z : Key), V.non)) (Sum.inl k) = some .non := by
  induction ks with
  | nil => cases h
  | cons z r ih =>
    rw [List.map_cons]
    by_cases e : z = k
    · subst e
      exact valV_pos (p := ((Sum.inl z : Key), V.non)) rfl
    · rw [valV_neg (fun g => e (Sum.inl.inj g))]
      exact ih ((List.mem_cons.mp h).resolve_left (fun g => e g.symm))
def sp_Net__init (K : PySem.W.Frag) (C : Addr) : Sp := fun vs H Q _ => ∃ (h dx d1 d2 pl : Addr) (n : Int) (nx bs : List (Key × V)) (ls : List V) (ks js : List Int), vs = [.ref h, .int n, .ref d1, .ref d2, .ref pl] ∧ H h = some (.ins C dx []) ∧ H d1 = some (.dK nx) ∧ H d2 = some (.dK bs) ∧ H pl = some (.lst ls) ∧
  nx.map (·.1) = ks.map Sum.inl ∧ ks.length < 64 ∧ ks.Nodup ∧ bs.map (·.1) = js.map Sum.inl ∧ js.length < 64 ∧ ls.length ≤ 1000 ∧
  (∀ k ∈ ks, 0 ≤ k ∧ k < n ∧ ∃ x, valV nx (.inl k) = some (.int x) ∧ (valV nx (.inl x)).isSome = true) ∧ (∀ j ∈ js, (valV nx (.inl j)).isSome = true ∧ ∃ x, valV bs (.inl j) = some (.int x) ∧ (valV nx (.inl x)).isSome = true) ∧
  (∀ v ∈ ls, ∃ (a : Addr) (z : Str) (qs : List Int), v = .ref a ∧ H a = some (.tup (.str z :: qs.map V.int)) ∧ ∀ q ∈ qs, (valV nx (.inl q)).isSome = true) ∧
  ∀ H' dn db dl bf, NetAt C H' h n dn db dl nx bf ls → (∀ a o, a ≠ h → H a = some o → H' a = some o) → H dn = none → H db = none → H dl = none → db ≠ dn → (∀ p ∈ ks, valV bf (.inl p) = some (bef bs p)) → bf.length ≤ ks.length + js.length → Q .non H'
theorem T0.ok_Net__init (T : T0 K mg) : FnOk P w K mg base CX0 3 T.a_Net__init T.fd_Net__init ["self", "size", "nexts", "befores", "letters"] (sp_Net__init K T.C_Net) := by
  refine T.F_Net__init.ok sc_Net__init (fun vs H Q E h => ?_) (fun cdv A outer s H vs Q E hr h => ?_)
  · obtain ⟨h, dx, d1, d2, pl, n, nx, bs, ls, ks, js, rfl, _⟩ := h
    rfl
  · obtain ⟨h, dx, d1, d2, pl, n, nx, bs, ls, ks, js, rfl, hh, h1, h2, hpl, hk, h64, hnd, hj, hj64, hz, hv, hw, hu, q⟩ := h
    refine ⟨_, (pss_cons (ps_fld (pv 0) (pv 1) rfl)
        (pss_cons (ps_fld (pv 0) (pe_callTy call_dictD (by rfl) T.m_dict (by decide +kernel) (pa_cons (pv 2) pa_nil)) rfl)
        (pss_cons (ps_fld (pv 0) (pe_lock <| pe_dc (own := [("house", 5)]) (g := gName 5) (by rfl) sc_Net__init.nd (pi_keys (show PE _ _ (tFld K _ _) from pe_fld (pv 0) rfl)) (blkOk_by (own := [("house", 5)]) (N := ["self", "size", "nexts", "befores", "letters", "house"]) (sc := defScope s_Net__init) (by decide +kernel)) (fun _ _ _ _ _ => pg_name (i := 5) sc_Net__init.nd rfl (Or.inl rfl)) (fun _ _ _ _ _ => pts_nil) (fun _ _ _ _ _ => (pv 5)) (fun _ _ _ _ _ => pe_non)) rfl)
        (C8.pss_cut (ps_fld (pv 0) (pe_callTy (call_list_ofK (K := K)) (by rfl) T.m_list (by decide +kernel) (pa_cons (show PE _ _ (tOrT K _ _) from pe_orT (pv 4) (pe_one (pe_lst pa_nil))) pa_nil)) rfl)
        (pss_cons (ps_expr (pe_meth0 (pv 0) T.cl_Net T.me_Net__check_places T.ok_Net__check_places hr T.b_Net__check_places .nil pass0))
        (C8.pss_cut (ps_expr (pe_meth (pv 0) T.cl_Net T.me_Net__take_befores T.ok_Net__take_befores hr T.b_Net__take_befores .nil pass0 (pa_cons (show PE _ _ (tOrT K _ _) from pe_orT (pv 3) (pe_one pe_dnewK)) pa_nil)))
        (pss_one (ps_expr (pe_meth0 (pv 0) T.cl_Net T.me_Net__check_letters T.ok_Net__check_letters hr T.b_Net__check_letters .nil pass0))))))))), ?_⟩
    have nd1 : h ≠ d1 := fun e => by rw [e, h1] at hh; cases hh
    have nd2 : h ≠ d2 := fun e => by rw [e, h2] at hh; cases hh
    have npl : h ≠ pl := fun e => by rw [e, hpl] at hh; cases hh
    refine ⟨_, rfl, _, rfl, h, _, dx, [], rfl, hh, T.cl_Net, T.na_Net_size, (by show 0 < 1000; decide), ?_⟩
    refine ⟨_, rfl, d1, nx, rfl, .inl ((upd_ne nd1.symm).trans h1), fun dn ndn => ?_⟩
    have e1 : h ≠ dn := fun e => by rw [← e, upd_same] at ndn; cases ndn
    have ndn0 : H dn = none := by rw [upd_ne e1.symm] at ndn; exact ndn
    refine ⟨_, rfl, h, _, dx, _, rfl, (upd_ne e1).trans upd_same, T.cl_Net, T.na_Net__nexts, (by show 1 < 1000; decide), ?_⟩
    have k3 : ∀ a o, a ≠ h → H a = some o → upd (upd (upd H h (.ins T.C_Net dx (putF "size" (.int n) []))) dn (.dK nx)) h (.ins T.C_Net dx (putF "_nexts" (.ref dn) (putF "size" (.int n) []))) a = some o := fun a o na e => by
      rw [upd_ne na, upd_ne (ne_of_none e ndn0), upd_ne na]
      exact e
    have hdn : upd (upd (upd H h (.ins T.C_Net dx (putF "size" (.int n) []))) dn (.dK nx)) h (.ins T.C_Net dx (putF "_nexts" (.ref dn) (putF "size" (.int n) []))) dn = some (.dK nx) := (upd_ne e1.symm).trans upd_same
    have hh3 : upd (upd (upd H h (.ins T.C_Net dx (putF "size" (.int n) []))) dn (.dK nx)) h (.ins T.C_Net dx (putF "_nexts" (.ref dn) (putF "size" (.int n) []))) h = some (.ins T.C_Net dx (putF "_nexts" (.ref dn) (putF "size" (.int n) []))) := upd_same
    generalize upd (upd (upd H h (.ins T.C_Net dx (putF "size" (.int n) []))) dn (.dK nx)) h (.ins T.C_Net dx (putF "_nexts" (.ref dn) (putF "size" (.int n) []))) = H3 at k3 hdn hh3
    refine ⟨dn, nx, hdn, fun od => ?_⟩
    refine ⟨_, rfl, h, _, dx, _, _, rfl, (upd_ne e1).trans hh3, T.cl_Net, T.na_Net__nexts, (by walk_at "pf"; walk_at "lk"), dn, od, rfl, .inl ⟨nx, upd_same, fun D hD => ?_⟩⟩
    have nDdn : D ≠ dn := fun z => by rw [z, upd_same] at hD; cases hD
    refine dc_it walk_keys (fun i H' => Same (upd H3 dn (.frz od (.dK nx))) H' ∧ H' D = some (.dK ((ks.take i).map fun k => (.inl k, .non)))) ⟨same_upd hD, upd_same⟩ (fun i H' _ p => p.1 _ _ upd_same) (fun i x H4 H5 hi pv hy => ?_) (fun H4 pv => ?_)
    · obtain ⟨rfl, k, v, hkv, rfl⟩ := hy
      obtain ⟨s4, e4⟩ := pv
      have hki : ks[i]?.map (Sum.inl : Int → Key) = some k := by rw [← List.getElem?_map, ← hk, List.getElem?_map, hkv]; rfl
      obtain ⟨y, hy, rfl⟩ := Option.map_eq_some_iff.mp hki
      refine ⟨rfl, lc_yes ?_⟩
      refine ⟨_, rfl, _, Sum.inl y, rfl, e4, small1000' (by rw [List.length_map, List.length_take]; omega), fun b o e => ?_, ?_⟩
      · rw [upd_ne (ne_of_none e hD)]
        exact s4 b o e
      · rw [upd_same, putK_new _ (valV_none_of (f := fun _ => V.non) (not_in_take hnd hy)), List.take_add_one, hy, List.map_append]
        rfl
    · obtain ⟨s4, e4⟩ := pv
      refine ⟨s4 _ _ upd_same, ?_⟩
      have nl : nx.length = ks.length := by have := congrArg List.length hk; rw [List.length_map, List.length_map] at this; exact this
      rw [nl, List.take_length] at e4
      have h5 := (upd_ne (o := .dK nx) e1).trans (s4 _ _ ((upd_ne e1).trans hh3))
      have k5 : ∀ a o, a ≠ h → H a = some o → upd H4 dn (.dK nx) a = some o := fun a o na e => (upd_ne (ne_of_none e ndn0)).trans (s4 _ _ ((upd_ne (ne_of_none e ndn0)).trans (k3 a o na e)))
      have d5 : upd H4 dn (.dK nx) dn = some (.dK nx) := upd_same
      have D5 := (upd_ne (o := .dK nx) nDdn).trans e4
      have nDh : D ≠ h := fun z => by rw [z, (upd_ne e1 : upd H3 dn _ h = _), hh3] at hD; cases hD
      have nD0 : H D = none := by
        cases e : H D with
        | none => rfl
        | some o => rw [upd_ne nDdn, k3 D o nDh e] at hD; cases hD
      generalize upd H4 dn (.dK nx) = H5 at h5 k5 d5 D5
      refine ⟨_, rfl, h, _, dx, _, rfl, h5, T.cl_Net, T.na_Net__befores, (by show 2 < 1000; decide), ?_⟩
      have h6 : upd H5 h (.ins T.C_Net dx (putF "_befores" (.ref D) (putF "_nexts" (.ref dn) (putF "size" (.int n) [])))) h = _ := upd_same
      have k6 : ∀ a o, a ≠ h → H a = some o → upd H5 h (.ins T.C_Net dx (putF "_befores" (.ref D) (putF "_nexts" (.ref dn) (putF "size" (.int n) [])))) a = some o := fun a o na e => (upd_ne na).trans (k5 a o na e)
      have d6 := (upd_ne (o := .ins T.C_Net dx (putF "_befores" (.ref D) (putF "_nexts" (.ref dn) (putF "size" (.int n) [])))) e1.symm).trans d5
      have D6 := (upd_ne (o := .ins T.C_Net dx (putF "_befores" (.ref D) (putF "_nexts" (.ref dn) (putF "size" (.int n) [])))) nDh).trans D5
      generalize upd H5 h (.ins T.C_Net dx (putF "_befores" (.ref D) (putF "_nexts" (.ref dn) (putF "size" (.int n) [])))) = H6 at h6 k6 d6 D6
      have nn : (bef [] 0 : V) = .non := rfl
      refine ⟨fun σ' H' => σ' = [some (.ref h), some (.int n), some (.ref d1), some (.ref d2), some (.ref pl), none] ∧ ∃ dl, NetAt T.C_Net H' h n dn D dl nx (ks.map fun k => (.inl k, .non)) ls ∧ (∀ a o, a ≠ h → H a = some o → H' a = some o) ∧ H dl = none, ?_, ?_⟩
      · have fin : ∀ (Hq : Hp) (l : Addr), Same H6 Hq → Hq l = none → ∃ dl, NetAt T.C_Net (upd (upd Hq l (.lst ls)) h (.ins T.C_Net dx (putF "_letters" (.ref l) (putF "_befores" (.ref D) (putF "_nexts" (.ref dn) (putF "size" (.int n) [])))))) h n dn D dl nx (ks.map fun k => (.inl k, .non)) ls ∧ (∀ a o, a ≠ h → H a = some o → upd (upd Hq l (.lst ls)) h (.ins T.C_Net dx (putF "_letters" (.ref l) (putF "_befores" (.ref D) (putF "_nexts" (.ref dn) (putF "size" (.int n) []))))) a = some o) ∧ H dl = none := fun Hq l sq nl => by
          have nlh : l ≠ h := fun z => by rw [z, sq _ _ h6] at nl; cases nl
          have nD : D ≠ l := fun z => by rw [← z, sq _ _ D6] at nl; cases nl
          have ndl : dn ≠ l := fun z => by rw [← z, sq _ _ d6] at nl; cases nl
          refine ⟨l, ⟨⟨dx, ?_⟩, (upd_ne e1.symm).trans ((upd_ne ndl).trans (sq _ _ d6)), (upd_ne nDh).trans ((upd_ne nD).trans (sq _ _ D6)), (upd_ne nlh).trans upd_same⟩, fun a o na e => ?_, ?_⟩
          · rw [upd_same]
            have e : putF "_letters" (.ref l) (putF "_befores" (.ref D) (putF "_nexts" (.ref dn) (putF "size" (.int n) []))) = nf n dn D l := by
              walk_at "pf"
              rfl
            exact congrArg (fun z => some (HO.ins _ _ z)) e
          · have e2 := sq _ _ (k6 a o na e)
            exact (upd_ne na).trans ((upd_ne (ne_of_none e2 nl)).trans e2)
          · cases e : H l with
            | none => rfl
            | some o => rw [sq _ _ (k6 l o nlh e)] at nl; cases nl
        refine ⟨_, rfl, !ls.isEmpty, .inl ⟨ls, SqL.of (k6 _ _ npl.symm hpl), rfl⟩, ite2 (fun e => ?_) (fun e => ?_)⟩
        · refine ⟨pl, ls, rfl, .inl (SqL.of (k6 _ _ npl.symm hpl)), fun l nl => ?_⟩
          have nlh : h ≠ l := fun z => by rw [← z, h6] at nl; cases nl
          exact ⟨_, rfl, h, _, dx, _, rfl, (upd_ne nlh).trans h6, T.cl_Net, T.na_Net__letters, (by show 3 < 1000; decide), rfl, fin H6 l (fun _ _ e => e) nl⟩
        · have e : ls = [] := by
            cases ls with
            | nil => rfl
            | cons a b => exact absurd rfl e
          subst e
          refine ⟨Nat.zero_le _, fun p np => ?_⟩
          have s7 := same_upd (o := .lst []) np
          have p7 : upd H6 p (.lst []) p = some (.lst []) := upd_same
          generalize upd H6 p (.lst []) = H7 at s7 p7
          refine ⟨p, [], rfl, .inl (SqL.of p7), fun l nl => ?_⟩
          have nlh : h ≠ l := fun z => by rw [← z, s7 _ _ h6] at nl; cases nl
          exact ⟨_, rfl, h, _, dx, _, rfl, (upd_ne nlh).trans (s7 _ _ h6), T.cl_Net, T.na_Net__letters, (by show 3 < 1000; decide), rfl, fin H7 l s7 nl⟩
      rintro _ H8 ⟨rfl, dl, N8, k8, ndl0⟩
      have nDn : D ≠ dn := nDdn
      obtain ⟨dx8, hh8⟩ := N8.me
      refine ⟨_, rfl, h, dx8, _, rfl, hh8, (by unfold nf; walk_at "lk"), h, dn, D, dl, n, nx, _, ls, ks, rfl, N8, hk, h64, hv, fun H9 s9 => ?_⟩
      have N9 := N8.same s9
      have k9 : ∀ a o, a ≠ h → H a = some o → H9 a = some o := fun a o na e => s9 _ _ (k8 a o na e)
      obtain ⟨dx9, hh9⟩ := N9.me
      refine ⟨fun σ' H' => σ' = [some (.ref h), some (.int n), some (.ref d1), some (.ref d2), some (.ref pl), none] ∧ ∃ bf, NetAt T.C_Net H' h n dn D dl nx bf ls ∧ (∀ a o, a ≠ h → H a = some o → H' a = some o) ∧ (∀ p ∈ ks, valV bf (.inl p) = some (bef bs p)) ∧ bf.length ≤ ks.length + js.length, ?_, ?_⟩
      · have lj : bs.length = js.length := by have := congrArg List.length hj; rw [List.length_map, List.length_map] at this; exact this
        refine ⟨_, rfl, h, dx9, _, rfl, hh9, (by unfold nf; walk_at "lk"), _, rfl, !bs.isEmpty, .inr (.inr ⟨bs, k9 _ _ nd2.symm h2, rfl⟩), ite2 (fun e => ?_) (fun e => ?_)⟩
        · refine ⟨h, dn, D, dl, d2, n, nx, _, bs, ls, js, rfl, N9, k9 _ _ nd2.symm h2, hj, hj64, hw, fun z => ?_, nDn, by rw [List.length_map]; omega, fun H' bf' N' k' v' l' => ⟨rfl, bf', N', fun a o na e => k' _ _ (fun z => by rw [z] at e; rw [e] at nD0; cases nD0) (k9 a o na e), fun p hp => ?_, by rw [List.length_map] at l'; exact l'⟩⟩
          · rw [z] at h2; rw [h2] at nD0; cases nD0
          · rw [v' p]
            by_cases g : p ∈ js
            · obtain ⟨_, x, hx, _⟩ := hw p g
              rw [if_pos g, bef, hx]; rfl
            · rw [if_neg g, bef, valV_none_keys hj g, valV_all_non hp]; rfl
        · have e : bs = [] := by
            cases bs with
            | nil => rfl
            | cons a b => exact absurd rfl e
          subst e
          have ej : js = [] := by
            cases js with
            | nil => rfl
            | cons a b => cases lj
          subst ej
          intro p np
          have s10 := same_upd (o := .dK []) np
          have p10 : upd H9 p (.dK []) p = some (.dK []) := upd_same
          have npD : p ≠ D := fun z => by rw [z, N9.hb] at np; cases np
          generalize upd H9 p (.dK []) = H10 at s10 p10
          refine ⟨h, dn, D, dl, p, n, nx, _, [], ls, [], rfl, N9.same s10, p10, rfl, by decide, (fun j hj => nomatch hj), npD, nDn, by rw [List.length_map]; omega, fun H' bf' N' k' v' l' => ⟨rfl, bf', N', fun a o na e => k' _ _ (fun z => by rw [z] at e; rw [e] at nD0; cases nD0) (s10 _ _ (k9 a o na e)), fun p hp => ?_, by rw [List.length_map] at l'; exact l'⟩⟩
          rw [v' p, if_neg (fun z => nomatch z), valV_all_non hp]
          rfl
      rintro _ H11 ⟨rfl, bf, N11, k11, v11, l11⟩
      obtain ⟨dx11, hh11⟩ := N11.me
      refine ⟨_, rfl, h, dx11, _, rfl, hh11, (by unfold nf; walk_at "lk"), h, dn, D, dl, n, nx, bf, ls, rfl, N11, hz, fun v hv => ?_, fun H12 s12 => ?_⟩
      · obtain ⟨a, z, qs, rfl, ha, hq⟩ := hu v hv
        exact ⟨a, z, qs, rfl, k11 _ _ (fun e => by rw [e, hh] at ha; cases ha) ha, hq⟩
      · exact q H12 dn D dl bf (N11.same s12) (fun a o na e => s12 _ _ (k11 a o na e)) ndn0 nD0 ndl0 nDn v11 l11
def sp_Net__check_free (C : Addr) : Sp := fun vs H Q _ => ∃ (h dn db dl : Addr) (n p : Int) (nx bf : List (Key × V)) (ls : List V), vs = [.ref h, .int p] ∧ NetAt C H h n dn db dl nx bf ls ∧ 0 ≤ p ∧ p < n ∧ valV nx (.inl p) = none ∧ Q .non H
theorem T0.ok_Net__check_free (T : T0 K mg) : FnOk P w K mg base CX0 2 T.a_Net__check_free T.fd_Net__check_free ["self", "place"] (sp_Net__check_free T.C_Net) := by
  refine T.F_Net__check_free.ok sc_Net__check_free (fun vs H Q E h => ?_) (fun cdv A outer s H vs Q E hr h => ?_)
  · obtain ⟨h, dn, db, dl, n, p, nx, bf, ls, rfl, _⟩ := h
    rfl
  · obtain ⟨h, dn, db, dl, n, p, nx, bf, ls, rfl, hN, p0, p1, hp, q⟩ := h
    obtain ⟨dx, hh⟩ := hN.me
    refine ⟨_, (pss_cons (ps_expr (pe_call T.ok_check_on_circle hr (by rfl) T.g_check_on_circle T.k_check_on_circle T.b_check_on_circle .nil pass0 (pa_cons (show PE _ _ (tFld K _ _) from pe_fld (pv 0) rfl) (pa_cons (pv 1) pa_nil))))
        (pss_one (ps_if (pt_cmp (pc_din (un1 hr) (pv 1) (show PE _ _ (tFld K _ _) from pe_fld (pv 0) rfl))) (pss_one (ps_never)) pss_nil))), ?_⟩
    refine ⟨_, rfl, h, _, dx, _, _, rfl, hh, T.cl_Net, T.na_Net_size, nf_size, _, rfl, n, p, rfl, p0, p1, ?_⟩
    refine ⟨_, rfl, _, rfl, h, _, dx, _, _, rfl, hh, T.cl_Net, T.na_Net__nexts, nf_nexts, dn, _, rfl, DGet.k (k := Sum.inl p) hN.hn, _, rfl, ?_⟩
    rw [hp]
    exact iteF q
def sp_Net__admit (C : Addr) : Sp := fun vs H Q _ => ∃ (h dn db dl : Addr) (n p x : Int) (nx bf : List (Key × V)) (ls : List V), vs = [.ref h, .int p, .int x] ∧ NetAt C H h n dn db dl nx bf ls ∧ 0 ≤ p ∧ p < n ∧ valV nx (.inl p) = none ∧ (x ≠ p → (valV nx (.inl x)).isSome = true) ∧ db ≠ dn ∧ nx.length ≤ 1000 ∧ bf.length ≤ 1000 ∧
  Q .non (upd (upd H dn (.dK (putK nx (.inl p) (.int x)))) db (.dK (putK bf (.inl p) .non)))
theorem T0.ok_Net__admit (T : T0 K mg) : FnOk P w K mg base CX0 3 T.a_Net__admit T.fd_Net__admit ["self", "place", "host"] (sp_Net__admit T.C_Net) := by
  refine T.F_Net__admit.ok sc_Net__admit (fun vs H Q E h => ?_) (fun cdv A outer s H vs Q E hr h => ?_)
  · obtain ⟨h, dn, db, dl, n, p, x, nx, bf, ls, rfl, _⟩ := h
    rfl
  · obtain ⟨h, dn, db, dl, n, p, x, nx, bf, ls, rfl, hN, p0, p1, hp, hx, ne, l1, l2, q⟩ := h
    obtain ⟨dx, hh⟩ := hN.me
    refine ⟨_, (pss_cons (ps_expr (pe_meth (pv 0) T.cl_Net T.me_Net__check_free T.ok_Net__check_free hr T.b_Net__check_free .nil pass0 (pa_cons (pv 1) pa_nil)))
        (pss_cons (ps_if (pt_cmpR op_ne (pv 2) (pv 1) (nomark _)) (pss_one (ps_expr (pe_meth (pv 0) T.cl_Net T.me_Net__check_house T.ok_Net__check_house (hr.mono (by decide)) T.b_Net__check_house .nil pass0 (pa_cons (pv 2) pa_nil)))) pss_nil)
        (pss_cons (ps_asg (pv 2) (pg_sub (show PE _ _ (tFld K _ _) from pe_fld (pv 0) rfl) (pv 1) (set_dict (un1 hr))))
        (pss_one (ps_asg pe_non (pg_sub (show PE _ _ (tFld K _ _) from pe_fld (pv 0) rfl) (pv 1) (set_dict (un1 hr)))))))), ?_⟩
    refine ⟨_, rfl, h, dx, _, rfl, hh, (by unfold nf; walk_at "lk"), _, rfl, h, dn, db, dl, n, p, nx, bf, ls, rfl, hN, p0, p1, hp, ?_⟩
    have ndn : h ≠ dn := fun e => by rw [e, hN.hn] at hh; cases hh
    have hh2 : upd H dn (.dK (putK nx (.inl p) (.int x))) h = some (.ins T.C_Net dx (nf n dn db dl)) := (upd_ne ndn).trans hh
    have hb2 : upd H dn (.dK (putK nx (.inl p) (.int x))) db = some (.dK bf) := (upd_ne ne).trans hN.hb
    refine ⟨_, rfl, _, rfl, rfl, _, rfl, ite2 (fun e => ?_) (fun e => ?_)⟩
    · have e : x ≠ p := fun z => by rw [z, decide_eq_true rfl] at e; cases e
      refine ⟨_, rfl, h, dx, _, rfl, hh, (by unfold nf; walk_at "lk"), _, rfl, h, dn, db, dl, n, x, nx, bf, ls, rfl, hN, hx e, ?_⟩
      refine ⟨_, rfl, _, rfl, h, _, dx, _, _, rfl, hh, T.cl_Net, T.na_Net__nexts, nf_nexts, _, rfl, dn, _, rfl, DPut.k (k := Sum.inl p) hN.hn (small1000' (by omega)), ?_⟩
      exact ⟨_, rfl, h, _, dx, _, _, rfl, hh2, T.cl_Net, T.na_Net__befores, nf_befores, _, rfl, db, _, rfl, DPut.k (k := Sum.inl p) hb2 (small1000' (by omega)), q⟩
    · refine ⟨_, rfl, _, rfl, h, _, dx, _, _, rfl, hh, T.cl_Net, T.na_Net__nexts, nf_nexts, _, rfl, dn, _, rfl, DPut.k (k := Sum.inl p) hN.hn (small1000' (by omega)), ?_⟩
      exact ⟨_, rfl, h, _, dx, _, _, rfl, hh2, T.cl_Net, T.na_Net__befores, nf_befores, _, rfl, db, _, rfl, DPut.k (k := Sum.inl p) hb2 (small1000' (by omega)), q⟩
theorem T0.ok_NoHouse__init (T : T0 K mg) : FnOk P w K mg base CX0 1 T.a_NoHouse__init T.fd_NoHouse__init ["self", "place"] (sp_err1 "place" T.C_NoHouse) := by
  refine T.F_NoHouse__init.ok sc_NoHouse__init (fun vs H Q E h => ?_) (fun cdv A outer s H vs Q E hr h => ?_)
  · obtain ⟨a, v, rfl, _⟩ := h
    rfl
  · obtain ⟨a, v, rfl, ha, q⟩ := h
    refine ⟨_, (pss_one (ps_ost (pv 0) (pv 1))), ?_⟩
    exact ⟨_, rfl, _, rfl, a, _, rfl, T.ox_NoHouse, T.na_NoHouse_place, .inl ⟨ha, fun dx nd ne => q dx nd ne⟩⟩
theorem T0.ok_OffCircle__init (T : T0 K mg) : FnOk P w K mg base CX0 1 T.a_OffCircle__init T.fd_OffCircle__init ["self", "place"] (sp_err1 "place" T.C_OffCircle) := by
  refine T.F_OffCircle__init.ok sc_OffCircle__init (fun vs H Q E h => ?_) (fun cdv A outer s H vs Q E hr h => ?_)
  · obtain ⟨a, v, rfl, _⟩ := h
    rfl
  · obtain ⟨a, v, rfl, ha, q⟩ := h
    refine ⟨_, (pss_one (ps_ost (pv 0) (pv 1))), ?_⟩
    exact ⟨_, rfl, _, rfl, a, _, rfl, T.ox_OffCircle, T.na_OffCircle_place, .inl ⟨ha, fun dx nd ne => q dx nd ne⟩⟩
theorem T0.ok_TakenPlace__init (T : T0 K mg) : FnOk P w K mg base CX0 1 T.a_TakenPlace__init T.fd_TakenPlace__init ["self", "place"] (sp_err1 "place" T.C_TakenPlace) := by
  refine T.F_TakenPlace__init.ok sc_TakenPlace__init (fun vs H Q E h => ?_) (fun cdv A outer s H vs Q E hr h => ?_)
  · obtain ⟨a, v, rfl, _⟩ := h
    rfl
  · obtain ⟨a, v, rfl, ha, q⟩ := h
    refine ⟨_, (pss_one (ps_ost (pv 0) (pv 1))), ?_⟩
    exact ⟨_, rfl, _, rfl, a, _, rfl, T.ox_TakenPlace, T.na_TakenPlace_place, .inl ⟨ha, fun dx nd ne => q dx nd ne⟩⟩
theorem T0.ok_StillNamed__init (T : T0 K mg) : FnOk P w K mg base CX0 1 T.a_StillNamed__init T.fd_StillNamed__init ["self", "place"] (sp_err1 "place" T.C_StillNamed) := by
  refine T.F_StillNamed__init.ok sc_StillNamed__init (fun vs H Q E h => ?_) (fun cdv A outer s H vs Q E hr h => ?_)
  · obtain ⟨a, v, rfl, _⟩ := h
    rfl
  · obtain ⟨a, v, rfl, ha, q⟩ := h
    refine ⟨_, (pss_one (ps_ost (pv 0) (pv 1))), ?_⟩
    exact ⟨_, rfl, _, rfl, a, _, rfl, T.ox_StillNamed, T.na_StillNamed_place, .inl ⟨ha, fun dx nd ne => q dx nd ne⟩⟩
/-! ### what a net raises: a house that is none -/
def sp_rNet__house (C CE : Addr) : Sp := fun vs H _ E => ∃ (h dn db dl : Addr) (n p : Int) (nx bf : List (Key × V)) (ls : List V), vs = [.ref h, .int p] ∧ NetAt C H h n dn db dl nx bf ls ∧ valV nx (.inl p) = none ∧ ∀ d, H d = none → E (.ref CE) (some d) (upd H d (.xd [("place", .int p)]))
theorem orN {k : Nat} {f : Addr} {fd : FuncData} {ps : List Str} {sp sp' : Sp} (F : FnOk P w K mg base CX0 k f fd ps sp) (G : FnOk P w K mg base (L2N.CX P w) k f fd ps sp') : FnOk P w K mg base (L2N.CX P w) k f fd ps (fun vs H Q E => sp vs H Q E ∨ sp' vs H Q E) :=
  ⟨fun vs H Q E h => h.elim (F.len vs H Q E) (G.len vs H Q E), fun A outer s H args us vs Q E a b c d e => e.elim (fun e => (calmN F).run A outer s H args us vs Q E a b c d e) (fun e => G.run A outer s H args us vs Q E a b c d e)⟩
theorem T0.okr_Net__check_house (T : T0 K mg) : FnOk P w K mg base (L2N.CX P w) 3 T.a_Net__check_house T.fd_Net__check_house ["self", "place"] (sp_rNet__house T.C_Net T.C_NoHouse) := by
  refine Fun_okN T.F_Net__check_house sc_Net__check_house (fun vs H Q E h => ?_) (fun cdv A outer s H vs Q E hr h => ?_)
  · obtain ⟨h, dn, db, dl, n, p, nx, bf, ls, rfl, _⟩ := h
    rfl
  · obtain ⟨h, dn, db, dl, n, p, nx, bf, ls, rfl, hN, hp, q⟩ := h
    obtain ⟨dx, hh⟩ := hN.me
    refine ⟨_, (pss_one (ps_if (pt_cmp (pc_dnotin (un1 hr) (pv 1) (show PE _ _ (tFld K _ _) from pe_fld (pv 0) rfl))) (pss_one (L2N.ps_raise rfl (L2N.takes_of rfl rfl rfl rfl) (pmkN T.ox_NoHouse T.mi_NoHouse T.ti_NoHouse T.ok_NoHouse__init hr T.b_NoHouse__init pass0 rfl T.mc_NoHouse (pa_cons (pv 1) pa_nil)))) pss_nil)), ?_⟩
    refine ⟨_, rfl, _, rfl, h, _, dx, _, _, rfl, hh, T.cl_Net, T.na_Net__nexts, nf_nexts, dn, _, rfl, DGet.k (k := Sum.inl p) hN.hn, _, rfl, ?_⟩
    rw [hp]
    exact iteT ⟨_, rfl, raise1 q⟩
theorem T0.okx_Net__check_house (T : T0 K mg) : FnOk P w K mg base (L2N.CX P w) 3 T.a_Net__check_house T.fd_Net__check_house ["self", "place"] (fun vs H Q E => sp_Net__check_house T.C_Net vs H Q E ∨ sp_rNet__house T.C_Net T.C_NoHouse vs H Q E) := orN (T.ok_Net__check_house.mono (by decide)) T.okr_Net__check_house
theorem T0.okr_Net__next_of (T : T0 K mg) : FnOk P w K mg base (L2N.CX P w) 4 T.a_Net__next_of T.fd_Net__next_of ["self", "house"] (sp_rNet__house T.C_Net T.C_NoHouse) := by
  refine Fun_okN T.F_Net__next_of sc_Net__next_of (fun vs H Q E h => ?_) (fun cdv A outer s H vs Q E hr h => ?_)
  · obtain ⟨h, dn, db, dl, n, p, nx, bf, ls, rfl, _⟩ := h
    rfl
  · obtain ⟨h, dn, db, dl, n, p, nx, bf, ls, rfl, hN, hp, q⟩ := h
    obtain ⟨dx, hh⟩ := hN.me
    refine ⟨_, (pss_cons (ps_expr (pe_methN (pv 0) T.cl_Net T.me_Net__check_house T.okx_Net__check_house hr T.b_Net__check_house (fun σ => L2N.passAt (L2N.takes_of rfl rfl rfl rfl) σ) (pa_cons (pv 1) pa_nil)))
        (pss_one (ps_ret (pe_dget (un1 hr) (show PE _ _ (tFld K _ _) from pe_fld (pv 0) rfl) (pv 1) (fun _ _ => rfl))))), ?_⟩
    exact ⟨_, rfl, h, dx, _, rfl, hh, (by unfold nf; walk_at "lk"), _, rfl, .inr ⟨h, dn, db, dl, n, p, nx, bf, ls, rfl, hN, hp, q⟩⟩
def sp_Net__next_of (C : Addr) : Sp := fun vs H Q _ => ∃ (h dn db dl : Addr) (n p : Int) (v : V) (nx bf : List (Key × V)) (ls : List V), vs = [.ref h, .int p] ∧ NetAt C H h n dn db dl nx bf ls ∧ valV nx (.inl p) = some v ∧ Q v H
theorem T0.ok_Net__next_of (T : T0 K mg) : FnOk P w K mg base CX0 2 T.a_Net__next_of T.fd_Net__next_of ["self", "house"] (sp_Net__next_of T.C_Net) := by
  refine T.F_Net__next_of.ok sc_Net__next_of (fun vs H Q E h => ?_) (fun cdv A outer s H vs Q E hr h => ?_)
  · obtain ⟨h, dn, db, dl, n, p, v, nx, bf, ls, rfl, _⟩ := h
    rfl
  · obtain ⟨h, dn, db, dl, n, p, v, nx, bf, ls, rfl, hN, hv, q⟩ := h
    obtain ⟨dx, hh⟩ := hN.me
    refine ⟨_, (pss_cons (ps_expr (pe_meth (pv 0) T.cl_Net T.me_Net__check_house T.ok_Net__check_house hr T.b_Net__check_house .nil pass0 (pa_cons (pv 1) pa_nil)))
        (pss_one (ps_ret (pe_dget (un1 hr) (show PE _ _ (tFld K _ _) from pe_fld (pv 0) rfl) (pv 1) (fun _ _ => rfl))))), ?_⟩
    refine ⟨_, rfl, h, dx, _, rfl, hh, (by unfold nf; walk_at "lk"), _, rfl, h, dn, db, dl, n, p, nx, bf, ls, rfl, hN, (by rw [hv]; rfl), ?_⟩
    exact ⟨_, rfl, h, _, dx, _, _, rfl, hh, T.cl_Net, T.na_Net__nexts, nf_nexts, _, rfl, dn, _, rfl, dget_of (k := Sum.inl p) hN.hn hv, q⟩
def sp_Net__before_of (C : Addr) : Sp := fun vs H Q _ => ∃ (h dn db dl : Addr) (n p : Int) (v : V) (nx bf : List (Key × V)) (ls : List V), vs = [.ref h, .int p] ∧ NetAt C H h n dn db dl nx bf ls ∧ (valV nx (.inl p)).isSome = true ∧ valV bf (.inl p) = some v ∧ Q v H
theorem T0.ok_Net__before_of (T : T0 K mg) : FnOk P w K mg base CX0 2 T.a_Net__before_of T.fd_Net__before_of ["self", "house"] (sp_Net__before_of T.C_Net) := by
  refine T.F_Net__before_of.ok sc_Net__before_of (fun vs H Q E h => ?_) (fun cdv A outer s H vs Q E hr h => ?_)
  · obtain ⟨h, dn, db, dl, n, p, v, nx, bf, ls, rfl, _⟩ := h
    rfl
  · obtain ⟨h, dn, db, dl, n, p, v, nx, bf, ls, rfl, hN, hp, hv, q⟩ := h
    obtain ⟨dx, hh⟩ := hN.me
    refine ⟨_, (pss_cons (ps_expr (pe_meth (pv 0) T.cl_Net T.me_Net__check_house T.ok_Net__check_house hr T.b_Net__check_house .nil pass0 (pa_cons (pv 1) pa_nil)))
        (pss_one (ps_ret (pe_dget (un1 hr) (show PE _ _ (tFld K _ _) from pe_fld (pv 0) rfl) (pv 1) (fun _ _ => rfl))))), ?_⟩
    refine ⟨_, rfl, h, dx, _, rfl, hh, (by unfold nf; walk_at "lk"), _, rfl, h, dn, db, dl, n, p, nx, bf, ls, rfl, hN, hp, ?_⟩
    exact ⟨_, rfl, h, _, dx, _, _, rfl, hh, T.cl_Net, T.na_Net__befores, nf_befores, _, rfl, db, _, rfl, dget_of (k := Sum.inl p) hN.hb hv, q⟩
--CUT
theorem okB.atom {b : V} (h : okB b) : atomV b = true := by
  rcases h with rfl | ⟨z, rfl⟩ <;> rfl
theorem okB.tell {n p u : Int} {b : V} : okB (hTell n p u b) := by
  cases b with
  | int z =>
    unfold hTell
    dsimp only
    split
    · exact .inr ⟨_, rfl⟩
    · exact .inr ⟨_, rfl⟩
  | _ => exact .inr ⟨_, rfl⟩
theorem okB.hB {n p : Int} {b : V} (o : okB b) : ∀ L : Let, okB (hB n p b L)
  | .tell _ _ => okB.tell
  | .ask _ _ => o
  | .answer _ _ _ => o
theorem ans_atoms {p : Int} {b : V} {ys : List V} : ∀ L : Let, hA p b L = some ys → ys.length ≤ 100000 ∧ ∀ y ∈ ys, atomV y = true := by
  intro L h
  cases L with
  | ask r u =>
    cases b with
    | int z =>
      cases h
      refine ⟨by show 4 ≤ 100000; decide, fun y hy => ?_⟩
      simp only [List.mem_cons, List.not_mem_nil, or_false] at hy
      rcases hy with rfl | rfl | rfl | rfl <;> rfl
    | _ => cases h
  | tell _ _ => cases h
  | answer _ _ _ => cases h
/-- two answers are alike -/
theorem ans_same {H : Hp} {p : Int} {b : V} {L : Let} {v u : V} (h1 : match hA p b L with | none => v = .non | some ys => ∃ a, v = .ref a ∧ H a = some (.tup ys)) (h2 : match hA p b L with | none => u = .non | some ys => ∃ a, u = .ref a ∧ H a = some (.tup ys)) : Sm K 2 H v u := by
  cases e : hA p b L with
  | none =>
    rw [e] at h1 h2
    dsimp only at h1 h2
    rw [h1, h2]
    exact .atom rfl
  | some ys =>
    rw [e] at h1 h2
    obtain ⟨a, rfl, e1⟩ := h1
    obtain ⟨a2, rfl, e2⟩ := h2
    obtain ⟨l, m⟩ := ans_atoms L e
    refine .tup (SqT.of e1) (SqT.of e2) rfl l fun i x y hx hy => ?_
    rw [hx] at hy
    cases hy
    exact .atom (m x (List.mem_of_getElem? hx))
theorem ans_keep {H H' : Hp} {p : Int} {b : V} {L : Let} {v : V} (h : match hA p b L with | none => v = .non | some ys => ∃ a, v = .ref a ∧ H a = some (.tup ys)) (k : ∀ a ys, H a = some (.tup ys) → H' a = some (.tup ys)) :
    match hA p b L with | none => v = .non | some ys => ∃ a, v = .ref a ∧ H' a = some (.tup ys) := by
  cases e : hA p b L with
  | none => rw [e] at h; exact h
  | some ys =>
    rw [e] at h
    obtain ⟨a, rfl, e1⟩ := h
    exact ⟨a, rfl, k _ _ e1⟩
def sp__law_far (K : PySem.W.Frag) : Sp := fun vs H Q _ => ∃ n a b : Int, vs = [.int n, .int a, .int b] ∧ 0 < n ∧ Q (.int (farL n a b)) H
theorem T0.ok__law_far (T : T0 K mg) : FnOk P w K mg base CX0 1 T.a__law_far T.fd__law_far ["size", "start", "end"] (sp__law_far K) := by
  refine T.F__law_far.ok sc__law_far (fun vs H Q E h => ?_) (fun cdv A outer s H vs Q E hr h => ?_)
  · obtain ⟨n, a, b, rfl, _⟩ := h
    rfl
  · obtain ⟨n, a, b, rfl, hn, q⟩ := h
    refine ⟨_, (pss_cons (ps_set (i := 3) sc__law_far.nd rfl (Or.inl rfl) (pe_op op_modN (pe_callTy call_int1 (by rfl) T.m_int (by decide +kernel) (pa_cons (pe_op op_sub (pv 2) (pv 1)) pa_nil)) (pv 0)))
        (pss_cons (ps_if (pt_cmpR op_eq (pv 3) pe_int (nomark _)) (pss_one (ps_ret (pv 0))) pss_nil)
        (pss_one (ps_ret (pv 3))))), ?_⟩
    rw [far_eq a b hn] at q
    refine ⟨_, rfl, _, rfl, _, _, rfl, rfl, .inl ⟨_, rfl, _, rfl, _, _, rfl, rfl, by omega, ?_⟩⟩
    refine ⟨_, rfl, rfl, _, rfl, ite2 (fun e => ?_) (fun e => ?_)⟩
    · rw [if_pos (V.int.inj (of_decide_eq_true e))] at q
      exact ⟨_, rfl, q⟩
    · rw [if_neg (fun z => e (decide_eq_true (congrArg V.int z)))] at q
      exact ⟨_, rfl, q⟩
def sp__law_between (K : PySem.W.Frag) : Sp := fun vs H Q _ => ∃ n a p b : Int, vs = [.int n, .int a, .int p, .int b] ∧ 0 < n ∧ Q (.bl (decide (farL n a p < farL n a b))) H
theorem T0.ok__law_between (T : T0 K mg) : FnOk P w K mg base CX0 2 T.a__law_between T.fd__law_between ["size", "start", "place", "end"] (sp__law_between K) := by
  refine T.F__law_between.ok sc__law_between (fun vs H Q E h => ?_) (fun cdv A outer s H vs Q E hr h => ?_)
  · obtain ⟨n, a, p, b, rfl, _⟩ := h
    rfl
  · obtain ⟨n, a, p, b, rfl, hn, q⟩ := h
    refine ⟨_, (pss_cons (ps_if (PW.pt (pw_or (pt_cmpR op_eq (pv 2) (pv 1) (nomark _)) (pw_or1 (pt_cmpR op_eq (pv 2) (pv 3) (nomark _))))) (pss_one (ps_ret pe_bl)) pss_nil)
        (pss_one (ps_ret (pe_cmpR op_lt (pe_call T.ok__law_far hr (by rfl) T.g__law_far T.k__law_far T.b__law_far .nil pass0 (pa_cons (pv 0) (pa_cons (pv 1) (pa_cons (pv 2) pa_nil)))) (pe_call T.ok__law_far hr (by rfl) T.g__law_far T.k__law_far T.b__law_far .nil pass0 (pa_cons (pv 0) (pa_cons (pv 1) (pa_cons (pv 3) pa_nil)))) (nomark _))))), ?_⟩
    refine v_when (by walk_at "ans") (fun e => ?_) (fun e => ?_)
    · rw [dec_int, dec_int] at e
      have e : p = a ∨ p = b := by simpa using e
      have f : ¬ (farL n a p < farL n a b) := by
        rcases e with rfl | rfl
        · have h1 := far_range p b hn
          rw [far_eq p p hn, Int.sub_self, Int.zero_fmod, if_pos rfl]
          omega
        · omega
      rw [decide_eq_false f] at q
      exact q
    · exact ⟨_, rfl, _, rfl, _, rfl, n, a, p, rfl, hn, _, rfl, _, rfl, _, rfl, n, a, b, rfl, hn, _, _, rfl, rfl, q⟩
def Let.ns : Let → List Int
  | .tell r u => [r, u]
  | .ask r u => [r, u]
  | .answer r u m => [r, u, m]
def Let.fr : Let → Int
  | .tell _ u => u
  | .ask _ u => u
  | .answer _ u _ => u
def Let.wd : Let → Str
  | .tell _ _ => "tell"
  | .ask _ _ => "ask"
  | .answer _ _ _ => "answer"
theorem Let.at2 (L : Let) : atI L.vals (2 : Int) = some (.int L.fr) := by cases L <;> rfl
theorem Let.vals_eq (L : Let) : L.vals = .str L.wd :: L.ns.map V.int := by cases L <;> rfl
theorem Let.to_ns (L : Let) : L.to ∈ L.ns := by cases L <;> exact List.mem_cons_self
def nN (n r x : Int) (b : V) (L : Let) (nx : List (Key × V)) : List (Key × V) := if hA r b L = none ∧ hB n r b L = b ∧ hN n r x L ≠ x then putK nx (.inl r) (.int (hN n r x L)) else nx
def nB (n r : Int) (b : V) (L : Let) (bs : List (Key × V)) : List (Key × V) := if hA r b L = none ∧ hB n r b L ≠ b then putK bs (.inl r) (hB n r b L) else bs
def nT (n r x : Int) (b : V) (L : Let) : List V := if hA r b L ≠ none then [.str "wrote", .int r, hB n r b L] else if hB n r b L ≠ b then [.str "before", .int r, hB n r b L] else if hN n r x L ≠ x then [.str "next", .int r, .int (hN n r x L)] else [.str "kept", .int r, .non]
theorem far_self (z : Int) {n : Int} (hn : 0 < n) : farL n z z = n := by rw [far_eq z z hn, Int.sub_self, Int.zero_fmod, if_pos rfl]
theorem far_ne {n z u r : Int} (hn : 0 < n) (h : farL n z u < farL n z r) : u ≠ z := fun e => by
  subst e
  have := far_range u r hn
  have := far_self u hn
  omega
theorem far_ne2 {n z u r : Int} (h : farL n z u < farL n z r) : u ≠ r := fun e => by
  subst e
  omega
def sp__law_read (K : PySem.W.Frag) : Sp := fun vs H Q _ => ∃ (dN dB pO lt : Addr) (n x : Int) (k : Nat) (L : Let) (nx bs : List (Key × V)) (ps : List V), vs = [.int n, .ref dN, .ref dB, .ref pO, .int k] ∧ H dN = some (.dK nx) ∧ H dB = some (.dK bs) ∧ H pO = some (.lst ps) ∧ ps[k]? = some (.ref lt) ∧ H lt = some (.tup L.vals) ∧ valV nx (.inl L.to) = some (.int x) ∧ okB (bef bs L.to) ∧ 0 < n ∧ dN ≠ dB ∧ nx.length ≤ 1000 ∧ bs.length ≤ 1000 ∧ ps.length ≤ 1000 ∧
  ∀ H' v ps', (match hA L.to (bef bs L.to) L with | none => ps' = ps.eraseIdx k | some ys => ∃ a, ps' = ps.eraseIdx k ++ [.ref a] ∧ H' a = some (.tup ys)) → (∀ a o, a ≠ dN → a ≠ dB → a ≠ pO → H a = some o → H' a = some o) →
    H' dN = some (.dK (nN n L.to x (bef bs L.to) L nx)) → H' dB = some (.dK (nB n L.to (bef bs L.to) L bs)) → H' pO = some (.lst ps') → (∃ a, v = .ref a ∧ H' a = some (.tup (nT n L.to x (bef bs L.to) L))) → Q v H'
theorem T0.ok__law_read (T : T0 K mg) : FnOk P w K mg base CX0 3 T.a__law_read T.fd__law_read ["size", "nexts", "behinds", "post", "at"] (sp__law_read K) := by
  refine T.F__law_read.ok sc__law_read (fun vs H Q E h => ?_) (fun cdv A outer s H vs Q E hr h => ?_)
  · obtain ⟨dN, dB, pO, lt, n, x, k, L, nx, bs, ps, rfl, _⟩ := h
    rfl
  · obtain ⟨dN, dB, pO, lt, n, x, k, L, nx, bs, ps, rfl, hN, hB', hP, hv, hlt, hx, ob, hn, ne, z1, z2, z3, q⟩ := h
    have hk := (List.getElem?_eq_some_iff.mp hv).1
    refine ⟨_, (pss_cons (ps_set (i := 5) sc__law_read.nd rfl (Or.inl rfl) (pe_bm PySem.F.plainAttrs_list PySem.F.slot_list_pop PySem.F.type_list_pop mt_popAt (pv 3) (pa_cons (pv 4) pa_nil)))
        (pss_cons (ps_set (i := 6) sc__law_read.nd rfl (Or.inl rfl) (pe_ix (ix_tupK (K := K)) (pv 5) pe_int (fun _ _ => rfl)))
        (pss_cons (ps_set (i := 7) sc__law_read.nd rfl (Or.inl rfl) (pe_ix (ix_tupK (K := K)) (pv 5) pe_int (fun _ _ => rfl)))
        (pss_cons (ps_set (i := 8) sc__law_read.nd rfl (Or.inl rfl) (pe_dget1 (un1 hr) (pv 2) (pv 6) ⟨rfl, rfl, rfl, rfl⟩))
        (pss_cons (ps_if (pt_cmpR op_eq (pe_ix (ix_tupK (K := K)) (pv 5) pe_int (fun _ _ => rfl)) pe_str (nomark _)) (pss_one (ps_if (PW.pt (pw_or (pt_cmpR op_isN (pv 8) pe_non (nomark _)) (pw_or1 (pt_val (pe_call T.ok__law_between hr (by rfl) T.g__law_between T.k__law_between T.b__law_between .nil pass0 (pa_cons (pv 0) (pa_cons (pv 8) (pa_cons (pv 7) (pa_cons (pv 6) pa_nil))))))))) (pss_cons (ps_asg (pv 7) (pg_sub (pv 2) (pv 6) (set_dict (un1 hr))))
        (pss_one (ps_ret (pe_tup (pa_cons pe_str (pa_cons (pv 6) (pa_cons (pv 7) pa_nil))))))) pss_nil)) (pss_one (ps_if (pt_cmpR op_eq (pe_ix (ix_tupK (K := K)) (pv 5) pe_int (fun _ _ => rfl)) pe_str (nomark _)) (pss_one (ps_if (pt_cmpR op_notN (pv 8) pe_non (nomark _)) (pss_cons (ps_expr (pe_bm PySem.F.plainAttrs_list PySem.F.slot_list_append PySem.F.type_list_append mt_append (pv 3) (pa_cons (pe_tup (pa_cons pe_str (pa_cons (pv 7) (pa_cons (pv 6) (pa_cons (pv 8) pa_nil))))) pa_nil)))
        (pss_one (ps_ret (pe_tup (pa_cons pe_str (pa_cons (pv 6) (pa_cons (pv 8) pa_nil))))))) pss_nil)) (pss_one (ps_if (PW.pt (pw_and (pt_cmpR op_eq (pe_dget (un1 hr) (pv 1) (pv 6) (fun _ _ => rfl)) (pv 7) (nomark _)) (pw_and1 (pt_val (pe_call T.ok__law_between hr (by rfl) T.g__law_between T.k__law_between T.b__law_between .nil pass0 (pa_cons (pv 0) (pa_cons (pv 6) (pa_cons (pe_ix (ix_tupK (K := K)) (pv 5) pe_int (fun _ _ => rfl)) (pa_cons (pv 7) pa_nil))))))))) (pss_cons (ps_asg (pe_ix (ix_tupK (K := K)) (pv 5) pe_int (fun _ _ => rfl)) (pg_sub (pv 1) (pv 6) (set_dict (un1 hr))))
        (pss_one (ps_ret (pe_tup (pa_cons pe_str (pa_cons (pv 6) (pa_cons (pe_ix (ix_tupK (K := K)) (pv 5) pe_int (fun _ _ => rfl)) pa_nil))))))) pss_nil)))))
        (pss_one (ps_ret (pe_tup (pa_cons pe_str (pa_cons (pv 6) (pa_cons pe_non pa_nil))))))))))), ?_⟩
    refine ⟨_, rfl, .inl ⟨rfl, _, SqL.of hP⟩, _, rfl, pO, ps, k, k, .ref lt, rfl, rfl, hP, by omega, by omega, seq_nat hk, hv, ?_⟩
    have f1 : ∀ a o, a ≠ pO → H a = some o → upd H pO (.lst (ps.eraseIdx k)) a = some o := fun a o na e => (upd_ne na).trans e
    have N1 := f1 _ _ (ne_of hN hP (by intro z; cases z)) hN
    have B1 := f1 _ _ (ne_of hB' hP (by intro z; cases z)) hB'
    have lt1 := f1 _ _ (ne_of hlt hP (by intro z; cases z)) hlt
    have P1 : upd H pO (.lst (ps.eraseIdx k)) pO = some (.lst (ps.eraseIdx k)) := upd_same
    generalize upd H pO (.lst (ps.eraseIdx k)) = H1 at f1 N1 B1 lt1 P1
    have nNP : dN ≠ pO := ne_of hN hP (by intro z; cases z)
    have nBP : dB ≠ pO := ne_of hB' hP (by intro z; cases z)
    have nln : lt ≠ dN := ne_of hlt hN (by intro z; cases z)
    have le : (ps.eraseIdx k).length ≤ 1000 := Nat.le_trans (List.length_eraseIdx_le _ _) z3
    refine ⟨_, rfl, lt, _, 1, _, rfl, rfl, SqT.of lt1, L.at1, ?_⟩
    refine ⟨_, rfl, lt, _, 2, _, rfl, rfl, SqT.of lt1, L.at2, ?_⟩
    refine ⟨_, rfl, dB, rfl, .inl ⟨_, .inl B1⟩, _, rfl, _, DGet.k (k := Sum.inl L.to) B1, ?_⟩
    have kept : hA L.to (bef bs L.to) L = none → Z.hB n L.to (bef bs L.to) L = bef bs L.to → Z.hN n L.to x L = x → ∀ p, H1 p = none → Q (.ref p) (upd H1 p (.tup [.str "kept", .int L.to, .non])) := fun a1 a2 a3 p np => by
      refine q _ _ (ps.eraseIdx k) (by rw [a1]) (fun a o n1 n2 n3 e => (upd_ne (ne_of_none (f1 a o n3 e) np)).trans (f1 a o n3 e)) ?_ ?_ ((upd_ne (ne_of_none P1 np)).trans P1) ⟨p, rfl, ?_⟩
      · rw [nN, if_neg (fun z => z.2.2 a3)]
        exact (upd_ne (ne_of_none N1 np)).trans N1
      · rw [nB, if_neg (fun z => z.2 a2)]
        exact (upd_ne (ne_of_none B1 np)).trans B1
      · rw [upd_same, nT, if_neg (fun z => z a1), if_neg (fun z => z a2), if_neg (fun z => z a3)]
    cases L with
    | tell r u =>
      refine ⟨_, rfl, lt, _, 0, .str "tell", rfl, rfl, SqT.of lt1, rfl, rfl, _, rfl, ?_⟩
      rw [show decide (V.str "tell" = V.str "tell") = true by decide +kernel]
      refine iteT ?_
      have set : Z.hB n r (bef bs r) (.tell r u) = .int u → .int u ≠ bef bs r → rSetD (.ref dB) (.int r) (.int u) H1 fun H2 => ∀ p, H2 p = none → Q (.ref p) (upd H2 p (.tup [.str "before", .int r, .int u])) := fun e1 e2 => by
        refine ⟨dB, _, rfl, DPut.k (k := Sum.inl r) B1 (small1000' (by omega)), fun p np => ?_⟩
        have f2 : ∀ a o, a ≠ dB → H1 a = some o → upd (upd H1 dB (.dK (putK bs (.inl r) (.int u)))) p (.tup [.str "before", .int r, .int u]) a = some o := fun a o na e => (upd_ne (ne_of_none ((upd_ne na).trans e) np)).trans ((upd_ne na).trans e)
        refine q _ _ (ps.eraseIdx k) rfl (fun a o n1 n2 n3 e => f2 _ _ n2 (f1 a o n3 e)) ?_ ?_ (f2 _ _ nBP.symm P1) ⟨p, rfl, ?_⟩
        · rw [nN, if_neg (fun z => z.2.2 rfl)]
          exact f2 _ _ ne N1
        · rw [nB, if_pos ⟨rfl, fun z => e2 (e1.symm.trans z)⟩]
          rw [show Z.hB n (Let.tell r u).to (bef bs (Let.tell r u).to) (Let.tell r u) = .int u from e1]
          exact (upd_ne (ne_of_none (upd_same) np)).trans upd_same
        · rw [upd_same, nT, if_neg (fun z => z rfl), if_pos (show Z.hB n (Let.tell r u).to (bef bs (Let.tell r u).to) (Let.tell r u) ≠ bef bs (Let.tell r u).to from fun z => e2 (e1.symm.trans z))]
          rw [show Z.hB n (Let.tell r u).to (bef bs (Let.tell r u).to) (Let.tell r u) = .int u from e1]
          rfl
      refine ⟨_, rfl, rfl, _, rfl, ite2 (fun e => ?_) (fun e => ?_)⟩
      · have e : bef bs r = .non := of_decide_eq_true e
        refine iteT ?_
        obtain ⟨D', H2, e1, e2, st⟩ := set (by rw [e]; rfl) (by rw [e]; exact fun z => nomatch z)
        exact ⟨_, rfl, _, rfl, _, rfl, D', H2, e1, e2, _, rfl, _, rfl, lenL (by show 3 ≤ 100000; decide), st⟩
      · rcases ob with ob | ⟨z, ob⟩
        · exact absurd (decide_eq_true ob) e
        · have ob : bef bs r = .int z := ob
          refine ⟨_, rfl, _, rfl, _, rfl, _, rfl, n, z, u, r, by rw [← ob]; rfl, hn, _, rfl, ite2 (fun f => ?_) (fun f => ?_)⟩
          · have f := of_decide_eq_true f
            obtain ⟨D', H2, e1, e2, st⟩ := set (by rw [ob]; exact if_pos f) (by rw [ob]; exact fun z => far_ne hn f (V.int.inj z))
            exact ⟨_, rfl, _, rfl, _, rfl, D', H2, e1, e2, _, rfl, _, rfl, lenL (by show 3 ≤ 100000; decide), st⟩
          · refine ⟨_, rfl, lenL (by show 3 ≤ 100000; decide), kept rfl ?_ rfl⟩
            show hTell n r u (bef bs r) = bef bs r
            rw [ob]
            exact if_neg (fun g => f (decide_eq_true g))
    | ask r u =>
      refine ⟨_, rfl, lt, _, 0, .str "ask", rfl, rfl, SqT.of lt1, rfl, rfl, _, rfl, ?_⟩
      rw [show decide (V.str "ask" = V.str "tell") = false by decide +kernel]
      refine iteF ⟨_, rfl, lt, _, 0, .str "ask", rfl, rfl, SqT.of lt1, rfl, rfl, _, rfl, ?_⟩
      rw [show decide (V.str "ask" = V.str "ask") = true by decide +kernel]
      refine iteT ⟨_, rfl, rfl, _, rfl, ?_⟩
      rcases ob with ob | ⟨z, ob⟩
      · have ob : bef bs r = .non := ob
        refine iteF' (by show (!decide (bef bs r = .non)) = false; rw [decide_eq_true ob]; rfl) ?_
        exact ⟨_, rfl, lenL (by show 3 ≤ 100000; decide), kept (by show hA r (bef bs r) (.ask r u) = none; rw [ob]; rfl) rfl rfl⟩
      · have ob : bef bs r = .int z := ob
        have ea : hA r (bef bs r) (.ask r u) = some [.str "answer", .int u, .int r, .int z] := by rw [ob]; rfl
        refine iteT' (by show (!decide (bef bs r = .non)) = true; rw [ob]; rfl) ?_
        refine ⟨_, rfl, .inl ⟨rfl, _, SqL.of P1⟩, _, rfl, _, rfl, _, rfl, lenL (by show 4 ≤ 100000; decide), fun p np => ?_⟩
        have npP : p ≠ pO := fun e => by rw [e, P1] at np; cases np
        refine ⟨pO, _, _, rfl, rfl, (upd_ne npP.symm).trans P1, small1000' (by omega), ?_⟩
        have f2 : ∀ a o, a ≠ pO → H1 a = some o → upd (upd H1 p (.tup [.str "answer", .int u, .int r, bef bs r])) pO (.lst (ps.eraseIdx k ++ [.ref p])) a = some o := fun a o na e => (upd_ne na).trans ((upd_ne (ne_of_none e np)).trans e)
        have p2 : upd (upd H1 p (.tup [.str "answer", .int u, .int r, bef bs r])) pO (.lst (ps.eraseIdx k ++ [.ref p])) p = some (.tup [.str "answer", .int u, .int r, bef bs r]) := (upd_ne npP).trans upd_same
        have P2 : upd (upd H1 p (.tup [.str "answer", .int u, .int r, bef bs r])) pO (.lst (ps.eraseIdx k ++ [.ref p])) pO = some (.lst (ps.eraseIdx k ++ [.ref p])) := upd_same
        refine ⟨_, rfl, _, rfl, lenL (by show 3 ≤ 100000; decide), fun p3 np3 => ?_⟩
        have np3 : upd (upd H1 p (.tup [.str "answer", .int u, .int r, bef bs r])) pO (.lst (ps.eraseIdx k ++ [.ref p])) p3 = none := np3
        refine q _ _ (ps.eraseIdx k ++ [.ref p]) ?_ (fun a o n1 n2 n3 e => ?_) ?_ ?_ ?_ ⟨p3, rfl, ?_⟩
        · rw [show hA (Let.ask r u).to (bef bs (Let.ask r u).to) (.ask r u) = _ from ea]
          refine ⟨p, rfl, ?_⟩
          exact ((upd_ne (ne_of_none p2 np3)).trans p2).trans (by rw [ob])
        · have e2 := f2 _ _ n3 (f1 a o n3 e)
          exact (upd_ne (ne_of_none e2 np3)).trans e2
        · rw [nN, if_neg (fun z => z.2.2 rfl)]
          have e2 := f2 _ _ nNP N1
          exact (upd_ne (ne_of_none e2 np3)).trans e2
        · rw [nB, if_neg (fun z => z.2 rfl)]
          have e2 := f2 _ _ nBP B1
          exact (upd_ne (ne_of_none e2 np3)).trans e2
        · exact (upd_ne (ne_of_none P2 np3)).trans P2
        · rw [upd_same, nT, if_pos (fun z => by rw [show hA (Let.ask r u).to (bef bs (Let.ask r u).to) (.ask r u) = _ from ea] at z; cases z)]
          rfl
    | answer r u m =>
      refine ⟨_, rfl, lt, _, 0, .str "answer", rfl, rfl, SqT.of lt1, rfl, rfl, _, rfl, ?_⟩
      rw [show decide (V.str "answer" = V.str "tell") = false by decide +kernel]
      refine iteF ⟨_, rfl, lt, _, 0, .str "answer", rfl, rfl, SqT.of lt1, rfl, rfl, _, rfl, ?_⟩
      rw [show decide (V.str "answer" = V.str "ask") = false by decide +kernel]
      refine iteF ⟨_, rfl, _, rfl, dN, _, rfl, dget_of N1 hx, _, rfl, rfl, _, rfl, ite2 (fun e => ?_) (fun e => ?_)⟩
      · have e : x = u := V.int.inj (of_decide_eq_true e)
        refine ⟨_, rfl, _, rfl, _, rfl, lt, _, 3, .int m, rfl, rfl, SqT.of lt1, rfl, _, rfl, n, r, m, u, rfl, hn, _, rfl, ite2 (fun f => ?_) (fun f => ?_)⟩
        · have f := of_decide_eq_true f
          have g : Z.hN n r x (.answer r u m) = m := if_pos ⟨e, f⟩
          have mx : m ≠ x := by rw [e]; exact far_ne2 f
          refine ⟨_, rfl, lt, _, 3, .int m, rfl, rfl, SqT.of lt1, rfl, _, rfl, _, rfl, dN, _, rfl, DPut.k (k := Sum.inl r) N1 (small1000' (by omega)), ?_⟩
          have f2 : ∀ a o, a ≠ dN → H1 a = some o → upd H1 dN (.dK (putK nx (.inl r) (.int m))) a = some o := fun a o na e => (upd_ne na).trans e
          have N2 : upd H1 dN (.dK (putK nx (.inl r) (.int m))) dN = some (.dK (putK nx (.inl r) (.int m))) := upd_same
          have lt2 := f2 _ _ nln lt1
          refine ⟨_, rfl, _, rfl, lt, _, 3, .int m, rfl, rfl, SqT.of lt2, rfl, lenL (by show 3 ≤ 100000; decide), fun p np => ?_⟩
          have np : upd H1 dN (.dK (putK nx (.inl r) (.int m))) p = none := np
          refine q _ _ (ps.eraseIdx k) rfl (fun a o n1 n2 n3 e => ?_) ?_ ?_ ?_ ⟨p, rfl, ?_⟩
          · have e2 := f2 _ _ n1 (f1 a o n3 e)
            exact (upd_ne (ne_of_none e2 np)).trans e2
          · rw [nN, if_pos ⟨rfl, rfl, fun z => mx (by rw [← z]; exact g.symm)⟩, show Z.hN n (Let.answer r u m).to x (.answer r u m) = m from g]
            exact (upd_ne (ne_of_none N2 np)).trans N2
          · rw [nB, if_neg (fun z => z.2 rfl)]
            have e2 := f2 _ _ ne.symm B1
            exact (upd_ne (ne_of_none e2 np)).trans e2
          · have e2 := f2 _ _ nNP.symm P1
            exact (upd_ne (ne_of_none e2 np)).trans e2
          · rw [upd_same, nT, if_neg (fun z => z rfl), if_neg (fun z => z rfl), if_pos (fun z => mx (by rw [← z]; exact g.symm)), show Z.hN n (Let.answer r u m).to x (.answer r u m) = m from g]
        · exact ⟨_, rfl, lenL (by show 3 ≤ 100000; decide), kept rfl rfl (if_neg (fun z => f (decide_eq_true z.2)))⟩
      · exact ⟨_, rfl, lenL (by show 3 ≤ 100000; decide), kept rfl rfl (if_neg (fun z => e (decide_eq_true (congrArg V.int z.1))))⟩
def LetSame (H : Hp) (ks : List Int) (a b : V) : Prop := ∃ (p q : Addr) (L : Let), a = .ref p ∧ b = .ref q ∧ H p = some (.tup L.vals) ∧ H q = some (.tup L.vals) ∧ ∀ k ∈ L.ns, k ∈ ks
def Alike (R : V → V → Prop) (xs ys : List V) : Prop := xs.length = ys.length ∧ ∀ (i : Nat) x y, xs[i]? = some x → ys[i]? = some y → R x y
theorem Alike.mono {R R' : V → V → Prop} {xs ys : List V} (h : Alike R xs ys) (f : ∀ x y, R x y → R' x y) : Alike R' xs ys := ⟨h.1, fun i x y e1 e2 => f _ _ (h.2 i x y e1 e2)⟩
theorem Alike.erase {R : V → V → Prop} {xs ys : List V} (h : Alike R xs ys) (k : Nat) : Alike R (xs.eraseIdx k) (ys.eraseIdx k) := by
  refine ⟨by rw [List.length_eraseIdx, List.length_eraseIdx, h.1], fun i x y e1 e2 => ?_⟩
  rw [List.getElem?_eraseIdx] at e1 e2
  split at e1
  · rename_i g
    rw [if_pos g] at e2
    exact h.2 _ _ _ e1 e2
  · rename_i g
    rw [if_neg g] at e2
    exact h.2 _ _ _ e1 e2
theorem Alike.app {R : V → V → Prop} {xs ys : List V} {a b : V} (h : Alike R xs ys) (r : R a b) : Alike R (xs ++ [a]) (ys ++ [b]) := by
  refine ⟨by rw [List.length_append, List.length_append, h.1]; rfl, fun i x y e1 e2 => ?_⟩
  rw [List.getElem?_append] at e1 e2
  by_cases g : i < xs.length
  · rw [if_pos g] at e1
    rw [if_pos (by rw [← h.1]; exact g)] at e2
    exact h.2 _ _ _ e1 e2
  · rw [if_neg g] at e1
    rw [if_neg (by rw [← h.1]; exact g)] at e2
    have e0 : i - xs.length = 0 := by
      have := (List.getElem?_eq_some_iff.mp e1).1
      simp only [List.length_cons, List.length_nil] at this
      omega
    rw [e0] at e1
    rw [← h.1, e0] at e2
    cases e1
    cases e2
    exact r
theorem Alike.get {R : V → V → Prop} {xs ys : List V} (h : Alike R xs ys) {k : Nat} (hk : k < xs.length) : ∃ a b, xs[k]? = some a ∧ ys[k]? = some b ∧ R a b := by
  have h2 : k < ys.length := by rw [← h.1]; exact hk
  exact ⟨_, _, List.getElem?_eq_getElem hk, List.getElem?_eq_getElem h2, h.2 k _ _ (List.getElem?_eq_getElem hk) (List.getElem?_eq_getElem h2)⟩
theorem LetSame.mono {H H' : Hp} {ks ks' : List Int} {a b : V} (h : LetSame H ks a b) (f : ∀ p xs, H p = some (.tup xs) → H' p = some (.tup xs)) (g : ∀ k ∈ ks, k ∈ ks') : LetSame H' ks' a b :=
  let ⟨p, q, L, e1, e2, e3, e4, e5⟩ := h
  ⟨p, q, L, e1, e2, f _ _ e3, f _ _ e4, fun k hk => g _ (e5 k hk)⟩
theorem vals_atom (L : Let) : L.vals.length ≤ 100000 ∧ ∀ y ∈ L.vals, atomV y = true := by
  cases L <;> exact ⟨by simp only [Let.vals, List.length_cons, List.length_nil]; omega, by simp [Let.vals, atomV]⟩
theorem tup_same {H : Hp} {a b : Addr} {xs : List V} (h1 : H a = some (.tup xs)) (h2 : H b = some (.tup xs)) (hl : xs.length ≤ 100000) (ha : ∀ y ∈ xs, atomV y = true) : Sm K 2 H (.ref a) (.ref b) :=
  .tup (SqT.of h1) (SqT.of h2) rfl hl fun i x y hx hy => by
    rw [hx] at hy
    cases hy
    exact .atom (ha x (List.mem_of_getElem? hx))
theorem LetSame.sm {H : Hp} {ks : List Int} {a b : V} (h : LetSame H ks a b) : Sm K 2 H a b := by
  obtain ⟨p, q, L, rfl, rfl, e3, e4, _⟩ := h
  exact tup_same e3 e4 (vals_atom L).1 (vals_atom L).2
theorem LetSame.sm' {H : Hp} {ks : List Int} {a b : V} (h : LetSame H ks a b) : Sm K 2 H b a := by
  obtain ⟨p, q, L, rfl, rfl, e3, e4, _⟩ := h
  exact tup_same e4 e3 (vals_atom L).1 (vals_atom L).2
theorem bef_ok {bs : List (Key × V)} {k : Int} (h : ∀ (p : Int) v, valV bs (.inl p) = some v → ∃ x : Int, v = .int x) : okB (bef bs k) := by
  unfold bef
  cases e : valV bs (.inl k) with
  | none => exact .inl rfl
  | some v =>
    obtain ⟨x, rfl⟩ := h _ _ e
    exact .inr ⟨x, rfl⟩
theorem tape_at {H : Hp} {t c : Addr} (h : Tape H t c) : (∃ xs, H t = some (.lst xs)) ∧ ∃ xs, H c = some (.lst xs) := by
  obtain ⟨_, _, _, _, _, e1, e2, _⟩ := h
  exact ⟨⟨_, e1⟩, ⟨_, e2⟩⟩
theorem hf_nf {n n' p x : Int} {b : V} {dn db dl : Addr} (h : hf n p x b = nf n' dn db dl) : False := by
  unfold hf nf at h
  have h1 := (List.cons.inj (List.cons.inj h).2).1
  have h2 : ("place" : Str) = "_nexts" := (Prod.mk.inj h1).1
  exact absurd h2 (by decide +kernel)
theorem keys_putK_old {kvs : List (Key × V)} {k : Key} {v : V} (h : (valV kvs k).isSome = true) : (putK kvs k v).map (·.1) = kvs.map (·.1) := by
  unfold putK
  rw [if_pos (by rw [valV_any]; exact h), List.map_map]
  refine List.map_congr_left fun kv _ => ?_
  show (if kv.1 = k then (kv.1, v) else kv).1 = kv.1
  split <;> rfl
theorem nN_val {n r x j : Int} {b : V} {L : Let} {nx : List (Key × V)} (hx : valV nx (.inl r) = some (.int x)) : valV (nN n r x b L nx) (.inl j) = if j = r then some (.int (hN n r x L)) else valV nx (.inl j) := by
  unfold nN
  split
  · rw [valV_put]
    by_cases e : j = r
    · rw [if_pos e, if_pos (by rw [e])]
    · rw [if_neg e, if_neg (fun z => e (Sum.inl.inj z))]
  · rename_i g
    by_cases e : j = r
    · rw [if_pos e, e, hx]
      have : hN n r x L = x := by
        cases L with
        | tell _ _ => rfl
        | ask _ _ => rfl
        | answer r' u m' => exact Decidable.byContradiction fun z => g ⟨rfl, rfl, z⟩
      rw [this]
    · rw [if_neg e]
theorem nB_val {n r j : Int} {b : V} {L : Let} {bf : List (Key × V)} (hb : valV bf (.inl r) = some b) : valV (nB n r b L bf) (.inl j) = if j = r then some (hB n r b L) else valV bf (.inl j) := by
  unfold nB
  split
  · rw [valV_put]
    by_cases e : j = r
    · rw [if_pos e, if_pos (by rw [e])]
    · rw [if_neg e, if_neg (fun z => e (Sum.inl.inj z))]
  · rename_i g
    by_cases e : j = r
    · rw [if_pos e, e, hb]
      have : hB n r b L = b := by
        cases L with
        | tell r' u => exact Decidable.byContradiction fun z => g ⟨rfl, z⟩
        | ask _ _ => rfl
        | answer _ _ _ => rfl
      rw [this]
    · rw [if_neg e]
theorem nB_bef {n r j : Int} {L : Let} {bs : List (Key × V)} : bef (nB n r (bef bs r) L bs) j = if j = r then hB n r (bef bs r) L else bef bs j := by
  unfold nB
  split
  · rw [bef, valV_put]
    by_cases e : j = r
    · rw [if_pos e, if_pos (by rw [e])]
      rfl
    · rw [if_neg e, if_neg (fun z => e (Sum.inl.inj z))]
      rfl
  · rename_i g
    by_cases e : j = r
    · rw [if_pos e, e]
      have : hB n r (bef bs r) L = bef bs r := by
        cases L with
        | tell r' u => exact Decidable.byContradiction fun z => g ⟨rfl, z⟩
        | ask _ _ => rfl
        | answer _ _ _ => rfl
      rw [this]
    · rw [if_neg e]
theorem hN_mem {n r x : Int} {L : Let} : hN n r x L = x ∨ hN n r x L ∈ L.ns := by
  cases L with
  | tell _ _ => exact .inl rfl
  | ask _ _ => exact .inl rfl
  | answer r' u m =>
    show hAns n r x u m = x ∨ _
    show hAns n r x u m = x ∨ hAns n r x u m ∈ [r', u, m]
    unfold hAns
    split
    · exact .inr (by simp)
    · exact .inl rfl
theorem hB_mem {n r : Int} {b : V} {L : Let} (ob : okB b) : hB n r b L = b ∨ ∃ u ∈ L.ns, hB n r b L = .int u := by
  cases L with
  | tell r' u =>
    show hTell n r u b = b ∨ ∃ u' ∈ [r', u], hTell n r u b = .int u'
    rcases ob with rfl | ⟨z, rfl⟩
    · exact .inr ⟨u, by simp, rfl⟩
    · unfold hTell
      dsimp only
      split
      · exact .inr ⟨u, by simp, rfl⟩
      · exact .inl rfl
  | ask _ _ => exact .inl rfl
  | answer _ _ _ => exact .inl rfl
theorem ne_kind {H : Hp} {a b : Addr} {o u : HO} (h : H a = some o) (g : H b = some u) (e : o ≠ u) : a ≠ b := fun z => by
  rw [z, g] at h
  exact e (Option.some.inj h).symm
theorem nT_head (n r x : Int) (b : V) (L : Let) : ∃ z : Str, atI (nT n r x b L) (0 : Int) = some (.str z) ∧ decide (V.str z = V.str "wrote") = decide (hA r b L ≠ none) := by
  unfold nT
  by_cases e : hA r b L = none
  · rw [if_neg (fun z => z e), decide_eq_false (fun z => z e)]
    split
    · exact ⟨"before", rfl, by decide +kernel⟩
    · split
      · exact ⟨"next", rfl, by decide +kernel⟩
      · exact ⟨"kept", rfl, by decide +kernel⟩
  · rw [if_pos e, decide_eq_true e]
    exact ⟨"wrote", rfl, by decide +kernel⟩
theorem nT_atom {n r x : Int} {b : V} {L : Let} (ob : okB b) : (nT n r x b L).length ≤ 100000 ∧ ∀ y ∈ nT n r x b L, atomV y = true := by
  have ab : atomV (hB n r b L) = true := by
    rcases okB.hB (n := n) (p := r) ob L with h | ⟨z, h⟩ <;> rw [h] <;> rfl
  unfold nT
  split
  · exact ⟨by show 3 ≤ 100000; decide, fun y hy => by
      simp only [List.mem_cons, List.not_mem_nil, or_false] at hy
      rcases hy with rfl | rfl | rfl <;> first | rfl | exact ab⟩
  · split
    · exact ⟨by show 3 ≤ 100000; decide, fun y hy => by
        simp only [List.mem_cons, List.not_mem_nil, or_false] at hy
        rcases hy with rfl | rfl | rfl <;> first | rfl | exact ab⟩
    · split
      · exact ⟨by show 3 ≤ 100000; decide, by simp [atomV]⟩
      · exact ⟨by show 3 ≤ 100000; decide, by simp [atomV]⟩
theorem hA_let {ks : List Int} {r : Int} {b : V} {L : Let} {ys : List V} (h : hA r b L = some ys) (hL : ∀ k ∈ L.ns, k ∈ ks) (hr : r ∈ ks) (hb : ∀ z : Int, b = .int z → z ∈ ks) : ∃ L' : Let, ys = L'.vals ∧ ∀ k ∈ L'.ns, k ∈ ks := by
  cases L with
  | ask r' u =>
    cases b with
    | int z =>
      cases h
      refine ⟨.answer u r z, rfl, fun k hk => ?_⟩
      have hk : k ∈ [u, r, z] := hk
      simp only [List.mem_cons, List.not_mem_nil, or_false] at hk
      rcases hk with rfl | rfl | rfl
      · exact hL _ (by show k ∈ [r', k]; simp)
      · exact hr
      · exact hb _ rfl
    | _ => cases h
  | tell _ _ => cases h
  | answer _ _ _ => cases h
theorem NetAt.but {C a dn db dl z : Addr} {H H' : Hp} {n : Int} {nx bf : List (Key × V)} {ls : List V} (N : NetAt C H a n dn db dl nx bf ls) (k : Kp z H H') (h1 : a ≠ z) (h2 : dn ≠ z) (h3 : db ≠ z) (h4 : dl ≠ z) : NetAt C H' a n dn db dl nx bf ls :=
  ⟨let ⟨dx, e⟩ := N.me; ⟨dx, k _ _ h1 e⟩, k _ _ h2 N.hn, k _ _ h3 N.hb, k _ _ h4 N.hl⟩
theorem perm_sorted_eq : ∀ {xs ys : List Int}, xs.Perm ys → xs.Pairwise (· ≤ ·) → ys.Pairwise (· ≤ ·) → xs = ys
  | [], ys, p, _, _ => by rw [List.nil_perm.mp p]
  | a :: r, [], p, _, _ => by have := p.length_eq; cases this
  | a :: r, b :: s, p, h1, h2 => by
    have ha : a ∈ b :: s := p.mem_iff.mp List.mem_cons_self
    have hb : b ∈ a :: r := p.mem_iff.mpr List.mem_cons_self
    obtain ⟨h3, h4⟩ := List.pairwise_cons.mp h1
    obtain ⟨h5, h6⟩ := List.pairwise_cons.mp h2
    have e : a = b := by
      rcases List.mem_cons.mp ha with e | e
      · exact e
      · rcases List.mem_cons.mp hb with g | g
        · exact g.symm
        · have := h5 a e
          have := h3 b g
          omega
    subst e
    rw [perm_sorted_eq (List.Perm.cons_inv p) h4 h6]
theorem dic_same {K : PySem.W.Frag} {H : Hp} {a b : Addr} {kvs : List (Key × V)} (h1 : H a = some (.dK kvs)) (h2 : H b = some (.dK kvs)) (hl : kvs.length ≤ 100000) (ha : ∀ kv ∈ kvs, atomV kv.2 = true) : Sm K 5 H (.ref a) (.ref b) :=
  .dic h1 h2 rfl hl (fun i x y hx hy => by rw [hx] at hy; cases hy; rfl) fun i x y hx hy => by
    rw [hx] at hy
    cases hy
    exact .atom (ha x (List.mem_of_getElem? hx))
/-! ### ways along the nexts: houses met, lengths, laps -/
def itr (f : Int → Int) (s : Int) : Nat → Int
  | 0 => s
  | i + 1 => f (itr f s i)
def wl (n : Int) (f : Int → Int) (s : Int) : Nat → Int
  | 0 => 0
  | i + 1 => wl n f s i + farL n (itr f s i) (f (itr f s i))
structure Lasso (f : Int → Int) (s : Int) (m : Nat) : Prop where
  dis : ∀ i j, i < m → j < m → itr f s i = itr f s j → i = j
  back : ∃ g, g < m ∧ itr f s m = itr f s g
section
variable {n s d : Int} {f : Int → Int} {ks : List Int} {m : Nat}
theorem itr_mem (cl : ∀ k ∈ ks, f k ∈ ks) (hs : s ∈ ks) : ∀ i, itr f s i ∈ ks
  | 0 => hs
  | i + 1 => cl _ (itr_mem cl hs i)
theorem itr_add (i : Nat) : ∀ j, itr f s (i + j) = itr f (itr f s i) j
  | 0 => rfl
  | j + 1 => congrArg f (itr_add i j)
theorem wl_add (i : Nat) : ∀ j, wl n f s (i + j) = wl n f s i + wl n f (itr f s i) j
  | 0 => (Int.add_zero _).symm
  | j + 1 => by
    show wl n f s (i + j) + farL n (itr f s (i + j)) (f (itr f s (i + j))) = wl n f s i + (wl n f (itr f s i) j + farL n (itr f (itr f s i) j) (f (itr f (itr f s i) j)))
    rw [wl_add i j, itr_add i j]
    omega
theorem wl_pos (h : 0 < n) : ∀ j : Nat, (j : Int) ≤ wl n f s j
  | 0 => Int.le_refl _
  | j + 1 => by
    have := wl_pos h j
    have := (far_range (itr f s j) (f (itr f s j)) h).1
    show ((j + 1 : Nat) : Int) ≤ wl n f s j + farL n (itr f s j) (f (itr f s j))
    omega
theorem wl_lt (h : 0 < n) {i j : Nat} (l : i < j) : wl n f s i < wl n f s j := by
  obtain ⟨t, rfl⟩ : ∃ t, j = i + t := ⟨j - i, by omega⟩
  rw [wl_add]
  have := wl_pos (f := f) (s := itr f s i) h t
  omega
theorem wl_le (h : 0 < n) {i j : Nat} (l : i ≤ j) : wl n f s i ≤ wl n f s j := by
  rcases Nat.lt_or_eq_of_le l with l | rfl
  · exact Int.le_of_lt (wl_lt h l)
  · exact Int.le_refl _
theorem nodup_len : ∀ {l ks : List Int}, l.Nodup → (∀ x ∈ l, x ∈ ks) → l.length ≤ ks.length
  | [], _, _, _ => Nat.zero_le _
  | a :: r, ks, h, hs => by
    obtain ⟨h1, h2⟩ := List.nodup_cons.mp h
    have ha := hs a List.mem_cons_self
    have := nodup_len (l := r) (ks := ks.erase a) h2 fun x hx => (List.mem_erase_of_ne (fun e => h1 (by rw [← e]; exact hx))).mpr (hs x (List.mem_cons_of_mem _ hx))
    rw [List.length_erase_of_mem ha] at this
    have := List.length_pos_of_mem ha
    rw [List.length_cons]
    omega
/-- the houses met so far -/
def met (f : Int → Int) (s : Int) (i : Nat) : List Int := (List.range i).map (itr f s)
theorem met_succ (i : Nat) : met f s (i + 1) = met f s i ++ [itr f s i] := by
  unfold met
  rw [List.range_succ, List.map_append]
  rfl
theorem met_len (i : Nat) : (met f s i).length = i := by unfold met; rw [List.length_map, List.length_range]
theorem met_get {i j : Nat} (h : j < i) : (met f s i)[j]? = some (itr f s j) := by
  unfold met
  rw [List.getElem?_map, List.getElem?_range h]
  rfl
theorem met_mem {i : Nat} {x : Int} : x ∈ met f s i ↔ ∃ j, j < i ∧ itr f s j = x := by
  unfold met
  rw [List.mem_map]
  exact ⟨fun ⟨j, h, e⟩ => ⟨j, List.mem_range.mp h, e⟩, fun ⟨j, h, e⟩ => ⟨j, List.mem_range.mpr h, e⟩⟩
theorem met_nodup_of {i : Nat} (h : ∀ a b, a < i → b < i → itr f s a = itr f s b → a = b) : (met f s i).Nodup := by
  induction i with
  | zero => exact List.nodup_nil
  | succ i ih =>
    rw [met_succ]
    refine List.nodup_append.mpr ⟨ih fun a b ha hb => h a b (by omega) (by omega), by simp, fun x hx y hy e => ?_⟩
    rw [List.mem_singleton] at hy
    obtain ⟨j, hj, ej⟩ := met_mem.mp hx
    have := h j i (by omega) (by omega) (by rw [ej, e, hy])
    omega
theorem met_dis {i : Nat} (h : (met f s i).Nodup) : ∀ a b, a < i → b < i → itr f s a = itr f s b → a = b := fun a b ha hb e => by
  have h1 := met_get (f := f) (s := s) ha
  have h2 := met_get (f := f) (s := s) hb
  have l1 : a < (met f s i).length := by rw [met_len]; exact ha
  have l2 : b < (met f s i).length := by rw [met_len]; exact hb
  rw [List.getElem?_eq_getElem l1] at h1
  rw [List.getElem?_eq_getElem l2] at h2
  exact (List.getElem_inj h).mp (by rw [Option.some.inj h1, Option.some.inj h2, e])
theorem met_le (cl : ∀ k ∈ ks, f k ∈ ks) (hs : s ∈ ks) {i : Nat} (h : (met f s i).Nodup) : i ≤ ks.length := by
  have := nodup_len (ks := ks) h fun x hx => let ⟨j, _, e⟩ := met_mem.mp hx; e ▸ itr_mem cl hs j
  rw [met_len] at this
  exact this
theorem Lasso.of (h : (met f s m).Nodup) (hm : itr f s m ∈ met f s m) : Lasso f s m := ⟨met_dis h, let ⟨g, l, e⟩ := met_mem.mp hm; ⟨g, l, e.symm⟩⟩
theorem Lasso.nodup (L : Lasso f s m) : (met f s m).Nodup := met_nodup_of L.dis
theorem Lasso.le (L : Lasso f s m) (cl : ∀ k ∈ ks, f k ∈ ks) (hs : s ∈ ks) : m ≤ ks.length := met_le cl hs L.nodup
theorem Lasso.pos (L : Lasso f s m) : 0 < m := let ⟨_, l, _⟩ := L.back; by omega
theorem lap_itr {g m : Nat} (e : itr f s m = itr f s g) (t : Nat) : itr f s (m + t) = itr f s (g + t) := by rw [itr_add, itr_add, e]
theorem lap_wl {g m : Nat} (e : itr f s m = itr f s g) (t : Nat) : wl n f s (m + t) = wl n f s (g + t) + (wl n f s m - wl n f s g) := by
  rw [wl_add, wl_add, e]
  omega
theorem laps_itr {g p : Nat} (e : itr f s (g + p) = itr f s g) (t : Nat) : ∀ c : Nat, itr f s (g + t + c * p) = itr f s (g + t)
  | 0 => by rw [Nat.zero_mul, Nat.add_zero]
  | c + 1 => by
    rw [Nat.succ_mul, show g + t + (c * p + p) = g + p + (t + c * p) by omega, lap_itr e, show g + (t + c * p) = g + t + c * p by omega, laps_itr e t c]
theorem laps_wl {g p : Nat} (e : itr f s (g + p) = itr f s g) (t : Nat) : ∀ c : Nat, wl n f s (g + t + c * p) = wl n f s (g + t) + c * (wl n f s (g + p) - wl n f s g)
  | 0 => by rw [Nat.zero_mul, Nat.add_zero]; omega
  | c + 1 => by
    rw [Nat.succ_mul, show g + t + (c * p + p) = g + p + (t + c * p) by omega, lap_wl e, show g + (t + c * p) = g + t + c * p by omega, laps_wl e t c, Int.natCast_succ, Int.add_mul, Int.one_mul]
    omega
theorem Lasso.all (L : Lasso f s m) : ∀ k, ∃ i, i < m ∧ itr f s k = itr f s i
  | 0 => ⟨0, L.pos, rfl⟩
  | k + 1 => by
    obtain ⟨i, hi, e⟩ := L.all k
    by_cases h : i + 1 < m
    · exact ⟨i + 1, h, congrArg f e⟩
    · obtain ⟨g, hg, eg⟩ := L.back
      have : m = i + 1 := by omega
      subst this
      exact ⟨g, hg, (congrArg f e).trans eg⟩
theorem far_dvd (a b : Int) (h : 0 < n) : ∃ q, farL n a b = b - a + n * q := by
  rw [far_emod a b h]
  have e := Int.emod_add_mul_ediv (b - a - 1) n
  refine ⟨- ((b - a - 1) / n), ?_⟩
  rw [Int.mul_neg]
  omega
theorem wl_dvd (h : 0 < n) : ∀ j : Nat, ∃ q, wl n f s j = itr f s j - s + n * q
  | 0 => ⟨0, by show (0 : Int) = s - s + n * 0; omega⟩
  | j + 1 => by
    obtain ⟨q, e⟩ := wl_dvd h j
    obtain ⟨r, e2⟩ := far_dvd (itr f s j) (f (itr f s j)) h
    refine ⟨q + r, ?_⟩
    show wl n f s j + farL n (itr f s j) (f (itr f s j)) = f (itr f s j) - s + n * (q + r)
    rw [e, e2, Int.mul_add]
    omega
/-- as many steps as there are houses go round at least once -/
theorem wl_round (h : 0 < n) (cl : ∀ k ∈ ks, f k ∈ ks) (hs : s ∈ ks) : n ≤ wl n f s ks.length := by
  have : ¬ (met f s (ks.length + 1)).Nodup := fun z => by
    have := met_le cl hs z
    omega
  have : ∃ a b, a < b ∧ b ≤ ks.length ∧ itr f s a = itr f s b := by
    refine Classical.byContradiction fun no => this (met_nodup_of fun a b ha hb e => ?_)
    rcases Nat.lt_trichotomy a b with l | l | l
    · exact (no ⟨a, b, l, by omega, e⟩).elim
    · exact l
    · exact (no ⟨b, a, l, by omega, e.symm⟩).elim
  obtain ⟨a, b, hab, hb, e⟩ := this
  obtain ⟨q, eq⟩ := wl_dvd (f := f) (s := itr f s a) h (b - a)
  have e2 : itr f (itr f s a) (b - a) = itr f s a := by rw [← itr_add, show a + (b - a) = b by omega, e]
  have e3 : wl n f s b = wl n f s a + wl n f (itr f s a) (b - a) := by rw [← wl_add, show a + (b - a) = b by omega]
  have p1 := wl_pos (f := f) (s := itr f s a) h (b - a)
  have p2 := wl_pos (f := f) (s := s) h a
  have p3 := wl_le (f := f) (s := s) h hb
  have eq : wl n f (itr f s a) (b - a) = n * q := by omega
  have : 1 ≤ q := by
    refine Classical.byContradiction fun z => ?_
    have : n * q ≤ 0 := Int.mul_nonpos_of_nonneg_of_nonpos (by omega) (by omega)
    omega
  have : n * 1 ≤ n * q := Int.mul_le_mul_of_nonneg_left this (by omega)
  omega
theorem wl_rounds (h : 0 < n) (cl : ∀ k ∈ ks, f k ∈ ks) (hs : s ∈ ks) : ∀ q : Nat, n * q ≤ wl n f s (ks.length * q)
  | 0 => by rw [Nat.mul_zero]; show n * 0 ≤ 0; omega
  | q + 1 => by
    have h1 := wl_rounds h cl hs q
    have h2 := wl_round (f := f) h cl (itr_mem cl hs (ks.length * q))
    rw [Nat.mul_succ, wl_add, Int.natCast_succ, Int.mul_add]
    omega
/-- where the way has at least the distance d first -/
def FirstAt (n : Int) (f : Int → Int) (s d : Int) (K : Nat) : Prop := d ≤ wl n f s K ∧ ∀ k, k < K → wl n f s k < d
theorem FirstAt.uniq (h : 0 < n) {a b : Nat} (x : FirstAt n f s d a) (y : FirstAt n f s d b) : a = b := by
  rcases Nat.lt_trichotomy a b with l | l | l
  · have := y.2 a l
    have := x.1
    omega
  · exact l
  · have := x.2 b l
    have := y.1
    omega
theorem firstAt_of (h : 0 < n) {K : Nat} (h1 : d ≤ wl n f s K) (h2 : K = 0 ∨ wl n f s (K - 1) < d) : FirstAt n f s d K := by
  refine ⟨h1, fun k hk => ?_⟩
  rcases h2 with rfl | h2
  · omega
  · exact Int.lt_of_le_of_lt (wl_le h (by omega)) h2
/-- whole laps need not be walked -/
theorem laps_first (h : 0 < n) {g j : Nat} (hg : g < m) (e : itr f s m = itr f s g) (hj : j ≤ m) (h1 : ∀ i, i < j → wl n f s i + max 0 (d - wl n f s g) / (wl n f s m - wl n f s g) * (wl n f s m - wl n f s g) < d)
    (h2 : j < m → d ≤ wl n f s j + max 0 (d - wl n f s g) / (wl n f s m - wl n f s g) * (wl n f s m - wl n f s g)) :
    ∃ K, FirstAt n f s d K ∧ itr f s K = itr f s j ∧ wl n f s K = wl n f s j + max 0 (d - wl n f s g) / (wl n f s m - wl n f s g) * (wl n f s m - wl n f s g) := by
  have lp := wl_lt (f := f) (s := s) h hg
  generalize ew : wl n f s m - wl n f s g = lap at *
  have lp : 0 < lap := by omega
  have q0 : 0 ≤ max 0 (d - wl n f s g) / lap := Int.ediv_nonneg (by omega) (by omega)
  have qe := Int.emod_add_mul_ediv (max 0 (d - wl n f s g)) lap
  have r0 := Int.emod_nonneg (max 0 (d - wl n f s g)) (by omega : lap ≠ 0)
  have r1 := Int.emod_lt_of_pos (max 0 (d - wl n f s g)) lp
  generalize max 0 (d - wl n f s g) / lap = q at *
  generalize max 0 (d - wl n f s g) % lap = r at *
  obtain ⟨c, rfl⟩ : ∃ c : Nat, q = c := ⟨q.toNat, by omega⟩
  rw [Int.mul_comm lap] at qe
  generalize ec : (c : Int) * lap = skip at *
  have k2 : d ≤ wl n f s j + skip := by
    by_cases l : j < m
    · exact h2 l
    · have : j = m := by omega
      subst this
      omega
  by_cases c0 : c = 0
  · subst c0
    have : skip = 0 := by rw [← ec]; exact Int.zero_mul _
    subst this
    exact ⟨j, ⟨by omega, fun k hk => by have := h1 k hk; omega⟩, rfl, by omega⟩
  · have : lap ≤ skip := by
      rw [← ec]
      have : (1 : Int) * lap ≤ c * lap := Int.mul_le_mul_of_nonneg_right (by omega) (by omega)
      omega
    have dg : wl n f s g + skip ≤ d := by omega
    have jg : g ≤ j := by
      refine Classical.byContradiction fun z => ?_
      have := wl_lt (f := f) (s := s) h (show j < g by omega)
      omega
    obtain ⟨t, rfl⟩ : ∃ t, j = g + t := ⟨j - g, by omega⟩
    obtain ⟨p, rfl⟩ : ∃ p, m = g + p := ⟨m - g, by omega⟩
    have e1 := laps_itr e t c
    have e2 := laps_wl (n := n) e t c
    rw [ew, ec] at e2
    refine ⟨g + t + c * p, firstAt_of h (by omega) ?_, e1, e2⟩
    by_cases t0 : t = 0
    · subst t0
      right
      have := wl_lt (f := f) (s := s) h (show g + 0 + c * p - 1 < g + 0 + c * p by
        have : 0 < c * p := Nat.mul_pos (by omega) (by omega)
        omega)
      rw [e2] at this
      have e0 : wl n f s (g + 0) = wl n f s g := rfl
      omega
    · right
      have e3 := laps_wl (n := n) e (t - 1) c
      rw [ew, ec] at e3
      rw [show g + t + c * p - 1 = g + (t - 1) + c * p by omega, e3]
      exact h1 _ (by omega)
end
--CUT
/-! ### the two calm rounds, in plain words -/
def iN (nx : List (Key × V)) (y : Int) : Int := match valV nx (.inl y) with | some (.int x) => x | _ => 0
def zO : V → Int | .int z => z | _ => 0
theorem iN_of {nx : List (Key × V)} {y x : Int} (h : valV nx (.inl y) = some (.int x)) : iN nx y = x := by unfold iN; rw [h]
def tellB (n : Int) (nx bs : List (Key × V)) (y : Int) : List (Key × V) := nB n (iN nx y) (bef bs (iN nx y)) (.tell (iN nx y) y) bs
def tells (n : Int) (nx bs : List (Key × V)) (ys : List Int) : List (Key × V) := ys.foldl (tellB n nx) bs
def askL (bs nx : List (Key × V)) (y : Int) : Let := .answer y (iN nx y) (zO (bef bs (iN nx y)))
def askS (n : Int) (bs : List (Key × V)) (s : List (Key × V) × Int) (y : Int) : List (Key × V) × Int := (nN n y (iN s.1 y) (bef bs y) (askL bs s.1 y) s.1, if hN n y (iN s.1 y) (askL bs s.1 y) = iN s.1 y then s.2 else s.2 + 1)
def asks (n : Int) (bs nx : List (Key × V)) (ys : List Int) : List (Key × V) × Int := ys.foldl (askS n bs) (nx, 0)
/-- befores of houses alone -/
def GB (ks : List Int) (bs : List (Key × V)) : Prop := ∀ (p : Int) v, valV bs (.inl p) = some v → p ∈ ks ∧ ∃ x ∈ ks, v = .int x
def GN (ks : List Int) (nx : List (Key × V)) : Prop := nx.map (·.1) = ks.map Sum.inl ∧ ∀ k ∈ ks, ∃ x ∈ ks, valV nx (.inl k) = some (.int x)
def KB (bs : List (Key × V)) : Prop := ∃ js : List Int, bs.map (·.1) = js.map Sum.inl ∧ js.Nodup
theorem tells_succ {n : Int} {nx bs : List (Key × V)} {ys : List Int} {i : Nat} {y : Int} (h : ys[i]? = some y) : tells n nx bs (ys.take (i + 1)) = tellB n nx (tells n nx bs (ys.take i)) y := by
  unfold tells
  rw [List.take_add_one, h, Option.toList_some, List.foldl_append]
  rfl
theorem asks_succ {n : Int} {nx bs : List (Key × V)} {ys : List Int} {i : Nat} {y : Int} (h : ys[i]? = some y) : asks n bs nx (ys.take (i + 1)) = askS n bs (asks n bs nx (ys.take i)) y := by
  unfold asks
  rw [List.take_add_one, h, Option.toList_some, List.foldl_append]
  rfl
theorem GB.nB {ks : List Int} {bs : List (Key × V)} {n r : Int} {L : Let} (g : GB ks bs) (hL : ∀ k ∈ L.ns, k ∈ ks) (hr : r ∈ ks) : GB ks (nB n r (bef bs r) L bs) := fun p v e => by
  unfold Z.nB at e
  split at e
  · rename_i h
    rw [valV_put] at e
    by_cases z : p = r
    · rw [if_pos (by rw [z])] at e
      obtain ⟨u, mu, eu⟩ := (hB_mem (n := n) (r := r) (L := L) (bef_ok fun p v e => let ⟨_, x, _, e2⟩ := g p v e; ⟨x, e2⟩)).resolve_left h.2
      exact ⟨by rw [z]; exact hr, u, hL _ mu, by rw [← Option.some.inj e, eu]⟩
    · rw [if_neg (fun y => z (Sum.inl.inj y))] at e
      exact g p v e
  · exact g p v e
theorem GB.ok {ks : List Int} {bs : List (Key × V)} (g : GB ks bs) (k : Int) : okB (bef bs k) := bef_ok fun p v e => let ⟨_, x, _, e2⟩ := g p v e; ⟨x, e2⟩
theorem GB.some {ks : List Int} {bs : List (Key × V)} (g : GB ks bs) {k : Int} (h : bef bs k ≠ .non) : ∃ z ∈ ks, bef bs k = .int z := by
  unfold bef at h ⊢
  cases e : valV bs (.inl k) with
  | none => rw [e] at h; exact absurd rfl h
  | some v =>
    obtain ⟨_, x, mx, ex⟩ := g k v e
    exact ⟨x, mx, ex⟩
theorem valV_mem_keys {kvs : List (Key × V)} {js : List Int} {p : Int} (h : kvs.map (·.1) = js.map Sum.inl) (hp : p ∈ js) : (valV kvs (.inl p)).isSome = true := by
  induction kvs generalizing js with
  | nil =>
    cases js with
    | nil => cases hp
    | cons a b => cases h
  | cons kv r ih =>
    cases js with
    | nil => cases hp
    | cons j js =>
      obtain ⟨k, v⟩ := kv
      have h1 : k = Sum.inl j := (List.cons.inj h).1
      by_cases e : p = j
      · rw [valV_pos (by rw [h1, e])]
        rfl
      · rw [valV_neg (by rw [h1]; exact fun z => e (Sum.inl.inj z).symm)]
        exact ih (List.cons.inj h).2 ((List.mem_cons.mp hp).resolve_left e)
theorem KB.put {bs : List (Key × V)} {r : Int} {v : V} (h : KB bs) : KB (putK bs (.inl r) v) := by
  obtain ⟨js, e, nd⟩ := h
  by_cases m : r ∈ js
  · exact ⟨js, by rw [keys_putK_old (valV_mem_keys e m)]; exact e, nd⟩
  · refine ⟨js ++ [r], ?_, List.nodup_append.mpr ⟨nd, List.pairwise_singleton _ _, fun a ha b hb z => by rw [List.mem_singleton.mp hb] at z; rw [z] at ha; exact m ha⟩⟩
    rw [putK_new _ (valV_none_keys e m), List.map_append, List.map_append, e]
    rfl
theorem KB.nB {bs : List (Key × V)} {n r : Int} {b : V} {L : Let} (h : KB bs) : KB (nB n r b L bs) := by
  unfold Z.nB
  split
  · exact h.put
  · exact h
theorem GN.nN {ks : List Int} {nx : List (Key × V)} {n r x : Int} {b : V} {L : Let} (g : GN ks nx) (hL : ∀ k ∈ L.ns, k ∈ ks) (hr : r ∈ ks) (hx : valV nx (.inl r) = some (.int x)) : GN ks (nN n r x b L nx) := by
  refine ⟨?_, fun j hj => ?_⟩
  · unfold Z.nN
    split
    · rw [keys_putK_old (by rw [hx]; rfl)]
      exact g.1
    · exact g.1
  · rw [nN_val hx]
    by_cases e : j = r
    · rw [if_pos e]
      refine ⟨_, ?_, rfl⟩
      rcases hN_mem (n := n) (r := r) (x := x) (L := L) with z | z
      · rw [z]
        obtain ⟨y, my, ey⟩ := g.2 _ hr
        rw [hx] at ey
        rw [V.int.inj (Option.some.inj ey)]
        exact my
      · exact hL _ z
    · rw [if_neg e]
      exact g.2 j hj
theorem nodup_sub_len : ∀ {js ks : List Int}, js.Nodup → (∀ j ∈ js, j ∈ ks) → js.length ≤ ks.length
  | [], ks, _, _ => Nat.zero_le _
  | j :: js, ks, nd, h => by
    obtain ⟨h1, h2⟩ := List.nodup_cons.mp nd
    have m := h j List.mem_cons_self
    have := nodup_sub_len (js := js) (ks := ks.erase j) h2 fun k hk => (List.mem_erase_of_ne (fun z => h1 (by rw [← z]; exact hk))).mpr (h k (List.mem_cons_of_mem _ hk))
    rw [List.length_erase_of_mem m] at this
    have := List.length_pos_of_mem m
    show js.length + 1 ≤ ks.length
    omega
theorem KB.len {ks : List Int} {bs : List (Key × V)} (h : KB bs) (g : GB ks bs) : bs.length ≤ ks.length := by
  obtain ⟨js, e, nd⟩ := h
  have l : bs.length = js.length := by have := congrArg List.length e; rw [List.length_map, List.length_map] at this; exact this
  rw [l]
  refine nodup_sub_len nd fun j hj => ?_
  obtain ⟨v, hv⟩ := Option.isSome_iff_exists.mp (valV_mem_keys e hj)
  exact (g j v hv).1
theorem tell_bef {n : Int} {nx bs : List (Key × V)} {y k : Int} : bef (tellB n nx bs y) k = if k = iN nx y then hTell n (iN nx y) y (bef bs (iN nx y)) else bef bs k := nB_bef
theorem hTell_some {n p u : Int} {b : V} : hTell n p u b ≠ .non := by
  cases b with
  | int z =>
    unfold hTell
    dsimp only
    split <;> exact fun z => nomatch z
  | _ => exact fun z => nomatch z
theorem tells_keep {n : Int} {nx : List (Key × V)} {k : Int} : ∀ {ys : List Int} {bs : List (Key × V)}, bef bs k ≠ .non → bef (tells n nx bs ys) k ≠ .non
  | [], _, h => h
  | y :: ys, bs, h => by
    show bef (tells n nx (tellB n nx bs y) ys) k ≠ .non
    refine tells_keep ?_
    rw [tell_bef]
    split
    · exact hTell_some
    · exact h
theorem tells_has {n : Int} {nx : List (Key × V)} {y : Int} : ∀ {ys : List Int} {bs : List (Key × V)}, y ∈ ys → bef (tells n nx bs ys) (iN nx y) ≠ .non
  | a :: ys, bs, h => by
    show bef (tells n nx (tellB n nx bs a) ys) (iN nx y) ≠ .non
    by_cases e : y = a
    · subst e
      refine tells_keep ?_
      rw [tell_bef, if_pos rfl]
      exact hTell_some
    · exact tells_has ((List.mem_cons.mp h).resolve_left e)
section
variable {ks : List Int} {n : Int} {nx bs : List (Key × V)}
theorem tells_all (gn : GN ks nx) : ∀ {ys : List Int} {bs : List (Key × V)}, (∀ y ∈ ys, y ∈ ks) → GB ks bs → KB bs → GB ks (tells n nx bs ys) ∧ KB (tells n nx bs ys)
  | [], _, _, g, k => ⟨g, k⟩
  | y :: ys, bs, h, g, k => by
    have hy := h y List.mem_cons_self
    obtain ⟨x, mx, ex⟩ := gn.2 y hy
    show GB ks (tells n nx (tellB n nx bs y) ys) ∧ KB (tells n nx (tellB n nx bs y) ys)
    refine tells_all gn (ys := ys) (fun z hz => h z (List.mem_cons_of_mem _ hz)) (GB.nB g (fun k hk => ?_) (by rw [iN_of ex]; exact mx)) k.nB
    have hk : k ∈ [iN nx y, y] := hk
    simp only [List.mem_cons, List.not_mem_nil, or_false] at hk
    rcases hk with rfl | rfl
    · rw [iN_of ex]; exact mx
    · exact hy
/-- what the befores of the net and those beside say alike -/
def VF (ks : List Int) (bf bs : List (Key × V)) : Prop := ∀ k ∈ ks, valV bf (.inl k) = some (bef bs k)
theorem VF.nB {bf : List (Key × V)} {r : Int} {L : Let} (h : VF ks bf bs) (hr : r ∈ ks) : VF ks (nB n r (bef bs r) L bf) (nB n r (bef bs r) L bs) := fun j hj => by
  rw [nB_val (h _ hr), nB_bef]
  by_cases e : j = r
  · rw [if_pos e, if_pos e]
  · rw [if_neg e, if_neg e]
    exact h j hj
theorem nB_len {bf : List (Key × V)} {r : Int} {b : V} {L : Let} (h : (valV bf (.inl r)).isSome = true) : (nB n r b L bf).length = bf.length := by
  unfold Z.nB
  split
  · have := congrArg List.length (keys_putK_old (v := hB n r b L) h)
    rw [List.length_map, List.length_map] at this
    exact this
  · rfl
end
/-! ### a walk over a dict that has just been made -/
def tLk (td : TE) : TE := fun σ H Q => td σ H fun x H1 => ∃ (d : Addr) (kvs : List (Key × V)), x = .ref d ∧ H1 d = some (.dK kvs) ∧ ∀ o, Q x (upd H1 d (.frz o (.dK kvs)))
theorem pe_lk {X : Cx} {e : Expr} {td : TE} (he : PE X e td) : PE X e (tLk td) := by
  refine ⟨fun pins s σ H Q I h => ?_⟩
  refine thn (he.run pins s σ _ _ I h) fun u s1 ⟨x, H1, I1, r, d, kvs, ex, hd, q⟩ => ?_
  obtain ⟨od, I2⟩ := I1.lock hd trivial
  exact ⟨x, _, I2, r, q od⟩
/-- rows of tuples -/
def LAt {α : Type} (f : α → List V) (H : Hp) (vs : List V) (qs : List α) : Prop := vs.length = qs.length ∧ ∀ (i : Nat) v q, vs[i]? = some v → qs[i]? = some q → ∃ a, v = V.ref a ∧ H a = some (.tup (f q))
section
variable {α : Type} {f : α → List V} {H H' : Hp} {vs us : List V} {qs ps : List α}
theorem LAt.nil : LAt f H [] ([] : List α) := ⟨rfl, fun i v q h => by simp at h⟩
theorem LAt.mono (h : LAt f H vs qs) (k : ∀ a xs, H a = some (.tup xs) → H' a = some (.tup xs)) : LAt f H' vs qs := ⟨h.1, fun i v q e1 e2 => let ⟨a, e3, e4⟩ := h.2 i v q e1 e2; ⟨a, e3, k _ _ e4⟩⟩
theorem LAt.same (h : LAt f H vs qs) (s : Same H H') : LAt f H' vs qs := h.mono fun _ _ e => s _ _ e
theorem LAt.cat (h : LAt f H vs qs) (g : LAt f H us ps) : LAt f H (vs ++ us) (qs ++ ps) := by
  refine ⟨by rw [List.length_append, List.length_append, h.1, g.1], fun i v q e1 e2 => ?_⟩
  rw [List.getElem?_append] at e1 e2
  by_cases z : i < vs.length
  · rw [if_pos z] at e1
    rw [if_pos (by rw [← h.1]; exact z)] at e2
    exact h.2 i v q e1 e2
  · rw [if_neg z] at e1
    rw [if_neg (by rw [← h.1]; exact z), ← h.1] at e2
    exact g.2 _ v q e1 e2
theorem LAt.one {a : Addr} {q : α} (e : H a = some (.tup (f q))) : LAt f H [.ref a] [q] := ⟨rfl, fun i v q' e1 e2 => by
  match i with
  | 0 => cases e1; cases e2; exact ⟨a, rfl, e⟩
  | i + 1 => simp at e1⟩
theorem LAt.app {a : Addr} {q : α} (h : LAt f H vs qs) (e : H a = some (.tup (f q))) : LAt f H (vs ++ [.ref a]) (qs ++ [q]) := h.cat (.one e)
theorem LAt.at (h : LAt f H vs qs) {i : Nat} {v : V} (e : vs[i]? = some v) : ∃ a q, qs[i]? = some q ∧ v = .ref a ∧ H a = some (.tup (f q)) := by
  have hi : i < qs.length := by rw [← h.1]; exact (List.getElem?_eq_some_iff.mp e).1
  obtain ⟨a, e1, e2⟩ := h.2 i v _ e (List.getElem?_eq_getElem hi)
  exact ⟨a, _, List.getElem?_eq_getElem hi, e1, e2⟩
theorem LAt.sm {K : PySem.W.Frag} (h : LAt f H vs qs) (g : LAt f H us qs) (ha : ∀ q ∈ qs, (f q).length ≤ 100000 ∧ ∀ y ∈ f q, atomV y = true) : ∀ (i : Nat) x y, vs[i]? = some x → us[i]? = some y → Sm K 2 H x y := fun i x y hx hy => by
  obtain ⟨a, q, e0, rfl, e1⟩ := h.at hx
  obtain ⟨b, e2, e3⟩ := g.2 i y q hy e0
  rw [e2]
  exact tup_same e1 e3 (ha q (List.mem_of_getElem? e0)).1 (ha q (List.mem_of_getElem? e0)).2
end
def pV (q : Int × Int) : List V := [.int q.1, .int q.2]
def sV (n : Int) (q : Int × Int) : List V := [.int q.1, .int q.2, .int (farL n q.1 q.2)]
def rV (f g : Int → V) (y : Int) : List V := [.int y, f y, g y]
def LetP : Let → List (Int × Int)
  | .tell r u => [(u, r)]
  | .ask _ _ => []
  | .answer _ u m => [(m, u)]
/-- a snapshot -/
def Shot (n : Int) (f g : Int → V) (ys : List Int) (H : Hp) (p : Addr) (ls : List V) : Prop := ∃ (r l : Addr) (rs : List V), H p = some (.tup [.int n, .ref r, .ref l]) ∧ H l = some (.tup ls) ∧ H r = some (.tup rs) ∧ LAt (rV f g) H rs ys
def sp_Net__hold (C : Addr) : Sp := fun vs H Q _ => ∃ (h dn db dl : Addr) (n p x : Int) (v : V) (nx bf : List (Key × V)) (ls : List V), vs = [.ref h, .int p, .int x] ∧ NetAt C H h n dn db dl nx bf ls ∧ valV nx (.inl p) = some v ∧ (valV nx (.inl x)).isSome = true ∧ nx.length ≤ 1000 ∧ Q v (upd H dn (.dK (putK nx (.inl p) (.int x))))
theorem T0.ok_Net__hold (T : T0 K mg) : FnOk P w K mg base CX0 2 T.a_Net__hold T.fd_Net__hold ["self", "house", "target"] (sp_Net__hold T.C_Net) := by
  refine T.F_Net__hold.ok sc_Net__hold (fun vs H Q E h => ?_) (fun cdv A outer s H vs Q E hr h => ?_)
  · obtain ⟨h, dn, db, dl, n, p, x, v, nx, bf, ls, rfl, _⟩ := h
    rfl
  · obtain ⟨h, dn, db, dl, n, p, x, v, nx, bf, ls, rfl, hN, hp, hx, hz, q⟩ := h
    obtain ⟨dx, hh⟩ := hN.me
    refine ⟨_, (pss_cons (ps_expr (pe_meth (pv 0) T.cl_Net T.me_Net__check_house T.ok_Net__check_house hr T.b_Net__check_house .nil pass0 (pa_cons (pv 1) pa_nil)))
        (pss_cons (ps_expr (pe_meth (pv 0) T.cl_Net T.me_Net__check_house T.ok_Net__check_house hr T.b_Net__check_house .nil pass0 (pa_cons (pv 2) pa_nil)))
        (pss_cons (ps_set (i := 3) sc_Net__hold.nd rfl (Or.inl rfl) (pe_dget (un1 hr) (show PE _ _ (tFld K _ _) from pe_fld (pv 0) rfl) (pv 1) (fun _ _ => rfl)))
        (pss_cons (ps_asg (pv 2) (pg_sub (show PE _ _ (tFld K _ _) from pe_fld (pv 0) rfl) (pv 1) (set_dict (un1 hr))))
        (pss_one (ps_ret (pv 3))))))), ?_⟩
    refine ⟨_, rfl, h, dx, _, rfl, hh, (by unfold nf; walk_at "lk"), _, rfl, h, dn, db, dl, n, p, nx, bf, ls, rfl, hN, (by rw [hp]; rfl), ?_⟩
    refine ⟨_, rfl, h, dx, _, rfl, hh, (by unfold nf; walk_at "lk"), _, rfl, h, dn, db, dl, n, x, nx, bf, ls, rfl, hN, hx, ?_⟩
    refine ⟨_, rfl, h, _, dx, _, _, rfl, hh, T.cl_Net, T.na_Net__nexts, nf_nexts, _, rfl, dn, _, rfl, dget_of (k := Sum.inl p) hN.hn hp, ?_⟩
    refine ⟨_, rfl, _, rfl, h, _, dx, _, _, rfl, hh, T.cl_Net, T.na_Net__nexts, nf_nexts, _, rfl, dn, _, rfl, DPut.k (k := Sum.inl p) hN.hn (small1000' (by omega)), ?_⟩
    exact ⟨_, rfl, q⟩
def sp_Net__set_before (C : Addr) : Sp := fun vs H Q _ => ∃ (h dn db dl : Addr) (n p : Int) (b : V) (nx bf : List (Key × V)) (ls : List V), vs = [.ref h, .int p, b] ∧ NetAt C H h n dn db dl nx bf ls ∧ (valV nx (.inl p)).isSome = true ∧ (b = .non ∨ ∃ x : Int, b = .int x ∧ (valV nx (.inl x)).isSome = true) ∧ bf.length ≤ 1000 ∧ Q .non (upd H db (.dK (putK bf (.inl p) b)))
theorem T0.ok_Net__set_before (T : T0 K mg) : FnOk P w K mg base CX0 2 T.a_Net__set_before T.fd_Net__set_before ["self", "house", "before"] (sp_Net__set_before T.C_Net) := by
  refine T.F_Net__set_before.ok sc_Net__set_before (fun vs H Q E h => ?_) (fun cdv A outer s H vs Q E hr h => ?_)
  · obtain ⟨h, dn, db, dl, n, p, b, nx, bf, ls, rfl, _⟩ := h
    rfl
  · obtain ⟨h, dn, db, dl, n, p, b, nx, bf, ls, rfl, hN, hp, hb, hz, q⟩ := h
    obtain ⟨dx, hh⟩ := hN.me
    refine ⟨_, (pss_cons (ps_expr (pe_meth (pv 0) T.cl_Net T.me_Net__check_house T.ok_Net__check_house hr T.b_Net__check_house .nil pass0 (pa_cons (pv 1) pa_nil)))
        (pss_cons (ps_if (pt_cmpR op_notN (pv 2) pe_non (nomark _)) (pss_one (ps_expr (pe_meth (pv 0) T.cl_Net T.me_Net__check_house T.ok_Net__check_house hr T.b_Net__check_house .nil pass0 (pa_cons (pv 2) pa_nil)))) pss_nil)
        (pss_one (ps_asg (pv 2) (pg_sub (show PE _ _ (tFld K _ _) from pe_fld (pv 0) rfl) (pv 1) (set_dict (un1 hr))))))), ?_⟩
    refine ⟨_, rfl, h, dx, _, rfl, hh, (by unfold nf; walk_at "lk"), _, rfl, h, dn, db, dl, n, p, nx, bf, ls, rfl, hN, hp, ?_⟩
    refine ⟨_, rfl, rfl, _, rfl, ?_⟩
    rcases hb with rfl | ⟨x, rfl, hx⟩
    · refine iteF' (by rw [decide_eq_true rfl]; rfl) ?_
      exact ⟨_, rfl, _, rfl, h, _, dx, _, _, rfl, hh, T.cl_Net, T.na_Net__befores, nf_befores, _, rfl, db, _, rfl, DPut.k (k := Sum.inl p) hN.hb (small1000' (by omega)), q⟩
    · refine iteT' rfl ?_
      refine ⟨_, rfl, h, dx, _, rfl, hh, (by unfold nf; walk_at "lk"), _, rfl, h, dn, db, dl, n, x, nx, bf, ls, rfl, hN, hx, ?_⟩
      exact ⟨_, rfl, _, rfl, h, _, dx, _, _, rfl, hh, T.cl_Net, T.na_Net__befores, nf_befores, _, rfl, db, _, rfl, DPut.k (k := Sum.inl p) hN.hb (small1000' (by omega)), q⟩
def sp_Net__snapshot (C : Addr) : Sp := fun vs H Q _ => ∃ (h dn db dl : Addr) (n : Int) (nx bf : List (Key × V)) (ls : List V) (ks : List Int) (f g : Int → V), vs = [.ref h] ∧ NetAt C H h n dn db dl nx bf ls ∧ nx.map (·.1) = ks.map Sum.inl ∧ ks.length < 64 ∧ (∀ k ∈ ks, valV nx (.inl k) = some (f k) ∧ valV bf (.inl k) = some (g k)) ∧
  ∀ (ys : List Int) p H', ys.Perm ks → ys.Pairwise (· ≤ ·) → Same H H' → Shot n f g ys H' p ls → Q (.ref p) H'
theorem T0.ok_Net__snapshot (T : T0 K mg) : FnOk P w K mg base CX0 2 T.a_Net__snapshot T.fd_Net__snapshot ["self"] (sp_Net__snapshot T.C_Net) := by
  refine T.F_Net__snapshot.ok sc_Net__snapshot (fun vs H Q E h => ?_) (fun cdv A outer s H vs Q E hr h => ?_)
  · obtain ⟨h, dn, db, dl, n, nx, bf, ls, ks, f, g, rfl, _⟩ := h
    rfl
  · obtain ⟨h, dn, db, dl, n, nx, bf, ls, ks, f, g, rfl, hN, hk, h64, hv, q⟩ := h
    obtain ⟨dx, hh⟩ := hN.me
    refine ⟨_, (pss_cons (ps_setLc (i := 1) (own := [("house", 2)]) (g := gName 2) (by rfl) sc_Net__snapshot.nd rfl rfl (sw_true rfl rfl rfl (by decide +kernel)) (pi_list (pe_meth0 (pv 0) T.cl_Net T.me_Net__houses T.ok_Net__houses hr T.b_Net__houses .nil pass0)) (blkOk_by (own := [("house", 2)]) (N := ["self", "rows", "house"]) (sc := defScope s_Net__snapshot) (by decide +kernel)) (fun _ _ _ _ _ => pg_name (i := 2) sc_Net__snapshot.nd rfl (Or.inl rfl)) (fun _ _ _ _ _ => pts_nil) (fun _ _ _ _ _ => (pe_tup (pa_cons (pv 2) (pa_cons (pe_dget (un1 hr) (show PE _ _ (tFld K _ _) from pe_fld (pv 0) rfl) (pv 2) (fun _ _ => rfl)) (pa_cons (pe_dget (un1 hr) (show PE _ _ (tFld K _ _) from pe_fld (pv 0) rfl) (pv 2) (fun _ _ => rfl)) pa_nil))))))
        (pss_one (ps_ret (pe_tup (pa_cons (show PE _ _ (tFld K _ _) from pe_fld (pv 0) rfl) (pa_cons (pe_callTy (call_tuple_ofK (K := K)) (by rfl) T.m_tuple (by decide +kernel) (pa_cons (pv 1) pa_nil)) (pa_cons (pe_callTy (call_tuple_ofK (K := K)) (by rfl) T.m_tuple (by decide +kernel) (pa_cons (show PE _ _ (tFld K _ _) from pe_fld (pv 0) rfl) pa_nil)) pa_nil))))))), ?_⟩
    refine ⟨_, rfl, h, dx, _, rfl, hh, (by unfold nf; walk_at "lk"), h, dn, db, dl, n, nx, bf, ls, ks, rfl, hN, hk, h64, fun ys l perm pw nl => ?_⟩
    have hl : upd H l (.lst (ys.map V.int)) l = some (.lst (ys.map V.int)) := upd_same
    have sm := same_upd (o := .lst (ys.map V.int)) nl
    generalize upd H l (.lst (ys.map V.int)) = H1 at hl sm
    have ylen := perm.length_eq
    refine ⟨l, rfl, ⟨_, SqL.of hl⟩, fun D hD => ?_⟩
    refine lc_list (K := K) (a := l) (xs := ys.map V.int) (fun i H' => Same H1 H' ∧ ∃ rs, H' D = some (.lst rs) ∧ LAt (rV f g) H' rs (ys.take i)) ⟨same_upd hD, [], upd_same, .nil⟩ (fun i H' _ p => SqL.of (p.1 _ _ hl)) (fun i x H2 hx pv => ?_) (fun H2 pv => ?_)
    · obtain ⟨s2, rs, e2, la⟩ := pv
      rw [List.getElem?_map] at hx
      obtain ⟨y, hy, rfl⟩ := Option.map_eq_some_iff.mp hx
      obtain ⟨v1, v2⟩ := hv y (perm.mem_iff.mp (List.mem_of_getElem? hy))
      have hN2 := (hN.same sm).same s2
      obtain ⟨dx, hh⟩ := hN2.me
      have lr := la.1
      rw [List.length_take] at lr
      refine ⟨rfl, lc_yes ?_⟩
      refine ⟨_, rfl, _, rfl, h, _, dx, _, _, rfl, hh, T.cl_Net, T.na_Net__nexts, nf_nexts, _, rfl, dn, _, rfl, dget_of (k := Sum.inl y) hN2.hn v1, _, rfl, h, _, dx, _, _, rfl, hh, T.cl_Net, T.na_Net__befores, nf_befores, _, rfl, db, _, rfl, dget_of (k := Sum.inl y) hN2.hb v2, lenL (by show 3 ≤ 100000; decide), fun p np => ?_⟩
      have s3 := same_upd (o := .tup [.int y, f y, g y]) np
      have e3 := s3 _ _ e2
      refine ⟨_, e3, small1000' (by omega), fun b o e => ?_, rs ++ [.ref p], upd_same, ?_⟩
      · exact (upd_ne (ne_of_none e hD)).trans (s3 _ _ (s2 _ _ e))
      · rw [List.take_add_one, hy]
        exact ((la.same s3).app (q := y) upd_same).mono fun a xs e => (upd_ne (ne_kind e e3 (fun z => nomatch z))).trans e
    · obtain ⟨s2, rs, e2, la⟩ := pv
      rw [List.length_map, List.take_length] at la
      have hN2 := (hN.same sm).same s2
      obtain ⟨dx, hh⟩ := hN2.me
      refine ⟨_, rfl, h, _, dx, _, _, rfl, hh, T.cl_Net, T.na_Net_size, nf_size, _, rfl, D, rs, rfl, .inl ⟨SqL.of e2, fun r nr => ?_⟩⟩
      have s3 := same_upd (o := .tup rs) nr
      have hr' : upd H2 r (.tup rs) r = some (.tup rs) := upd_same
      generalize upd H2 r (.tup rs) = H3 at s3 hr'
      have hN3 := hN2.same s3
      obtain ⟨dx, hh⟩ := hN3.me
      refine ⟨_, rfl, h, _, dx, _, _, rfl, hh, T.cl_Net, T.na_Net__letters, nf_letters, dl, ls, rfl, .inl ⟨SqL.of hN3.hl, fun l4 nl4 => ?_⟩⟩
      have s4 := same_upd (o := .tup ls) nl4
      have hl4 : upd H3 l4 (.tup ls) l4 = some (.tup ls) := upd_same
      generalize upd H3 l4 (.tup ls) = H4 at s4 hl4
      refine ⟨lenL (by show 3 ≤ 100000; decide), fun p np => ?_⟩
      have s5 := same_upd (o := .tup [.int n, .ref r, .ref l4]) np
      exact q ys p _ perm pw (Same.trans sm (Same.trans s2 (Same.trans s3 (Same.trans s4 s5)))) ⟨r, l4, rs, upd_same, s5 _ _ hl4, s5 _ _ (s4 _ _ hr'), ((la.same s3).same s4).same s5⟩
def sp__pairs_said_by (K : PySem.W.Frag) : Sp := fun vs H Q _ => ∃ (a : Addr) (L : Let), vs = [.ref a] ∧ H a = some (.tup L.vals) ∧ ∀ p us H', Same H H' → H p = none → H' p = some (.lst us) → LAt pV H' us (LetP L) → Q (.ref p) H'
--CUT
theorem lc_it {J : It} {n : Nat} {G : Hp → Prop} {Y : Nat → Hp → V → Hp → Prop} (w : Walk J n G Y) {g : TG} {tt : TT} {te : TE} {vs : List Nat} {σ : L2.St} {H1 : Hp} {D : Addr} {Qd : Hp → Prop} (Pv : Nat → Hp → Prop) (h0 : Pv 0 (upd H1 D (.lst []))) (hG : ∀ i H, i ≤ n → Pv i H → G H)
    (hs : ∀ i x H H', i < n → Pv i H → Y i H x H' → g x (wipe σ vs) H' fun σ2 H2 => wipe σ2 vs = wipe σ vs ∧ tt σ2 H2 fun b H3 =>
      if b = true then te σ2 H3 fun y H4 => ∃ acc, H4 D = some (.lst acc) ∧ acc.length < sizeLine ∧ Pv (i + 1) (upd H4 D (.lst (acc ++ [y]))) else Pv (i + 1) H3) (hd : ∀ H, Pv n H → Qd H) :
    ∃ W : Nat → Nat → Hp → Prop, (∃ m, W 0 m (upd H1 D (.lst []))) ∧ ∀ i m H, W i m H →
      (J.stop i H ∧ Qd H) ∨ (J.go i H ∧ ∃ Nx : Hp → Prop, (∀ H', Nx H' → ∃ m', m' < m ∧ W (i + 1) m' H') ∧ ∀ x H', J.yld i H x H' → g x (wipe σ vs) H' fun σ2 H2 => wipe σ2 vs = wipe σ vs ∧ tt σ2 H2 fun b H3 =>
        if b = true then te σ2 H3 fun y H4 => ∃ acc, H4 D = some (.lst acc) ∧ acc.length < sizeLine ∧ Nx (upd H4 D (.lst (acc ++ [y]))) else Nx H3) := by
  refine ⟨fun i m H => i + m = n ∧ Pv i H, ⟨n, Nat.zero_add n, h0⟩, fun i m H hp => ?_⟩
  have q := hG i H (hp.1 ▸ Nat.le_add_right i m) hp.2
  cases m with
  | zero =>
    obtain ⟨rfl, p⟩ := hp
    exact .inl ⟨w.stops H q, hd H p⟩
  | succ m =>
    obtain ⟨e, p⟩ := hp
    have hi : i < n := by omega
    exact .inr ⟨w.goes i H hi q, Pv (i + 1), fun H' p' => ⟨m, Nat.lt_succ_self m, by omega, p'⟩, fun x H' y => hs i x H H' hi p (w.yields i H x H' hi q y)⟩
theorem valV_map_mem {f : Int → V} {ks : List Int} {k : Int} (h : k ∈ ks) : valV (ks.map fun z => ((Sum.inl z : Key), f z)) (Sum.inl k) = some (f k) := by
  induction ks with
  | nil => cases h
  | cons z r ih =>
    rw [List.map_cons]
    by_cases e : z = k
    · subst e
      exact valV_pos (p := ((Sum.inl z : Key), f z)) rfl
    · rw [valV_neg (fun g => e (Sum.inl.inj g))]
      exact ih ((List.mem_cons.mp h).resolve_left (fun g => e g.symm))
def gV (nx : List (Key × V)) (k : Int) : V := (valV nx (.inl k)).getD .non
theorem gV_of {nx : List (Key × V)} {k : Int} {v : V} (h : valV nx (.inl k) = some v) : gV nx k = v := by unfold gV; rw [h]; rfl
theorem gV_iN {ks : List Int} {nx : List (Key × V)} (gn : GN ks nx) {k : Int} (hk : k ∈ ks) : gV nx k = .int (iN nx k) := by
  obtain ⟨x, _, e⟩ := gn.2 k hk
  rw [gV_of e, iN_of e]
def fO (bs : List (Key × V)) (ys : List Int) : List Int := ys.filter fun y => decide (bef bs y ≠ .non)
def qA (nx : List (Key × V)) (y : Int) : Int × Int := (y, iN nx y)
def qB (bs : List (Key × V)) (y : Int) : Int × Int := (zO (bef bs y), y)
def Prs (nx bs : List (Key × V)) (ys : List Int) (Ls : List Let) : List (Int × Int) := ys.map (qA nx) ++ (fO bs ys).map (qB bs) ++ Ls.flatMap LetP
theorem letP_len (L : Let) : (LetP L).length ≤ 1 := by
  cases L
  all_goals first
    | exact Nat.zero_le _
    | exact Nat.le_refl _
theorem flat_len : ∀ Ls : List Let, (Ls.flatMap LetP).length ≤ Ls.length
  | [] => Nat.le_refl _
  | L :: r => by
    rw [List.flatMap_cons, List.length_append, List.length_cons]
    have := flat_len r
    have : (LetP L).length ≤ 1 := letP_len L
    omega
theorem okB_zO {b : V} (o : okB b) (h : b ≠ .non) : b = .int (zO b) := by
  rcases o with rfl | ⟨z, rfl⟩
  · exact absurd rfl h
  · rfl
def sp_sayings (C : Addr) : Sp := fun vs H Q _ => ∃ (h dn db dl : Addr) (n : Int) (nx bf bs : List (Key × V)) (ls : List V) (ks : List Int) (Ls : List Let), vs = [.ref h] ∧ NetAt C H h n dn db dl nx bf ls ∧ 0 < n ∧ ks.length < 64 ∧ ks.Nodup ∧ GN ks nx ∧ VF ks bf bs ∧ (∀ k ∈ ks, okB (bef bs k)) ∧ ls.length ≤ 1000 ∧ LAt Let.vals H ls Ls ∧
  ∀ (ys : List Int) p us H', ys.Perm ks → ys.Pairwise (· ≤ ·) → Same H H' → H p = none → H' p = some (.lst us) → LAt (sV n) H' us (Prs nx bs ys Ls) → us.length ≤ 2000 → Q (.ref p) H'
def GC (ks : List Int) (bs : List (Key × V)) : Prop := ∀ (p : Int) v, valV bs (.inl p) = some v → p ∈ ks ∧ (v = .non ∨ ∃ x ∈ ks, v = .int x)
theorem GC.ok {ks : List Int} {bs : List (Key × V)} (g : GC ks bs) (k : Int) : okB (bef bs k) := by
  unfold bef
  cases e : valV bs (.inl k) with
  | none => exact .inl rfl
  | some v =>
    rcases (g _ _ e).2 with rfl | ⟨x, _, rfl⟩
    · exact .inl rfl
    · exact .inr ⟨x, rfl⟩
theorem GC.mem {ks : List Int} {bs : List (Key × V)} (g : GC ks bs) {k : Int} (h : bef bs k ≠ .non) : k ∈ ks := by
  unfold bef at h
  cases e : valV bs (.inl k) with
  | none => rw [e] at h; exact absurd rfl h
  | some v => exact (g _ _ e).1
theorem bef_some {bs : List (Key × V)} {k : Int} {v : V} (h : valV bs (.inl k) = some v) : bef bs k = v := by unfold bef; rw [h]; rfl
def sp__law_sayings (K : PySem.W.Frag) : Sp := fun vs H Q _ => ∃ (dN dB pO : Addr) (n : Int) (nx bs : List (Key × V)) (ps : List V) (ks : List Int) (Ls : List Let), vs = [.int n, .ref dN, .ref dB, .ref pO] ∧ H dN = some (.dK nx) ∧ H dB = some (.dK bs) ∧ H pO = some (.lst ps) ∧ 0 < n ∧ ks.length < 64 ∧ ks.Nodup ∧ GN ks nx ∧ GC ks bs ∧ KB bs ∧ ps.length ≤ 1000 ∧ LAt Let.vals H ps Ls ∧
  ∀ (ys : List Int) p us H', ys.Perm ks → ys.Pairwise (· ≤ ·) → Same H H' → H p = none → H' p = some (.lst us) → LAt (sV n) H' us (Prs nx bs ys Ls) → us.length ≤ 2000 → Q (.ref p) H'
def sp__law_snapshot (K : PySem.W.Frag) : Sp := fun vs H Q _ => ∃ (dN dB pO : Addr) (n : Int) (nx bs : List (Key × V)) (ps : List V) (ks : List Int), vs = [.int n, .ref dN, .ref dB, .ref pO] ∧ H dN = some (.dK nx) ∧ H dB = some (.dK bs) ∧ H pO = some (.lst ps) ∧ ks.length < 64 ∧ GN ks nx ∧
  ∀ (ys : List Int) p H', ys.Perm ks → ys.Pairwise (· ≤ ·) → Same H H' → Shot n (gV nx) (bef bs) ys H' p ps → Q (.ref p) H'
--CUT
/-! ### the law's own defs -/
def BI (x : Int) (ys : List Int) (j : Nat) (y : Int) : Prop := x ≤ y ∧ y ≤ x + j ∧ ((∀ e ∈ ys.take j, e < y) ∨ ∃ e ∈ ys.take j, y < e ∧ ∀ f ∈ ys.take j, f ≠ y)
theorem BI.zero {x : Int} {ys : List Int} : BI x ys 0 x := ⟨Int.le_refl _, by omega, .inl fun e h => by rw [List.take_zero] at h; cases h⟩
theorem mem_take_le {ys : List Int} (pw : ys.Pairwise (· ≤ ·)) {j : Nat} {z e : Int} (hz : ys[j]? = some z) (he : e ∈ ys.take j) : e ≤ z := by
  obtain ⟨i, hi⟩ := List.mem_iff_getElem?.mp he
  rw [List.getElem?_take] at hi
  split at hi
  · rename_i lt
    obtain ⟨h1, rfl⟩ := List.getElem?_eq_some_iff.mp hi
    obtain ⟨h2, rfl⟩ := List.getElem?_eq_some_iff.mp hz
    exact List.pairwise_iff_getElem.mp pw i j h1 h2 lt
  · cases hi
theorem BI.step {x : Int} {ys : List Int} {j : Nat} {y z : Int} (pw : ys.Pairwise (· ≤ ·)) (hz : ys[j]? = some z) (h : BI x ys j y) : BI x ys (j + 1) (if z ≤ y then y + 1 else y) := by
  obtain ⟨a, b, c⟩ := h
  have mt : ∀ f, f ∈ ys.take (j + 1) ↔ f ∈ ys.take j ∨ f = z := fun f => by rw [List.take_add_one, hz, Option.toList_some, List.mem_append, List.mem_singleton]
  by_cases e : z ≤ y
  · rw [if_pos e]
    refine ⟨by omega, by omega, ?_⟩
    rcases c with c | ⟨f, hf, hy, _⟩
    · refine .inl fun g hg => ?_
      rcases (mt g).mp hg with hg | rfl
      · have := c g hg
        omega
      · omega
    · have := mem_take_le pw hz hf
      omega
  · rw [if_neg e]
    refine ⟨a, by omega, .inr ?_⟩
    rcases c with c | ⟨f, hf, hy, hn⟩
    · refine ⟨z, (mt z).mpr (.inr rfl), by omega, fun g hg => ?_⟩
      rcases (mt g).mp hg with hg | rfl
      · have := c g hg
        omega
      · omega
    · refine ⟨f, (mt f).mpr (.inl hf), hy, fun g hg => ?_⟩
      rcases (mt g).mp hg with hg | rfl
      · exact hn g hg
      · omega
theorem BI.done {x : Int} {ys : List Int} {y : Int} (h : BI x ys ys.length y) : y ∉ ys := by
  obtain ⟨_, _, c⟩ := h
  rw [List.take_length] at c
  intro m
  rcases c with c | ⟨f, hf, hy, hn⟩
  · have := c y m
    omega
  · exact hn y m rfl
theorem Kp.free {t c l : Addr} {H H' : Hp} (k : Kp t H H') (T : Tape H' t c) (nl : H' l = none) : H l = none := by
  cases e : H l with
  | none => rfl
  | some o =>
    by_cases z : l = t
    · obtain ⟨_, _, _, _, _, e1, _⟩ := T
      rw [z, e1] at nl
      cases nl
    · rw [k _ _ z e] at nl
      cases nl
def sp__law_places (K : PySem.W.Frag) : Sp := fun vs H Q _ => ∃ (t c : Addr) (n m : Int), vs = [.ref t, .int n, .int m] ∧ Tape H t c ∧ 0 ≤ m ∧ m ≤ n ∧ m ≤ 60 ∧ n ≤ 1000000000 ∧ ∀ p (ms : List Int) H', H p = none → H' p = some (.lst (ms.map V.int)) → (ms.length : Int) = m → ms.Nodup → (∀ k ∈ ms, 0 ≤ k ∧ k < n) → Kp t H H' → Tape H' t c → Q (.ref p) H'
theorem T0.ok__law_places (T : T0 K mg) : FnOk P w K mg base CX0 2 T.a__law_places T.fd__law_places ["tape", "size", "count"] (sp__law_places K) := by
  refine T.F__law_places.ok sc__law_places (fun vs H Q E h => ?_) (fun cdv A outer s H vs Q E hr h => ?_)
  · obtain ⟨t, c, n, m, rfl, _⟩ := h
    rfl
  · obtain ⟨t, c, n, m, rfl, hT, hm0, hmn, hm6, hn9, q⟩ := h
    refine ⟨_, (pss_cons (ps_set (i := 3) sc__law_places.nd rfl (Or.inl rfl) (pe_lst pa_nil))
        (pss_cons (ps_for PassesOwn.never rfl (pi_range1 (by rfl) T.m_range (pa_cons (pv 2) pa_nil)) (pg_name (i := 4) sc__law_places.nd rfl (Or.inl rfl)) (pss_cons (ps_set (i := 5) sc__law_places.nd rfl (Or.inl rfl) (pe_call T.ok__law_pick hr (by rfl) T.g__law_pick T.k__law_pick T.b__law_pick .nil pass0 (pa_cons (pv 0) (pa_cons (pe_op op_sub (pv 1) (pv 4)) pa_nil))))
        (pss_cons (ps_for PassesOwn.never rfl (pi_list (pe_callB (cr_sortedK (K := K)) (by rfl) T.m_sorted (by decide +kernel) (pa_cons (pv 3) pa_nil))) (pg_name (i := 6) sc__law_places.nd rfl (Or.inl rfl)) (pss_one (ps_if (pt_cmpR op_le (pv 6) (pv 5) (nomark _)) (pss_one (ps_set (i := 5) sc__law_places.nd rfl (Or.inl rfl) (pe_op op_add (pv 5) pe_int))) pss_nil)))
        (pss_one (ps_expr (pe_bm PySem.F.plainAttrs_list PySem.F.slot_list_append PySem.F.type_list_append mt_append (pv 3) (pa_cons (pv 5) pa_nil)))))))
        (pss_one (ps_ret (pv 3))))), ?_⟩
    refine ⟨Nat.zero_le _, fun p np => ?_⟩
    have off := hT.off np
    refine ⟨_, rfl, m, rfl, by omega, by omega, ?_⟩
    refine for_range (lo := 0) (n := m.toNat) (fun i σ' H' => ∃ (o1 o2 o3 : Option V) (ms : List Int), σ' = [some (.ref t), some (.int n), some (.int m), some (.ref p), o1, o2, o3] ∧ ms.length = i ∧ ms.Nodup ∧ (∀ k ∈ ms, 0 ≤ k ∧ k < n) ∧ H' p = some (.lst (ms.map V.int)) ∧ Kp t H H' ∧ Tape H' t c)
      ⟨none, none, none, [], rfl, rfl, List.nodup_nil, fun _ h => (nomatch h), upd_same, Kp.of_same (same_upd np), hT.put off⟩ (fun i σ' H' hi pv => ?_) (fun σ' H' pv => ?_)
    · obtain ⟨o1, o2, o3, ms, rfl, hl, hnd, hrg, hp, kp, hT1⟩ := pv
      rw [Int.zero_add]
      refine ⟨_, rfl, _, rfl, _, rfl, _, _, rfl, rfl, ?_⟩
      refine ⟨t, c, n - i, rfl, hT1, by omega, by omega, fun x H2 x0 x1 kp2 hT2 => ?_⟩
      have hp2 := kp2 _ _ off.1 hp
      refine ⟨_, rfl, p, ms, rfl, SqL.of hp2, by omega, fun ss l perm pw nl => ?_⟩
      have hp3 : upd H2 l (.lst (ss.map V.int)) p = some (.lst (ms.map V.int)) := by rw [upd_ne (ne_of_none hp2 nl)]; exact hp2
      have kp3 : Kp t H (upd H2 l (.lst (ss.map V.int))) := (kp.trans kp2).new nl
      have hT3 : Tape (upd H2 l (.lst (ss.map V.int))) t c := hT2.put (hT2.off nl)
      have hl3 : upd H2 l (.lst (ss.map V.int)) l = some (.lst (ss.map V.int)) := upd_same
      generalize upd H2 l (.lst (ss.map V.int)) = H3 at hp3 kp3 hT3 hl3
      refine ⟨l, rfl, ⟨_, SqL.of hl3⟩, for_list (K := K) (a := l) (xs := ss.map V.int) (fun j σ2 H4 => ∃ (o3 : Option V) (y : Int), σ2 = [some (.ref t), some (.int n), some (.int m), some (.ref p), some (.int i), some (.int y), o3] ∧ H3 = H4 ∧ BI x ss j y) ⟨_, x, rfl, rfl, BI.zero⟩ (fun j σ2 H4 _ pv => by obtain ⟨_, _, _, rfl, _⟩ := pv; exact SqL.of hl3) (fun j v σ2 H4 hv pv => ?_) (fun σ2 H4 pv => ?_)⟩
      · obtain ⟨o3, y, rfl, rfl, bi⟩ := pv
        rw [List.getElem?_map] at hv
        obtain ⟨z, hz, rfl⟩ := Option.map_eq_some_iff.mp hv
        have st := bi.step pw hz
        refine ⟨_, rfl, _, rfl, _, _, rfl, rfl, _, rfl, ite2 (fun e => ?_) (fun e => ?_)⟩
        · rw [if_pos (of_decide_eq_true e)] at st
          exact ⟨_, rfl, _, _, rfl, rfl, _, _, rfl, rfl, st⟩
        · rw [if_neg (fun g => e (decide_eq_true g))] at st
          exact ⟨_, _, rfl, rfl, st⟩
      · obtain ⟨o3, y, rfl, rfl, bi⟩ := pv
        have sl := perm.length_eq
        rw [List.length_map] at bi
        have ny : y ∉ ms := fun g => bi.done (perm.mem_iff.mpr g)
        have yb := bi.2.1
        have ya := bi.1
        refine ⟨_, rfl, .inl ⟨rfl, _, SqL.of hp3⟩, _, rfl, p, _, _, rfl, rfl, hp3, small1000' (by rw [List.length_map]; omega), _, _, _, ms ++ [y], rfl, by rw [List.length_append, hl]; rfl, ?_, fun k hk => ?_, ?_, ?_, hT3.put off⟩
        · exact List.nodup_append.mpr ⟨hnd, List.pairwise_singleton _ _, fun a ha b hb z => by rw [List.mem_singleton.mp hb] at z; rw [z] at ha; exact ny ha⟩
        · rcases List.mem_append.mp hk with hk | hk
          · exact hrg k hk
          · rw [List.mem_singleton.mp hk]
            omega
        · rw [upd_same, List.map_append]
          rfl
        · intro b o nb e
          have nbp : b ≠ p := ne_of_none e np
          rw [upd_ne nbp]
          exact kp3 b o nb e
    · obtain ⟨o1, o2, o3, ms, rfl, hl, hnd, hrg, hp, kp, hT1⟩ := pv
      exact ⟨_, rfl, q p ms _ np hp (by omega) hnd hrg kp hT1⟩
def sp__law_nexts (K : PySem.W.Frag) : Sp := fun vs H Q _ => ∃ (t c pl : Addr) (ms : List Int), vs = [.ref t, .ref pl] ∧ Tape H t c ∧ pl ≠ t ∧ H pl = some (.lst (ms.map V.int)) ∧ ms.Nodup ∧ ms.length ≤ 1000 ∧
  ∀ p (nx : List (Key × V)) H', H p = none → H' p = some (.dK nx) → nx.map (·.1) = ms.map Sum.inl → (∀ k ∈ ms, ∃ x ∈ ms, valV nx (.inl k) = some (.int x)) → Kp t H H' → Tape H' t c → Q (.ref p) H'
theorem T0.ok__law_nexts (T : T0 K mg) : FnOk P w K mg base CX0 2 T.a__law_nexts T.fd__law_nexts ["tape", "places"] (sp__law_nexts K) := by
  refine T.F__law_nexts.ok sc__law_nexts (fun vs H Q E h => ?_) (fun cdv A outer s H vs Q E hr h => ?_)
  · obtain ⟨t, c, pl, ms, rfl, _⟩ := h
    rfl
  · obtain ⟨t, c, pl, ms, rfl, hT, n1, hp, hnd, l1, q⟩ := h
    refine ⟨_, (pss_cons (ps_set (i := 2) sc__law_nexts.nd rfl (Or.inl rfl) pe_dnewK)
        (pss_cons (ps_set (i := 3) sc__law_nexts.nd rfl (Or.inl rfl) (pe_callB (call_lenK (K := K)) (by rfl) T.m_len PySem.boot_len (pa_cons (pv 1) pa_nil)))
        (pss_cons (ps_set (i := 4) sc__law_nexts.nd rfl (Or.inl rfl) pe_int)
        (pss_cons (ps_set (i := 5) sc__law_nexts.nd rfl (Or.inl rfl) pe_int)
        (pss_cons (ps_set (i := 6) sc__law_nexts.nd rfl (Or.inl rfl) pe_int)
        (pss_cons (ps_for PassesOwn.never rfl (pi_range1 (by rfl) T.m_range (pa_cons (pv 3) pa_nil)) (pg_name (i := 7) sc__law_nexts.nd rfl (Or.inl rfl)) (C8.pss_cut (ps_if (pt_cmpR op_eq (pv 7) (pv 5) (nomark _)) (pss_cons (ps_set (i := 4) sc__law_nexts.nd rfl (Or.inl rfl) (pv 7))
        (pss_cons (ps_set (i := 5) sc__law_nexts.nd rfl (Or.inl rfl) (pv 3))
        (C8.pss_cut (ps_if (pt_cmpR op_eq (pe_call T.ok__law_pick hr (by rfl) T.g__law_pick T.k__law_pick T.b__law_pick .nil pass0 (pa_cons (pv 0) (pa_cons pe_int pa_nil))) pe_int (nomark _)) (pss_one (ps_set (i := 5) sc__law_nexts.nd rfl (Or.inl rfl) (pe_op op_add (pe_op op_add (pv 7) pe_int) (pe_call T.ok__law_pick hr (by rfl) T.g__law_pick T.k__law_pick T.b__law_pick .nil pass0 (pa_cons (pv 0) (pa_cons (pe_op op_sub (pv 3) (pv 7)) pa_nil)))))) pss_nil)
        (pss_one (ps_set (i := 6) sc__law_nexts.nd rfl (Or.inl rfl) (pe_op op_add pe_int (pe_call T.ok__law_pick hr (by rfl) T.g__law_pick T.k__law_pick T.b__law_pick .nil pass0 (pa_cons (pv 0) (pa_cons (pe_op op_sub (pv 5) (pv 4)) pa_nil))))))))) pss_nil)
        (pss_one (ps_if (pt_cmpR op_lt (pe_op op_sub (pv 7) (pv 4)) (pe_op op_sub (pv 6) pe_int) (nomark _)) (pss_one (ps_asg (pe_ix (ix_listK (K := K)) (pv 1) (pe_op op_add (pv 7) pe_int) (fun _ _ => rfl)) (pg_sub (pv 2) (pe_ix (ix_listK (K := K)) (pv 1) (pv 7) (fun _ _ => rfl)) (set_dict (un1 hr))))) (pss_one (ps_if (pt_cmpR op_eq (pe_op op_sub (pv 7) (pv 4)) (pe_op op_sub (pv 6) pe_int) (nomark _)) (pss_one (ps_asg (pe_ix (ix_listK (K := K)) (pv 1) (pv 4) (fun _ _ => rfl)) (pg_sub (pv 2) (pe_ix (ix_listK (K := K)) (pv 1) (pv 7) (fun _ _ => rfl)) (set_dict (un1 hr))))) (pss_one (ps_asg (pe_ix (ix_listK (K := K)) (pv 1) (pe_op op_add (pv 4) (pe_call T.ok__law_pick hr (by rfl) T.g__law_pick T.k__law_pick T.b__law_pick .nil pass0 (pa_cons (pv 0) (pa_cons (pe_op op_sub (pv 7) (pv 4)) pa_nil)))) (fun _ _ => rfl)) (pg_sub (pv 2) (pe_ix (ix_listK (K := K)) (pv 1) (pv 7) (fun _ _ => rfl)) (set_dict (un1 hr)))))))))))
        (pss_one (ps_ret (pv 2))))))))), fun D nD => ?_⟩
    have oD := hT.off nD
    have hp1 := (upd_ne (o := .dK []) (ne_of_none hp nD)).trans hp
    refine ⟨_, rfl, pl, _, rfl, .inl (SqL.of hp1), ?_⟩
    rw [List.length_map]
    refine ⟨_, rfl, (ms.length : Int), rfl, by omega, by omega, ?_⟩
    rw [Int.toNat_natCast]
    refine for_range (lo := 0) (n := ms.length) (fun i σ' H' => ∃ (f l r : Int) (o7 : Option V) (nx : List (Key × V)), σ' = [some (.ref t), some (.ref pl), some (.ref D), some (.int ms.length), some (.int f), some (.int l), some (.int r), o7] ∧ 0 ≤ f ∧ f ≤ i ∧ i ≤ l ∧ l ≤ ms.length ∧ (i < l → 1 ≤ r ∧ r ≤ l - f) ∧ H' D = some (.dK nx) ∧ nx.map (·.1) = (ms.take i).map Sum.inl ∧ (∀ k ∈ ms.take i, ∃ x ∈ ms, valV nx (.inl k) = some (.int x)) ∧ Kp t H H' ∧ Tape H' t c)
      ⟨0, 0, 0, none, [], rfl, by omega, by omega, by omega, by omega, fun h => by omega, upd_same, by rw [List.take_zero]; rfl, fun k h => (by rw [List.take_zero] at h; cases h), Kp.of_same (same_upd nD), hT.put oD⟩ (fun i σ' H' hi pv => ?_) (fun σ' H' pv => ?_)
    · obtain ⟨f, l, r, o7, nx, rfl, f0, fi, il, lN, hr', hD, hk, hx, k1, T1⟩ := pv
      rw [Int.zero_add]
      refine ⟨fun σ' H' => ∃ f l r : Int, σ' = [some (.ref t), some (.ref pl), some (.ref D), some (.int ms.length), some (.int f), some (.int l), some (.int r), some (.int i)] ∧ 0 ≤ f ∧ f ≤ i ∧ i < l ∧ l ≤ ms.length ∧ 1 ≤ r ∧ r ≤ l - f ∧ H' D = some (.dK nx) ∧ Kp t H H' ∧ Tape H' t c, ?_, ?_⟩
      · refine ⟨_, rfl, _, rfl, rfl, _, rfl, ite2 (fun e => ?_) (fun e => ?_)⟩
        · refine ⟨_, rfl, _, rfl, ?_⟩
          refine ⟨fun σ' H' => ∃ l : Int, σ' = [some (.ref t), some (.ref pl), some (.ref D), some (.int ms.length), some (.int i), some (.int l), some (.int r), some (.int i)] ∧ i < l ∧ l ≤ ms.length ∧ H' D = some (.dK nx) ∧ Kp t H H' ∧ Tape H' t c, ?_, ?_⟩
          · refine ⟨_, rfl, t, c, 4, rfl, T1, by decide, by decide, fun d H2 d0 d1 k2 T2 => ⟨rfl, _, rfl, ite2 (fun _ => ?_) (fun _ => ?_)⟩⟩
            · refine ⟨_, rfl, _, _, rfl, rfl, _, rfl, _, rfl, _, rfl, _, _, rfl, rfl, t, c, ms.length - i, rfl, T2, by omega, by omega, fun d H3 d0 d1 k3 T3 => ⟨_, _, rfl, rfl, _, rfl, by omega, by omega, k3 _ _ oD.1 (k2 _ _ oD.1 hD), (k1.trans k2).trans k3, T3⟩⟩
            · exact ⟨_, rfl, by omega, by omega, k2 _ _ oD.1 hD, k1.trans k2, T2⟩
          rintro _ H3 ⟨l', rfl, il', lN', hD3, k3, T3⟩
          refine ⟨_, rfl, _, rfl, _, rfl, _, _, rfl, rfl, t, c, l' - i, rfl, T3, by omega, by omega, fun d H4 d0 d1 k4 T4 => ⟨_, _, rfl, rfl, i, l', 1 + d, rfl, by omega, by omega, il', lN', by omega, by omega, k4 _ _ oD.1 hD3, k3.trans k4, T4⟩⟩
        · have ne : ¬ (i : Int) = l := fun z => e (decide_eq_true (congrArg V.int z))
          exact ⟨f, l, r, rfl, f0, fi, by omega, lN, (hr' (by omega)).1, (hr' (by omega)).2, hD, k1, T1⟩
      rintro _ H2 ⟨f, l, r, rfl, f0, fi, il, lN, r1, r2, hD2, k2, T2⟩
      have hp2 := k2 _ _ n1 hp
      have gi : ms[i]? = some ms[i] := List.getElem?_eq_getElem hi
      have lx : nx.length = (ms.take i).length := by have := congrArg List.length hk; rw [List.length_map, List.length_map] at this; exact this
      have sx : nx.length < sizeLine := small1000' (by rw [lx, List.length_take]; omega)
      have fin : ∀ (H3 : Hp) (x : Int), x ∈ ms → Kp t H H3 → Tape H3 t c → ∃ (f' l' r' : Int) (o7 : Option V) (nx' : List (Key × V)), [some (V.ref t), some (.ref pl), some (.ref D), some (.int ms.length), some (.int f), some (.int l), some (.int r), some (.int i)] = [some (.ref t), some (.ref pl), some (.ref D), some (.int ms.length), some (.int f'), some (.int l'), some (.int r'), o7] ∧ 0 ≤ f' ∧ f' ≤ ((i + 1 : Nat) : Int) ∧ ((i + 1 : Nat) : Int) ≤ l' ∧ l' ≤ ms.length ∧ (((i + 1 : Nat) : Int) < l' → 1 ≤ r' ∧ r' ≤ l' - f') ∧ upd H3 D (.dK (putK nx (.inl ms[i]) (.int x))) D = some (.dK nx') ∧ nx'.map (·.1) = (ms.take (i + 1)).map Sum.inl ∧ (∀ k ∈ ms.take (i + 1), ∃ x ∈ ms, valV nx' (.inl k) = some (.int x)) ∧ Kp t H (upd H3 D (.dK (putK nx (.inl ms[i]) (.int x)))) ∧ Tape (upd H3 D (.dK (putK nx (.inl ms[i]) (.int x)))) t c := fun H3 x mx k3 T3 => by
        refine ⟨f, l, r, _, _, rfl, f0, by omega, by omega, lN, fun _ => ⟨r1, r2⟩, upd_same, ?_, fun k hk2 => ?_, fun a o na e => ?_, T3.put oD⟩
        · rw [putK_new _ (valV_none_keys hk (not_in_take hnd gi)), List.map_append, hk, List.take_add_one, gi, Option.toList_some, List.map_append]
          rfl
        · rw [valV_put]
          by_cases e : k = ms[i]
          · rw [e, if_pos rfl]
            exact ⟨x, mx, rfl⟩
          · rw [if_neg (fun z => e (Sum.inl.inj z))]
            rw [List.take_add_one, gi, Option.toList_some] at hk2
            exact hx k ((List.mem_append.mp hk2).resolve_right (fun z => e (List.mem_singleton.mp z)))
        · exact (upd_ne (ne_of_none e nD)).trans (k3 _ _ na e)
      have pick : ∀ (j : Nat) (h : j < ms.length), atI (ms.map V.int) (j : Int) = some (.int ms[j]) := fun j h => at_ints h
      refine ⟨_, rfl, _, rfl, _, _, rfl, rfl, _, rfl, _, _, rfl, rfl, _, _, rfl, rfl, _, rfl, ite2 (fun e => ?_) (fun e => ?_)⟩
      · have e := of_decide_eq_true e
        have hj : i + 1 < ms.length := by omega
        exact ⟨_, rfl, _, rfl, _, _, rfl, rfl, pl, _, _, .int ms[i + 1], rfl, rfl, SqL.of hp2, pick (i + 1) hj, _, rfl, _, rfl, _, rfl, pl, _, _, .int ms[i], rfl, rfl, SqL.of hp2, pick i hi, D, _, rfl, DPut.k (k := Sum.inl ms[i]) hD2 sx, fin H2 ms[i + 1] (List.getElem_mem _) k2 T2⟩
      · refine ⟨_, rfl, _, rfl, _, _, rfl, rfl, _, rfl, _, _, rfl, rfl, rfl, _, rfl, ite2 (fun g => ?_) (fun g => ?_)⟩
        · have hj : f.toNat < ms.length := by omega
          have ef : f = ((f.toNat : Nat) : Int) := by omega
          exact ⟨_, rfl, _, rfl, pl, _, _, .int ms[f.toNat], rfl, rfl, SqL.of hp2, (congrArg (atI (ms.map V.int)) ef).trans (pick _ hj), _, rfl, _, rfl, _, rfl, pl, _, _, .int ms[i], rfl, rfl, SqL.of hp2, pick i hi, D, _, rfl, DPut.k (k := Sum.inl ms[i]) hD2 sx, fin H2 ms[f.toNat] (List.getElem_mem _) k2 T2⟩
        · have e : ¬ (i : Int) - f < r - 1 := fun z => e (decide_eq_true z)
          have g : ¬ (i : Int) - f = r - 1 := fun z => g (decide_eq_true (congrArg V.int z))
          refine ⟨_, rfl, _, rfl, _, rfl, _, rfl, _, rfl, _, _, rfl, rfl, t, c, i - f, rfl, T2, by omega, by omega, fun d H3 d0 d1 k3 T3 => ?_⟩
          have hj : (f + d).toNat < ms.length := by omega
          have ef : f + d = (((f + d).toNat : Nat) : Int) := by omega
          have hp3 := k3 _ _ n1 hp2
          exact ⟨_, _, rfl, rfl, pl, _, _, .int ms[(f + d).toNat], rfl, rfl, SqL.of hp3, (congrArg (atI (ms.map V.int)) ef).trans (pick _ hj), _, rfl, _, rfl, _, rfl, pl, _, _, .int ms[i], rfl, rfl, SqL.of hp3, pick i hi, D, _, rfl, DPut.k (k := Sum.inl ms[i]) (k3 _ _ oD.1 hD2) sx, fin H3 ms[(f + d).toNat] (List.getElem_mem _) (k2.trans k3) T3⟩
    · obtain ⟨f, l, r, o7, nx, rfl, f0, fi, il, lN, hr', hD, hk, hx, k1, T1⟩ := pv
      rw [List.take_length] at hk hx
      exact ⟨_, rfl, q D nx _ nD hD hk hx k1 T1⟩
theorem cut_lo {ms : List Int} {d : Int} (h0 : 0 ≤ d) : cutV (ms.map V.int) none (some d) = (ms.take d.toNat).map V.int := by
  unfold cutV
  rw [HT.sIx_none, show HT.sIx (ms.map V.int).length (ms.map V.int).length (some d) = min d.toNat (ms.map V.int).length from if_neg (by omega), List.drop_zero, List.length_map, List.map_take, Nat.sub_zero]
  by_cases e : d.toNat ≤ ms.length
  · rw [Nat.min_eq_left e]
  · rw [Nat.min_eq_right (by omega), List.take_of_length_le (by rw [List.length_map]; omega), List.take_of_length_le (by rw [List.length_map]; omega)]
theorem cut_hi {ms : List Int} {d : Int} (h0 : 0 ≤ d) : cutV (ms.map V.int) (some d) none = (ms.drop d.toNat).map V.int := by
  unfold cutV
  rw [HT.sIx_none, show HT.sIx (ms.map V.int).length 0 (some d) = min d.toNat (ms.map V.int).length from if_neg (by omega), List.length_map, List.map_drop]
  by_cases e : d.toNat ≤ ms.length
  · rw [Nat.min_eq_left e, List.take_of_length_le (by rw [List.length_drop, List.length_map]; omega)]
  · rw [Nat.min_eq_right (by omega), List.drop_of_length_le (by rw [List.length_map]; omega), List.drop_of_length_le (by rw [List.length_map]; omega), List.take_nil]
def GK (ms ks : List Int) (nx : List (Key × V)) : Prop := nx.map (·.1) = ks.map Sum.inl ∧ ∀ k ∈ ks, ∃ x ∈ ms, valV nx (.inl k) = some (.int x)
def sp__law_parts (K : PySem.W.Frag) : Sp := fun vs H Q _ => ∃ (t c pl : Addr) (ms : List Int), vs = [.ref t, .ref pl] ∧ Tape H t c ∧ pl ≠ t ∧ H pl = some (.lst (ms.map V.int)) ∧ ms.Nodup ∧ ms.length ≤ 1000 ∧
  ∀ p (nx : List (Key × V)) H', H p = none → H' p = some (.dK nx) → GN ms nx → Kp t H H' → Tape H' t c → Q (.ref p) H'
--CUT
theorem draw {t c l : Addr} {ms : List Int} {H1 : Hp} (nl : l ≠ t) (e : H1 l = some (.lst (ms.map V.int))) (h0 : 0 < ms.length) (h1 : ms.length ≤ 1000) (t1 : Tape H1 t c) {Q' : VK} (k : ∀ (z : Int) H2, z ∈ ms → Kp t H1 H2 → Tape H2 t c → Q' (.int z) H2) :
    (sp__law_pick K) ([.ref t, .int ((ms.map V.int).length : Int)] ++ []) H1 (fun y H2 => rIxL K (.ref l) y H2 Q') E0 := by
  refine ⟨t, c, _, rfl, t1, by rw [List.length_map]; omega, by rw [List.length_map]; omega, fun z H2 z0 z1 k2 t2 => ?_⟩
  rw [List.length_map] at z1
  have hz : z.toNat < ms.length := by omega
  have az : atI (ms.map V.int) z = some (.int ms[z.toNat]) := by
    rw [← at_ints hz, Int.toNat_of_nonneg z0]
  exact ⟨l, _, z, _, rfl, rfl, SqL.of (k2 _ _ nl e), az, k _ H2 (List.getElem_mem hz) k2 t2⟩
/-- the houses whose next is y -/
def hO (nx : List (Key × V)) (ys : List Int) (y : Int) : List Int := ys.filter fun o => decide (iN nx o = y)
def sp__law_behinds (K : PySem.W.Frag) : Sp := fun vs H Q _ => ∃ (t c dN : Addr) (ks : List Int) (nx : List (Key × V)), vs = [.ref t, .ref dN] ∧ Tape H t c ∧ dN ≠ t ∧ H dN = some (.dK nx) ∧ GN ks nx ∧ ks.Nodup ∧ ks.length < 64 ∧
  ∀ p (bs : List (Key × V)) H', H p = none → H' p = some (.dK bs) → GB ks bs → KB bs → Kp t H H' → Tape H' t c → Q (.ref p) H'
--CUT
theorem LAt.kp {α : Type} {f : α → List V} {t c : Addr} {H H' : Hp} {vs : List V} {qs : List α} (h : LAt f H vs qs) (T : Tape H t c) (k : Kp t H H') : LAt f H' vs qs := by
  obtain ⟨⟨xt, et⟩, _⟩ := tape_at T
  exact h.mono fun a xs e => k _ _ (ne_kind e et (fun z => nomatch z)) e
def Ltr (ks : List Int) (H : Hp) (vs : List V) (Ls : List Let) : Prop := LAt Let.vals H vs Ls ∧ ∀ L ∈ Ls, ∀ k ∈ L.ns, k ∈ ks
theorem Ltr.kp {ks : List Int} {t c : Addr} {H H' : Hp} {vs : List V} {Ls : List Let} (h : Ltr ks H vs Ls) (T : Tape H t c) (k : Kp t H H') : Ltr ks H' vs Ls := ⟨h.1.kp T k, h.2⟩
theorem Ltr.same {ks : List Int} {H H' : Hp} {vs : List V} {Ls : List Let} (h : Ltr ks H vs Ls) (s : Same H H') : Ltr ks H' vs Ls := ⟨h.1.same s, h.2⟩
theorem Ltr.app {ks : List Int} {H : Hp} {vs : List V} {Ls : List Let} {a : Addr} {L : Let} (h : Ltr ks H vs Ls) (e : H a = some (.tup L.vals)) (g : ∀ k ∈ L.ns, k ∈ ks) : Ltr ks H (vs ++ [.ref a]) (Ls ++ [L]) := ⟨h.1.app e, fun M hM => (List.mem_append.mp hM).elim (h.2 M) fun z => by rw [List.mem_singleton.mp z]; exact g⟩
def sp__law_post (K : PySem.W.Frag) : Sp := fun vs H Q _ => ∃ (t c dN : Addr) (ks : List Int) (nx : List (Key × V)), vs = [.ref t, .ref dN] ∧ Tape H t c ∧ dN ≠ t ∧ H dN = some (.dK nx) ∧ GN ks nx ∧ ks.Nodup ∧ ks.length < 64 ∧
  ∀ p (us : List V) (Ls : List Let) H', H p = none → H' p = some (.lst us) → Ltr ks H' us Ls → us.length ≤ 60 → Kp t H H' → Tape H' t c → Q (.ref p) H'
--CUT
/-! ### one net and what stands beside it -/
structure Bd where
  (h dn db dl dN dB pO : Addr)
structure Ws where
  ks : List Int
  (nx bs bf : List (Key × V))
  (ps ls : List V)
structure NJ (CN t c : Addr) (A : Bd) (n : Int) (S : Ws) (H : Hp) : Prop where
  tape : Tape H t c
  net : NetAt CN H A.h n A.dn A.db A.dl S.nx S.bf S.ls
  hN : H A.dN = some (.dK S.nx)
  hB : H A.dB = some (.dK S.bs)
  hP : H A.pO = some (.lst S.ps)
  gn : GN S.ks S.nx
  nd : S.ks.Nodup
  rng : ∀ k ∈ S.ks, 0 ≤ k ∧ k < n
  n0 : 0 < n
  gb : GB S.ks S.bs
  kb : KB S.bs
  vf : VF S.ks S.bf S.bs
  lets : Alike (LetSame H S.ks) S.ps S.ls
  ndl : A.pO ≠ t ∧ A.pO ≠ c ∧ A.dl ≠ t ∧ A.dl ≠ c ∧ A.pO ≠ A.dl
  ndd : A.dn ≠ A.db ∧ A.dn ≠ A.dN ∧ A.dn ≠ A.dB ∧ A.db ≠ A.dN ∧ A.db ≠ A.dB ∧ A.dN ≠ A.dB
  lks : S.ks.length ≤ 41
  lps : S.ps.length ≤ 60
  lbf : S.bf.length ≤ 200
/-- nothing but the tape and what belongs to A has changed -/
def Fo (t : Addr) (A : Bd) (H H' : Hp) : Prop := ∀ a o, a ≠ t → a ≠ A.dn → a ≠ A.db → a ≠ A.dl → a ≠ A.dN → a ≠ A.dB → a ≠ A.pO → H a = some o → H' a = some o
theorem Fo.of {t : Addr} {A : Bd} {H H' : Hp} (s : Same H H') : Fo t A H H' := fun a o _ _ _ _ _ _ _ e => s a o e
theorem Fo.kp {t : Addr} {A : Bd} {H H' : Hp} (s : Kp t H H') : Fo t A H H' := fun a o n _ _ _ _ _ _ e => s a o n e
theorem Fo.trans {t : Addr} {A : Bd} {H H' H2 : Hp} (f : Fo t A H H') (g : Fo t A H' H2) : Fo t A H H2 := fun a o n1 n2 n3 n4 n5 n6 n7 e => g a o n1 n2 n3 n4 n5 n6 n7 (f a o n1 n2 n3 n4 n5 n6 n7 e)
section
variable {CN t c : Addr} {A : Bd} {n : Int} {S : Ws} {H H' : Hp}
theorem NJ.kp (I : NJ CN t c A n S H) (f : Kp t H H') (T : Tape H' t c) : NJ CN t c A n S H' := by
  obtain ⟨⟨xt, et⟩, _⟩ := tape_at I.tape
  have g : ∀ {a : Addr} {o : HO}, H a = Option.some o → (∀ xs, o ≠ .lst xs) → H' a = Option.some o := fun e no => f _ _ (fun z => by rw [z, et] at e; exact no _ (Option.some.inj e).symm) e
  exact { I with
    tape := T
    net := ⟨let ⟨d, e⟩ := I.net.me; ⟨d, g e (fun _ z => nomatch z)⟩, g I.net.hn (fun _ z => nomatch z), g I.net.hb (fun _ z => nomatch z), f _ _ I.ndl.2.2.1 I.net.hl⟩
    hN := g I.hN (fun _ z => nomatch z)
    hB := g I.hB (fun _ z => nomatch z)
    hP := f _ _ I.ndl.1 I.hP
    lets := I.lets.mono fun _ _ h => h.mono (fun _ _ e => g e (fun _ z => nomatch z)) fun _ h => h }
theorem NJ.same (I : NJ CN t c A n S H) (s : Same H H') : NJ CN t c A n S H' := I.kp (.of_same s) (I.tape.same s)
/-- other tables, other letters, all in their places -/
theorem NJ.set (I : NJ CN t c A n S H) {nx bs bf : List (Key × V)} {ps ls : List V} (f : Fo t A H H') (ft : ∀ a xs, H a = some (.lst xs) → a ≠ A.dl → a ≠ A.pO → H' a = some (.lst xs)) (net : NetAt CN H' A.h n A.dn A.db A.dl nx bf ls) (hN : H' A.dN = some (.dK nx)) (hB : H' A.dB = some (.dK bs)) (hP : H' A.pO = some (.lst ps))
    (gn : GN S.ks nx) (gb : GB S.ks bs) (kb : KB bs) (vf : VF S.ks bf bs) (lt : Alike (LetSame H' S.ks) ps ls) (lp : ps.length ≤ 60) (lb : bf.length = S.bf.length) : NJ CN t c A n { S with nx := nx, bs := bs, bf := bf, ps := ps, ls := ls } H' := by
  obtain ⟨cs, a, b, k, r, e1, e2, e3, e4⟩ := I.tape
  exact {
    tape := ⟨cs, a, b, k, r, ft _ _ e1 I.ndl.2.2.1.symm I.ndl.1.symm, ft _ _ e2 I.ndl.2.2.2.1.symm I.ndl.2.1.symm, e3, e4⟩
    net := net, hN := hN, hB := hB, hP := hP, gn := gn, nd := I.nd, rng := I.rng, n0 := I.n0, gb := gb, kb := kb, vf := vf, lets := lt, ndl := I.ndl, ndd := I.ndd, lks := I.lks, lps := lp
    lbf := by show bf.length ≤ 200; rw [lb]; exact I.lbf }
/-- a tuple stays -/
theorem NJ.tup (I : NJ CN t c A n S H) (f : Fo t A H H') {a : Addr} {xs : List V} (e : H a = some (.tup xs)) : H' a = some (.tup xs) := by
  obtain ⟨⟨xt, et⟩, _⟩ := tape_at I.tape
  exact f _ _ (ne_kind e et (fun z => nomatch z)) (ne_kind e I.net.hn (fun z => nomatch z)) (ne_kind e I.net.hb (fun z => nomatch z)) (ne_kind e I.net.hl (fun z => nomatch z)) (ne_kind e I.hN (fun z => nomatch z)) (ne_kind e I.hB (fun z => nomatch z)) (ne_kind e I.hP (fun z => nomatch z)) e
/-- two nets apart -/
def Dj (A B : Bd) : Prop := (∀ a ∈ [B.dn, B.db, B.dN, B.dB], a ≠ A.dn ∧ a ≠ A.db ∧ a ≠ A.dN ∧ a ≠ A.dB) ∧ ∀ a ∈ [B.dl, B.pO], a ≠ A.dl ∧ a ≠ A.pO
theorem NJ.other {B : Bd} {S2 : Ws} (J : NJ CN t c B n S2 H) (I : NJ CN t c A n S H) (f : Fo t A H H') (T : Tape H' t c) (d : Dj A B) : NJ CN t c B n S2 H' := by
  obtain ⟨⟨xt, et⟩, _⟩ := tape_at I.tape
  have dk : ∀ {a : Addr} {z : List (Key × V)}, a ∈ [B.dn, B.db, B.dN, B.dB] → H a = some (.dK z) → H' a = some (.dK z) := fun m e => by
    obtain ⟨n1, n2, n3, n4⟩ := d.1 _ m
    exact f _ _ (ne_kind e et (fun z => nomatch z)) n1 n2 (ne_kind e I.net.hl (fun z => nomatch z)) n3 n4 (ne_kind e I.hP (fun z => nomatch z)) e
  have dl : ∀ {a : Addr} {z : List V}, a ∈ [B.dl, B.pO] → a ≠ t → H a = some (.lst z) → H' a = some (.lst z) := fun m nt e => by
    obtain ⟨n1, n2⟩ := d.2 _ m
    exact f _ _ nt (ne_kind e I.net.hn (fun z => nomatch z)) (ne_kind e I.net.hb (fun z => nomatch z)) n1 (ne_kind e I.hN (fun z => nomatch z)) (ne_kind e I.hB (fun z => nomatch z)) n2 e
  exact { J with
    tape := T
    net := ⟨let ⟨dx, e⟩ := J.net.me; ⟨dx, f _ _ (ne_kind e et (fun z => nomatch z)) (ne_kind e I.net.hn (fun z => nomatch z)) (ne_kind e I.net.hb (fun z => nomatch z)) (ne_kind e I.net.hl (fun z => nomatch z)) (ne_kind e I.hN (fun z => nomatch z)) (ne_kind e I.hB (fun z => nomatch z)) (ne_kind e I.hP (fun z => nomatch z)) e⟩, dk (by simp) J.net.hn, dk (by simp) J.net.hb, dl (by simp) J.ndl.2.2.1 J.net.hl⟩
    hN := dk (by simp) J.hN
    hB := dk (by simp) J.hB
    hP := dl (by simp) J.ndl.1 J.hP
    lets := J.lets.mono fun _ _ h => h.mono (fun _ _ e => I.tup f e) fun _ h => h }
end
theorem insert_sorted (a : Int) : ∀ l : List Int, l.Pairwise (· ≤ ·) → ∃ l' : List Int, l'.Perm (a :: l) ∧ l'.Pairwise (· ≤ ·)
  | [], _ => ⟨[a], .refl _, List.pairwise_singleton _ _⟩
  | b :: r, h => by
    obtain ⟨h1, h2⟩ := List.pairwise_cons.mp h
    by_cases e : a ≤ b
    · refine ⟨a :: b :: r, .refl _, List.pairwise_cons.mpr ⟨fun x hx => ?_, h⟩⟩
      rcases List.mem_cons.mp hx with rfl | hx
      · exact e
      · have := h1 x hx
        omega
    · obtain ⟨l', p, s⟩ := insert_sorted a r h2
      refine ⟨b :: l', (List.Perm.cons b p).trans (List.Perm.swap a b r), List.pairwise_cons.mpr ⟨fun x hx => ?_, s⟩⟩
      rcases List.mem_cons.mp (p.mem_iff.mp hx) with rfl | hx
      · omega
      · exact h1 x hx
theorem exists_sorted : ∀ l : List Int, ∃ l' : List Int, l'.Perm l ∧ l'.Pairwise (· ≤ ·)
  | [] => ⟨[], .refl _, List.Pairwise.nil⟩
  | a :: r => by
    obtain ⟨l, p, s⟩ := exists_sorted r
    obtain ⟨l', p', s'⟩ := insert_sorted a l s
    exact ⟨l', p'.trans (List.Perm.cons a p), s'⟩
structure WK where
  ks : List Int
  (nx bs bf : List (Key × V))
  (ps ls : List V)
  Ls : List Let
structure NK (CN t c : Addr) (A : Bd) (n : Int) (m : Nat) (S : WK) (H : Hp) : Prop where
  tape : Tape H t c
  net : NetAt CN H A.h n A.dn A.db A.dl S.nx S.bf S.ls
  hN : H A.dN = some (.dK S.nx)
  hB : H A.dB = some (.dK S.bs)
  hP : H A.pO = some (.lst S.ps)
  gn : GN S.ks S.nx
  nd : S.ks.Nodup
  rng : ∀ k ∈ S.ks, 0 ≤ k ∧ k < n
  n0 : 0 < n
  n9 : n ≤ 1000000000
  gc : GC S.ks S.bs
  kb : KB S.bs
  vf : VF S.ks S.bf S.bs
  lp : Ltr S.ks H S.ps S.Ls
  ll : Ltr S.ks H S.ls S.Ls
  ndl : A.pO ≠ t ∧ A.pO ≠ c ∧ A.dl ≠ t ∧ A.dl ≠ c ∧ A.pO ≠ A.dl
  ndd : A.dn ≠ A.db ∧ A.dn ≠ A.dN ∧ A.dn ≠ A.dB ∧ A.db ≠ A.dN ∧ A.db ≠ A.dB ∧ A.dN ≠ A.dB
  lks : S.ks.length ≤ 40
  lps : S.ps.length ≤ 60 + m
  lbf : S.bf.length ≤ 100 + m
section
variable {CN t c : Addr} {A : Bd} {n : Int} {m : Nat} {S : WK} {H H' : Hp}
theorem NK.kp (I : NK CN t c A n m S H) (f : Kp t H H') (T : Tape H' t c) : NK CN t c A n m S H' := by
  obtain ⟨⟨xt, et⟩, _⟩ := tape_at I.tape
  have g : ∀ {a : Addr} {o : HO}, H a = Option.some o → (∀ xs, o ≠ .lst xs) → H' a = Option.some o := fun e no => f _ _ (fun z => by rw [z, et] at e; exact no _ (Option.some.inj e).symm) e
  exact { I with
    tape := T
    net := ⟨let ⟨d, e⟩ := I.net.me; ⟨d, g e (fun _ z => nomatch z)⟩, g I.net.hn (fun _ z => nomatch z), g I.net.hb (fun _ z => nomatch z), f _ _ I.ndl.2.2.1 I.net.hl⟩
    hN := g I.hN (fun _ z => nomatch z)
    hB := g I.hB (fun _ z => nomatch z)
    hP := f _ _ I.ndl.1 I.hP
    lp := I.lp.kp I.tape f
    ll := I.ll.kp I.tape f }
theorem NK.same (I : NK CN t c A n m S H) (s : Same H H') : NK CN t c A n m S H' := I.kp (.of_same s) (I.tape.same s)
theorem NK.more (I : NK CN t c A n m S H) {m' : Nat} (h : m ≤ m') : NK CN t c A n m' S H := { I with lps := Nat.le_trans I.lps (by omega), lbf := Nat.le_trans I.lbf (by omega) }
end
theorem sV_atom {n : Int} (q : Int × Int) : (sV n q).length ≤ 100000 ∧ ∀ y ∈ sV n q, atomV y = true := ⟨by show 3 ≤ 100000; decide, by simp [sV, atomV]⟩
def sp__law_listed (K : PySem.W.Frag) (CN : Addr) : Sp := fun vs H Q _ => ∃ (t c : Addr) (A : Bd) (n : Int) (m : Nat) (S : WK), vs = [.ref A.h, .int n, .ref A.dN, .ref A.dB, .ref A.pO] ∧ NK CN t c A n m S H ∧ m ≤ 10 ∧ ∀ H', Same H H' → Q (.bl true) H'
--CUT
section
variable {ks : List Int} {nx bs bf : List (Key × V)} {p x n r : Int} {v : V} {L : Let}
theorem GN.put (g : GN ks nx) (hp : p ∈ ks) (hx : x ∈ ks) : GN ks (putK nx (.inl p) (.int x)) := by
  refine ⟨?_, fun k hk => ?_⟩
  · rw [keys_putK_old (by obtain ⟨y, _, e⟩ := g.2 p hp; rw [e]; rfl)]
    exact g.1
  · rw [valV_put]
    by_cases e : k = p
    · rw [e, if_pos rfl]
      exact ⟨x, hx, rfl⟩
    · rw [if_neg (fun z => e (Sum.inl.inj z))]
      exact g.2 k hk
theorem GC.put (g : GC ks bs) (hp : p ∈ ks) (hv : v = .non ∨ ∃ x ∈ ks, v = .int x) : GC ks (putK bs (.inl p) v) := fun k u e => by
  rw [valV_put] at e
  by_cases z : k = p
  · rw [if_pos (by rw [z])] at e
    cases e
    exact ⟨by rw [z]; exact hp, hv⟩
  · rw [if_neg (fun y => z (Sum.inl.inj y))] at e
    exact g k u e
theorem VF.put (h : VF ks bf bs) : VF ks (putK bf (.inl p) v) (putK bs (.inl p) v) := fun k hk => by
  unfold bef
  rw [valV_put, valV_put]
  by_cases e : k = p
  · rw [if_pos (by rw [e]), if_pos (by rw [e])]
    rfl
  · rw [if_neg (fun z => e (Sum.inl.inj z)), if_neg (fun z => e (Sum.inl.inj z))]
    exact h k hk
theorem GC.nB (g : GC ks bs) (hL : ∀ k ∈ L.ns, k ∈ ks) (hr : r ∈ ks) : GC ks (nB n r (bef bs r) L bs) := by
  unfold Z.nB
  split
  · rename_i h
    obtain ⟨u, mu, eu⟩ := (hB_mem (n := n) (r := r) (L := L) (g.ok r)).resolve_left h.2
    exact g.put hr (.inr ⟨u, hL _ mu, eu⟩)
  · exact g
theorem len_putK (h : (valV nx (.inl p)).isSome = true) : (putK nx (.inl p) v).length = nx.length := by
  have := congrArg List.length (keys_putK_old (v := v) h)
  rw [List.length_map, List.length_map] at this
  exact this
theorem GN.adm (g : GN ks nx) (hp : p ∉ ks) (hx : x ∈ ks) : GN (ks ++ [p]) (putK nx (.inl p) (.int x)) := by
  refine ⟨?_, fun k hk => ?_⟩
  · rw [putK_new _ (valV_none_keys g.1 hp), List.map_append, g.1, List.map_append]
    rfl
  · rw [valV_put]
    by_cases e : k = p
    · rw [e, if_pos rfl]
      exact ⟨x, List.mem_append_left _ hx, rfl⟩
    · rw [if_neg (fun z => e (Sum.inl.inj z))]
      obtain ⟨y, my, ey⟩ := g.2 k ((List.mem_append.mp hk).resolve_right (fun z => e (List.mem_singleton.mp z)))
      exact ⟨y, List.mem_append_left _ my, ey⟩
theorem GC.adm (g : GC ks bs) : GC (ks ++ [p]) bs := fun k u e => by
  obtain ⟨h1, h2⟩ := g k u e
  exact ⟨List.mem_append_left _ h1, h2.imp id fun ⟨x, mx, ex⟩ => ⟨x, List.mem_append_left _ mx, ex⟩⟩
theorem VF.adm (h : VF ks bf bs) (g : GC ks bs) (hp : p ∉ ks) : VF (ks ++ [p]) (putK bf (.inl p) .non) bs := fun k hk => by
  rw [valV_put]
  by_cases e : k = p
  · rw [if_pos (by rw [e]), e]
    refine congrArg some (Decidable.byContradiction fun z => hp ?_)
    exact g.mem (fun y => z y.symm)
  · rw [if_neg (fun z => e (Sum.inl.inj z))]
    exact h k ((List.mem_append.mp hk).resolve_right (fun z => e (List.mem_singleton.mp z)))
theorem len_putK_le (kvs : List (Key × V)) (k : Key) (v : V) : (putK kvs k v).length ≤ kvs.length + 1 := by
  unfold putK
  split
  · rw [List.length_map]; omega
  · rw [List.length_append]; exact Nat.le_refl _
end
theorem Ltr.mono {ks ks' : List Int} {H H' : Hp} {vs : List V} {Ls : List Let} (h : Ltr ks H vs Ls) (f : ∀ a xs, H a = some (.tup xs) → H' a = some (.tup xs)) (g : ∀ k ∈ ks, k ∈ ks') : Ltr ks' H' vs Ls := ⟨h.1.mono f, fun L hL k hk => g _ (h.2 L hL k hk)⟩
theorem LAt.erase {α : Type} {f : α → List V} {H : Hp} {vs : List V} {qs : List α} (h : LAt f H vs qs) (k : Nat) : LAt f H (vs.eraseIdx k) (qs.eraseIdx k) := by
  refine ⟨by rw [List.length_eraseIdx, List.length_eraseIdx, h.1], fun i x y e1 e2 => ?_⟩
  rw [List.getElem?_eraseIdx] at e1 e2
  split at e1
  · rename_i g
    rw [if_pos g] at e2
    exact h.2 _ _ _ e1 e2
  · rename_i g
    rw [if_neg g] at e2
    exact h.2 _ _ _ e1 e2
theorem Ltr.erase {ks : List Int} {H : Hp} {vs : List V} {Ls : List Let} (h : Ltr ks H vs Ls) (k : Nat) : Ltr ks H (vs.eraseIdx k) (Ls.eraseIdx k) := ⟨h.1.erase k, fun L hL => h.2 L (List.mem_of_mem_eraseIdx hL)⟩
section
variable {CN t c : Addr} {A : Bd} {n : Int} {m : Nat} {S S' : WK} {H H' : Hp}
theorem NK.lets (I : NK CN t c A n m S H) {k : Nat} (hk : k < S.ps.length) : ∃ (a b : Addr) (L : Let), S.ps[k]? = some (.ref a) ∧ S.ls[k]? = some (.ref b) ∧ S.Ls[k]? = some L ∧ H a = some (.tup L.vals) ∧ H b = some (.tup L.vals) ∧ ∀ j ∈ L.ns, j ∈ S.ks := by
  obtain ⟨a, L, h1, h2, h3⟩ := I.lp.1.at (List.getElem?_eq_getElem hk)
  have hk2 : k < S.ls.length := by rw [I.ll.1.1, ← I.lp.1.1]; exact hk
  obtain ⟨b, h4, h5⟩ := I.ll.1.2 k _ L (List.getElem?_eq_getElem hk2) h1
  exact ⟨a, b, L, by rw [List.getElem?_eq_getElem hk, h2], by rw [List.getElem?_eq_getElem hk2, h4], h1, h3, h5, I.lp.2 L (List.mem_of_getElem? h1)⟩
theorem NK.set (I : NK CN t c A n m S H) (ft : ∀ a xs, H a = some (.lst xs) → a ≠ A.dl → a ≠ A.pO → H' a = some (.lst xs)) (net : NetAt CN H' A.h n A.dn A.db A.dl S'.nx S'.bf S'.ls) (hN : H' A.dN = some (.dK S'.nx)) (hB : H' A.dB = some (.dK S'.bs)) (hP : H' A.pO = some (.lst S'.ps))
    (gn : GN S'.ks S'.nx) (nd : S'.ks.Nodup) (rng : ∀ k ∈ S'.ks, 0 ≤ k ∧ k < n) (gc : GC S'.ks S'.bs) (kb : KB S'.bs) (vf : VF S'.ks S'.bf S'.bs) (lp : Ltr S'.ks H' S'.ps S'.Ls) (ll : Ltr S'.ks H' S'.ls S'.Ls) (lks : S'.ks.length ≤ 40) (lps : S'.ps.length ≤ S.ps.length + 1) (lbf : S'.bf.length ≤ S.bf.length + 1) : NK CN t c A n (m + 1) S' H' := by
  obtain ⟨cs, a, b, k, r, e1, e2, e3, e4⟩ := I.tape
  exact {
    tape := ⟨cs, a, b, k, r, ft _ _ e1 I.ndl.2.2.1.symm I.ndl.1.symm, ft _ _ e2 I.ndl.2.2.2.1.symm I.ndl.2.1.symm, e3, e4⟩
    net := net, hN := hN, hB := hB, hP := hP, gn := gn, nd := nd, rng := rng, n0 := I.n0, n9 := I.n9, gc := gc, kb := kb, vf := vf, lp := lp, ll := ll, ndl := I.ndl, ndd := I.ndd, lks := lks
    lps := by have := I.lps; omega
    lbf := by have := I.lbf; omega }
end
theorem NetAt.putd {C a dn db dl d : Addr} {H : Hp} {n : Int} {nx bf z : List (Key × V)} {ls : List V} {o : HO} (N : NetAt C H a n dn db dl nx bf ls) (e : H d = some (.dK z)) (n1 : dn ≠ d) (n2 : db ≠ d) : NetAt C (upd H d o) a n dn db dl nx bf ls :=
  ⟨let ⟨x, e2⟩ := N.me; ⟨x, (upd_ne (ne_kind e2 e (fun z => nomatch z))).trans e2⟩, (upd_ne n1).trans N.hn, (upd_ne n2).trans N.hb, (upd_ne (ne_kind N.hl e (fun z => nomatch z))).trans N.hl⟩
theorem NetAt.putl {C a dn db dl d : Addr} {H : Hp} {n : Int} {nx bf : List (Key × V)} {ls zs : List V} {o : HO} (N : NetAt C H a n dn db dl nx bf ls) (e : H d = some (.lst zs)) (n1 : dl ≠ d) : NetAt C (upd H d o) a n dn db dl nx bf ls :=
  ⟨let ⟨x, e2⟩ := N.me; ⟨x, (upd_ne (ne_kind e2 e (fun z => nomatch z))).trans e2⟩, (upd_ne (ne_kind N.hn e (fun z => nomatch z))).trans N.hn, (upd_ne (ne_kind N.hb e (fun z => nomatch z))).trans N.hb, (upd_ne n1).trans N.hl⟩
theorem Shot.same {n : Int} {f g : Int → V} {ys : List Int} {H H' : Hp} {p : Addr} {ls : List V} (h : Shot n f g ys H p ls) (s : Same H H') : Shot n f g ys H' p ls := let ⟨r, l, rs, e1, e2, e3, e4⟩ := h; ⟨r, l, rs, s _ _ e1, s _ _ e2, s _ _ e3, e4.same s⟩
theorem Shot.sm {K : PySem.W.Frag} {n : Int} {f g : Int → V} {ys : List Int} {H : Hp} {p q : Addr} {ls ps : List V} {Ls : List Let} (s : Shot n f g ys H p ls) (t : Shot n f g ys H q ps) (hl : LAt Let.vals H ls Ls) (hp : LAt Let.vals H ps Ls) (ha : ∀ y ∈ ys, atomV (f y) = true ∧ atomV (g y) = true) (l1 : ls.length ≤ 100000) (l2 : ys.length ≤ 100000) : Sm K 4 H (.ref p) (.ref q) := by
  obtain ⟨r, l, rs, e1, e2, e3, e4⟩ := s
  obtain ⟨r', l', rs', d1, d2, d3, d4⟩ := t
  refine .tup (SqT.of e1) (SqT.of d1) rfl (by show 3 ≤ 100000; decide) (fun i x y hx hy => ?_)
  match i with
  | 0 => cases hx; cases hy; exact .atom rfl
  | 1 =>
    cases hx; cases hy
    refine .tup (SqT.of e3) (SqT.of d3) (by rw [e4.1, d4.1]) (by rw [d4.1]; exact l2) (e4.sm d4 fun y hy => ⟨by show 3 ≤ 100000; decide, ?_⟩)
    intro v hv
    have hv : v ∈ [V.int y, f y, g y] := hv
    simp only [List.mem_cons, List.not_mem_nil, or_false] at hv
    rcases hv with rfl | rfl | rfl
    · rfl
    · exact (ha y hy).1
    · exact (ha y hy).2
  | 2 =>
    cases hx; cases hy
    exact .tup (SqT.of e2) (SqT.of d2) (by rw [hl.1, hp.1]) (by rw [hp.1, ← hl.1]; exact l1) (hl.sm hp fun L _ => vals_atom L)
  | i + 3 => cases hx
theorem GB.gc {ks : List Int} {bs : List (Key × V)} (g : GB ks bs) : GC ks bs := fun p v e => ⟨(g p v e).1, .inr (g p v e).2⟩
--CUT
/-! ### deeds over a net and the law's tables (NK) -/
theorem g_nil {σ : L2.St} {H : Hp} {Q : List V → Hp → Prop} (h : Q [] H) : tNil σ H Q := h
def FrA (A : Bd) (H H' : Hp) : Prop := ∀ a o, a ≠ A.dn → a ≠ A.db → a ≠ A.dl → a ≠ A.dN → a ≠ A.dB → a ≠ A.pO → H a = some o → H' a = some o
theorem FrA.trans {A : Bd} {H H' H'' : Hp} (f : FrA A H H') (g : FrA A H' H'') : FrA A H H'' := fun a o n1 n2 n3 n4 n5 n6 e => g a o n1 n2 n3 n4 n5 n6 (f a o n1 n2 n3 n4 n5 n6 e)
theorem FrA.of {A : Bd} {H H' : Hp} (s : Same H H') : FrA A H H' := fun a o _ _ _ _ _ _ e => s _ _ e
section
variable {CN t c : Addr} {A : Bd} {n : Int} {m : Nat} {S : WK} {H H' : Hp}
/-- a list that is none of the net's or the law's -/
theorem NK.frl (I : NK CN t c A n m S H) (f : FrA A H H') {a : Addr} {xs : List V} (n1 : a ≠ A.dl) (n2 : a ≠ A.pO) (e : H a = some (.lst xs)) : H' a = some (.lst xs) :=
  f a _ (ne_kind e I.net.hn (fun z => nomatch z)) (ne_kind e I.net.hb (fun z => nomatch z)) n1 (ne_kind e I.hN (fun z => nomatch z)) (ne_kind e I.hB (fun z => nomatch z)) n2 e
theorem NK.frt (I : NK CN t c A n m S H) (f : FrA A H H') {a : Addr} {xs : List V} (e : H a = some (.tup xs)) : H' a = some (.tup xs) :=
  f a _ (ne_kind e I.net.hn (fun z => nomatch z)) (ne_kind e I.net.hb (fun z => nomatch z)) (ne_kind e I.net.hl (fun z => nomatch z)) (ne_kind e I.hN (fun z => nomatch z)) (ne_kind e I.hB (fun z => nomatch z)) (ne_kind e I.hP (fun z => nomatch z)) e
theorem NK.len (I : NK CN t c A n m S H) : S.nx.length = S.ks.length := by have := congrArg List.length I.gn.1; rw [List.length_map, List.length_map] at this; exact this
theorem NK.lenb (I : NK CN t c A n m S H) : S.bs.length ≤ S.ks.length := by
  obtain ⟨js, ejs, ndj⟩ := I.kb
  have e := congrArg List.length ejs
  rw [List.length_map, List.length_map] at e
  rw [e]
  refine nodup_sub_len ndj fun j hj => ?_
  obtain ⟨v, hv⟩ := Option.isSome_iff_exists.mp (valV_mem_keys ejs hj)
  exact (I.gc _ _ hv).1
theorem NK.lenl (I : NK CN t c A n m S H) : S.ls.length = S.ps.length := by rw [I.ll.1.1, I.lp.1.1]
/-- the dicts change -/
theorem NK.dic {nx bs bf : List (Key × V)} {ks : List Int} (I : NK CN t c A n m S H) (kd : ∀ a o, (∀ z, o ≠ .dK z) → H a = some o → H' a = some o) (N : NetAt CN H' A.h n A.dn A.db A.dl nx bf S.ls) (eN : H' A.dN = some (.dK nx)) (eB : H' A.dB = some (.dK bs))
    (g1 : GN ks nx) (g2 : ks.Nodup) (g3 : ∀ k ∈ ks, 0 ≤ k ∧ k < n) (g4 : GC ks bs) (g5 : KB bs) (g6 : VF ks bf bs) (g7 : ∀ k ∈ S.ks, k ∈ ks) (g8 : ks.length ≤ 40) (g9 : bf.length ≤ S.bf.length + 1) : NK CN t c A n (m + 1) ⟨ks, nx, bs, bf, S.ps, S.ls, S.Ls⟩ H' :=
  I.set (fun a xs e _ _ => kd _ _ (fun _ z => nomatch z) e) N eN eB (kd _ _ (fun _ z => nomatch z) I.hP) g1 g2 g3 g4 g5 g6 (I.lp.mono (fun a xs e => kd _ _ (fun _ z => nomatch z) e) g7) (I.ll.mono (fun a xs e => kd _ _ (fun _ z => nomatch z) e) g7) g8 (Nat.le_succ _) g9
theorem GN.admS {ks : List Int} {nx : List (Key × V)} {p x : Int} (g : GN ks nx) (hp : p ∉ ks) (hx : x ∈ ks ++ [p]) : GN (ks ++ [p]) (putK nx (.inl p) (.int x)) := by
  refine ⟨?_, fun k hk => ?_⟩
  · rw [putK_new _ (valV_none_keys g.1 hp), List.map_append, g.1, List.map_append]
    rfl
  · rw [valV_put]
    by_cases e : k = p
    · rw [e, if_pos rfl]
      exact ⟨x, hx, rfl⟩
    · rw [if_neg (fun z => e (Sum.inl.inj z))]
      obtain ⟨y, my, ey⟩ := g.2 k ((List.mem_append.mp hk).resolve_right (fun z => e (List.mem_singleton.mp z)))
      exact ⟨y, List.mem_append_left _ my, ey⟩
/-- net.hold(y, z), nexts[y] = z -/
theorem NK.hold_ (I : NK CN t c A n m S H) {y z : Int} (hy : y ∈ S.ks) (hz : z ∈ S.ks) : NK CN t c A n (m + 1) ⟨S.ks, putK S.nx (.inl y) (.int z), S.bs, S.bf, S.ps, S.ls, S.Ls⟩ (upd (upd H A.dn (.dK (putK S.nx (.inl y) (.int z)))) A.dN (.dK (putK S.nx (.inl y) (.int z)))) ∧
    FrA A H (upd (upd H A.dn (.dK (putK S.nx (.inl y) (.int z)))) A.dN (.dK (putK S.nx (.inl y) (.int z)))) := by
  obtain ⟨dnb, dnN, dnB, dbN, dbB, dNB⟩ := I.ndd
  have N6 := I.net.setn (nx' := putK S.nx (.inl y) (.int z)) dnb.symm
  have k6 : ∀ a o, a ≠ A.dn → H a = some o → upd H A.dn (.dK (putK S.nx (.inl y) (.int z))) a = some o := fun a o n1 e => (upd_ne n1).trans e
  generalize upd H A.dn (.dK (putK S.nx (.inl y) (.int z))) = H6 at N6 k6
  have eN6 := k6 _ _ dnN.symm I.hN
  have eB6 := k6 _ _ dnB.symm I.hB
  refine ⟨I.dic (ks := S.ks) (fun a o no e => (upd_ne (ne_kind e I.hN (no _))).trans (k6 _ _ (ne_kind e I.net.hn (no _)) e)) (N6.putd eN6 dnN dbN) upd_same ((upd_ne dNB.symm).trans eB6) (I.gn.put hy hz) I.nd I.rng I.gc I.kb I.vf (fun _ h => h) I.lks (Nat.le_succ _), fun a o n1 _ _ n4 _ _ e => (upd_ne n4).trans (k6 _ _ n1 e)⟩
/-- net.admit(p, x), nexts[p] = x -/
theorem NK.adm_ (I : NK CN t c A n m S H) {p x : Int} (p0 : 0 ≤ p) (p1 : p < n) (np : p ∉ S.ks) (hx : x ∈ S.ks ++ [p]) (l40 : S.ks.length < 40) :
    NK CN t c A n (m + 1) ⟨S.ks ++ [p], putK S.nx (.inl p) (.int x), S.bs, putK S.bf (.inl p) .non, S.ps, S.ls, S.Ls⟩ (upd (upd (upd H A.dn (.dK (putK S.nx (.inl p) (.int x)))) A.db (.dK (putK S.bf (.inl p) .non))) A.dN (.dK (putK S.nx (.inl p) (.int x)))) ∧
    FrA A H (upd (upd (upd H A.dn (.dK (putK S.nx (.inl p) (.int x)))) A.db (.dK (putK S.bf (.inl p) .non))) A.dN (.dK (putK S.nx (.inl p) (.int x)))) := by
  obtain ⟨dnb, dnN, dnB, dbN, dbB, dNB⟩ := I.ndd
  have N6 := (I.net.setn (nx' := putK S.nx (.inl p) (.int x)) dnb.symm).setb (bf' := putK S.bf (.inl p) .non) dnb.symm
  have k6 : ∀ a o, a ≠ A.dn → a ≠ A.db → H a = some o → upd (upd H A.dn (.dK (putK S.nx (.inl p) (.int x)))) A.db (.dK (putK S.bf (.inl p) .non)) a = some o := fun a o n1 n2 e => (upd_ne n2).trans ((upd_ne n1).trans e)
  generalize upd (upd H A.dn (.dK (putK S.nx (.inl p) (.int x)))) A.db (.dK (putK S.bf (.inl p) .non)) = H6 at N6 k6
  have eN6 := k6 _ _ dnN.symm dbN.symm I.hN
  have eB6 := k6 _ _ dnB.symm dbB.symm I.hB
  refine ⟨I.dic (ks := S.ks ++ [p]) (fun a o no e => (upd_ne (ne_kind e I.hN (no _))).trans (k6 _ _ (ne_kind e I.net.hn (no _)) (ne_kind e I.net.hb (no _)) e)) (N6.putd eN6 dnN dbN) upd_same ((upd_ne dNB.symm).trans eB6) (I.gn.admS np hx) ?_ (fun k hk => ?_) I.gc.adm I.kb (I.vf.adm I.gc np) (fun k hk => List.mem_append_left _ hk) (by rw [List.length_append]; show _ + 1 ≤ 40; omega) (len_putK_le _ _ _), fun a o n1 n2 _ n4 _ _ e => (upd_ne n4).trans (k6 _ _ n1 n2 e)⟩
  · refine List.nodup_append.mpr ⟨I.nd, List.nodup_cons.mpr ⟨List.not_mem_nil, List.nodup_nil⟩, fun a ha b hb z => np ?_⟩
    rw [← List.mem_singleton.mp hb, ← z]
    exact ha
  · rcases List.mem_append.mp hk with hk | hk
    · exact I.rng k hk
    · rw [List.mem_singleton.mp hk]
      exact ⟨p0, p1⟩
end
/-- the net has read, the law not yet -/
structure Mid (CN : Addr) (A : Bd) (n : Int) (S : WK) (k : Nat) (H H5 : Hp) (v5 : V) (L : Let) (p : Addr) (x : Int) (ls' : List V) : Prop where
  hL : S.Ls[k]? = some L
  hp : S.ps[k]? = some (.ref p)
  ep : H p = some (.tup L.vals)
  ns : ∀ j ∈ L.ns, j ∈ S.ks
  hx : valV S.nx (.inl L.to) = some (.int x)
  a5 : match hA L.to (bef S.bs L.to) L with | none => ls' = S.ls.eraseIdx k | some ys => ∃ a, ls' = S.ls.eraseIdx k ++ [.ref a] ∧ H5 a = some (.tup ys)
  R : RdPost CN A.h A.dn A.db A.dl n L.to x (bef S.bs L.to) L S.nx S.bf ls' H H5 v5
/-- the letters behind a reading -/
def LsR (r : Int) (b : V) (L : Let) (Ls : List Let) (k : Nat) (Ls' : List Let) : Prop := match hA r b L with | none => Ls' = Ls.eraseIdx k | some ys => ∃ L', L'.vals = ys ∧ Ls' = Ls.eraseIdx k ++ [L']
section
variable {CN t c : Addr} {A : Bd} {n : Int} {m : Nat} {S : WK} {H H' : Hp}
theorem NK.read1 (I : NK CN t c A n m S H) (lm : m ≤ 900) {k : Nat} (hk : k < S.ps.length) {P : V → Hp → Prop} {E : XK} (q : ∀ H5 v5 L p x ls', Mid CN A n S k H H5 v5 L p x ls' → P v5 H5) : sp_Net__read K CN [.ref A.h, .int (k : Nat)] H P E := by
  have l1 := I.lks
  have l2 := I.len
  have l3 := I.lps
  have l4 := I.lenl
  have l5 := I.lbf
  obtain ⟨dnb, dnN, dnB, dbN, dbB, dNB⟩ := I.ndd
  obtain ⟨p, qa, L, ha, hb, hLk, ep, eq, hL⟩ := I.lets hk
  have hr' := hL _ L.to_ns
  obtain ⟨x, mx, hx⟩ := I.gn.2 _ hr'
  have ob := I.gc.ok L.to
  exact ⟨A.h, A.dn, A.db, A.dl, qa, n, x, bef S.bs L.to, k, L, S.nx, S.bf, S.ls, rfl, I.net, hb, eq, hx, I.vf _ hr', ob, I.n0, dnb.symm, by omega, by omega, by omega, fun H5 v5 ls' a5 R => q H5 v5 L p x ls' ⟨hLk, ha, ep, hL, hx, a5, R⟩⟩
theorem NK.read2 (I : NK CN t c A n m S H) (lm : m ≤ 900) {k : Nat} (hk : k < S.ps.length) {H5 : Hp} {v5 : V} {L : Let} {p : Addr} {x : Int} {ls' : List V} (M : Mid CN A n S k H H5 v5 L p x ls') {P : V → Hp → Prop} {E : XK}
    (q : ∀ H6 v6 ps' Ls', NK CN t c A n (m + 1) ⟨S.ks, nN n L.to x (bef S.bs L.to) L S.nx, nB n L.to (bef S.bs L.to) L S.bs, nB n L.to (bef S.bs L.to) L S.bf, ps', ls', Ls'⟩ H6 → LsR L.to (bef S.bs L.to) L S.Ls k Ls' → FrA A H H6 → Sm K 2 H6 v5 v6 → P v6 H6) :
    sp__law_read K [.int n, .ref A.dN, .ref A.dB, .ref A.pO, .int (k : Nat)] H5 P E := by
  have l1 := I.lks
  have l2 := I.len
  have l3 := I.lps
  have l4 := I.lenl
  have l5 := I.lbf
  have l6 := I.lenb
  obtain ⟨dnb, dnN, dnB, dbN, dbB, dNB⟩ := I.ndd
  have R := M.R
  have hx := M.hx
  have hL := M.ns
  have hr' := hL _ L.to_ns
  have ob := I.gc.ok L.to
  obtain ⟨w5, ew, ew5⟩ := R.told
  have N5 := R.keep _ _ dnN.symm dbN.symm (ne_kind I.hN I.net.hl (fun z => nomatch z)) I.hN
  have B5 := R.keep _ _ dnB.symm dbB.symm (ne_kind I.hB I.net.hl (fun z => nomatch z)) I.hB
  have P5 := R.keep _ _ (ne_kind I.hP I.net.hn (fun z => nomatch z)) (ne_kind I.hP I.net.hb (fun z => nomatch z)) I.ndl.2.2.2.2 I.hP
  have kt5 : ∀ {a : Addr} {xs : List V}, H a = some (.tup xs) → H5 a = some (.tup xs) := fun e => R.keep _ _ (ne_kind e I.net.hn (fun z => nomatch z)) (ne_kind e I.net.hb (fun z => nomatch z)) (ne_kind e I.net.hl (fun z => nomatch z)) e
  refine ⟨A.dN, A.dB, A.pO, p, n, x, k, L, S.nx, S.bs, S.ps, rfl, N5, B5, P5, M.hp, kt5 M.ep, hx, ob, I.n0, dNB, by omega, by omega, by omega, fun H6 v6 ps' a6 f6 eN6 eB6 eP6 ht6 => ?_⟩
  obtain ⟨w6, rfl, ew6⟩ := ht6
  have kt6 : ∀ {a : Addr} {xs : List V}, H5 a = some (.tup xs) → H6 a = some (.tup xs) := fun e => f6 _ _ (ne_kind e N5 (fun z => nomatch z)) (ne_kind e B5 (fun z => nomatch z)) (ne_kind e P5 (fun z => nomatch z)) e
  have N6 : NetAt CN H6 A.h n A.dn A.db A.dl (nN n L.to x (bef S.bs L.to) L S.nx) (nB n L.to (bef S.bs L.to) L S.bf) ls' := by
    have N : NetAt CN H5 A.h n A.dn A.db A.dl (nN n L.to x (bef S.bs L.to) L S.nx) (nB n L.to (bef S.bs L.to) L S.bf) ls' := R.net
    exact ⟨let ⟨d, e⟩ := N.me; ⟨d, f6 _ _ (ne_kind e N5 (fun z => nomatch z)) (ne_kind e B5 (fun z => nomatch z)) (ne_kind e P5 (fun z => nomatch z)) e⟩, f6 _ _ dnN dnB (ne_kind N.hn P5 (fun z => nomatch z)) N.hn, f6 _ _ dbN dbB (ne_kind N.hb P5 (fun z => nomatch z)) N.hb, f6 _ _ (ne_kind N.hl N5 (fun z => nomatch z)) (ne_kind N.hl B5 (fun z => nomatch z)) I.ndl.2.2.2.2.symm N.hl⟩
  have fx : FrA A H H6 := fun a o n1 n2 n3 n4 n5 n6 e => f6 _ _ n4 n5 n6 (R.keep _ _ n1 n2 n3 e)
  have kt7 : ∀ a xs, H a = some (.tup xs) → H6 a = some (.tup xs) := fun a xs e => kt6 (kt5 e)
  have fin : ∀ Ls', Ltr S.ks H6 ps' Ls' → Ltr S.ks H6 ls' Ls' → ps'.length ≤ S.ps.length + 1 → LsR L.to (bef S.bs L.to) L S.Ls k Ls' → P (.ref w6) H6 := fun Ls' h1 h2 h3 h4 => by
    subst ew
    refine q H6 _ ps' Ls' (I.set (fun a xs e n1 n2 => fx a _ (ne_kind e I.net.hn (fun z => nomatch z)) (ne_kind e I.net.hb (fun z => nomatch z)) n1 (ne_kind e I.hN (fun z => nomatch z)) (ne_kind e I.hB (fun z => nomatch z)) n2 e) N6 eN6 eB6 eP6 (I.gn.nN hL hr' hx) I.nd I.rng (I.gc.nB hL hr') I.kb.nB (VF.nB I.vf hr') h1 h2 I.lks h3 (by show (nB _ _ _ _ _).length ≤ _; rw [nB_len (by rw [I.vf _ hr']; rfl)]; omega)) h4 fx ?_
    exact tup_same (kt6 ew5) ew6 (nT_atom ob).1 (nT_atom ob).2
  have e1 := (I.lp.mono kt7 (fun _ h => h)).erase k
  have e2 := (I.ll.mono kt7 (fun _ h => h)).erase k
  have le : (S.ps.eraseIdx k).length + 1 = S.ps.length := by rw [List.length_eraseIdx, if_pos hk]; omega
  have a5 := M.a5
  have b0 : ∀ z, bef S.bs L.to = .int z → z ∈ S.ks := fun z e => by
    have g := I.gc
    unfold bef at e
    cases e0 : valV S.bs (.inl L.to) with
    | none => rw [e0] at e; exact absurd e (fun h => nomatch h)
    | some v =>
      rw [e0] at e
      have e : v = .int z := e
      subst e
      obtain ⟨_, h2⟩ := g _ _ e0
      rcases h2 with h2 | ⟨x, mx, h2⟩
      · exact absurd h2 (fun h => nomatch h)
      · rw [V.int.inj h2]
        exact mx
  cases eA : hA L.to (bef S.bs L.to) L with
  | none =>
    rw [eA] at a5 a6
    refine fin (S.Ls.eraseIdx k) (by rw [a6]; exact e1) (by rw [a5]; exact e2) (by rw [a6]; omega) ?_
    unfold LsR
    rw [eA]
  | some ys =>
    rw [eA] at a5 a6
    obtain ⟨a, rfl, ea⟩ := a6
    obtain ⟨b, rfl, eb⟩ := a5
    obtain ⟨L', rfl, hL'⟩ := hA_let eA hL hr' b0
    refine fin (S.Ls.eraseIdx k ++ [L']) (e1.app ea hL') (e2.app (kt6 eb) hL') (by rw [List.length_append]; show _ + 1 ≤ _; omega) ?_
    unfold LsR
    rw [eA]
    exact ⟨L', rfl, rfl⟩
end
section
variable {CN t c : Addr} {A : Bd} {n : Int} {m : Nat} {S : WK} {H H' : Hp}
theorem NK.snap1 (I : NK CN t c A n m S H) {P : V → Hp → Prop} {E : XK} (q : ∀ ys p H7, ys.Perm S.ks → ys.Pairwise (· ≤ ·) → Same H H7 → Shot n (gV S.nx) (bef S.bs) ys H7 p S.ls → P (.ref p) H7) : sp_Net__snapshot CN [.ref A.h] H P E := by
  have l40 := I.lks
  refine ⟨A.h, A.dn, A.db, A.dl, n, S.nx, S.bf, S.ls, S.ks, gV S.nx, bef S.bs, rfl, I.net, I.gn.1, by omega, fun k hk => ?_, q⟩
  obtain ⟨x, _, e⟩ := I.gn.2 k hk
  exact ⟨by rw [gV_of e, e], I.vf k hk⟩
theorem NK.snap2 (I : NK CN t c A n m S H) (lm : m ≤ 900) {ys : List Int} {p : Addr} (perm : ys.Perm S.ks) (pw : ys.Pairwise (· ≤ ·)) (sh : Shot n (gV S.nx) (bef S.bs) ys H p S.ls) {P : V → Hp → Prop} {E : XK} (q : ∀ p2 H8, Same H H8 → Sm K 4 H8 (.ref p) (.ref p2) → P (.ref p2) H8) :
    sp__law_snapshot K [.int n, .ref A.dN, .ref A.dB, .ref A.pO] H P E := by
  have l40 := I.lks
  have l60 := I.lps
  refine ⟨A.dN, A.dB, A.pO, n, S.nx, S.bs, S.ps, S.ks, rfl, I.hN, I.hB, I.hP, by omega, I.gn, fun zs p2 H8 permz pwz s8 sh2 => ?_⟩
  have e : zs = ys := perm_sorted_eq (permz.trans perm.symm) pwz pw
  subst e
  have I8 := I.same s8
  have zlen := permz.length_eq
  refine q p2 H8 s8 ((sh.same s8).sm sh2 I8.ll.1 I8.lp.1 (fun y hy => ?_) (by rw [I8.ll.1.1, ← I8.lp.1.1]; omega) (by omega))
  obtain ⟨x, _, e⟩ := I.gn.2 y (permz.mem_iff.mp hy)
  exact ⟨by rw [gV_of e]; rfl, okB.atom (I.gc.ok y)⟩
end
/-- beside the tape too -/
def FrT (t : Addr) (A : Bd) (H H' : Hp) : Prop := ∀ a o, a ≠ t → a ≠ A.dn → a ≠ A.db → a ≠ A.dl → a ≠ A.dN → a ≠ A.dB → a ≠ A.pO → H a = some o → H' a = some o
theorem FrT.trans {t : Addr} {A : Bd} {H H' H'' : Hp} (f : FrT t A H H') (g : FrT t A H' H'') : FrT t A H H'' := fun a o n0 n1 n2 n3 n4 n5 n6 e => g a o n0 n1 n2 n3 n4 n5 n6 (f a o n0 n1 n2 n3 n4 n5 n6 e)
theorem FrA.t {t : Addr} {A : Bd} {H H' : Hp} (f : FrA A H H') : FrT t A H H' := fun a o _ n1 n2 n3 n4 n5 n6 e => f a o n1 n2 n3 n4 n5 n6 e
theorem FrT.of {t : Addr} {A : Bd} {H H' : Hp} (s : Same H H') : FrT t A H H' := fun a o _ _ _ _ _ _ _ e => s _ _ e
theorem FrT.kp {t : Addr} {A : Bd} {H H' : Hp} (s : Kp t H H') : FrT t A H H' := fun a o n _ _ _ _ _ _ e => s _ _ n e
section
variable {CN t c : Addr} {A : Bd} {n : Int} {m : Nat} {S : WK} {H H' : Hp}
theorem NK.ftl (I : NK CN t c A n m S H) (f : FrT t A H H') {a : Addr} {xs : List V} (n0 : a ≠ t) (n1 : a ≠ A.dl) (n2 : a ≠ A.pO) (e : H a = some (.lst xs)) : H' a = some (.lst xs) :=
  f a _ n0 (ne_kind e I.net.hn (fun z => nomatch z)) (ne_kind e I.net.hb (fun z => nomatch z)) n1 (ne_kind e I.hN (fun z => nomatch z)) (ne_kind e I.hB (fun z => nomatch z)) n2 e
theorem NK.ftt (I : NK CN t c A n m S H) (f : FrT t A H H') {a : Addr} {xs : List V} (e : H a = some (.tup xs)) : H' a = some (.tup xs) := by
  obtain ⟨⟨xt, et⟩, _⟩ := tape_at I.tape
  exact f a _ (ne_kind e et (fun z => nomatch z)) (ne_kind e I.net.hn (fun z => nomatch z)) (ne_kind e I.net.hb (fun z => nomatch z)) (ne_kind e I.net.hl (fun z => nomatch z)) (ne_kind e I.hN (fun z => nomatch z)) (ne_kind e I.hB (fun z => nomatch z)) (ne_kind e I.hP (fun z => nomatch z)) e
/-- net.set_before(y, v), behinds[y] = v -/
theorem NK.setb_ (I : NK CN t c A n m S H) {y : Int} {v : V} (hy : y ∈ S.ks) (hv : v = .non ∨ ∃ z ∈ S.ks, v = .int z) : NK CN t c A n (m + 1) ⟨S.ks, S.nx, putK S.bs (.inl y) v, putK S.bf (.inl y) v, S.ps, S.ls, S.Ls⟩ (upd (upd H A.db (.dK (putK S.bf (.inl y) v))) A.dB (.dK (putK S.bs (.inl y) v))) ∧
    FrA A H (upd (upd H A.db (.dK (putK S.bf (.inl y) v))) A.dB (.dK (putK S.bs (.inl y) v))) := by
  obtain ⟨dnb, dnN, dnB, dbN, dbB, dNB⟩ := I.ndd
  have N6 := I.net.setb (bf' := putK S.bf (.inl y) v) dnb.symm
  have k6 : ∀ a o, a ≠ A.db → H a = some o → upd H A.db (.dK (putK S.bf (.inl y) v)) a = some o := fun a o n1 e => (upd_ne n1).trans e
  generalize upd H A.db (.dK (putK S.bf (.inl y) v)) = H6 at N6 k6
  have eN6 := k6 _ _ dbN.symm I.hN
  have eB6 := k6 _ _ dbB.symm I.hB
  exact ⟨I.dic (ks := S.ks) (fun a o no e => (upd_ne (ne_kind e I.hB (no _))).trans (k6 _ _ (ne_kind e I.net.hb (no _)) e)) (N6.putd eB6 dnB dbB) ((upd_ne dNB).trans eN6) upd_same I.gn I.nd I.rng (I.gc.put hy hv) I.kb.put I.vf.put (fun _ h => h) I.lks (len_putK_le _ _ _), fun a o _ n2 _ _ n5 _ e => (upd_ne n5).trans (k6 _ _ n2 e)⟩
/-- the letters change -/
theorem NK.lts {ps ls : List V} {Ls : List Let} (I : NK CN t c A n m S H) (f : ∀ a o, a ≠ A.pO → a ≠ A.dl → H a = some o → H' a = some o) (N : NetAt CN H' A.h n A.dn A.db A.dl S.nx S.bf ls) (eP : H' A.pO = some (.lst ps))
    (g1 : Ltr S.ks H' S.ps S.Ls → Ltr S.ks H' ps Ls) (g2 : Ltr S.ks H' S.ls S.Ls → Ltr S.ks H' ls Ls) (g3 : ps.length ≤ S.ps.length + 1) : NK CN t c A n (m + 1) ⟨S.ks, S.nx, S.bs, S.bf, ps, ls, Ls⟩ H' ∧ FrA A H H' :=
  have kt : ∀ a xs, H a = some (.tup xs) → H' a = some (.tup xs) := fun a xs e => f _ _ (ne_kind e I.hP (fun z => nomatch z)) (ne_kind e I.net.hl (fun z => nomatch z)) e
  ⟨I.set (fun a xs e n1 n2 => f _ _ n2 n1 e) N (f _ _ (ne_kind I.hN I.hP (fun z => nomatch z)) (ne_kind I.hN I.net.hl (fun z => nomatch z)) I.hN) (f _ _ (ne_kind I.hB I.hP (fun z => nomatch z)) (ne_kind I.hB I.net.hl (fun z => nomatch z)) I.hB) eP I.gn I.nd I.rng I.gc I.kb I.vf (g1 (I.lp.mono kt (fun _ h => h))) (g2 (I.ll.mono kt (fun _ h => h))) I.lks g3 (Nat.le_succ _), fun a o _ _ n3 _ _ n6 e => f a o n6 n3 e⟩
end
--CUT
theorem for_it {J : It} {n : Nat} {G : Hp → Prop} {Y : Nat → Hp → V → Hp → Prop} (w : Walk J n G Y) {g : TG} {tb : TS} {D : Ends} {σ : L2.St} {H : Hp} (Pv : Nat → L2.St → Hp → Prop) (h0 : Pv 0 σ H) (hG : ∀ i σ H, i ≤ n → Pv i σ H → G H)
    (hs : ∀ i x σ H H', i < n → Pv i σ H → Y i H x H' → g x σ H' fun σ2 H2 => tb { D with nx := Pv (i + 1), ct := Pv (i + 1), bk := D.nx } σ2 H2) (hd : ∀ σ H, Pv n σ H → D.nx σ H) :
    ∃ W : Nat → Nat → L2.St → Hp → Prop, (∃ m, W 0 m σ H) ∧ ∀ i m σ H, W i m σ H →
      (J.stop i H ∧ D.nx σ H) ∨ (J.go i H ∧ ∃ N : L2.St → Hp → Prop, (∀ σ' H', N σ' H' → ∃ m', m' < m ∧ W (i + 1) m' σ' H') ∧ ∀ x H', J.yld i H x H' → g x σ H' fun σ2 H2 => tb { D with nx := N, ct := N, bk := D.nx } σ2 H2) := by
  refine ⟨fun i m σ H => i + m = n ∧ Pv i σ H, ⟨n, Nat.zero_add n, h0⟩, fun i m σ H hp => ?_⟩
  have q := hG i σ H (hp.1 ▸ Nat.le_add_right i m) hp.2
  cases m with
  | zero =>
    obtain ⟨rfl, p⟩ := hp
    exact .inl ⟨w.stops H q, hd σ H p⟩
  | succ m =>
    obtain ⟨e, p⟩ := hp
    have hi : i < n := by omega
    exact .inr ⟨w.goes i H hi q, Pv (i + 1), fun σ' H' p' => ⟨m, Nat.lt_succ_self m, by omega, p'⟩, fun x H' y => hs i x σ H H' hi p (w.yields i H x H' hi q y)⟩
/-! ### the program's ways -/
structure WN (ks : List Int) (nx : List (Key × V)) : Prop where
  gn : GN ks nx
  len : ks.length ≤ 1000
theorem WN.cl {ks : List Int} {nx : List (Key × V)} (w : WN ks nx) : ∀ k ∈ ks, iN nx k ∈ ks := fun k hk => let ⟨x, mx, e⟩ := w.gn.2 k hk; by rw [iN_of e]; exact mx
theorem WN.at_ {ks : List Int} {nx : List (Key × V)} (w : WN ks nx) {k : Int} (hk : k ∈ ks) : valV nx (.inl k) = some (.int (iN nx k)) := let ⟨x, mx, e⟩ := w.gn.2 k hk; by rw [iN_of e]; exact e
/-- the rows of a way: house and length -/
def wrows (n : Int) (f : Int → Int) (s : Int) (i : Nat) : List (Key × V) := (List.range i).map fun j => (Sum.inl (itr f s j), V.int (wl n f s j))
theorem wrows_succ {n s : Int} {f : Int → Int} (i : Nat) : wrows n f s (i + 1) = wrows n f s i ++ [(Sum.inl (itr f s i), V.int (wl n f s i))] := by
  unfold wrows
  rw [List.range_succ, List.map_append]
  rfl
theorem wrows_keys {n s : Int} {f : Int → Int} (i : Nat) : (wrows n f s i).map (·.1) = (met f s i).map Sum.inl := by
  unfold wrows met
  rw [List.map_map, List.map_map]
  rfl
theorem wrows_len {n s : Int} {f : Int → Int} (i : Nat) : (wrows n f s i).length = i := by unfold wrows; rw [List.length_map, List.length_range]
theorem wrows_val {n s : Int} {f : Int → Int} : ∀ {i j : Nat}, (met f s i).Nodup → j < i → valV (wrows n f s i) (.inl (itr f s j)) = some (.int (wl n f s j))
  | 0, _, _, h => absurd h (by omega)
  | i + 1, j, nd, h => by
    rw [met_succ] at nd
    obtain ⟨n1, _, n3⟩ := List.nodup_append.mp nd
    rw [wrows_succ]
    by_cases e : j = i
    · subst e
      rw [← putK_new (k := (Sum.inl (itr f s j) : Key)) (.int (wl n f s j)) (valV_none_keys (wrows_keys j) fun h => n3 _ h _ (List.mem_singleton.mpr rfl) rfl), valV_put, if_pos rfl]
    · have := wrows_val (n := n) n1 (show j < i by omega)
      rw [← putK_new (k := (Sum.inl (itr f s i) : Key)) (.int (wl n f s i)) (valV_none_keys (wrows_keys i) fun h => n3 _ h _ (List.mem_singleton.mpr rfl) rfl), valV_put, if_neg (fun z => ?_)]
      · exact this
      · have : itr f s j ∈ met f s i := met_mem.mpr ⟨j, by omega, rfl⟩
        rw [Sum.inl.inj z] at this
        exact n3 _ this _ (List.mem_singleton.mpr rfl) rfl
theorem wrows_no {n s x : Int} {f : Int → Int} {i : Nat} (h : x ∉ met f s i) : valV (wrows n f s i) (.inl x) = none := valV_none_keys (wrows_keys i) h
def sp__lengths_from (C : Addr) : Sp := fun vs H Q _ => ∃ (h dn db dl : Addr) (n s : Int) (nx bf : List (Key × V)) (ls : List V) (ks : List Int), vs = [.ref h, .int s] ∧ NetAt C H h n dn db dl nx bf ls ∧ WN ks nx ∧ s ∈ ks ∧ 0 < n ∧
  ∀ m H' d, Lasso (iN nx) s m → m ≤ ks.length → Same H H' → H d = none → H' d = some (.dK (wrows n (iN nx) s m)) → Q (.ref d) H'
theorem met_take {f : Int → Int} {s : Int} {i m : Nat} (h : i ≤ m) : (met f s m).take i = met f s i := by
  unfold met
  rw [← List.map_take, List.take_range, Nat.min_eq_left h]
theorem wrows_list {n s : Int} {f : Int → Int} (i : Nat) : (wrows n f s i).map (fun kv => kV kv.1) = (met f s i).map V.int := by
  unfold wrows met
  rw [List.map_map, List.map_map]
  rfl
theorem inV_ints {x : Int} {l : List Int} : inV (.int x) (l.map V.int) = decide (x ∈ l) := by
  unfold inV
  rw [List.any_map]
  by_cases h : x ∈ l
  · rw [decide_eq_true h]
    exact List.any_eq_true.mpr ⟨x, h, beq_self_eq_true x⟩
  · rw [decide_eq_false h]
    exact List.any_eq_false.mpr fun y hy e => h (by rw [← (eq_of_beq e : y = x)]; exact hy)
theorem flat_ints {l : List Int} : (l.map V.int).all flatV = true := List.all_eq_true.mpr fun v hv => by
  obtain ⟨y, _, rfl⟩ := List.mem_map.mp hv
  rfl
theorem wl_up {n s : Int} {f : Int → Int} (h : 0 < n) : ∀ j : Nat, wl n f s j ≤ j * n
  | 0 => by show (0 : Int) ≤ 0 * n; omega
  | j + 1 => by
    have := wl_up (n := n) (s := s) (f := f) h j
    have := (far_range (itr f s j) (f (itr f s j)) h).2
    rw [Int.natCast_succ, Int.add_mul, Int.one_mul]
    show wl n f s j + farL n (itr f s j) (f (itr f s j)) ≤ _
    omega
theorem max_if {d : Int} : (if d > 0 then d else 0) = max 0 d := by
  by_cases h : d > 0
  · rw [if_pos h]; omega
  · rw [if_neg h]; omega
--CUT
/-! ### rings -/
theorem Lasso.uniq {f : Int → Int} {s : Int} {m m' : Nat} (L : Lasso f s m) (L' : Lasso f s m') : m = m' := by
  obtain ⟨g, hg, eg⟩ := L.back
  obtain ⟨g', hg', eg'⟩ := L'.back
  rcases Nat.lt_trichotomy m m' with z | z | z
  · have := L'.dis m g z (by omega) eg
    omega
  · exact z
  · have := L.dis m' g' z (by omega) eg'
    omega
/-- where the way comes to its ring -/
def Gate (f : Int → Int) (s : Int) (m g : Nat) : Prop := Lasso f s m ∧ g < m ∧ itr f s m = itr f s g
theorem Lasso.gate {f : Int → Int} {s : Int} {m : Nat} (L : Lasso f s m) : ∃ g, Gate f s m g := let ⟨g, h1, h2⟩ := L.back; ⟨g, L, h1, h2⟩
theorem Gate.uniq {f : Int → Int} {s : Int} {m m' g g' : Nat} (a : Gate f s m g) (b : Gate f s m' g') : m = m' ∧ g = g' := by
  have e := a.1.uniq b.1
  subst e
  exact ⟨rfl, a.1.dis g g' a.2.1 b.2.1 (a.2.2.symm.trans b.2.2)⟩
/-- a list without doubles, turned so that its least comes first -/
def Turned (xs ys : List Int) : Prop := ∃ (k : Nat) (y : Int), xs[k]? = some y ∧ (∀ x ∈ xs, y ≤ x) ∧ (∀ (i : Nat) (x : Int), i < k → xs[i]? = some x → x ≠ y) ∧ ys = xs.drop k ++ xs.take k
theorem first_idx {y : Int} : ∀ {xs : List Int}, y ∈ xs → ∃ k, xs[k]? = some y ∧ ∀ (i : Nat) (x : Int), i < k → xs[i]? = some x → x ≠ y
  | [], h => nomatch h
  | a :: r, h => by
    by_cases e : a = y
    · exact ⟨0, by rw [e]; rfl, fun i x hi => absurd hi (by omega)⟩
    · obtain ⟨k, h1, h2⟩ := first_idx (xs := r) ((List.mem_cons.mp h).resolve_left (fun z => e z.symm))
      refine ⟨k + 1, h1, fun i x hi hx => ?_⟩
      match i, hi, hx with
      | 0, _, hx => cases hx; exact e
      | i + 1, hi, hx => exact h2 i x (by omega) hx
def sp_from_least (K : PySem.W.Frag) : Sp := fun vs H Q _ => ∃ (p : Addr) (xs : List Int), vs = [.ref p] ∧ H p = some (.lst (xs.map V.int)) ∧ 0 < xs.length ∧ xs.length ≤ 1000 ∧
  ∀ ys l H', Turned xs ys → Same H H' → H l = none → H' l = some (.lst (ys.map V.int)) → Q (.ref l) H'
def sp__gate_after (C : Addr) : Sp := fun vs H Q _ => ∃ (h dn db dl p : Addr) (n s : Int) (m : Nat) (nx bf : List (Key × V)) (ls : List V) (ks : List Int), vs = [.ref h, .ref p] ∧ NetAt C H h n dn db dl nx bf ls ∧ WN ks nx ∧ s ∈ ks ∧ H p = some (.lst ((met (iN nx) s (m + 1)).map V.int)) ∧ Q (.int (itr (iN nx) s (m + 1))) H
def sp_gate_of (C : Addr) : Sp := fun vs H Q _ => ∃ (h dn db dl : Addr) (n s : Int) (nx bf : List (Key × V)) (ls : List V) (ks : List Int), vs = [.ref h, .int s] ∧ NetAt C H h n dn db dl nx bf ls ∧ WN ks nx ∧ s ∈ ks ∧ 0 < n ∧
  ∀ m g H', Gate (iN nx) s m g → Same H H' → Q (.int (itr (iN nx) s g)) H'
def sp_ring_of (C : Addr) : Sp := fun vs H Q _ => ∃ (h dn db dl : Addr) (n s : Int) (nx bf : List (Key × V)) (ls : List V) (ks : List Int), vs = [.ref h, .int s] ∧ NetAt C H h n dn db dl nx bf ls ∧ WN ks nx ∧ s ∈ ks ∧ 0 < n ∧
  ∀ m g ys l H', Gate (iN nx) s m g → Turned ((met (iN nx) s m).drop g) ys → Same H H' → H l = none → H' l = some (.lst (ys.map V.int)) → Q (.ref l) H'
def sp_on_ring (C : Addr) : Sp := fun vs H Q _ => ∃ (h dn db dl : Addr) (n s : Int) (nx bf : List (Key × V)) (ls : List V) (ks : List Int), vs = [.ref h, .int s] ∧ NetAt C H h n dn db dl nx bf ls ∧ WN ks nx ∧ s ∈ ks ∧ 0 < n ∧
  ∀ m g H', Gate (iN nx) s m g → Same H H' → Q (.bl (decide (itr (iN nx) s g = s))) H'
/-! ### a ring's list -/
/-- ys: the ring in which the way from s ends, from its least house on -/
def RingL (f : Int → Int) (s : Int) (ys : List Int) : Prop := ∃ (y : Int) (p : Nat), ys = met f y p ∧ Gate f y p 0 ∧ (∀ x ∈ ys, y ≤ x) ∧ ∃ i, itr f s i = y
theorem turned_ring {f : Int → Int} {s : Int} {m g : Nat} {ys : List Int} (G : Gate f s m g) (t : Turned ((met f s m).drop g) ys) : RingL f s ys := by
  obtain ⟨k, y, hk, hmin, _, rfl⟩ := t
  obtain ⟨L, hg, eg⟩ := G
  have lk : k < m - g := by
    have := (List.getElem?_eq_some_iff.mp hk).1
    rw [List.length_drop, met_len] at this
    exact this
  have ek : y = itr f s (g + k) := by
    rw [List.getElem?_drop, met_get (by omega)] at hk
    exact (Option.some.inj hk).symm
  obtain ⟨p, rfl⟩ : ∃ p, m = g + p := ⟨m - g, by omega⟩
  have pe : ∀ i, itr f y i = itr f s (g + (k + i)) := fun i => by rw [ek, ← itr_add, Nat.add_assoc]
  have wrap : ∀ i, itr f s (g + (p + i)) = itr f s (g + i) := fun i => by rw [← Nat.add_assoc]; exact lap_itr eg i
  have el : ((met f s (g + p)).drop g).drop k ++ ((met f s (g + p)).drop g).take k = met f y p := by
    refine List.ext_getElem? fun i => ?_
    by_cases hi : i < p
    · rw [met_get hi, pe]
      by_cases h1 : i < p - k
      · rw [List.getElem?_append_left (by rw [List.length_drop, List.length_drop, met_len]; omega), List.getElem?_drop, List.getElem?_drop, met_get (by omega)]
      · rw [List.getElem?_append_right (by rw [List.length_drop, List.length_drop, met_len]; omega), List.length_drop, List.length_drop, met_len, List.getElem?_take, if_pos (by omega), List.getElem?_drop, met_get (by omega), show k + i = p + (i - (g + p - g - k)) by omega, wrap]
    · have l1 : (((met f s (g + p)).drop g).drop k ++ ((met f s (g + p)).drop g).take k).length ≤ i := by
        rw [List.length_append, List.length_drop, List.length_take, List.length_drop, met_len]
        omega
      have l2 : (met f y p).length ≤ i := by
        rw [met_len]
        omega
      rw [List.getElem?_eq_none l1, List.getElem?_eq_none l2]
  refine ⟨y, p, el, ⟨⟨fun i j hi hj e => ?_, 0, by omega, ?_⟩, by omega, ?_⟩, fun x hx => ?_, g + k, ek.symm⟩
  · rw [pe, pe] at e
    have red : ∀ i, i < p → ∃ a, a < p ∧ itr f s (g + (k + i)) = itr f s (g + a) ∧ (a = k + i ∨ a + p = k + i) := fun i hi => by
      by_cases h : k + i < p
      · exact ⟨k + i, h, rfl, .inl rfl⟩
      · refine ⟨k + i - p, by omega, ?_, .inr (by omega)⟩
        rw [← wrap (k + i - p), show p + (k + i - p) = k + i by omega]
    obtain ⟨a, ha, e1, o1⟩ := red i hi
    obtain ⟨b, hb, e2, o2⟩ := red j hj
    rw [e1, e2] at e
    have := L.dis (g + a) (g + b) (by omega) (by omega) e
    omega
  · rw [pe, show k + p = p + k by omega, wrap, ek]
    rfl
  · rw [pe, show k + p = p + k by omega, wrap, ek]
    rfl
  · refine hmin x ?_
    rcases List.mem_append.mp hx with h | h
    · exact List.mem_of_mem_drop h
    · exact List.mem_of_mem_take h
/-- the ways of a and b meet -/
def SameP (f : Int → Int) (a b : Int) : Prop := ∃ i j, itr f a i = itr f b j
theorem ring_walk {f : Int → Int} {y : Int} {p : Nat} (G : Gate f y p 0) (i : Nat) : itr f y i ∈ met f y p := by
  obtain ⟨j, hj, e⟩ := G.1.all i
  exact met_mem.mpr ⟨j, hj, e.symm⟩
theorem RingL.eq {f : Int → Int} {a b : Int} {xs ys : List Int} (h : RingL f a xs) (k : RingL f b ys) : xs = ys ↔ SameP f a b := by
  obtain ⟨x, p, rfl, G, mx, i, ei⟩ := h
  obtain ⟨y, q, rfl, J, my, j, ej⟩ := k
  constructor
  · intro e
    have h0 : (met f x p)[0]? = some x := met_get G.1.pos
    have h1 : (met f y q)[0]? = some y := met_get J.1.pos
    rw [e, h1] at h0
    exact ⟨i, j, by rw [ei, ej, Option.some.inj h0]⟩
  · rintro ⟨u, v, e⟩
    -- both least houses lie on the other's ring
    have back : ∀ {z : Int} {r : Nat}, Gate f z r 0 → ∀ t, ∃ w, itr f z (t + w) = z := fun {z r} G t => by
      have lp : ∀ c : Nat, itr f z (c * r) = z := fun c => by
        have := laps_itr (f := f) (s := z) (g := 0) (p := r) (by rw [Nat.zero_add]; exact G.2.2) 0 c
        rw [Nat.zero_add, Nat.zero_add] at this
        exact this
      have rp := G.1.pos
      refine ⟨t * r - t, ?_⟩
      have : t ≤ t * r := Nat.le_mul_of_pos_right t rp
      rw [show t + (t * r - t) = t * r by omega]
      exact lp t
    have key : itr f x (u + j) = itr f y (v + i) := by
      have e1 : itr f x (u + j) = itr f a (i + (u + j)) := by rw [itr_add (s := a) i, ei]
      have e2 : itr f y (v + i) = itr f b (j + (v + i)) := by rw [itr_add (s := b) j, ej]
      rw [e1, e2, show i + (u + j) = u + (i + j) by omega, show j + (v + i) = v + (i + j) by omega, itr_add (s := a) u, e, ← itr_add]
    obtain ⟨w, hw⟩ := back G (u + j)
    obtain ⟨w', hw'⟩ := back J (v + i)
    have m1 : x ∈ met f y q := by
      have := ring_walk J (v + i + w)
      rw [itr_add, ← key, ← itr_add, hw] at this
      exact this
    have m2 : y ∈ met f x p := by
      have := ring_walk G (u + j + w')
      rw [itr_add, key, ← itr_add, hw'] at this
      exact this
    have h1 := my x m1
    have h2 := mx y m2
    have exy : x = y := by omega
    subst exy
    rw [(G.uniq J).1]
theorem RingL.mem {f : Int → Int} {s : Int} {ks ys : List Int} (cl : ∀ k ∈ ks, f k ∈ ks) (hs : s ∈ ks) (h : RingL f s ys) : (∀ x ∈ ys, x ∈ ks) ∧ 0 < ys.length ∧ ys.length ≤ ks.length := by
  obtain ⟨y, p, rfl, G, _, i, rfl⟩ := h
  have hy := itr_mem cl hs i
  refine ⟨fun x hx => ?_, by rw [met_len]; exact G.1.pos, by rw [met_len]; exact G.1.le cl hy⟩
  obtain ⟨j, _, rfl⟩ := met_mem.mp hx
  exact itr_mem cl hy j
theorem RingL.on {f : Int → Int} {s : Int} {m g : Nat} {ys : List Int} (G : Gate f s m g) (h : RingL f s ys) : itr f s g = s ↔ s ∈ ys := by
  obtain ⟨y, p, rfl, J, _, i, ei⟩ := h
  constructor
  · intro e
    have g0 : g = 0 := G.1.dis g 0 G.2.1 G.1.pos e
    subst g0
    have lp : itr f s (i * m) = s := by
      have := laps_itr (f := f) (s := s) (g := 0) (p := m) (by rw [Nat.zero_add]; exact G.2.2) 0 i
      rw [Nat.zero_add, Nat.zero_add] at this
      exact this
    have mp := G.1.pos
    have le : i ≤ i * m := Nat.le_mul_of_pos_right i mp
    have := ring_walk J (i * m - i)
    rw [← ei, ← itr_add, show i + (i * m - i) = i * m by omega, lp] at this
    rw [← ei]
    exact this
  · intro h
    obtain ⟨j, hj, ej⟩ := met_mem.mp h
    -- s lies on the ring: going round comes back
    have back : itr f s p = s := by
      have e := laps_itr (f := f) (s := y) (g := 0) (p := p) (by rw [Nat.zero_add]; exact J.2.2) j 1
      rw [Nat.zero_add, Nat.one_mul, itr_add, ej] at e
      exact e
    have pp := J.1.pos
    -- so s is met again first of all
    obtain ⟨q, hq, eq⟩ := G.1.all p
    rw [back] at eq
    by_cases hp : p < m
    · have := G.1.dis p 0 hp G.1.pos back
      omega
    · have lt : m ≤ p := by omega
      have e2 : itr f s (m + (p - m)) = itr f s (g + (p - m)) := lap_itr G.2.2 (p - m)
      rw [show m + (p - m) = p by omega, back] at e2
      by_cases g0 : g = 0
      · rw [g0]
        rfl
      · have hlt := G.2.1
        have dis : ∀ a b, a < p → b < p → itr f s a = itr f s b → a = b := fun a b ha hb e => by
          have ea : ∀ c, itr f s c = itr f y (j + c) := fun c => by rw [itr_add, ej]
          rw [ea, ea] at e
          have red : ∀ c, c < p → ∃ d, d < p ∧ itr f y (j + c) = itr f y d ∧ (d = j + c ∨ d + p = j + c) := fun c hc => by
            by_cases z : j + c < p
            · exact ⟨j + c, z, rfl, .inl rfl⟩
            · refine ⟨j + c - p, by omega, ?_, .inr (by omega)⟩
              have := lap_itr J.2.2 (j + c - p)
              rw [show p + (j + c - p) = j + c by omega, Nat.zero_add] at this
              exact this
          obtain ⟨d1, h1, e1, o1⟩ := red a ha
          obtain ⟨d2, h2, e2, o2⟩ := red b hb
          rw [e1, e2] at e
          have := J.1.dis d1 d2 h1 h2 e
          omega
        by_cases mp : m = p
        · have e3 := G.2.2
          rw [mp, back] at e3
          exact e3.symm
        · have := dis m g (by omega) (by omega) G.2.2
          omega
--CUT
/-! ### pieces -/
theorem op_eqDK {X : Cx} {K : PySem.W.Frag} {A : Around} (hu : A.units + 64 < cLine) (ha : X.A = A := by rfl) (h : X.K = K := by rfl) : OpR X (compareOp .Eq) (rEqD K) := by subst h; subst ha; exact op_eqD hu
theorem shaped_is (ns : List Int) : SeqAt.shaped (.list (ns.map PyData.int)) = true := PySem.W.ke_shaped_ints ns
theorem dpAll_ints {H : Hp} : ∀ ns : List Int, DpAll K H (ns.map V.int) (ns.map PyData.int)
  | [] => .nil
  | n :: ns => .cons (.int n) (dpAll_ints ns)
noncomputable def smp (f : Int → Int) (a b : Int) : Bool := @decide (SameP f a b) (Classical.propDecidable _)
theorem smp_iff {f : Int → Int} {a b : Int} : smp f a b = true ↔ SameP f a b := @decide_eq_true_iff (SameP f a b) (Classical.propDecidable _)
theorem eqvAll_ints : ∀ ns ms : List Int, PyData.eqvAll (ns.map PyData.int) (ms.map PyData.int) = decide (ns = ms)
  | [], [] => by rw [List.map_nil, PyData.eqvAll]; rfl
  | [], m :: ms => by rw [List.map_nil, List.map_cons, PyData.eqvAll]; rfl
  | n :: ns, [] => by rw [List.map_nil, List.map_cons, PyData.eqvAll]; rfl
  | n :: ns, m :: ms => by
    rw [List.map_cons, List.map_cons, PyData.eqvAll, eqvAll_ints ns ms, PyData.eqv]
    by_cases h1 : n = m <;> by_cases h2 : ns = ms <;> simp [h1, h2]
def sp_piece_of (C : Addr) : Sp := fun vs H Q _ => ∃ (h dn db dl : Addr) (n s : Int) (nx bf : List (Key × V)) (ls : List V) (ks : List Int), vs = [.ref h, .int s] ∧ NetAt C H h n dn db dl nx bf ls ∧ WN ks nx ∧ ks.length < 64 ∧ s ∈ ks ∧ 0 < n ∧
  ∀ (ys : List Int) l H', ys.Perm ks → ys.Pairwise (· ≤ ·) → Same H H' → H l = none → H' l = some (.lst ((ys.filter fun y => smp (iN nx) y s).map V.int)) → Q (.ref l) H'
def sp_least_of (C : Addr) : Sp := fun vs H Q _ => ∃ (h dn db dl : Addr) (n s : Int) (nx bf : List (Key × V)) (ls : List V) (ks : List Int), vs = [.ref h, .int s] ∧ NetAt C H h n dn db dl nx bf ls ∧ WN ks nx ∧ ks.length < 64 ∧ s ∈ ks ∧ 0 < n ∧
  ∀ (y : Int) H', y ∈ ks → SameP (iN nx) y s → (∀ x ∈ ks, SameP (iN nx) x s → y ≤ x) → Same H H' → Q (.int y) H'
--CUT
/-! ### the root of a house: the least house of its ring (pure) -/
theorem tk_snoc {α : Type} {ys : List α} {i : Nat} {y : α} (h : ys[i]? = some y) : ys.take (i + 1) = ys.take i ++ [y] := by rw [List.take_add_one, h]; rfl
section
variable {f : Int → Int} {s : Int} {ks : List Int}
theorem lasso_ex (cl : ∀ k ∈ ks, f k ∈ ks) (hs : s ∈ ks) : ∃ m, Lasso f s m ∧ m ≤ ks.length := by
  have go : ∀ i, (met f s i).Nodup ∨ ∃ m, Lasso f s m := fun i => by
    induction i with
    | zero => exact .inl List.nodup_nil
    | succ i ih =>
      rcases ih with ih | ih
      · by_cases hm : itr f s i ∈ met f s i
        · exact .inr ⟨i, Lasso.of ih hm⟩
        · refine .inl ?_
          rw [met_succ]
          exact List.nodup_append.mpr ⟨ih, by simp, fun a ha b hb e => hm (by rw [List.mem_singleton.mp hb] at e; rw [← e]; exact ha)⟩
      · exact .inr ih
  rcases go (ks.length + 1) with h | ⟨m, L⟩
  · have := met_le cl hs h
    omega
  · exact ⟨m, L, L.le cl hs⟩
theorem least_mem : ∀ {xs : List Int}, xs ≠ [] → ∃ y ∈ xs, ∀ x ∈ xs, y ≤ x
  | [], h => absurd rfl h
  | [a], _ => ⟨a, List.mem_singleton.mpr rfl, fun x hx => by rw [List.mem_singleton.mp hx]; exact Int.le_refl _⟩
  | a :: b :: r, _ => by
    obtain ⟨y, hy, h⟩ := least_mem (xs := b :: r) (by simp)
    by_cases e : a ≤ y
    · exact ⟨a, List.mem_cons_self, fun x hx => (List.mem_cons.mp hx).elim (fun z => by rw [z]; exact Int.le_refl _) fun z => Int.le_trans e (h x z)⟩
    · exact ⟨y, List.mem_cons_of_mem _ hy, fun x hx => (List.mem_cons.mp hx).elim (fun z => by rw [z]; omega) fun z => h x z⟩
theorem turned_ex {xs : List Int} (h : xs ≠ []) : ∃ ys, Turned xs ys := by
  obtain ⟨y, hy, hm⟩ := least_mem h
  obtain ⟨k, h1, h2⟩ := first_idx hy
  exact ⟨_, k, y, h1, hm, h2, rfl⟩
theorem ring_ex (cl : ∀ k ∈ ks, f k ∈ ks) (hs : s ∈ ks) : ∃ y ys, RingL f s (y :: ys) := by
  obtain ⟨m, L, _⟩ := lasso_ex cl hs
  obtain ⟨g, G⟩ := L.gate
  obtain ⟨ys, t⟩ := turned_ex (xs := (met f s m).drop g) (fun z => by
    have := congrArg List.length z
    rw [List.length_drop, met_len, List.length_nil] at this
    have := G.2.1
    omega)
  have R := turned_ring G t
  match ys, (R.mem cl hs).2.1, R with
  | y :: r, _, R => exact ⟨y, r, R⟩
noncomputable def rootF (f : Int → Int) (s : Int) : Int := @Classical.epsilon Int ⟨0⟩ fun y => ∃ ys, RingL f s (y :: ys)
theorem root_of {y : Int} {r : List Int} (R : RingL f s (y :: r)) : rootF f s = y := by
  obtain ⟨ys, R2⟩ := @Classical.epsilon_spec Int (fun y => ∃ ys, RingL f s (y :: ys)) ⟨y, r, R⟩
  exact (List.cons.inj ((RingL.eq R2 R).mpr ⟨0, 0, rfl⟩)).1
theorem root_same {a b x y : Int} {xs ys : List Int} (Ra : RingL f a (x :: xs)) (Rb : RingL f b (y :: ys)) : rootF f a = rootF f b ↔ SameP f a b := by
  rw [root_of Ra, root_of Rb]
  constructor
  · intro e
    obtain ⟨u, p, h1, G, _, i, hi⟩ := id Ra
    obtain ⟨v, q, k1, J, _, j, hj⟩ := id Rb
    have e1 : u = x := by
      have h0 : (met f u p)[0]? = some u := met_get G.1.pos
      rw [← h1] at h0
      exact (Option.some.inj h0).symm
    have e2 : v = y := by
      have h0 : (met f v q)[0]? = some v := met_get J.1.pos
      rw [← k1] at h0
      exact (Option.some.inj h0).symm
    exact ⟨i, j, by rw [hi, hj, e1, e2, e]⟩
  · intro h
    exact (List.cons.inj ((RingL.eq Ra Rb).mpr h)).1
theorem smp_root (cl : ∀ k ∈ ks, f k ∈ ks) {a b : Int} (ha : a ∈ ks) (hb : b ∈ ks) : smp f a b = decide (rootF f a = rootF f b) := by
  obtain ⟨x, xs, Ra⟩ := ring_ex cl ha
  obtain ⟨y, ys, Rb⟩ := ring_ex cl hb
  have h := root_same Ra Rb
  by_cases e : rootF f a = rootF f b
  · rw [decide_eq_true e]
    exact smp_iff.mpr (h.mp e)
  · rw [decide_eq_false e]
    exact Bool.eq_false_iff.mpr fun z => e (h.mpr (smp_iff.mp z))
theorem ring_far {ys : List Int} {m k : Nat} (R : RingL f s ys) (L : Lasso f s m) (h : m ≤ k) : itr f s k ∈ ys := by
  obtain ⟨y, p, rfl, J, _, i, ei⟩ := R
  obtain ⟨j, hj, e⟩ := L.all i
  rw [show k = j + (k - j) by omega, itr_add, ← e, ei]
  exact ring_walk J _
theorem gate_mem {ys : List Int} {m g j : Nat} (G : Gate f s m g) (R : RingL f s ys) (h : j ≤ g) : itr f s j ∈ ys ↔ j = g := by
  have hg := G.2.1
  have L' : Lasso f (itr f s j) (m - j) := by
    refine ⟨fun a b ha hb e => ?_, g - j, by omega, ?_⟩
    · rw [← itr_add, ← itr_add] at e
      have := G.1.dis _ _ (by omega) (by omega) e
      omega
    · rw [← itr_add, ← itr_add, show j + (m - j) = m by omega, show j + (g - j) = g by omega]
      exact G.2.2
  have G' : Gate f (itr f s j) (m - j) (g - j) := by
    refine ⟨L', by omega, ?_⟩
    rw [← itr_add, ← itr_add, show j + (m - j) = m by omega, show j + (g - j) = g by omega]
    exact G.2.2
  have R' : RingL f (itr f s j) ys := by
    obtain ⟨y, p, e, J, mn, i, ei⟩ := R
    have pp := J.1.pos
    have lp : itr f y (j * p) = y := by
      have := laps_itr (f := f) (s := y) (g := 0) (p := p) (by rw [Nat.zero_add]; exact J.2.2) 0 j
      rw [Nat.zero_add, Nat.zero_add] at this
      exact this
    have le : j ≤ j * p := Nat.le_mul_of_pos_right j pp
    refine ⟨y, p, e, J, mn, i + j * p - j, ?_⟩
    rw [← itr_add, show j + (i + j * p - j) = i + j * p by omega, itr_add, ei, lp]
  have h1 := RingL.on G' R'
  rw [← itr_add, show j + (g - j) = g by omega] at h1
  rw [← h1]
  constructor
  · intro e
    exact (G.1.dis _ _ hg (by omega) e).symm
  · intro e
    rw [e]
end
--CUT
def rAnyK (K : PySem.W.Frag) : List V → Hp → VK → Prop := fun vs H Q => ∃ (a : Addr) (bs : List Bool), vs = [V.ref a] ∧ SqL K H a (bs.map V.bl) ∧ Q (.bl (bs.any id)) H
theorem cr_anyK {X : Cx} {K : PySem.W.Frag} (hc : X.calm = true := by rfl) (h : X.K = K := by rfl) : CallR X (.builtin "any") (rAnyK K) := by subst h; exact cr_any hc
/-! ### a house that nobody names -/
def nm1 (nx bf : List (Key × V)) (p k : Int) : Bool := eqV (gV nx k) (.int p) || eqV (gV bf k) (.int p)
/-- does anything name the house -/
def namedB (nx bf : List (Key × V)) (ks : List Int) (Ls : List Let) (p : Int) : Bool := ((ks.filter fun k => !decide (k = p)).any (nm1 nx bf p)) || Ls.any fun L => decide (p ∈ L.ns)
theorem cut_let (L : Let) : cutV L.vals (some 1) none = L.ns.map V.int := by cases L <;> rfl
theorem cut_let_ok (L : Let) : ¬ (HT.sIx L.vals.length 0 (some 1) = 0 ∧ HT.sIx L.vals.length L.vals.length none = L.vals.length) := by
  cases L with
  | tell r u => show ¬ (HT.sIx 3 0 (some 1) = 0 ∧ HT.sIx 3 3 none = 3); decide
  | ask r u => show ¬ (HT.sIx 3 0 (some 1) = 0 ∧ HT.sIx 3 3 none = 3); decide
  | answer r u m => show ¬ (HT.sIx 4 0 (some 1) = 0 ∧ HT.sIx 4 4 none = 4); decide
def sp_Net__is_named (C : Addr) : Sp := fun vs H Q _ => ∃ (h dn db dl : Addr) (n p : Int) (nx bf : List (Key × V)) (ls : List V) (ks : List Int) (Ls : List Let), vs = [.ref h, .int p] ∧ NetAt C H h n dn db dl nx bf ls ∧ nx.map (·.1) = ks.map Sum.inl ∧ ks.length < 64 ∧ (∀ k ∈ ks, ∃ x, valV nx (.inl k) = some (.int x)) ∧ (∀ k ∈ ks, ∃ b, valV bf (.inl k) = some b ∧ okB b) ∧ LAt Let.vals H ls Ls ∧ ls.length ≤ 1000 ∧
  ∀ H', Same H H' → Q (.bl (namedB nx bf ks Ls p)) H'
theorem T0.ok_Net__is_named (T : T0 K mg) : FnOk P w K mg base CX0 1 T.a_Net__is_named T.fd_Net__is_named ["self", "house"] (sp_Net__is_named T.C_Net) := by
  refine T.F_Net__is_named.ok sc_Net__is_named (fun vs H Q E h => ?_) (fun cdv A outer s0 H vs Q E hr h => ?_)
  · obtain ⟨h, dn, db, dl, n, p, nx, bf, ls, ks, Ls, rfl, _⟩ := h
    rfl
  · obtain ⟨h, dn, db, dl, n, p, nx, bf, ls, ks, Ls, rfl, N0, hk, h64, vN, vB, la, l1000, q⟩ := h
    refine ⟨_, (pss_cons (show PS _ _ (L2.tLock _) from L2.ps_lock (ps_setLc (i := 2) (own := [("other", 3)]) (g := gName 3) (by rfl) sc_Net__is_named.nd rfl rfl (sw_true rfl rfl rfl (by decide +kernel)) (pi_keys (show PE _ _ (tFld K _ _) from pe_fld (pv 0) rfl)) (blkOk_by (own := [("other", 3)]) (N := ["self", "house", "others", "other", "letter"]) (sc := defScope s_Net__is_named) (by decide +kernel)) (fun _ _ _ _ _ => pg_name (i := 3) sc_Net__is_named.nd rfl (Or.inl rfl)) (fun _ _ _ _ _ => pts_one (pt_cmpR op_ne (pv 3) (pv 1) (nomark _))) (fun _ _ _ _ _ => (pv 3))))
        (pss_cons (ps_if (pt_val (pe_callB (cr_anyK (K := K)) (by rfl) T.m_any (by decide +kernel) (pa_cons (pe_lc (own := [("other", 3)]) (g := gName 3) (by rfl) sc_Net__is_named.nd (pi_list (pv 2)) (blkOk_by (own := [("other", 3)]) (N := ["self", "house", "others", "other", "letter"]) (sc := defScope s_Net__is_named) (by decide +kernel)) (fun _ _ _ _ _ => pg_name (i := 3) sc_Net__is_named.nd rfl (Or.inl rfl)) (fun _ _ _ _ _ => pts_nil) (fun _ _ _ _ _ => (pe_cmpR (op_in_seqK (K := K)) (pv 1) (pe_tup (pa_cons (pe_dget (un1 hr) (show PE _ _ (tFld K _ _) from pe_fld (pv 0) rfl) (pv 3) (fun _ _ => rfl)) (pa_cons (pe_dget (un1 hr) (show PE _ _ (tFld K _ _) from pe_fld (pv 0) rfl) (pv 3) (fun _ _ => rfl)) pa_nil))) (by rfl)))) pa_nil))) (pss_one (ps_ret pe_bl)) pss_nil)
        (pss_one (ps_ret (pe_callB (cr_anyK (K := K)) (by rfl) T.m_any (by decide +kernel) (pa_cons (pe_lc (own := [("letter", 4)]) (g := gName 4) (by rfl) sc_Net__is_named.nd (pi_list (show PE _ _ (tFld K _ _) from pe_fld (pv 0) rfl)) (blkOk_by (own := [("letter", 4)]) (N := ["self", "house", "others", "other", "letter"]) (sc := defScope s_Net__is_named) (by decide +kernel)) (fun _ _ _ _ _ => pg_name (i := 4) sc_Net__is_named.nd rfl (Or.inl rfl)) (fun _ _ _ _ _ => pts_nil) (fun _ _ _ _ _ => (pe_cmpR (op_in_seqK (K := K)) (pv 1) (pe_slice (sl_tupK (K := K)) (pv 4) (po_some pe_int) po_none) (by rfl)))) pa_nil)))))), ?_⟩
    have lnx : nx.length = ks.length := by have := congrArg List.length hk; rw [List.length_map, List.length_map] at this; exact this
    obtain ⟨dx, hh⟩ := N0.me
    refine ⟨dn, _, N0.hn, trivial, fun od => ?_⟩
    refine ⟨_, rfl, h, _, dx, _, _, rfl, (upd_ne (ne_kind hh N0.hn (fun z => nomatch z))).trans hh, T.cl_Net, T.na_Net__nexts, nf_nexts, dn, od, rfl, .inl ⟨nx, upd_same, fun D hD => ?_⟩⟩
    have nDN : D ≠ dn := fun z => by rw [z, upd_same] at hD; cases hD
    have hD0 : H D = none := by rw [upd_ne nDN] at hD; exact hD
    refine lc_it walk_keys (fun i H' => Same (upd H dn (.frz od (.dK nx))) H' ∧ H' D = some (.lst (((ks.take i).filter fun k => !decide (k = p)).map V.int))) ⟨same_upd hD, upd_same⟩ (fun i H' _ p => p.1 _ _ upd_same) (fun i x H4 H5 hi pv hy => ?_) (fun H4 pv => ?_)
    · obtain ⟨rfl, k, v, hkv, rfl⟩ := hy
      obtain ⟨s4, e4⟩ := pv
      have hki : ks[i]?.map (Sum.inl : Int → Key) = some k := by rw [← List.getElem?_map, ← hk, List.getElem?_map, hkv]; rfl
      obtain ⟨y, hy, rfl⟩ := Option.map_eq_some_iff.mp hki
      have tk : ks.take (i + 1) = ks.take i ++ [y] := by rw [List.take_add_one, hy]; rfl
      refine ⟨rfl, _, rfl, _, rfl, rfl, _, rfl, ?_⟩
      have ed : (!decide (kV (Sum.inl y) = V.int p)) = !decide (y = p) := by
        show (!decide (V.int y = V.int p)) = _
        rw [dec_int]
      by_cases e : y = p
      · refine iteF' (ed.trans (by rw [decide_eq_true e]; rfl)) ⟨s4, ?_⟩
        rw [tk, List.filter_append, List.filter_cons_of_neg (by rw [decide_eq_true e]; decide), List.filter_nil, List.append_nil]
        exact e4
      · refine iteT' (ed.trans (by rw [decide_eq_false e]; rfl)) ⟨_, rfl, _, e4, small1000' ?_, fun b o eo => (upd_ne (ne_of_none eo hD)).trans (s4 _ _ eo), ?_⟩
        · rw [List.length_map]
          have := List.length_filter_le (fun k => !decide (k = p)) (ks.take i)
          rw [List.length_take] at this
          omega
        · rw [upd_same, tk, List.filter_append, List.filter_cons_of_pos (by rw [decide_eq_false e]; rfl), List.map_append]
          rfl
    · obtain ⟨s4, e4⟩ := pv
      rw [lnx, List.take_length] at e4
      refine ⟨s4 _ _ upd_same, ?_⟩
      have s5 : Same H (upd H4 dn (.dK nx)) := fun a o e => by
        by_cases z : a = dn
        · rw [z] at e ⊢
          rw [upd_same, ← N0.hn]
          exact e
        · rw [upd_ne z]
          exact s4 _ _ ((upd_ne z).trans e)
      have e5 := (upd_ne (o := .dK nx) nDN).trans e4
      generalize upd H4 dn (.dK nx) = H5 at s5 e5
      obtain ⟨os, eos⟩ : ∃ os, (ks.filter fun k => !decide (k = p)) = os := ⟨_, rfl⟩
      have mos : ∀ k ∈ os, k ∈ ks := fun k hk => by rw [← eos] at hk; exact (List.mem_filter.mp hk).1
      have los : os.length ≤ ks.length := by rw [← eos]; exact List.length_filter_le _ _
      rw [eos] at e5
      refine ⟨_, rfl, D, rfl, ⟨_, SqL.of e5⟩, fun D2 hD2 => ?_⟩
      have N5 := N0.same s5
      refine lc_list (K := K) (a := D) (xs := os.map V.int) (fun i H' => Same H5 H' ∧ H' D2 = some (.lst (((os.take i).map (nm1 nx bf p)).map V.bl))) ⟨same_upd hD2, upd_same⟩ (fun i H' _ p => SqL.of (p.1 _ _ e5)) (fun i x H6 hx pv => ?_) (fun H6 pv => ?_)
      · obtain ⟨s6, e6⟩ := pv
        rw [List.getElem?_map] at hx
        obtain ⟨y, hy, rfl⟩ := Option.map_eq_some_iff.mp hx
        have my := mos y (List.mem_of_getElem? hy)
        obtain ⟨xn, en⟩ := vN y my
        obtain ⟨b, eb, ob⟩ := vB y my
        have N6 := N5.same s6
        obtain ⟨dx6, hh6⟩ := N6.me
        refine ⟨rfl, lc_yes ?_⟩
        refine ⟨_, rfl, _, rfl, h, _, dx6, _, _, rfl, hh6, T.cl_Net, T.na_Net__nexts, nf_nexts, _, rfl, dn, _, rfl, dget_of (k := Sum.inl y) N6.hn en, ?_⟩
        refine ⟨_, rfl, h, _, dx6, _, _, rfl, hh6, T.cl_Net, T.na_Net__befores, nf_befores, _, rfl, db, _, rfl, dget_of (k := Sum.inl y) N6.hb eb, lenL (by show 2 ≤ 100000; decide), fun t nt => ?_⟩
        have nt2 : t ≠ D2 := fun z => by rw [z, e6] at nt; cases nt
        refine ⟨t, _, rfl, .inr (SqT.of upd_same), rfl, ?_, _, (upd_ne nt2.symm).trans e6, small1000' (by rw [List.length_map, List.length_map, List.length_take]; omega), fun a o e => (upd_ne (ne_of_none e hD2)).trans ((upd_ne (ne_of_none (s6 _ _ e) nt)).trans (s6 _ _ e)), ?_⟩
        · rcases ob with rfl | ⟨z, rfl⟩ <;> rfl
        · have tk : os.take (i + 1) = os.take i ++ [y] := by rw [List.take_add_one, hy]; rfl
          have ev : nm1 nx bf p y = inV (.int p) [V.int xn, b] := by
            unfold nm1 inV
            rw [gV_of en, gV_of eb, List.any_cons, List.any_cons, List.any_nil, Bool.or_false]
          rw [upd_same, tk, List.map_append, List.map_append, ← ev]
          rfl
      · obtain ⟨s6, e6⟩ := pv
        rw [List.length_map, List.take_length] at e6
        refine ⟨D2, _, rfl, SqL.of e6, _, rfl, ?_⟩
        have nb : namedB nx bf ks Ls p = ((os.map (nm1 nx bf p)).any id || Ls.any fun L => decide (p ∈ L.ns)) := by
          unfold namedB
          rw [eos, List.any_map]
          rfl
        have s06 := Same.trans s5 s6
        by_cases ea : (os.map (nm1 nx bf p)).any id = true
        · refine iteT' ea ?_
          have := q H6 s06
          rw [nb, ea] at this
          exact this
        · have ea := Bool.eq_false_iff.mpr ea
          refine iteF' ea ?_
          have N6 := N0.same s06
          obtain ⟨dx6, hh6⟩ := N6.me
          refine ⟨_, rfl, h, _, dx6, _, _, rfl, hh6, T.cl_Net, T.na_Net__letters, nf_letters, dl, rfl, ⟨_, SqL.of N6.hl⟩, fun D3 hD3 => ?_⟩
          refine lc_list (K := K) (a := dl) (xs := ls) (fun i H' => Same H6 H' ∧ H' D3 = some (.lst (((Ls.take i).map fun L => decide (p ∈ L.ns)).map V.bl))) ⟨same_upd hD3, upd_same⟩ (fun i H' _ p => SqL.of (p.1 _ _ N6.hl)) (fun i x H7 hx pv => ?_) (fun H7 pv => ?_)
          · obtain ⟨s7, e7⟩ := pv
            obtain ⟨a, L, hL, rfl, eL⟩ := la.at hx
            have eL7 := s7 _ _ (s06 _ _ eL)
            refine ⟨rfl, lc_yes ?_⟩
            refine ⟨_, rfl, _, rfl, 1, rfl, a, _, rfl, SqT.of eL7, cut_let_ok L, fun t nt => ?_⟩
            rw [cut_let]
            have nt2 : t ≠ D3 := fun z => by rw [z, e7] at nt; cases nt
            refine ⟨t, _, rfl, .inr (SqT.of upd_same), rfl, flat_ints, _, (upd_ne nt2.symm).trans e7, small1000' ?_, fun a o e => (upd_ne (ne_of_none e hD3)).trans ((upd_ne (ne_of_none (s7 _ _ e) nt)).trans (s7 _ _ e)), ?_⟩
            · have := la.1
              rw [List.length_map, List.length_map, List.length_take]
              omega
            · have tk : Ls.take (i + 1) = Ls.take i ++ [L] := by rw [List.take_add_one, hL]; rfl
              rw [upd_same, tk, List.map_append, List.map_append]
              show some (HO.lst (_ ++ [V.bl (inV (.int p) (L.ns.map V.int))])) = _
              rw [inV_ints]
              rfl
          · obtain ⟨s7, e7⟩ := pv
            rw [la.1, List.take_length] at e7
            refine ⟨D3, _, rfl, SqL.of e7, ?_⟩
            have := q H7 (Same.trans s06 s7)
            rw [nb, ea, Bool.false_or] at this
            rw [List.any_map]
            exact this
theorem keys_dropK {kvs : List (Key × V)} {k : Key} : (dropK kvs k).map (·.1) = (kvs.map (·.1)).filter fun j => decide (j ≠ k) := by
  unfold dropK
  rw [List.filter_map]
  rfl
theorem valV_dropK {kvs : List (Key × V)} {k j : Key} : valV (dropK kvs k) j = if j = k then none else valV kvs j := by
  induction kvs with
  | nil => by_cases e : j = k <;> simp [e, dropK, valV]
  | cons q r ih =>
    by_cases e : q.1 = k
    · rw [show dropK (q :: r) k = dropK r k from by unfold dropK; rw [List.filter_cons_of_neg (by simp [e])], ih]
      by_cases e2 : j = k
      · rw [if_pos e2, if_pos e2]
      · rw [if_neg e2, if_neg e2, valV_neg (show ¬ q.1 = j from fun z => e2 (z.symm.trans e))]
    · rw [show dropK (q :: r) k = q :: dropK r k from by unfold dropK; rw [List.filter_cons_of_pos (by simp [e])]]
      by_cases e2 : q.1 = j
      · rw [valV_pos e2, valV_pos e2, if_neg (fun z => e (e2.trans z))]
      · rw [valV_neg e2, ih, valV_neg e2]
def sp_Net__take_out (C : Addr) : Sp := fun vs H Q _ => ∃ (h dn db dl : Addr) (n p : Int) (nx bf : List (Key × V)) (ls : List V) (ks : List Int) (Ls : List Let), vs = [.ref h, .int p] ∧ NetAt C H h n dn db dl nx bf ls ∧ nx.map (·.1) = ks.map Sum.inl ∧ ks.length < 64 ∧ (∀ k ∈ ks, ∃ x, valV nx (.inl k) = some (.int x)) ∧ (∀ k ∈ ks, ∃ b, valV bf (.inl k) = some b ∧ okB b) ∧ LAt Let.vals H ls Ls ∧ ls.length ≤ 1000 ∧ p ∈ ks ∧ db ≠ dn ∧ namedB nx bf ks Ls p = false ∧
  ∀ H', NetAt C H' h n dn db dl (dropK nx (.inl p)) (dropK bf (.inl p)) ls → (∀ a o, a ≠ dn → a ≠ db → H a = some o → H' a = some o) → Q .non H'
theorem T0.ok_Net__take_out (T : T0 K mg) : FnOk P w K mg base CX0 2 T.a_Net__take_out T.fd_Net__take_out ["self", "house"] (sp_Net__take_out T.C_Net) := by
  refine T.F_Net__take_out.ok sc_Net__take_out (fun vs H Q E h => ?_) (fun cdv A outer s0 H vs Q E hr h => ?_)
  · obtain ⟨h, dn, db, dl, n, p, nx, bf, ls, ks, Ls, rfl, _⟩ := h
    rfl
  · obtain ⟨h, dn, db, dl, n, p, nx, bf, ls, ks, Ls, rfl, N0, hk, h64, vN, vB, la, l1000, hp, ne, nb, q⟩ := h
    refine ⟨_, (pss_cons (ps_expr (pe_meth (pv 0) T.cl_Net T.me_Net__check_house T.ok_Net__check_house hr T.b_Net__check_house .nil pass0 (pa_cons (pv 1) pa_nil)))
        (pss_cons (ps_if (pt_val (pe_meth (pv 0) T.cl_Net T.me_Net__is_named T.ok_Net__is_named hr T.b_Net__is_named .nil pass0 (pa_cons (pv 1) pa_nil))) (pss_one (ps_never)) pss_nil)
        (pss_cons (ps_ddel (show PE _ _ (tFld K _ _) from pe_fld (pv 0) rfl) (pv 1))
        (pss_one (ps_ddel (show PE _ _ (tFld K _ _) from pe_fld (pv 0) rfl) (pv 1)))))), ?_⟩
    obtain ⟨dx, hh⟩ := N0.me
    obtain ⟨xn, en⟩ := vN p hp
    obtain ⟨b, eb, ob⟩ := vB p hp
    refine ⟨_, rfl, h, dx, _, rfl, hh, (by unfold nf; walk_at "lk"), _, rfl, h, dn, db, dl, n, p, nx, bf, ls, rfl, N0, (by rw [en]; rfl), ?_⟩
    refine ⟨_, rfl, h, dx, _, rfl, hh, (by unfold nf; walk_at "lk"), _, rfl, h, dn, db, dl, n, p, nx, bf, ls, ks, Ls, rfl, N0, hk, h64, vN, vB, la, l1000, fun H1 s1 => ⟨_, rfl, iteF' nb ?_⟩⟩
    have N1 := N0.same s1
    obtain ⟨dx1, hh1⟩ := N1.me
    refine ⟨_, rfl, h, _, dx1, _, _, rfl, hh1, T.cl_Net, T.na_Net__nexts, nf_nexts, _, rfl, dn, nx, .inl p, rfl, N1.hn, rfl, (by rw [en]; rfl), ?_⟩
    have N2 : NetAt T.C_Net (upd H1 dn (.dK (dropK nx (.inl p)))) h n dn db dl (dropK nx (.inl p)) bf ls := N1.setn ne
    have f2 : ∀ a o, a ≠ dn → H a = some o → upd H1 dn (.dK (dropK nx (.inl p))) a = some o := fun a o na e => (upd_ne na).trans (s1 _ _ e)
    generalize upd H1 dn (.dK (dropK nx (.inl p))) = H2 at N2 f2
    obtain ⟨dx2, hh2⟩ := N2.me
    refine ⟨_, rfl, h, _, dx2, _, _, rfl, hh2, T.cl_Net, T.na_Net__befores, nf_befores, _, rfl, db, bf, .inl p, rfl, N2.hb, rfl, (by rw [eb]; rfl), ?_⟩
    exact q _ (N2.setb ne) fun a o n1 n2 e => (upd_ne n2).trans (f2 _ _ n1 e)
/-! ### the law's own word for named houses -/
def cN (nx bs : List (Key × V)) (p y : Int) : Bool := (!decide (V.int y = V.int p)) && (decide (V.int (iN nx y) = V.int p) || decide (bef bs y = .int p))
def namedL (nx bs : List (Key × V)) (ks : List Int) (Ls : List Let) (p : Int) : Bool := ks.any (cN nx bs p) || Ls.any fun L => decide (p ∈ L.ns)
def sp__law_named (K : PySem.W.Frag) : Sp := fun vs H Q _ => ∃ (dN dB pO : Addr) (p : Int) (nx bs : List (Key × V)) (ps : List V) (ks : List Int) (Ls : List Let), vs = [.ref dN, .ref dB, .ref pO, .int p] ∧ H dN = some (.dK nx) ∧ H dB = some (.dK bs) ∧ H pO = some (.lst ps) ∧ GN ks nx ∧ ks.length < 64 ∧ (∀ k, okB (bef bs k)) ∧ LAt Let.vals H ps Ls ∧ ps.length ≤ 1000 ∧
  ∀ H', Same H H' → Q (.bl (namedL nx bs ks Ls p)) H'
theorem T0.ok__law_named (T : T0 K mg) : FnOk P w K mg base CX0 1 T.a__law_named T.fd__law_named ["nexts", "behinds", "post", "house"] (sp__law_named K) := by
  refine T.F__law_named.ok sc__law_named (fun vs H Q E h => ?_) (fun cdv A outer s0 H vs Q E hr h => ?_)
  · obtain ⟨dN, dB, pO, p, nx, bs, ps, ks, Ls, rfl, _⟩ := h
    rfl
  · obtain ⟨dN, dB, pO, p, nx, bs, ps, ks, Ls, rfl, hN, hB, hP, gn, l64, ob, la, l1000, q⟩ := h
    refine ⟨_, (pss_cons (ps_for PassesOwn.never rfl (pi_list (pe_callB (call_sortedDI rfl) (by rfl) T.m_sorted (by decide +kernel) (pa_cons (pv 0) pa_nil))) (pg_name (i := 4) sc__law_named.nd rfl (Or.inl rfl)) (pss_one (ps_if (PW.pt (pw_and (pt_cmpR op_ne (pv 4) (pv 3) (nomark _)) (pw_and1 (PW.pt (pw_or (pt_cmpR op_eq (pe_dget (un1 hr) (pv 0) (pv 4) (fun _ _ => rfl)) (pv 3) (nomark _)) (pw_or1 (pt_cmpR op_eq (pe_dget1 (un1 hr) (pv 1) (pv 4) ⟨rfl, rfl, rfl, rfl⟩) (pv 3) (nomark _)))))))) (pss_one (ps_ret pe_bl)) pss_nil)))
        (pss_one (ps_ret (pe_cmpR op_gt (pe_callB (call_lenK (K := K)) (by rfl) T.m_len PySem.boot_len (pa_cons (pe_lc (own := [("letter", 5)]) (g := gName 5) (by rfl) sc__law_named.nd (pi_list (pv 2)) (blkOk_by (own := [("letter", 5)]) (N := ["nexts", "behinds", "post", "house", "other", "letter"]) (sc := defScope s__law_named) (by decide +kernel)) (fun _ _ _ _ _ => pg_name (i := 5) sc__law_named.nd rfl (Or.inl rfl)) (fun _ _ _ _ _ => pts_one (pt_cmpR (op_in_seqK (K := K)) (pv 3) (pe_slice (sl_tupK (K := K)) (pv 5) (po_some pe_int) po_none) (by rfl))) (fun _ _ _ _ _ => (pv 5))) pa_nil)) pe_int (nomark _))))), ?_⟩
    refine ⟨_, rfl, dN, nx, ks, rfl, .inl hN, gn.1, l64, fun ys z perm pw nz => ?_⟩
    have s1 := same_upd (o := .lst (ys.map V.int)) nz
    have e1 : upd H z (.lst (ys.map V.int)) z = some (.lst (ys.map V.int)) := upd_same
    generalize upd H z (.lst (ys.map V.int)) = H1 at s1 e1
    refine ⟨z, rfl, ⟨_, SqL.of e1⟩, ?_⟩
    refine for_list (K := K) (a := z) (xs := ys.map V.int) (fun i σ' H' => ∃ (o4 : Option V), σ' = [some (.ref dN), some (.ref dB), some (.ref pO), some (.int p), o4, none] ∧ H1 = H' ∧ ∀ y ∈ ys.take i, cN nx bs p y = false)
      ⟨none, rfl, rfl, fun _ h => by rw [List.take_zero] at h; nomatch h⟩ (fun i σ' H' _ pv => by obtain ⟨_, _, rfl, _⟩ := pv; exact SqL.of e1) (fun i v σ' H3 hv pv => ?_) (fun σ' H3 pv => ?_)
    · obtain ⟨o4, rfl, rfl, no⟩ := pv
      rw [List.getElem?_map] at hv
      obtain ⟨y, hyi, rfl⟩ := Option.map_eq_some_iff.mp hv
      have my := perm.mem_iff.mp (List.mem_of_getElem? hyi)
      obtain ⟨x, _, ex⟩ := gn.2 y my
      have vx : iN nx y = x := iN_of ex
      refine g_name ?_
      refine v_if1 (b := cN nx bs p y) (ans_a (fun _ q => ⟨_, rfl, _, rfl, rfl, _, rfl, q⟩) (fun _ => ans_o (fun _ q => ⟨_, rfl, _, rfl, dN, _, rfl, dget_of (k := Sum.inl y) (s1 _ _ hN) ex, _, rfl, rfl, _, rfl, by rw [vx] at q; exact q⟩) (fun _ => fun _ q => ⟨_, rfl, dB, rfl, .inl ⟨_, .inl (s1 _ _ hB)⟩, _, rfl, _, DGet.k (k := Sum.inl y) (s1 _ _ hB), _, rfl, scal_ok (ob y) (.inr ⟨p, rfl⟩), _, rfl, q⟩))) (fun e => ?_) (fun e => ?_)
      · have : namedL nx bs ks Ls p = true := by
          unfold namedL
          rw [List.any_eq_true.mpr ⟨y, my, e⟩]
          rfl
        have qq := q H1 s1
        rw [this] at qq
        exact qq
      · refine ⟨_, rfl, rfl, fun y' hy' => ?_⟩
        rw [tk_snoc hyi] at hy'
        rcases List.mem_append.mp hy' with h | h
        · exact no y' h
        · rw [List.mem_singleton.mp h]
          exact e
    · obtain ⟨o4, rfl, rfl, no⟩ := pv
      rw [List.length_map, List.take_length] at no
      have hf : ks.any (cN nx bs p) = false := by
        refine Bool.eq_false_iff.mpr fun c => ?_
        obtain ⟨y, hy, ey⟩ := List.any_eq_true.mp c
        rw [no y (perm.mem_iff.mpr hy)] at ey
        cases ey
      have hP1 := s1 _ _ hP
      refine ⟨_, rfl, pO, rfl, ⟨_, SqL.of hP1⟩, fun D hD => ?_⟩
      refine lc_list (K := K) (a := pO) (xs := ps) (fun i H' => Same H1 H' ∧ ∃ us, H' D = some (.lst us) ∧ us.length ≤ i ∧ (us.length = 0 ↔ (Ls.take i).any (fun L => decide (p ∈ L.ns)) = false)) ⟨same_upd hD, [], upd_same, Nat.zero_le _, by rw [List.take_zero]; exact ⟨fun _ => rfl, fun _ => rfl⟩⟩ (fun i H' _ p => SqL.of (p.1 _ _ hP1)) (fun i x H7 hx pv => ?_) (fun H7 pv => ?_)
      · obtain ⟨s7, us, e7, lu, iu⟩ := pv
        obtain ⟨a, L, hL, rfl, eL⟩ := la.at hx
        have eL7 := s7 _ _ (s1 _ _ eL)
        have hi : i < ps.length := (List.getElem?_eq_some_iff.mp hx).1
        have tk : Ls.take (i + 1) = Ls.take i ++ [L] := by rw [List.take_add_one, hL]; rfl
        refine ⟨rfl, ?_⟩
        refine ⟨_, rfl, _, rfl, 1, rfl, a, _, rfl, SqT.of eL7, cut_let_ok L, fun t nt => ?_⟩
        rw [cut_let]
        have nt2 : t ≠ D := fun z => by rw [z, e7] at nt; cases nt
        have s8 := Same.trans s7 (same_upd (o := .tup (L.ns.map V.int)) nt)
        have e8 := (upd_ne (o := .tup (L.ns.map V.int)) nt2.symm).trans e7
        refine ⟨t, _, rfl, .inr (SqT.of upd_same), rfl, flat_ints, _, rfl, ?_⟩
        by_cases e : p ∈ L.ns
        · refine iteT' (by show inV _ _ = true; rw [inV_ints]; exact decide_eq_true e) ?_
          refine ⟨_, rfl, us, e8, small1000' (by omega), fun b o eo => (upd_ne (ne_of_none eo hD)).trans (s8 _ _ eo), us ++ [.ref a], upd_same, by rw [List.length_append]; show us.length + 1 ≤ i + 1; omega, ?_⟩
          rw [tk, List.any_append, List.length_append]
          constructor
          · intro c
            have : us.length + 1 = 0 := c
            omega
          · intro c
            rw [show [L].any (fun L => decide (p ∈ L.ns)) = true by rw [List.any_cons, decide_eq_true e]; rfl, Bool.or_true] at c
            cases c
        · refine iteF' (by show inV _ _ = false; rw [inV_ints]; exact decide_eq_false e) ?_
          refine ⟨s8, us, e8, by omega, ?_⟩
          rw [tk, List.any_append, show [L].any (fun L => decide (p ∈ L.ns)) = false by rw [List.any_cons, decide_eq_false e]; rfl, Bool.or_false]
          exact iu
      · obtain ⟨s7, us, e7, lu, iu⟩ := pv
        rw [la.1, List.take_length] at iu
        refine ⟨D, us, rfl, .inl (SqL.of e7), _, _, rfl, rfl, ?_⟩
        have qq := q H7 (Same.trans s1 s7)
        have : namedL nx bs ks Ls p = decide ((us.length : Int) > 0) := by
          unfold namedL
          rw [hf, Bool.false_or]
          by_cases c : us.length = 0
          · rw [iu.mp c, decide_eq_false (by omega)]
          · rw [decide_eq_true (by omega)]
            cases d : Ls.any (fun L => decide (p ∈ L.ns)) with
            | true => rfl
            | false => exact absurd (iu.mpr d) c
        rw [this] at qq
        exact qq
theorem named_eq {ks : List Int} {nx bf bs : List (Key × V)} {Ls : List Let} {p : Int} (gn : GN ks nx) (vf : VF ks bf bs) (ob : ∀ k, okB (bef bs k)) : namedB nx bf ks Ls p = namedL nx bs ks Ls p := by
  unfold namedB namedL
  congr 1
  have key : ∀ k ∈ ks, nm1 nx bf p k = (decide (V.int (iN nx k) = V.int p) || decide (bef bs k = .int p)) := fun k hk => by
    unfold nm1
    rw [gV_iN gn hk, gV_of (vf k hk), dec_int]
    congr 1
    rcases ob k with e | ⟨z, e⟩
    · rw [e]
      rfl
    · rw [e, dec_int]
      show (z == p) = _
      by_cases e : z = p <;> simp [e]
  rw [Bool.eq_iff_iff, List.any_eq_true, List.any_eq_true]
  constructor
  · rintro ⟨k, hk, e⟩
    obtain ⟨mk, nk⟩ := List.mem_filter.mp hk
    refine ⟨k, mk, ?_⟩
    unfold cN
    rw [← key k mk, e, dec_int, nk]
    rfl
  · rintro ⟨k, mk, e⟩
    unfold cN at e
    rw [← key k mk, dec_int] at e
    simp only [Bool.and_eq_true] at e
    exact ⟨k, List.mem_filter.mpr ⟨mk, e.1⟩, e.2⟩
--CUT
theorem dropK_none {kvs : List (Key × V)} {k : Key} (h : valV kvs k = none) : dropK kvs k = kvs := by
  unfold dropK
  refine List.filter_eq_self.mpr fun q hq => decide_eq_true fun e => ?_
  have : (valV kvs k).isSome = true := by
    rw [← valV_any]
    exact List.any_eq_true.mpr ⟨q, hq, decide_eq_true e⟩
  rw [h] at this
  cases this
section
variable {ks : List Int} {nx bf bs : List (Key × V)} {Ls : List Let} {p : Int}
theorem named_no (h : namedL nx bs ks Ls p = false) : (∀ k ∈ ks, k ≠ p → iN nx k ≠ p ∧ bef bs k ≠ .int p) ∧ ∀ L ∈ Ls, p ∉ L.ns := by
  unfold namedL at h
  simp only [Bool.or_eq_false_iff] at h
  obtain ⟨h1, h2⟩ := h
  refine ⟨fun k hk ne => ?_, fun L hL c => ?_⟩
  · have := (List.any_eq_false.mp h1) k hk
    unfold cN at this
    rw [dec_int, dec_int, decide_eq_false ne] at this
    simp only [Bool.not_false, Bool.true_and, Bool.or_eq_true, decide_eq_true_eq, not_or] at this
    exact this
  · exact (List.any_eq_false.mp h2) L hL (decide_eq_true c)
theorem mem_wo {k : Int} : k ∈ ks.filter (fun j => decide (j ≠ p)) ↔ k ∈ ks ∧ k ≠ p := by rw [List.mem_filter, decide_eq_true_eq]
theorem wo_keys {kvs : List (Key × V)} {js : List Int} (h : kvs.map (·.1) = js.map Sum.inl) : (dropK kvs (.inl p)).map (·.1) = (js.filter fun j => decide (j ≠ p)).map Sum.inl := by
  rw [keys_dropK, h, List.filter_map]
  congr 1
  refine List.filter_congr fun j _ => ?_
  rw [Bool.eq_iff_iff]
  show decide (_ ≠ _) = true ↔ _
  rw [decide_eq_true_iff, decide_eq_true_iff]
  exact ⟨fun h e => h (by rw [e]), fun h e => h (Sum.inl.inj e)⟩
theorem GN.wo (g : GN ks nx) (no : ∀ k ∈ ks, k ≠ p → iN nx k ≠ p ∧ bef bs k ≠ .int p) : GN (ks.filter fun j => decide (j ≠ p)) (dropK nx (.inl p)) := by
  refine ⟨wo_keys g.1, fun k hk => ?_⟩
  obtain ⟨mk, ne⟩ := mem_wo.mp hk
  obtain ⟨x, mx, ex⟩ := g.2 k mk
  refine ⟨x, mem_wo.mpr ⟨mx, fun z => (no k mk ne).1 (by rw [iN_of ex, z])⟩, ?_⟩
  rw [valV_dropK, if_neg (fun z => ne (Sum.inl.inj z)), ex]
theorem bef_wo {k : Int} (ne : k ≠ p) : bef (dropK bs (.inl p)) k = bef bs k := by
  unfold bef
  rw [valV_dropK, if_neg (fun z => ne (Sum.inl.inj z))]
theorem GC.wo (g : GC ks bs) (no : ∀ k ∈ ks, k ≠ p → iN nx k ≠ p ∧ bef bs k ≠ .int p) : GC (ks.filter fun j => decide (j ≠ p)) (dropK bs (.inl p)) := fun k v e => by
  rw [valV_dropK] at e
  by_cases c : (Sum.inl k : Key) = .inl p
  · rw [if_pos c] at e
    cases e
  · rw [if_neg c] at e
    obtain ⟨mk, hv⟩ := g k v e
    have ne : k ≠ p := fun z => c (by rw [z])
    refine ⟨mem_wo.mpr ⟨mk, ne⟩, hv.imp id fun ⟨x, mx, ex⟩ => ⟨x, mem_wo.mpr ⟨mx, fun z => (no k mk ne).2 ?_⟩, ex⟩⟩
    unfold bef
    rw [e, ex, z]
    rfl
theorem KB.wo (k : KB bs) : KB (dropK bs (.inl p)) := let ⟨js, e, nd⟩ := k; ⟨_, wo_keys e, nd.sublist List.filter_sublist⟩
theorem VF.wo (v : VF ks bf bs) : VF (ks.filter fun j => decide (j ≠ p)) (dropK bf (.inl p)) (dropK bs (.inl p)) := fun k hk => by
  obtain ⟨mk, ne⟩ := mem_wo.mp hk
  rw [valV_dropK, if_neg (fun z => ne (Sum.inl.inj z)), bef_wo ne]
  exact v k mk
theorem Ltr.wo {H : Hp} {vs : List V} (l : Ltr ks H vs Ls) (no : ∀ L ∈ Ls, p ∉ L.ns) : Ltr (ks.filter fun j => decide (j ≠ p)) H vs Ls := ⟨l.1, fun L hL k hk => mem_wo.mpr ⟨l.2 L hL k hk, fun z => no L hL (z ▸ hk)⟩⟩
end
def sp__law_taken (K : PySem.W.Frag) (CN : Addr) : Sp := fun vs H Q _ => ∃ (t c : Addr) (A : Bd) (n : Int) (m : Nat) (S : WK), vs = [.ref t, .ref A.h, .ref A.dN, .ref A.dB, .ref A.pO] ∧ NK CN t c A n m S H ∧ m ≤ 90 ∧
  (∀ H', NK CN t c A n m S H' → FrT t A H H' → Q .non H') ∧ ∀ p S' H', p ∈ S.ks → S'.ks = S.ks.filter (fun j => decide (j ≠ p)) → NK CN t c A n (m + 1) S' H' → FrT t A H H' → Q (.int p) H'
--CUT
/-! ### _law_plain of four classes -/
inductive Ek where
  | nh | oc | tp | sn
def T0.cE (T : T0 K mg) : Ek → Addr
  | .nh => T.C_NoHouse
  | .oc => T.C_OffCircle
  | .tp => T.C_TakenPlace
  | .sn => T.C_StillNamed
def nmE : Ek → Str
  | .nh => "NoHouse"
  | .oc => "OffCircle"
  | .tp => "TakenPlace"
  | .sn => "StillNamed"
def sp_h_law_plain (C : Addr) : Addr × Obj → Sp := fun p vs H Q _ => ∃ (d : Addr) (fs : List (Str × V)), vs = [.ref p.1] ∧ ErrAt C d fs p H ∧ ∀ H', Same H H' → Q (.bl true) H'
theorem T0.okp_NoHouse__law_plain (T : T0 K mg) : FnP P w K mg base 1 T.a__law_plain T.fd__law_plain ["error"] (sp_h_law_plain T.C_NoHouse) := by
  refine Fun_okP T.F__law_plain sc__law_plain (fun p vs H Q E h => ?_) (fun cdv A outer s H vs Q E p hot hr h => ?_)
  · obtain ⟨d, fs, rfl, _⟩ := h
    rfl
  · obtain ⟨d, fs, rfl, eA, q⟩ := h
    refine ⟨_, (pss_cons (ps_set (i := 1) sc__law_plain.nd rfl (Or.inl rfl) (pe_lst (pa_cons (pe_callB (call_isP (hotD hot).2) (by rfl) T.m_isinstance (by decide +kernel) (pa_cons (pv 0) (pa_cons (pe_glob (v := .ref T.C_NoHouse) rfl T.mc_NoHouse rfl) pa_nil))) (pa_cons (pe_callB (call_isP (hotD hot).2) (by rfl) T.m_isinstance (by decide +kernel) (pa_cons (pv 0) (pa_cons (pe_glob (v := .ref T.C_OffCircle) rfl T.mc_OffCircle rfl) pa_nil))) (pa_cons (pe_callB (call_isP (hotD hot).2) (by rfl) T.m_isinstance (by decide +kernel) (pa_cons (pv 0) (pa_cons (pe_glob (v := .ref T.C_TakenPlace) rfl T.mc_TakenPlace rfl) pa_nil))) pa_nil)))))
        (pss_cons (ps_set (i := 1) sc__law_plain.nd rfl (Or.inl rfl) (pe_op op_cat (pv 1) (pe_lst (pa_cons (pe_callB (call_isP (hotD hot).2) (by rfl) T.m_isinstance (by decide +kernel) (pa_cons (pv 0) (pa_cons (pe_glob (v := .ref T.C_StillNamed) rfl T.mc_StillNamed rfl) pa_nil))) (pa_cons (pe_callB (call_isP (hotD hot).2) (by rfl) T.m_isinstance (by decide +kernel) (pa_cons (pv 0) (pa_cons (pe_glob (v := .ref T.C_NotBetween) rfl T.mc_NotBetween rfl) pa_nil))) (pa_cons (pe_callB (call_isP (hotD hot).2) (by rfl) T.m_isinstance (by decide +kernel) (pa_cons (pv 0) (pa_cons (pe_glob (v := .ref T.C_SamePiece) rfl T.mc_SamePiece rfl) pa_nil))) pa_nil))))))
        (pss_cons (ps_set (i := 1) sc__law_plain.nd rfl (Or.inl rfl) (pe_op op_cat (pv 1) (pe_lst (pa_cons (pe_callB (call_isP (hotD hot).2) (by rfl) T.m_isinstance (by decide +kernel) (pa_cons (pv 0) (pa_cons (pe_glob (v := .ref T.C_NotQuiet) rfl T.mc_NotQuiet rfl) pa_nil))) (pa_cons (pe_callB (call_isP (hotD hot).2) (by rfl) T.m_isinstance (by decide +kernel) (pa_cons (pv 0) (pa_cons (pe_glob (v := .ref T.C_NotAtRest) rfl T.mc_NotAtRest rfl) pa_nil))) (pa_cons (pe_callB (call_isP (hotD hot).2) (by rfl) T.m_isinstance (by decide +kernel) (pa_cons (pv 0) (pa_cons (pe_glob (v := .ref T.C_Untold) rfl T.mc_Untold rfl) pa_nil))) pa_nil))))))
        (pss_cons (ps_set (i := 1) sc__law_plain.nd rfl (Or.inl rfl) (pe_op op_cat (pv 1) (pe_lst (pa_cons (pe_callB (call_isP (hotD hot).2) (by rfl) T.m_isinstance (by decide +kernel) (pa_cons (pv 0) (pa_cons (pe_glob (v := .ref T.C_NoLetter) rfl T.mc_NoLetter rfl) pa_nil))) (pa_cons (pe_callB (call_isP (hotD hot).2) (by rfl) T.m_isinstance (by decide +kernel) (pa_cons (pv 0) (pa_cons (pe_glob (v := .ref T.C_BadText) rfl T.mc_BadText rfl) pa_nil))) pa_nil)))))
        (pss_one (ps_ret (pe_and (pe_callB (call_isP (hotD hot).2) (by rfl) T.m_isinstance (by decide +kernel) (pa_cons (pv 0) (pa_cons (pe_glob (v := .ref T.C_RingError) rfl T.mc_RingError rfl) pa_nil))) (pe_and (pe_callB (call_isP (hotD hot).2) (by rfl) T.m_isinstance (by decide +kernel) (pa_cons (pv 0) (pa_cons (pe_bltn (v := .ty "ValueError") (by rfl) T.m_ValueError (by decide +kernel) rfl) pa_nil))) (pe_one (pe_cmpR op_eq (pe_bm PySem.F.plainAttrs_list PySem.F.slot_list_count PySem.F.type_list_count mt_lcountB (pv 1) (pa_cons pe_bl pa_nil)) pe_int (nomark _))))))))))), ?_⟩
    refine ⟨_, rfl, _, _, _, _, d, fs, rfl, fun u r => r, T.er_NoHouse, eA, T.ki_NoHouse_NoHouse, ?_⟩
    refine ⟨_, rfl, _, _, _, _, d, fs, rfl, fun u r => r, T.er_NoHouse, eA, T.ki_NoHouse_OffCircle, ?_⟩
    refine ⟨_, rfl, _, _, _, _, d, fs, rfl, fun u r => r, T.er_NoHouse, eA, T.ki_NoHouse_TakenPlace, ?_⟩
    refine ⟨lenL (by show 3 ≤ 100000; decide), fun k1 nk1 => ?_⟩
    have s1 := same_upd (o := .lst [.bl true, .bl false, .bl false]) nk1
    have e1 : upd H k1 (.lst [.bl true, .bl false, .bl false]) k1 = some (.lst [.bl true, .bl false, .bl false]) := upd_same
    generalize upd H k1 (.lst [.bl true, .bl false, .bl false]) = H1 at s1 e1
    have t1 := s1
    refine ⟨_, rfl, _, rfl, _, _, _, _, d, fs, rfl, fun u r => r, T.er_NoHouse, (eA.same t1), T.ki_NoHouse_StillNamed, ?_⟩
    refine ⟨_, rfl, _, _, _, _, d, fs, rfl, fun u r => r, T.er_NoHouse, (eA.same t1), T.ki_NoHouse_NotBetween, ?_⟩
    refine ⟨_, rfl, _, _, _, _, d, fs, rfl, fun u r => r, T.er_NoHouse, (eA.same t1), T.ki_NoHouse_SamePiece, ?_⟩
    refine ⟨lenL (by show 3 ≤ 100000; decide), fun k2 nk2 => ?_⟩
    have s2 := same_upd (o := .lst [.bl false, .bl false, .bl false]) nk2
    have e2 : upd H1 k2 (.lst [.bl false, .bl false, .bl false]) k2 = some (.lst [.bl false, .bl false, .bl false]) := upd_same
    generalize upd H1 k2 (.lst [.bl false, .bl false, .bl false]) = H2 at s2 e2
    have t2 := Same.trans t1 s2
    have e1 := s2 _ _ e1
    refine ⟨k1, k2, _, _, rfl, rfl, e1, e2, lenL (by show 3 + 3 ≤ 100000; decide), fun k3 nk3 => ?_⟩
    have s3 := same_upd (o := .lst ([.bl true, .bl false, .bl false] ++ [.bl false, .bl false, .bl false])) nk3
    have e3 : upd H2 k3 (.lst ([.bl true, .bl false, .bl false] ++ [.bl false, .bl false, .bl false])) k3 = some (.lst [.bl true, .bl false, .bl false, .bl false, .bl false, .bl false]) := upd_same
    generalize upd H2 k3 (.lst ([.bl true, .bl false, .bl false] ++ [.bl false, .bl false, .bl false])) = H3 at s3 e3
    have t3 := Same.trans t2 s3
    refine ⟨_, rfl, _, rfl, _, _, _, _, d, fs, rfl, fun u r => r, T.er_NoHouse, (eA.same t3), T.ki_NoHouse_NotQuiet, ?_⟩
    refine ⟨_, rfl, _, _, _, _, d, fs, rfl, fun u r => r, T.er_NoHouse, (eA.same t3), T.ki_NoHouse_NotAtRest, ?_⟩
    refine ⟨_, rfl, _, _, _, _, d, fs, rfl, fun u r => r, T.er_NoHouse, (eA.same t3), T.ki_NoHouse_Untold, ?_⟩
    refine ⟨lenL (by show 3 ≤ 100000; decide), fun k4 nk4 => ?_⟩
    have s4 := same_upd (o := .lst [.bl false, .bl false, .bl false]) nk4
    have e4 : upd H3 k4 (.lst [.bl false, .bl false, .bl false]) k4 = some (.lst [.bl false, .bl false, .bl false]) := upd_same
    generalize upd H3 k4 (.lst [.bl false, .bl false, .bl false]) = H4 at s4 e4
    have t4 := Same.trans t3 s4
    have e3 := s4 _ _ e3
    refine ⟨k3, k4, _, _, rfl, rfl, e3, e4, lenL (by show 6 + 3 ≤ 100000; decide), fun k5 nk5 => ?_⟩
    have s5 := same_upd (o := .lst ([.bl true, .bl false, .bl false, .bl false, .bl false, .bl false] ++ [.bl false, .bl false, .bl false])) nk5
    have e5 : upd H4 k5 (.lst ([.bl true, .bl false, .bl false, .bl false, .bl false, .bl false] ++ [.bl false, .bl false, .bl false])) k5 = some (.lst [.bl true, .bl false, .bl false, .bl false, .bl false, .bl false, .bl false, .bl false, .bl false]) := upd_same
    generalize upd H4 k5 (.lst ([.bl true, .bl false, .bl false, .bl false, .bl false, .bl false] ++ [.bl false, .bl false, .bl false])) = H5 at s5 e5
    have t5 := Same.trans t4 s5
    refine ⟨_, rfl, _, rfl, _, _, _, _, d, fs, rfl, fun u r => r, T.er_NoHouse, (eA.same t5), T.ki_NoHouse_NoLetter, ?_⟩
    refine ⟨_, rfl, _, _, _, _, d, fs, rfl, fun u r => r, T.er_NoHouse, (eA.same t5), T.ki_NoHouse_BadText, ?_⟩
    refine ⟨lenL (by show 2 ≤ 100000; decide), fun k6 nk6 => ?_⟩
    have s6 := same_upd (o := .lst [.bl false, .bl false]) nk6
    have e6 : upd H5 k6 (.lst [.bl false, .bl false]) k6 = some (.lst [.bl false, .bl false]) := upd_same
    generalize upd H5 k6 (.lst [.bl false, .bl false]) = H6 at s6 e6
    have t6 := Same.trans t5 s6
    have e5 := s6 _ _ e5
    refine ⟨k5, k6, _, _, rfl, rfl, e5, e6, lenL (by show 9 + 2 ≤ 100000; decide), fun k7 nk7 => ?_⟩
    have s7 := same_upd (o := .lst ([.bl true, .bl false, .bl false, .bl false, .bl false, .bl false, .bl false, .bl false, .bl false] ++ [.bl false, .bl false])) nk7
    have e7 : upd H6 k7 (.lst ([.bl true, .bl false, .bl false, .bl false, .bl false, .bl false, .bl false, .bl false, .bl false] ++ [.bl false, .bl false])) k7 = some (.lst [.bl true, .bl false, .bl false, .bl false, .bl false, .bl false, .bl false, .bl false, .bl false, .bl false, .bl false]) := upd_same
    generalize upd H6 k7 (.lst ([.bl true, .bl false, .bl false, .bl false, .bl false, .bl false, .bl false, .bl false, .bl false] ++ [.bl false, .bl false])) = H7 at s7 e7
    have t7 := Same.trans t6 s7
    refine ⟨_, rfl, _, _, _, _, d, fs, rfl, fun u r => r, T.er_NoHouse, eA.same t7, T.ki_NoHouse_RingError, true, rfl, iteT ?_⟩
    refine ⟨_, rfl, _, _, _, _, d, fs, rfl, fun u r => r, T.er_NoHouse, eA.same t7, T.ki_NoHouse_ValueError, true, rfl, iteT ?_⟩
    refine ⟨_, rfl, .inl ⟨rfl, _, SqL.of e7⟩, k7, [true, false, false, false, false, false, false, false, false, false, false], true, rfl, rfl, SqL.of e7, rfl, ?_⟩
    exact q _ t7
--CUT
theorem T0.okp_OffCircle__law_plain (T : T0 K mg) : FnP P w K mg base 1 T.a__law_plain T.fd__law_plain ["error"] (sp_h_law_plain T.C_OffCircle) := by
  refine Fun_okP T.F__law_plain sc__law_plain (fun p vs H Q E h => ?_) (fun cdv A outer s H vs Q E p hot hr h => ?_)
  · obtain ⟨d, fs, rfl, _⟩ := h
    rfl
  · obtain ⟨d, fs, rfl, eA, q⟩ := h
    refine ⟨_, (pss_cons (ps_set (i := 1) sc__law_plain.nd rfl (Or.inl rfl) (pe_lst (pa_cons (pe_callB (call_isP (hotD hot).2) (by rfl) T.m_isinstance (by decide +kernel) (pa_cons (pv 0) (pa_cons (pe_glob (v := .ref T.C_NoHouse) rfl T.mc_NoHouse rfl) pa_nil))) (pa_cons (pe_callB (call_isP (hotD hot).2) (by rfl) T.m_isinstance (by decide +kernel) (pa_cons (pv 0) (pa_cons (pe_glob (v := .ref T.C_OffCircle) rfl T.mc_OffCircle rfl) pa_nil))) (pa_cons (pe_callB (call_isP (hotD hot).2) (by rfl) T.m_isinstance (by decide +kernel) (pa_cons (pv 0) (pa_cons (pe_glob (v := .ref T.C_TakenPlace) rfl T.mc_TakenPlace rfl) pa_nil))) pa_nil)))))
        (pss_cons (ps_set (i := 1) sc__law_plain.nd rfl (Or.inl rfl) (pe_op op_cat (pv 1) (pe_lst (pa_cons (pe_callB (call_isP (hotD hot).2) (by rfl) T.m_isinstance (by decide +kernel) (pa_cons (pv 0) (pa_cons (pe_glob (v := .ref T.C_StillNamed) rfl T.mc_StillNamed rfl) pa_nil))) (pa_cons (pe_callB (call_isP (hotD hot).2) (by rfl) T.m_isinstance (by decide +kernel) (pa_cons (pv 0) (pa_cons (pe_glob (v := .ref T.C_NotBetween) rfl T.mc_NotBetween rfl) pa_nil))) (pa_cons (pe_callB (call_isP (hotD hot).2) (by rfl) T.m_isinstance (by decide +kernel) (pa_cons (pv 0) (pa_cons (pe_glob (v := .ref T.C_SamePiece) rfl T.mc_SamePiece rfl) pa_nil))) pa_nil))))))
        (pss_cons (ps_set (i := 1) sc__law_plain.nd rfl (Or.inl rfl) (pe_op op_cat (pv 1) (pe_lst (pa_cons (pe_callB (call_isP (hotD hot).2) (by rfl) T.m_isinstance (by decide +kernel) (pa_cons (pv 0) (pa_cons (pe_glob (v := .ref T.C_NotQuiet) rfl T.mc_NotQuiet rfl) pa_nil))) (pa_cons (pe_callB (call_isP (hotD hot).2) (by rfl) T.m_isinstance (by decide +kernel) (pa_cons (pv 0) (pa_cons (pe_glob (v := .ref T.C_NotAtRest) rfl T.mc_NotAtRest rfl) pa_nil))) (pa_cons (pe_callB (call_isP (hotD hot).2) (by rfl) T.m_isinstance (by decide +kernel) (pa_cons (pv 0) (pa_cons (pe_glob (v := .ref T.C_Untold) rfl T.mc_Untold rfl) pa_nil))) pa_nil))))))
        (pss_cons (ps_set (i := 1) sc__law_plain.nd rfl (Or.inl rfl) (pe_op op_cat (pv 1) (pe_lst (pa_cons (pe_callB (call_isP (hotD hot).2) (by rfl) T.m_isinstance (by decide +kernel) (pa_cons (pv 0) (pa_cons (pe_glob (v := .ref T.C_NoLetter) rfl T.mc_NoLetter rfl) pa_nil))) (pa_cons (pe_callB (call_isP (hotD hot).2) (by rfl) T.m_isinstance (by decide +kernel) (pa_cons (pv 0) (pa_cons (pe_glob (v := .ref T.C_BadText) rfl T.mc_BadText rfl) pa_nil))) pa_nil)))))
        (pss_one (ps_ret (pe_and (pe_callB (call_isP (hotD hot).2) (by rfl) T.m_isinstance (by decide +kernel) (pa_cons (pv 0) (pa_cons (pe_glob (v := .ref T.C_RingError) rfl T.mc_RingError rfl) pa_nil))) (pe_and (pe_callB (call_isP (hotD hot).2) (by rfl) T.m_isinstance (by decide +kernel) (pa_cons (pv 0) (pa_cons (pe_bltn (v := .ty "ValueError") (by rfl) T.m_ValueError (by decide +kernel) rfl) pa_nil))) (pe_one (pe_cmpR op_eq (pe_bm PySem.F.plainAttrs_list PySem.F.slot_list_count PySem.F.type_list_count mt_lcountB (pv 1) (pa_cons pe_bl pa_nil)) pe_int (nomark _))))))))))), ?_⟩
    refine ⟨_, rfl, _, _, _, _, d, fs, rfl, fun u r => r, T.er_OffCircle, eA, T.ki_OffCircle_NoHouse, ?_⟩
    refine ⟨_, rfl, _, _, _, _, d, fs, rfl, fun u r => r, T.er_OffCircle, eA, T.ki_OffCircle_OffCircle, ?_⟩
    refine ⟨_, rfl, _, _, _, _, d, fs, rfl, fun u r => r, T.er_OffCircle, eA, T.ki_OffCircle_TakenPlace, ?_⟩
    refine ⟨lenL (by show 3 ≤ 100000; decide), fun k1 nk1 => ?_⟩
    have s1 := same_upd (o := .lst [.bl false, .bl true, .bl false]) nk1
    have e1 : upd H k1 (.lst [.bl false, .bl true, .bl false]) k1 = some (.lst [.bl false, .bl true, .bl false]) := upd_same
    generalize upd H k1 (.lst [.bl false, .bl true, .bl false]) = H1 at s1 e1
    have t1 := s1
    refine ⟨_, rfl, _, rfl, _, _, _, _, d, fs, rfl, fun u r => r, T.er_OffCircle, (eA.same t1), T.ki_OffCircle_StillNamed, ?_⟩
    refine ⟨_, rfl, _, _, _, _, d, fs, rfl, fun u r => r, T.er_OffCircle, (eA.same t1), T.ki_OffCircle_NotBetween, ?_⟩
    refine ⟨_, rfl, _, _, _, _, d, fs, rfl, fun u r => r, T.er_OffCircle, (eA.same t1), T.ki_OffCircle_SamePiece, ?_⟩
    refine ⟨lenL (by show 3 ≤ 100000; decide), fun k2 nk2 => ?_⟩
    have s2 := same_upd (o := .lst [.bl false, .bl false, .bl false]) nk2
    have e2 : upd H1 k2 (.lst [.bl false, .bl false, .bl false]) k2 = some (.lst [.bl false, .bl false, .bl false]) := upd_same
    generalize upd H1 k2 (.lst [.bl false, .bl false, .bl false]) = H2 at s2 e2
    have t2 := Same.trans t1 s2
    have e1 := s2 _ _ e1
    refine ⟨k1, k2, _, _, rfl, rfl, e1, e2, lenL (by show 3 + 3 ≤ 100000; decide), fun k3 nk3 => ?_⟩
    have s3 := same_upd (o := .lst ([.bl false, .bl true, .bl false] ++ [.bl false, .bl false, .bl false])) nk3
    have e3 : upd H2 k3 (.lst ([.bl false, .bl true, .bl false] ++ [.bl false, .bl false, .bl false])) k3 = some (.lst [.bl false, .bl true, .bl false, .bl false, .bl false, .bl false]) := upd_same
    generalize upd H2 k3 (.lst ([.bl false, .bl true, .bl false] ++ [.bl false, .bl false, .bl false])) = H3 at s3 e3
    have t3 := Same.trans t2 s3
    refine ⟨_, rfl, _, rfl, _, _, _, _, d, fs, rfl, fun u r => r, T.er_OffCircle, (eA.same t3), T.ki_OffCircle_NotQuiet, ?_⟩
    refine ⟨_, rfl, _, _, _, _, d, fs, rfl, fun u r => r, T.er_OffCircle, (eA.same t3), T.ki_OffCircle_NotAtRest, ?_⟩
    refine ⟨_, rfl, _, _, _, _, d, fs, rfl, fun u r => r, T.er_OffCircle, (eA.same t3), T.ki_OffCircle_Untold, ?_⟩
    refine ⟨lenL (by show 3 ≤ 100000; decide), fun k4 nk4 => ?_⟩
    have s4 := same_upd (o := .lst [.bl false, .bl false, .bl false]) nk4
    have e4 : upd H3 k4 (.lst [.bl false, .bl false, .bl false]) k4 = some (.lst [.bl false, .bl false, .bl false]) := upd_same
    generalize upd H3 k4 (.lst [.bl false, .bl false, .bl false]) = H4 at s4 e4
    have t4 := Same.trans t3 s4
    have e3 := s4 _ _ e3
    refine ⟨k3, k4, _, _, rfl, rfl, e3, e4, lenL (by show 6 + 3 ≤ 100000; decide), fun k5 nk5 => ?_⟩
    have s5 := same_upd (o := .lst ([.bl false, .bl true, .bl false, .bl false, .bl false, .bl false] ++ [.bl false, .bl false, .bl false])) nk5
    have e5 : upd H4 k5 (.lst ([.bl false, .bl true, .bl false, .bl false, .bl false, .bl false] ++ [.bl false, .bl false, .bl false])) k5 = some (.lst [.bl false, .bl true, .bl false, .bl false, .bl false, .bl false, .bl false, .bl false, .bl false]) := upd_same
    generalize upd H4 k5 (.lst ([.bl false, .bl true, .bl false, .bl false, .bl false, .bl false] ++ [.bl false, .bl false, .bl false])) = H5 at s5 e5
    have t5 := Same.trans t4 s5
    refine ⟨_, rfl, _, rfl, _, _, _, _, d, fs, rfl, fun u r => r, T.er_OffCircle, (eA.same t5), T.ki_OffCircle_NoLetter, ?_⟩
    refine ⟨_, rfl, _, _, _, _, d, fs, rfl, fun u r => r, T.er_OffCircle, (eA.same t5), T.ki_OffCircle_BadText, ?_⟩
    refine ⟨lenL (by show 2 ≤ 100000; decide), fun k6 nk6 => ?_⟩
    have s6 := same_upd (o := .lst [.bl false, .bl false]) nk6
    have e6 : upd H5 k6 (.lst [.bl false, .bl false]) k6 = some (.lst [.bl false, .bl false]) := upd_same
    generalize upd H5 k6 (.lst [.bl false, .bl false]) = H6 at s6 e6
    have t6 := Same.trans t5 s6
    have e5 := s6 _ _ e5
    refine ⟨k5, k6, _, _, rfl, rfl, e5, e6, lenL (by show 9 + 2 ≤ 100000; decide), fun k7 nk7 => ?_⟩
    have s7 := same_upd (o := .lst ([.bl false, .bl true, .bl false, .bl false, .bl false, .bl false, .bl false, .bl false, .bl false] ++ [.bl false, .bl false])) nk7
    have e7 : upd H6 k7 (.lst ([.bl false, .bl true, .bl false, .bl false, .bl false, .bl false, .bl false, .bl false, .bl false] ++ [.bl false, .bl false])) k7 = some (.lst [.bl false, .bl true, .bl false, .bl false, .bl false, .bl false, .bl false, .bl false, .bl false, .bl false, .bl false]) := upd_same
    generalize upd H6 k7 (.lst ([.bl false, .bl true, .bl false, .bl false, .bl false, .bl false, .bl false, .bl false, .bl false] ++ [.bl false, .bl false])) = H7 at s7 e7
    have t7 := Same.trans t6 s7
    refine ⟨_, rfl, _, _, _, _, d, fs, rfl, fun u r => r, T.er_OffCircle, eA.same t7, T.ki_OffCircle_RingError, true, rfl, iteT ?_⟩
    refine ⟨_, rfl, _, _, _, _, d, fs, rfl, fun u r => r, T.er_OffCircle, eA.same t7, T.ki_OffCircle_ValueError, true, rfl, iteT ?_⟩
    refine ⟨_, rfl, .inl ⟨rfl, _, SqL.of e7⟩, k7, [false, true, false, false, false, false, false, false, false, false, false], true, rfl, rfl, SqL.of e7, rfl, ?_⟩
    exact q _ t7
--CUT
theorem T0.okp_TakenPlace__law_plain (T : T0 K mg) : FnP P w K mg base 1 T.a__law_plain T.fd__law_plain ["error"] (sp_h_law_plain T.C_TakenPlace) := by
  refine Fun_okP T.F__law_plain sc__law_plain (fun p vs H Q E h => ?_) (fun cdv A outer s H vs Q E p hot hr h => ?_)
  · obtain ⟨d, fs, rfl, _⟩ := h
    rfl
  · obtain ⟨d, fs, rfl, eA, q⟩ := h
    refine ⟨_, (pss_cons (ps_set (i := 1) sc__law_plain.nd rfl (Or.inl rfl) (pe_lst (pa_cons (pe_callB (call_isP (hotD hot).2) (by rfl) T.m_isinstance (by decide +kernel) (pa_cons (pv 0) (pa_cons (pe_glob (v := .ref T.C_NoHouse) rfl T.mc_NoHouse rfl) pa_nil))) (pa_cons (pe_callB (call_isP (hotD hot).2) (by rfl) T.m_isinstance (by decide +kernel) (pa_cons (pv 0) (pa_cons (pe_glob (v := .ref T.C_OffCircle) rfl T.mc_OffCircle rfl) pa_nil))) (pa_cons (pe_callB (call_isP (hotD hot).2) (by rfl) T.m_isinstance (by decide +kernel) (pa_cons (pv 0) (pa_cons (pe_glob (v := .ref T.C_TakenPlace) rfl T.mc_TakenPlace rfl) pa_nil))) pa_nil)))))
        (pss_cons (ps_set (i := 1) sc__law_plain.nd rfl (Or.inl rfl) (pe_op op_cat (pv 1) (pe_lst (pa_cons (pe_callB (call_isP (hotD hot).2) (by rfl) T.m_isinstance (by decide +kernel) (pa_cons (pv 0) (pa_cons (pe_glob (v := .ref T.C_StillNamed) rfl T.mc_StillNamed rfl) pa_nil))) (pa_cons (pe_callB (call_isP (hotD hot).2) (by rfl) T.m_isinstance (by decide +kernel) (pa_cons (pv 0) (pa_cons (pe_glob (v := .ref T.C_NotBetween) rfl T.mc_NotBetween rfl) pa_nil))) (pa_cons (pe_callB (call_isP (hotD hot).2) (by rfl) T.m_isinstance (by decide +kernel) (pa_cons (pv 0) (pa_cons (pe_glob (v := .ref T.C_SamePiece) rfl T.mc_SamePiece rfl) pa_nil))) pa_nil))))))
        (pss_cons (ps_set (i := 1) sc__law_plain.nd rfl (Or.inl rfl) (pe_op op_cat (pv 1) (pe_lst (pa_cons (pe_callB (call_isP (hotD hot).2) (by rfl) T.m_isinstance (by decide +kernel) (pa_cons (pv 0) (pa_cons (pe_glob (v := .ref T.C_NotQuiet) rfl T.mc_NotQuiet rfl) pa_nil))) (pa_cons (pe_callB (call_isP (hotD hot).2) (by rfl) T.m_isinstance (by decide +kernel) (pa_cons (pv 0) (pa_cons (pe_glob (v := .ref T.C_NotAtRest) rfl T.mc_NotAtRest rfl) pa_nil))) (pa_cons (pe_callB (call_isP (hotD hot).2) (by rfl) T.m_isinstance (by decide +kernel) (pa_cons (pv 0) (pa_cons (pe_glob (v := .ref T.C_Untold) rfl T.mc_Untold rfl) pa_nil))) pa_nil))))))
        (pss_cons (ps_set (i := 1) sc__law_plain.nd rfl (Or.inl rfl) (pe_op op_cat (pv 1) (pe_lst (pa_cons (pe_callB (call_isP (hotD hot).2) (by rfl) T.m_isinstance (by decide +kernel) (pa_cons (pv 0) (pa_cons (pe_glob (v := .ref T.C_NoLetter) rfl T.mc_NoLetter rfl) pa_nil))) (pa_cons (pe_callB (call_isP (hotD hot).2) (by rfl) T.m_isinstance (by decide +kernel) (pa_cons (pv 0) (pa_cons (pe_glob (v := .ref T.C_BadText) rfl T.mc_BadText rfl) pa_nil))) pa_nil)))))
        (pss_one (ps_ret (pe_and (pe_callB (call_isP (hotD hot).2) (by rfl) T.m_isinstance (by decide +kernel) (pa_cons (pv 0) (pa_cons (pe_glob (v := .ref T.C_RingError) rfl T.mc_RingError rfl) pa_nil))) (pe_and (pe_callB (call_isP (hotD hot).2) (by rfl) T.m_isinstance (by decide +kernel) (pa_cons (pv 0) (pa_cons (pe_bltn (v := .ty "ValueError") (by rfl) T.m_ValueError (by decide +kernel) rfl) pa_nil))) (pe_one (pe_cmpR op_eq (pe_bm PySem.F.plainAttrs_list PySem.F.slot_list_count PySem.F.type_list_count mt_lcountB (pv 1) (pa_cons pe_bl pa_nil)) pe_int (nomark _))))))))))), ?_⟩
    refine ⟨_, rfl, _, _, _, _, d, fs, rfl, fun u r => r, T.er_TakenPlace, eA, T.ki_TakenPlace_NoHouse, ?_⟩
    refine ⟨_, rfl, _, _, _, _, d, fs, rfl, fun u r => r, T.er_TakenPlace, eA, T.ki_TakenPlace_OffCircle, ?_⟩
    refine ⟨_, rfl, _, _, _, _, d, fs, rfl, fun u r => r, T.er_TakenPlace, eA, T.ki_TakenPlace_TakenPlace, ?_⟩
    refine ⟨lenL (by show 3 ≤ 100000; decide), fun k1 nk1 => ?_⟩
    have s1 := same_upd (o := .lst [.bl false, .bl false, .bl true]) nk1
    have e1 : upd H k1 (.lst [.bl false, .bl false, .bl true]) k1 = some (.lst [.bl false, .bl false, .bl true]) := upd_same
    generalize upd H k1 (.lst [.bl false, .bl false, .bl true]) = H1 at s1 e1
    have t1 := s1
    refine ⟨_, rfl, _, rfl, _, _, _, _, d, fs, rfl, fun u r => r, T.er_TakenPlace, (eA.same t1), T.ki_TakenPlace_StillNamed, ?_⟩
    refine ⟨_, rfl, _, _, _, _, d, fs, rfl, fun u r => r, T.er_TakenPlace, (eA.same t1), T.ki_TakenPlace_NotBetween, ?_⟩
    refine ⟨_, rfl, _, _, _, _, d, fs, rfl, fun u r => r, T.er_TakenPlace, (eA.same t1), T.ki_TakenPlace_SamePiece, ?_⟩
    refine ⟨lenL (by show 3 ≤ 100000; decide), fun k2 nk2 => ?_⟩
    have s2 := same_upd (o := .lst [.bl false, .bl false, .bl false]) nk2
    have e2 : upd H1 k2 (.lst [.bl false, .bl false, .bl false]) k2 = some (.lst [.bl false, .bl false, .bl false]) := upd_same
    generalize upd H1 k2 (.lst [.bl false, .bl false, .bl false]) = H2 at s2 e2
    have t2 := Same.trans t1 s2
    have e1 := s2 _ _ e1
    refine ⟨k1, k2, _, _, rfl, rfl, e1, e2, lenL (by show 3 + 3 ≤ 100000; decide), fun k3 nk3 => ?_⟩
    have s3 := same_upd (o := .lst ([.bl false, .bl false, .bl true] ++ [.bl false, .bl false, .bl false])) nk3
    have e3 : upd H2 k3 (.lst ([.bl false, .bl false, .bl true] ++ [.bl false, .bl false, .bl false])) k3 = some (.lst [.bl false, .bl false, .bl true, .bl false, .bl false, .bl false]) := upd_same
    generalize upd H2 k3 (.lst ([.bl false, .bl false, .bl true] ++ [.bl false, .bl false, .bl false])) = H3 at s3 e3
    have t3 := Same.trans t2 s3
    refine ⟨_, rfl, _, rfl, _, _, _, _, d, fs, rfl, fun u r => r, T.er_TakenPlace, (eA.same t3), T.ki_TakenPlace_NotQuiet, ?_⟩
    refine ⟨_, rfl, _, _, _, _, d, fs, rfl, fun u r => r, T.er_TakenPlace, (eA.same t3), T.ki_TakenPlace_NotAtRest, ?_⟩
    refine ⟨_, rfl, _, _, _, _, d, fs, rfl, fun u r => r, T.er_TakenPlace, (eA.same t3), T.ki_TakenPlace_Untold, ?_⟩
    refine ⟨lenL (by show 3 ≤ 100000; decide), fun k4 nk4 => ?_⟩
    have s4 := same_upd (o := .lst [.bl false, .bl false, .bl false]) nk4
    have e4 : upd H3 k4 (.lst [.bl false, .bl false, .bl false]) k4 = some (.lst [.bl false, .bl false, .bl false]) := upd_same
    generalize upd H3 k4 (.lst [.bl false, .bl false, .bl false]) = H4 at s4 e4
    have t4 := Same.trans t3 s4
    have e3 := s4 _ _ e3
    refine ⟨k3, k4, _, _, rfl, rfl, e3, e4, lenL (by show 6 + 3 ≤ 100000; decide), fun k5 nk5 => ?_⟩
    have s5 := same_upd (o := .lst ([.bl false, .bl false, .bl true, .bl false, .bl false, .bl false] ++ [.bl false, .bl false, .bl false])) nk5
    have e5 : upd H4 k5 (.lst ([.bl false, .bl false, .bl true, .bl false, .bl false, .bl false] ++ [.bl false, .bl false, .bl false])) k5 = some (.lst [.bl false, .bl false, .bl true, .bl false, .bl false, .bl false, .bl false, .bl false, .bl false]) := upd_same
    generalize upd H4 k5 (.lst ([.bl false, .bl false, .bl true, .bl false, .bl false, .bl false] ++ [.bl false, .bl false, .bl false])) = H5 at s5 e5
    have t5 := Same.trans t4 s5
    refine ⟨_, rfl, _, rfl, _, _, _, _, d, fs, rfl, fun u r => r, T.er_TakenPlace, (eA.same t5), T.ki_TakenPlace_NoLetter, ?_⟩
    refine ⟨_, rfl, _, _, _, _, d, fs, rfl, fun u r => r, T.er_TakenPlace, (eA.same t5), T.ki_TakenPlace_BadText, ?_⟩
    refine ⟨lenL (by show 2 ≤ 100000; decide), fun k6 nk6 => ?_⟩
    have s6 := same_upd (o := .lst [.bl false, .bl false]) nk6
    have e6 : upd H5 k6 (.lst [.bl false, .bl false]) k6 = some (.lst [.bl false, .bl false]) := upd_same
    generalize upd H5 k6 (.lst [.bl false, .bl false]) = H6 at s6 e6
    have t6 := Same.trans t5 s6
    have e5 := s6 _ _ e5
    refine ⟨k5, k6, _, _, rfl, rfl, e5, e6, lenL (by show 9 + 2 ≤ 100000; decide), fun k7 nk7 => ?_⟩
    have s7 := same_upd (o := .lst ([.bl false, .bl false, .bl true, .bl false, .bl false, .bl false, .bl false, .bl false, .bl false] ++ [.bl false, .bl false])) nk7
    have e7 : upd H6 k7 (.lst ([.bl false, .bl false, .bl true, .bl false, .bl false, .bl false, .bl false, .bl false, .bl false] ++ [.bl false, .bl false])) k7 = some (.lst [.bl false, .bl false, .bl true, .bl false, .bl false, .bl false, .bl false, .bl false, .bl false, .bl false, .bl false]) := upd_same
    generalize upd H6 k7 (.lst ([.bl false, .bl false, .bl true, .bl false, .bl false, .bl false, .bl false, .bl false, .bl false] ++ [.bl false, .bl false])) = H7 at s7 e7
    have t7 := Same.trans t6 s7
    refine ⟨_, rfl, _, _, _, _, d, fs, rfl, fun u r => r, T.er_TakenPlace, eA.same t7, T.ki_TakenPlace_RingError, true, rfl, iteT ?_⟩
    refine ⟨_, rfl, _, _, _, _, d, fs, rfl, fun u r => r, T.er_TakenPlace, eA.same t7, T.ki_TakenPlace_ValueError, true, rfl, iteT ?_⟩
    refine ⟨_, rfl, .inl ⟨rfl, _, SqL.of e7⟩, k7, [false, false, true, false, false, false, false, false, false, false, false], true, rfl, rfl, SqL.of e7, rfl, ?_⟩
    exact q _ t7
--CUT
theorem T0.okp_StillNamed__law_plain (T : T0 K mg) : FnP P w K mg base 1 T.a__law_plain T.fd__law_plain ["error"] (sp_h_law_plain T.C_StillNamed) := by
  refine Fun_okP T.F__law_plain sc__law_plain (fun p vs H Q E h => ?_) (fun cdv A outer s H vs Q E p hot hr h => ?_)
  · obtain ⟨d, fs, rfl, _⟩ := h
    rfl
  · obtain ⟨d, fs, rfl, eA, q⟩ := h
    refine ⟨_, (pss_cons (ps_set (i := 1) sc__law_plain.nd rfl (Or.inl rfl) (pe_lst (pa_cons (pe_callB (call_isP (hotD hot).2) (by rfl) T.m_isinstance (by decide +kernel) (pa_cons (pv 0) (pa_cons (pe_glob (v := .ref T.C_NoHouse) rfl T.mc_NoHouse rfl) pa_nil))) (pa_cons (pe_callB (call_isP (hotD hot).2) (by rfl) T.m_isinstance (by decide +kernel) (pa_cons (pv 0) (pa_cons (pe_glob (v := .ref T.C_OffCircle) rfl T.mc_OffCircle rfl) pa_nil))) (pa_cons (pe_callB (call_isP (hotD hot).2) (by rfl) T.m_isinstance (by decide +kernel) (pa_cons (pv 0) (pa_cons (pe_glob (v := .ref T.C_TakenPlace) rfl T.mc_TakenPlace rfl) pa_nil))) pa_nil)))))
        (pss_cons (ps_set (i := 1) sc__law_plain.nd rfl (Or.inl rfl) (pe_op op_cat (pv 1) (pe_lst (pa_cons (pe_callB (call_isP (hotD hot).2) (by rfl) T.m_isinstance (by decide +kernel) (pa_cons (pv 0) (pa_cons (pe_glob (v := .ref T.C_StillNamed) rfl T.mc_StillNamed rfl) pa_nil))) (pa_cons (pe_callB (call_isP (hotD hot).2) (by rfl) T.m_isinstance (by decide +kernel) (pa_cons (pv 0) (pa_cons (pe_glob (v := .ref T.C_NotBetween) rfl T.mc_NotBetween rfl) pa_nil))) (pa_cons (pe_callB (call_isP (hotD hot).2) (by rfl) T.m_isinstance (by decide +kernel) (pa_cons (pv 0) (pa_cons (pe_glob (v := .ref T.C_SamePiece) rfl T.mc_SamePiece rfl) pa_nil))) pa_nil))))))
        (pss_cons (ps_set (i := 1) sc__law_plain.nd rfl (Or.inl rfl) (pe_op op_cat (pv 1) (pe_lst (pa_cons (pe_callB (call_isP (hotD hot).2) (by rfl) T.m_isinstance (by decide +kernel) (pa_cons (pv 0) (pa_cons (pe_glob (v := .ref T.C_NotQuiet) rfl T.mc_NotQuiet rfl) pa_nil))) (pa_cons (pe_callB (call_isP (hotD hot).2) (by rfl) T.m_isinstance (by decide +kernel) (pa_cons (pv 0) (pa_cons (pe_glob (v := .ref T.C_NotAtRest) rfl T.mc_NotAtRest rfl) pa_nil))) (pa_cons (pe_callB (call_isP (hotD hot).2) (by rfl) T.m_isinstance (by decide +kernel) (pa_cons (pv 0) (pa_cons (pe_glob (v := .ref T.C_Untold) rfl T.mc_Untold rfl) pa_nil))) pa_nil))))))
        (pss_cons (ps_set (i := 1) sc__law_plain.nd rfl (Or.inl rfl) (pe_op op_cat (pv 1) (pe_lst (pa_cons (pe_callB (call_isP (hotD hot).2) (by rfl) T.m_isinstance (by decide +kernel) (pa_cons (pv 0) (pa_cons (pe_glob (v := .ref T.C_NoLetter) rfl T.mc_NoLetter rfl) pa_nil))) (pa_cons (pe_callB (call_isP (hotD hot).2) (by rfl) T.m_isinstance (by decide +kernel) (pa_cons (pv 0) (pa_cons (pe_glob (v := .ref T.C_BadText) rfl T.mc_BadText rfl) pa_nil))) pa_nil)))))
        (pss_one (ps_ret (pe_and (pe_callB (call_isP (hotD hot).2) (by rfl) T.m_isinstance (by decide +kernel) (pa_cons (pv 0) (pa_cons (pe_glob (v := .ref T.C_RingError) rfl T.mc_RingError rfl) pa_nil))) (pe_and (pe_callB (call_isP (hotD hot).2) (by rfl) T.m_isinstance (by decide +kernel) (pa_cons (pv 0) (pa_cons (pe_bltn (v := .ty "ValueError") (by rfl) T.m_ValueError (by decide +kernel) rfl) pa_nil))) (pe_one (pe_cmpR op_eq (pe_bm PySem.F.plainAttrs_list PySem.F.slot_list_count PySem.F.type_list_count mt_lcountB (pv 1) (pa_cons pe_bl pa_nil)) pe_int (nomark _))))))))))), ?_⟩
    refine ⟨_, rfl, _, _, _, _, d, fs, rfl, fun u r => r, T.er_StillNamed, eA, T.ki_StillNamed_NoHouse, ?_⟩
    refine ⟨_, rfl, _, _, _, _, d, fs, rfl, fun u r => r, T.er_StillNamed, eA, T.ki_StillNamed_OffCircle, ?_⟩
    refine ⟨_, rfl, _, _, _, _, d, fs, rfl, fun u r => r, T.er_StillNamed, eA, T.ki_StillNamed_TakenPlace, ?_⟩
    refine ⟨lenL (by show 3 ≤ 100000; decide), fun k1 nk1 => ?_⟩
    have s1 := same_upd (o := .lst [.bl false, .bl false, .bl false]) nk1
    have e1 : upd H k1 (.lst [.bl false, .bl false, .bl false]) k1 = some (.lst [.bl false, .bl false, .bl false]) := upd_same
    generalize upd H k1 (.lst [.bl false, .bl false, .bl false]) = H1 at s1 e1
    have t1 := s1
    refine ⟨_, rfl, _, rfl, _, _, _, _, d, fs, rfl, fun u r => r, T.er_StillNamed, (eA.same t1), T.ki_StillNamed_StillNamed, ?_⟩
    refine ⟨_, rfl, _, _, _, _, d, fs, rfl, fun u r => r, T.er_StillNamed, (eA.same t1), T.ki_StillNamed_NotBetween, ?_⟩
    refine ⟨_, rfl, _, _, _, _, d, fs, rfl, fun u r => r, T.er_StillNamed, (eA.same t1), T.ki_StillNamed_SamePiece, ?_⟩
    refine ⟨lenL (by show 3 ≤ 100000; decide), fun k2 nk2 => ?_⟩
    have s2 := same_upd (o := .lst [.bl true, .bl false, .bl false]) nk2
    have e2 : upd H1 k2 (.lst [.bl true, .bl false, .bl false]) k2 = some (.lst [.bl true, .bl false, .bl false]) := upd_same
    generalize upd H1 k2 (.lst [.bl true, .bl false, .bl false]) = H2 at s2 e2
    have t2 := Same.trans t1 s2
    have e1 := s2 _ _ e1
    refine ⟨k1, k2, _, _, rfl, rfl, e1, e2, lenL (by show 3 + 3 ≤ 100000; decide), fun k3 nk3 => ?_⟩
    have s3 := same_upd (o := .lst ([.bl false, .bl false, .bl false] ++ [.bl true, .bl false, .bl false])) nk3
    have e3 : upd H2 k3 (.lst ([.bl false, .bl false, .bl false] ++ [.bl true, .bl false, .bl false])) k3 = some (.lst [.bl false, .bl false, .bl false, .bl true, .bl false, .bl false]) := upd_same
    generalize upd H2 k3 (.lst ([.bl false, .bl false, .bl false] ++ [.bl true, .bl false, .bl false])) = H3 at s3 e3
    have t3 := Same.trans t2 s3
    refine ⟨_, rfl, _, rfl, _, _, _, _, d, fs, rfl, fun u r => r, T.er_StillNamed, (eA.same t3), T.ki_StillNamed_NotQuiet, ?_⟩
    refine ⟨_, rfl, _, _, _, _, d, fs, rfl, fun u r => r, T.er_StillNamed, (eA.same t3), T.ki_StillNamed_NotAtRest, ?_⟩
    refine ⟨_, rfl, _, _, _, _, d, fs, rfl, fun u r => r, T.er_StillNamed, (eA.same t3), T.ki_StillNamed_Untold, ?_⟩
    refine ⟨lenL (by show 3 ≤ 100000; decide), fun k4 nk4 => ?_⟩
    have s4 := same_upd (o := .lst [.bl false, .bl false, .bl false]) nk4
    have e4 : upd H3 k4 (.lst [.bl false, .bl false, .bl false]) k4 = some (.lst [.bl false, .bl false, .bl false]) := upd_same
    generalize upd H3 k4 (.lst [.bl false, .bl false, .bl false]) = H4 at s4 e4
    have t4 := Same.trans t3 s4
    have e3 := s4 _ _ e3
    refine ⟨k3, k4, _, _, rfl, rfl, e3, e4, lenL (by show 6 + 3 ≤ 100000; decide), fun k5 nk5 => ?_⟩
    have s5 := same_upd (o := .lst ([.bl false, .bl false, .bl false, .bl true, .bl false, .bl false] ++ [.bl false, .bl false, .bl false])) nk5
    have e5 : upd H4 k5 (.lst ([.bl false, .bl false, .bl false, .bl true, .bl false, .bl false] ++ [.bl false, .bl false, .bl false])) k5 = some (.lst [.bl false, .bl false, .bl false, .bl true, .bl false, .bl false, .bl false, .bl false, .bl false]) := upd_same
    generalize upd H4 k5 (.lst ([.bl false, .bl false, .bl false, .bl true, .bl false, .bl false] ++ [.bl false, .bl false, .bl false])) = H5 at s5 e5
    have t5 := Same.trans t4 s5
    refine ⟨_, rfl, _, rfl, _, _, _, _, d, fs, rfl, fun u r => r, T.er_StillNamed, (eA.same t5), T.ki_StillNamed_NoLetter, ?_⟩
    refine ⟨_, rfl, _, _, _, _, d, fs, rfl, fun u r => r, T.er_StillNamed, (eA.same t5), T.ki_StillNamed_BadText, ?_⟩
    refine ⟨lenL (by show 2 ≤ 100000; decide), fun k6 nk6 => ?_⟩
    have s6 := same_upd (o := .lst [.bl false, .bl false]) nk6
    have e6 : upd H5 k6 (.lst [.bl false, .bl false]) k6 = some (.lst [.bl false, .bl false]) := upd_same
    generalize upd H5 k6 (.lst [.bl false, .bl false]) = H6 at s6 e6
    have t6 := Same.trans t5 s6
    have e5 := s6 _ _ e5
    refine ⟨k5, k6, _, _, rfl, rfl, e5, e6, lenL (by show 9 + 2 ≤ 100000; decide), fun k7 nk7 => ?_⟩
    have s7 := same_upd (o := .lst ([.bl false, .bl false, .bl false, .bl true, .bl false, .bl false, .bl false, .bl false, .bl false] ++ [.bl false, .bl false])) nk7
    have e7 : upd H6 k7 (.lst ([.bl false, .bl false, .bl false, .bl true, .bl false, .bl false, .bl false, .bl false, .bl false] ++ [.bl false, .bl false])) k7 = some (.lst [.bl false, .bl false, .bl false, .bl true, .bl false, .bl false, .bl false, .bl false, .bl false, .bl false, .bl false]) := upd_same
    generalize upd H6 k7 (.lst ([.bl false, .bl false, .bl false, .bl true, .bl false, .bl false, .bl false, .bl false, .bl false] ++ [.bl false, .bl false])) = H7 at s7 e7
    have t7 := Same.trans t6 s7
    refine ⟨_, rfl, _, _, _, _, d, fs, rfl, fun u r => r, T.er_StillNamed, eA.same t7, T.ki_StillNamed_RingError, true, rfl, iteT ?_⟩
    refine ⟨_, rfl, _, _, _, _, d, fs, rfl, fun u r => r, T.er_StillNamed, eA.same t7, T.ki_StillNamed_ValueError, true, rfl, iteT ?_⟩
    refine ⟨_, rfl, .inl ⟨rfl, _, SqL.of e7⟩, k7, [false, false, false, true, false, false, false, false, false, false, false], true, rfl, rfl, SqL.of e7, rfl, ?_⟩
    exact q _ t7
def sp_h5 (f : Ek → Addr) : Addr × Obj → Sp := fun p vs H Q E => ∃ k : Ek, sp_h_law_plain (f k) p vs H Q E
theorem T0.okp__law_plain (T : T0 K mg) : FnP P w K mg base 1 T.a__law_plain T.fd__law_plain ["error"] (sp_h5 T.cE) :=
  ⟨fun p vs H Q E ⟨k, h⟩ => by obtain ⟨d, fs, rfl, _⟩ := h; rfl, fun A outer s H args us vs Q E p r h0 h1 e b v ⟨k, h⟩ => by
    cases k
    · exact T.okp_NoHouse__law_plain.run A outer s H args us vs Q E p r h0 h1 e b v h
    · exact T.okp_OffCircle__law_plain.run A outer s H args us vs Q E p r h0 h1 e b v h
    · exact T.okp_TakenPlace__law_plain.run A outer s H args us vs Q E p r h0 h1 e b v h
    · exact T.okp_StillNamed__law_plain.run A outer s H args us vs Q E p r h0 h1 e b v h⟩
--CUT
/-! ### refusals: off the circle, taken -/
def Rz (CE : Addr) (p : Int) (H : Hp) (E : XK) : Prop := ∀ H' d, Same H H' → H' d = some (.xd [("place", .int p)]) → E (.ref CE) (some d) H'
theorem Rz.same {CE : Addr} {p : Int} {H H1 : Hp} {E : XK} (r : Rz CE p H E) (s : Same H H1) : Rz CE p H1 E := fun H' d s' e => r H' d (Same.trans s s') e
theorem Rz.now {CE : Addr} {p : Int} {H : Hp} {E : XK} (r : Rz CE p H E) : ∀ d, H d = none → E (.ref CE) (some d) (upd H d (.xd [("place", .int p)])) := fun d hd => r _ d (same_upd hd) upd_same
def sp_r_on_circle (C : Addr) : Sp := fun vs H _ E => ∃ n p : Int, vs = [.int n, .int p] ∧ (p < 0 ∨ n ≤ p) ∧ Rz C p H E
theorem T0.okr_check_on_circle (T : T0 K mg) : FnOk P w K mg base (L2N.CX P w) 3 T.a_check_on_circle T.fd_check_on_circle ["size", "place"] (sp_r_on_circle T.C_OffCircle) := by
  refine Fun_okN T.F_check_on_circle sc_check_on_circle (fun vs H Q E h => ?_) (fun cdv A outer s H vs Q E hr h => ?_)
  · obtain ⟨n, p, rfl, _⟩ := h
    rfl
  · obtain ⟨n, p, rfl, c, q⟩ := h
    refine ⟨_, (pss_one (ps_if (PW.pt (pw_or (pt_cmpR op_lt (pv 1) pe_int (nomark _)) (pw_or1 (pt_cmpR op_ge (pv 1) (pv 0) (nomark _))))) (pss_one (L2N.ps_raise rfl (L2N.takes_of rfl rfl rfl rfl) (pmkN T.ox_OffCircle T.mi_OffCircle T.ti_OffCircle T.ok_OffCircle__init hr T.b_OffCircle__init pass0 rfl T.mc_OffCircle (pa_cons (pv 1) pa_nil)))) pss_nil)), ?_⟩
    refine v_if1 (ans_o (fun _ q => ⟨_, rfl, _, _, rfl, rfl, _, rfl, q⟩) (fun _ => fun _ q => ⟨_, rfl, _, rfl, _, _, rfl, rfl, _, rfl, q⟩)) (fun _ => ?_) (fun e => ?_)
    · exact ⟨_, rfl, raise1 q.now⟩
    · simp only [Bool.or_eq_false_iff, decide_eq_false_iff_not] at e
      omega
theorem T0.okx_check_on_circle (T : T0 K mg) : FnOk P w K mg base (L2N.CX P w) 3 T.a_check_on_circle T.fd_check_on_circle ["size", "place"] (fun vs H Q E => sp_check_on_circle vs H Q E ∨ sp_r_on_circle T.C_OffCircle vs H Q E) := orN (T.ok_check_on_circle.mono (by decide)) T.okr_check_on_circle
def sp_r_free (C : Addr) (f : Ek → Addr) : Sp := fun vs H _ E => ∃ (h dn db dl : Addr) (n p : Int) (nx bf : List (Key × V)) (ls : List V), vs = [.ref h, .int p] ∧ NetAt C H h n dn db dl nx bf ls ∧ (((p < 0 ∨ n ≤ p) ∧ Rz (f .oc) p H E) ∨ (0 ≤ p ∧ p < n ∧ (valV nx (.inl p)).isSome = true ∧ Rz (f .tp) p H E))
theorem T0.okr_Net__check_free (T : T0 K mg) : FnOk P w K mg base (L2N.CX P w) 4 T.a_Net__check_free T.fd_Net__check_free ["self", "place"] (sp_r_free T.C_Net T.cE) := by
  refine Fun_okN T.F_Net__check_free sc_Net__check_free (fun vs H Q E h => ?_) (fun cdv A outer s H vs Q E hr h => ?_)
  · obtain ⟨h, dn, db, dl, n, p, nx, bf, ls, rfl, _⟩ := h
    rfl
  · obtain ⟨h, dn, db, dl, n, p, nx, bf, ls, rfl, hN, c⟩ := h
    obtain ⟨dx, hh⟩ := hN.me
    refine ⟨_, (pss_cons (ps_expr (pe_callS T.okx_check_on_circle hr rfl T.g_check_on_circle T.k_check_on_circle T.b_check_on_circle (fun σ => L2N.passAt (L2N.takes_of rfl rfl rfl rfl) σ) (pa_cons (show PE _ _ (tFld K _ _) from pe_fld (pv 0) rfl) (pa_cons (pv 1) pa_nil))))
        (pss_one (ps_if (pt_cmp (pc_din (un1 hr) (pv 1) (show PE _ _ (tFld K _ _) from pe_fld (pv 0) rfl))) (pss_one (L2N.ps_raise rfl (L2N.takes_of rfl rfl rfl rfl) (pmkN T.ox_TakenPlace T.mi_TakenPlace T.ti_TakenPlace T.ok_TakenPlace__init (hr.mono (by decide)) T.b_TakenPlace__init pass0 rfl T.mc_TakenPlace (pa_cons (pv 1) pa_nil)))) pss_nil))), ?_⟩
    rcases c with ⟨c, q⟩ | ⟨p0, p1, c, q⟩
    · exact ⟨_, rfl, h, _, dx, _, _, rfl, hh, T.cl_Net, T.na_Net_size, nf_size, _, rfl, .inr ⟨n, p, rfl, c, q⟩⟩
    · refine ⟨_, rfl, h, _, dx, _, _, rfl, hh, T.cl_Net, T.na_Net_size, nf_size, _, rfl, .inl ⟨n, p, rfl, p0, p1, ?_⟩⟩
      refine ⟨_, rfl, _, rfl, h, _, dx, _, _, rfl, hh, T.cl_Net, T.na_Net__nexts, nf_nexts, dn, _, rfl, DGet.k (k := Sum.inl p) hN.hn, _, rfl, iteT' c ?_⟩
      exact ⟨_, rfl, raise1 q.now⟩
theorem T0.okx_Net__check_free (T : T0 K mg) : FnOk P w K mg base (L2N.CX P w) 4 T.a_Net__check_free T.fd_Net__check_free ["self", "place"] (fun vs H Q E => sp_Net__check_free T.C_Net vs H Q E ∨ sp_r_free T.C_Net T.cE vs H Q E) := orN (T.ok_Net__check_free.mono (by decide)) T.okr_Net__check_free
/-! ### refusals of a net's own deeds -/
theorem T0.okx_Net__is_named (T : T0 K mg) : FnOk P w K mg base (L2N.CX P w) 3 T.a_Net__is_named T.fd_Net__is_named ["self", "house"] (sp_Net__is_named T.C_Net) := calmN (T.ok_Net__is_named.mono (by decide))
def sp_r_admit (C : Addr) (f : Ek → Addr) : Sp := fun vs H _ E => ∃ (h dn db dl : Addr) (n p x : Int) (nx bf : List (Key × V)) (ls : List V), vs = [.ref h, .int p, .int x] ∧ NetAt C H h n dn db dl nx bf ls ∧
  (((p < 0 ∨ n ≤ p) ∧ Rz (f .oc) p H E) ∨ (0 ≤ p ∧ p < n ∧ (valV nx (.inl p)).isSome = true ∧ Rz (f .tp) p H E) ∨ (0 ≤ p ∧ p < n ∧ valV nx (.inl p) = none ∧ x ≠ p ∧ valV nx (.inl x) = none ∧ Rz (f .nh) x H E))
theorem T0.okr_Net__admit (T : T0 K mg) : FnOk P w K mg base (L2N.CX P w) 5 T.a_Net__admit T.fd_Net__admit ["self", "place", "host"] (sp_r_admit T.C_Net T.cE) := by
  refine Fun_okN T.F_Net__admit sc_Net__admit (fun vs H Q E h => ?_) (fun cdv A outer s H vs Q E hr h => ?_)
  · obtain ⟨h, dn, db, dl, n, p, x, nx, bf, ls, rfl, _⟩ := h
    rfl
  · obtain ⟨h, dn, db, dl, n, p, x, nx, bf, ls, rfl, N, c⟩ := h
    obtain ⟨dx, hh⟩ := N.me
    refine ⟨_, (pss_cons (ps_expr (pe_methN (pv 0) T.cl_Net T.me_Net__check_free T.okx_Net__check_free hr T.b_Net__check_free (fun σ => L2N.passAt (L2N.takes_of rfl rfl rfl rfl) σ) (pa_cons (pv 1) pa_nil)))
        (pss_cons (ps_if (pt_cmpR op_ne (pv 2) (pv 1) (nomark _)) (pss_one (ps_expr (pe_methN (pv 0) T.cl_Net T.me_Net__check_house T.okx_Net__check_house (hr.mono (by decide)) T.b_Net__check_house (fun σ => L2N.passAt (L2N.takes_of rfl rfl rfl rfl) σ) (pa_cons (pv 2) pa_nil)))) pss_nil)
        (pss_cons (ps_asg (pv 2) (pg_sub (show PE _ _ (tFld K _ _) from pe_fld (pv 0) rfl) (pv 1) (set_dict (un1 hr))))
        (pss_one (ps_asg pe_non (pg_sub (show PE _ _ (tFld K _ _) from pe_fld (pv 0) rfl) (pv 1) (set_dict (un1 hr)))))))), ?_⟩
    rcases c with ⟨c, q⟩ | ⟨p0, p1, c, q⟩ | ⟨p0, p1, c, xp, cx, q⟩
    · exact ⟨_, rfl, h, dx, _, rfl, hh, (by unfold nf; walk_at "lk"), _, rfl, .inr ⟨h, dn, db, dl, n, p, nx, bf, ls, rfl, N, .inl ⟨c, q⟩⟩⟩
    · exact ⟨_, rfl, h, dx, _, rfl, hh, (by unfold nf; walk_at "lk"), _, rfl, .inr ⟨h, dn, db, dl, n, p, nx, bf, ls, rfl, N, .inr ⟨p0, p1, c, q⟩⟩⟩
    · refine ⟨_, rfl, h, dx, _, rfl, hh, (by unfold nf; walk_at "lk"), _, rfl, .inl ⟨h, dn, db, dl, n, p, nx, bf, ls, rfl, N, p0, p1, c, ?_⟩⟩
      refine ⟨_, rfl, _, rfl, rfl, _, rfl, iteT' (by rw [dec_int, decide_eq_false xp]; rfl) ?_⟩
      exact ⟨_, rfl, h, dx, _, rfl, hh, (by unfold nf; walk_at "lk"), _, rfl, .inr ⟨h, dn, db, dl, n, x, nx, bf, ls, rfl, N, cx, q.now⟩⟩
theorem T0.okx_Net__admit (T : T0 K mg) : FnOk P w K mg base (L2N.CX P w) 5 T.a_Net__admit T.fd_Net__admit ["self", "place", "host"] (fun vs H Q E => sp_Net__admit T.C_Net vs H Q E ∨ sp_r_admit T.C_Net T.cE vs H Q E) := orN (T.ok_Net__admit.mono (by decide)) T.okr_Net__admit
def sp_r_hold (C CE : Addr) : Sp := fun vs H _ E => ∃ (h dn db dl : Addr) (n p x : Int) (nx bf : List (Key × V)) (ls : List V), vs = [.ref h, .int p, .int x] ∧ NetAt C H h n dn db dl nx bf ls ∧ ((valV nx (.inl p) = none ∧ Rz CE p H E) ∨ ((valV nx (.inl p)).isSome = true ∧ valV nx (.inl x) = none ∧ Rz CE x H E))
theorem T0.okr_Net__hold (T : T0 K mg) : FnOk P w K mg base (L2N.CX P w) 4 T.a_Net__hold T.fd_Net__hold ["self", "house", "target"] (sp_r_hold T.C_Net T.C_NoHouse) := by
  refine Fun_okN T.F_Net__hold sc_Net__hold (fun vs H Q E h => ?_) (fun cdv A outer s H vs Q E hr h => ?_)
  · obtain ⟨h, dn, db, dl, n, p, x, nx, bf, ls, rfl, _⟩ := h
    rfl
  · obtain ⟨h, dn, db, dl, n, p, x, nx, bf, ls, rfl, N, c⟩ := h
    obtain ⟨dx, hh⟩ := N.me
    refine ⟨_, (pss_cons (ps_expr (pe_methN (pv 0) T.cl_Net T.me_Net__check_house T.okx_Net__check_house hr T.b_Net__check_house (fun σ => L2N.passAt (L2N.takes_of rfl rfl rfl rfl) σ) (pa_cons (pv 1) pa_nil)))
        (pss_cons (ps_expr (pe_methN (pv 0) T.cl_Net T.me_Net__check_house T.okx_Net__check_house hr T.b_Net__check_house (fun σ => L2N.passAt (L2N.takes_of rfl rfl rfl rfl) σ) (pa_cons (pv 2) pa_nil)))
        (pss_cons (ps_set (i := 3) sc_Net__hold.nd rfl (Or.inl rfl) (pe_dget (un1 hr) (show PE _ _ (tFld K _ _) from pe_fld (pv 0) rfl) (pv 1) (fun _ _ => rfl)))
        (pss_cons (ps_asg (pv 2) (pg_sub (show PE _ _ (tFld K _ _) from pe_fld (pv 0) rfl) (pv 1) (set_dict (un1 hr))))
        (pss_one (ps_ret (pv 3))))))), ?_⟩
    rcases c with ⟨c, q⟩ | ⟨c, cx, q⟩
    · exact ⟨_, rfl, h, dx, _, rfl, hh, (by unfold nf; walk_at "lk"), _, rfl, .inr ⟨h, dn, db, dl, n, p, nx, bf, ls, rfl, N, c, q.now⟩⟩
    · refine ⟨_, rfl, h, dx, _, rfl, hh, (by unfold nf; walk_at "lk"), _, rfl, .inl ⟨h, dn, db, dl, n, p, nx, bf, ls, rfl, N, c, ?_⟩⟩
      exact ⟨_, rfl, h, dx, _, rfl, hh, (by unfold nf; walk_at "lk"), _, rfl, .inr ⟨h, dn, db, dl, n, x, nx, bf, ls, rfl, N, cx, q.now⟩⟩
theorem T0.okx_Net__hold (T : T0 K mg) : FnOk P w K mg base (L2N.CX P w) 4 T.a_Net__hold T.fd_Net__hold ["self", "house", "target"] (fun vs H Q E => sp_Net__hold T.C_Net vs H Q E ∨ sp_r_hold T.C_Net T.C_NoHouse vs H Q E) := orN (T.ok_Net__hold.mono (by decide)) T.okr_Net__hold
def sp_r_setb (C CE : Addr) : Sp := fun vs H _ E => ∃ (h dn db dl : Addr) (n p : Int) (b : V) (nx bf : List (Key × V)) (ls : List V), vs = [.ref h, .int p, b] ∧ NetAt C H h n dn db dl nx bf ls ∧ ((valV nx (.inl p) = none ∧ Rz CE p H E) ∨ ((valV nx (.inl p)).isSome = true ∧ ∃ x, b = .int x ∧ valV nx (.inl x) = none ∧ Rz CE x H E))
theorem T0.okr_Net__set_before (T : T0 K mg) : FnOk P w K mg base (L2N.CX P w) 4 T.a_Net__set_before T.fd_Net__set_before ["self", "house", "before"] (sp_r_setb T.C_Net T.C_NoHouse) := by
  refine Fun_okN T.F_Net__set_before sc_Net__set_before (fun vs H Q E h => ?_) (fun cdv A outer s H vs Q E hr h => ?_)
  · obtain ⟨h, dn, db, dl, n, p, b, nx, bf, ls, rfl, _⟩ := h
    rfl
  · obtain ⟨h, dn, db, dl, n, p, b, nx, bf, ls, rfl, N, c⟩ := h
    obtain ⟨dx, hh⟩ := N.me
    refine ⟨_, (pss_cons (ps_expr (pe_methN (pv 0) T.cl_Net T.me_Net__check_house T.okx_Net__check_house hr T.b_Net__check_house (fun σ => L2N.passAt (L2N.takes_of rfl rfl rfl rfl) σ) (pa_cons (pv 1) pa_nil)))
        (pss_cons (ps_if (pt_cmpR op_notN (pv 2) pe_non (nomark _)) (pss_one (ps_expr (pe_methN (pv 0) T.cl_Net T.me_Net__check_house T.okx_Net__check_house hr T.b_Net__check_house (fun σ => L2N.passAt (L2N.takes_of rfl rfl rfl rfl) σ) (pa_cons (pv 2) pa_nil)))) pss_nil)
        (pss_one (ps_asg (pv 2) (pg_sub (show PE _ _ (tFld K _ _) from pe_fld (pv 0) rfl) (pv 1) (set_dict (un1 hr))))))), ?_⟩
    rcases c with ⟨c, q⟩ | ⟨c, x, rfl, cx, q⟩
    · exact ⟨_, rfl, h, dx, _, rfl, hh, (by unfold nf; walk_at "lk"), _, rfl, .inr ⟨h, dn, db, dl, n, p, nx, bf, ls, rfl, N, c, q.now⟩⟩
    · refine ⟨_, rfl, h, dx, _, rfl, hh, (by unfold nf; walk_at "lk"), _, rfl, .inl ⟨h, dn, db, dl, n, p, nx, bf, ls, rfl, N, c, ?_⟩⟩
      refine ⟨_, rfl, rfl, _, rfl, iteT' rfl ?_⟩
      exact ⟨_, rfl, h, dx, _, rfl, hh, (by unfold nf; walk_at "lk"), _, rfl, .inr ⟨h, dn, db, dl, n, x, nx, bf, ls, rfl, N, cx, q.now⟩⟩
theorem T0.okx_Net__set_before (T : T0 K mg) : FnOk P w K mg base (L2N.CX P w) 4 T.a_Net__set_before T.fd_Net__set_before ["self", "house", "before"] (fun vs H Q E => sp_Net__set_before T.C_Net vs H Q E ∨ sp_r_setb T.C_Net T.C_NoHouse vs H Q E) := orN (T.ok_Net__set_before.mono (by decide)) T.okr_Net__set_before
def sp_r_take (C : Addr) (f : Ek → Addr) : Sp := fun vs H _ E => ∃ (h dn db dl : Addr) (n p : Int) (nx bf : List (Key × V)) (ls : List V) (ks : List Int) (Ls : List Let), vs = [.ref h, .int p] ∧ NetAt C H h n dn db dl nx bf ls ∧ nx.map (·.1) = ks.map Sum.inl ∧ ks.length < 64 ∧ (∀ k ∈ ks, ∃ x, valV nx (.inl k) = some (.int x)) ∧ (∀ k ∈ ks, ∃ b, valV bf (.inl k) = some b ∧ okB b) ∧ LAt Let.vals H ls Ls ∧ ls.length ≤ 1000 ∧
  ((valV nx (.inl p) = none ∧ Rz (f .nh) p H E) ∨ (p ∈ ks ∧ namedB nx bf ks Ls p = true ∧ Rz (f .sn) p H E))
theorem T0.okr_Net__take_out (T : T0 K mg) : FnOk P w K mg base (L2N.CX P w) 4 T.a_Net__take_out T.fd_Net__take_out ["self", "house"] (sp_r_take T.C_Net T.cE) := by
  refine Fun_okN T.F_Net__take_out sc_Net__take_out (fun vs H Q E h => ?_) (fun cdv A outer s H vs Q E hr h => ?_)
  · obtain ⟨h, dn, db, dl, n, p, nx, bf, ls, ks, Ls, rfl, _⟩ := h
    rfl
  · obtain ⟨h, dn, db, dl, n, p, nx, bf, ls, ks, Ls, rfl, N, hk, h64, vN, vB, la, l1000, c⟩ := h
    obtain ⟨dx, hh⟩ := N.me
    refine ⟨_, (pss_cons (ps_expr (pe_methN (pv 0) T.cl_Net T.me_Net__check_house T.okx_Net__check_house hr T.b_Net__check_house (fun σ => L2N.passAt (L2N.takes_of rfl rfl rfl rfl) σ) (pa_cons (pv 1) pa_nil)))
        (pss_cons (ps_if (pt_val (pe_methN (pv 0) T.cl_Net T.me_Net__is_named T.okx_Net__is_named hr T.b_Net__is_named (fun σ => L2N.passAt (L2N.takes_of rfl rfl rfl rfl) σ) (pa_cons (pv 1) pa_nil))) (pss_one (L2N.ps_raise rfl (L2N.takes_of rfl rfl rfl rfl) (pmkN T.ox_StillNamed T.mi_StillNamed T.ti_StillNamed T.ok_StillNamed__init (hr.mono (by decide)) T.b_StillNamed__init pass0 rfl T.mc_StillNamed (pa_cons (pv 1) pa_nil)))) pss_nil)
        (pss_cons (ps_never)
        (pss_one (ps_never))))), ?_⟩
    rcases c with ⟨c, q⟩ | ⟨c, nb, q⟩
    · exact ⟨_, rfl, h, dx, _, rfl, hh, (by unfold nf; walk_at "lk"), _, rfl, .inr ⟨h, dn, db, dl, n, p, nx, bf, ls, rfl, N, c, q.now⟩⟩
    · obtain ⟨xn, en⟩ := vN p c
      refine ⟨_, rfl, h, dx, _, rfl, hh, (by unfold nf; walk_at "lk"), _, rfl, .inl ⟨h, dn, db, dl, n, p, nx, bf, ls, rfl, N, (by rw [en]; rfl), ?_⟩⟩
      refine ⟨_, rfl, h, dx, _, rfl, hh, (by unfold nf; walk_at "lk"), _, rfl, h, dn, db, dl, n, p, nx, bf, ls, ks, Ls, rfl, N, hk, h64, vN, vB, la, l1000, fun H1 s1 => ⟨_, rfl, iteT' nb ?_⟩⟩
      exact ⟨_, rfl, raise1 (q.same s1).now⟩
theorem T0.okx_Net__take_out (T : T0 K mg) : FnOk P w K mg base (L2N.CX P w) 4 T.a_Net__take_out T.fd_Net__take_out ["self", "house"] (fun vs H Q E => sp_Net__take_out T.C_Net vs H Q E ∨ sp_r_take T.C_Net T.cE vs H Q E) := orN (T.ok_Net__take_out.mono (by decide)) T.okr_Net__take_out
theorem T0.okr_Net__before_of (T : T0 K mg) : FnOk P w K mg base (L2N.CX P w) 4 T.a_Net__before_of T.fd_Net__before_of ["self", "house"] (sp_rNet__house T.C_Net T.C_NoHouse) := by
  refine Fun_okN T.F_Net__before_of sc_Net__before_of (fun vs H Q E h => ?_) (fun cdv A outer s H vs Q E hr h => ?_)
  · obtain ⟨h, dn, db, dl, n, p, nx, bf, ls, rfl, _⟩ := h
    rfl
  · obtain ⟨h, dn, db, dl, n, p, nx, bf, ls, rfl, hN, hp, q⟩ := h
    obtain ⟨dx, hh⟩ := hN.me
    refine ⟨_, (pss_cons (ps_expr (pe_methN (pv 0) T.cl_Net T.me_Net__check_house T.okx_Net__check_house hr T.b_Net__check_house (fun σ => L2N.passAt (L2N.takes_of rfl rfl rfl rfl) σ) (pa_cons (pv 1) pa_nil)))
        (pss_one (ps_ret (pe_dget (un1 hr) (show PE _ _ (tFld K _ _) from pe_fld (pv 0) rfl) (pv 1) (fun _ _ => rfl))))), ?_⟩
    exact ⟨_, rfl, h, dx, _, rfl, hh, (by unfold nf; walk_at "lk"), _, rfl, .inr ⟨h, dn, db, dl, n, p, nx, bf, ls, rfl, hN, hp, q⟩⟩
--CUT
theorem T0.okr_Net__tell (T : T0 K mg) : FnOk P w K mg base (L2N.CX P w) 4 T.a_Net__tell T.fd_Net__tell ["self", "house"] (sp_rNet__house T.C_Net T.C_NoHouse) := by
  refine Fun_okN T.F_Net__tell sc_Net__tell (fun vs H Q E h => ?_) (fun cdv A outer s H vs Q E hr h => ?_)
  · obtain ⟨h, dn, db, dl, n, p, nx, bf, ls, rfl, _⟩ := h
    rfl
  · obtain ⟨h, dn, db, dl, n, p, nx, bf, ls, rfl, hN, hp, q⟩ := h
    obtain ⟨dx, hh⟩ := hN.me
    refine ⟨_, (pss_cons (ps_expr (pe_methN (pv 0) T.cl_Net T.me_Net__check_house T.okx_Net__check_house hr T.b_Net__check_house (fun σ => L2N.passAt (L2N.takes_of rfl rfl rfl rfl) σ) (pa_cons (pv 1) pa_nil)))
        (pss_one (ps_ret (pe_meth (pv 0) T.cl_Net T.me_Net__send T.ok_Net__send (hr.mono (by decide)) T.b_Net__send .nil pass0 (pa_cons (pe_meth0 (pe_meth (pv 0) T.cl_Net T.me_Net__house_at T.ok_Net__house_at hr T.b_Net__house_at .nil pass0 (pa_cons (pv 1) pa_nil)) T.cl_House T.me_House__tell_letter T.ok_House__tell_letter (hr.mono (by decide)) T.b_House__tell_letter .nil pass0) pa_nil))))), ?_⟩
    exact ⟨_, rfl, h, dx, _, rfl, hh, (by unfold nf; walk_at "lk"), _, rfl, .inr ⟨h, dn, db, dl, n, p, nx, bf, ls, rfl, hN, hp, q⟩⟩
theorem T0.okx_Net__tell (T : T0 K mg) : FnOk P w K mg base (L2N.CX P w) 4 T.a_Net__tell T.fd_Net__tell ["self", "house"] (fun vs H Q E => sp_Net__say T.C_Net "tell" vs H Q E ∨ sp_rNet__house T.C_Net T.C_NoHouse vs H Q E) := orN T.ok_Net__tell T.okr_Net__tell
theorem T0.okr_Net__ask (T : T0 K mg) : FnOk P w K mg base (L2N.CX P w) 4 T.a_Net__ask T.fd_Net__ask ["self", "house"] (sp_rNet__house T.C_Net T.C_NoHouse) := by
  refine Fun_okN T.F_Net__ask sc_Net__ask (fun vs H Q E h => ?_) (fun cdv A outer s H vs Q E hr h => ?_)
  · obtain ⟨h, dn, db, dl, n, p, nx, bf, ls, rfl, _⟩ := h
    rfl
  · obtain ⟨h, dn, db, dl, n, p, nx, bf, ls, rfl, hN, hp, q⟩ := h
    obtain ⟨dx, hh⟩ := hN.me
    refine ⟨_, (pss_cons (ps_expr (pe_methN (pv 0) T.cl_Net T.me_Net__check_house T.okx_Net__check_house hr T.b_Net__check_house (fun σ => L2N.passAt (L2N.takes_of rfl rfl rfl rfl) σ) (pa_cons (pv 1) pa_nil)))
        (pss_one (ps_ret (pe_meth (pv 0) T.cl_Net T.me_Net__send T.ok_Net__send (hr.mono (by decide)) T.b_Net__send .nil pass0 (pa_cons (pe_meth0 (pe_meth (pv 0) T.cl_Net T.me_Net__house_at T.ok_Net__house_at hr T.b_Net__house_at .nil pass0 (pa_cons (pv 1) pa_nil)) T.cl_House T.me_House__ask_letter T.ok_House__ask_letter (hr.mono (by decide)) T.b_House__ask_letter .nil pass0) pa_nil))))), ?_⟩
    exact ⟨_, rfl, h, dx, _, rfl, hh, (by unfold nf; walk_at "lk"), _, rfl, .inr ⟨h, dn, db, dl, n, p, nx, bf, ls, rfl, hN, hp, q⟩⟩
theorem T0.okx_Net__ask (T : T0 K mg) : FnOk P w K mg base (L2N.CX P w) 4 T.a_Net__ask T.fd_Net__ask ["self", "house"] (fun vs H Q E => sp_Net__say T.C_Net "ask" vs H Q E ∨ sp_rNet__house T.C_Net T.C_NoHouse vs H Q E) := orN T.ok_Net__ask T.okr_Net__ask
theorem T0.okx_Net__lose (T : T0 K mg) : FnOk P w K mg base (L2N.CX P w) 4 T.a_Net__lose T.fd_Net__lose ["self", "at"] (sp_Net__lose T.C_Net) := calmN (T.ok_Net__lose.mono (by decide))
theorem T0.okx_Net__repeat (T : T0 K mg) : FnOk P w K mg base (L2N.CX P w) 4 T.a_Net__repeat T.fd_Net__repeat ["self", "at"] (sp_Net__repeat T.C_Net) := calmN (T.ok_Net__repeat.mono (by decide))
theorem T0.okx_Net__read (T : T0 K mg) : FnOk P w K mg base (L2N.CX P w) 5 T.a_Net__read T.fd_Net__read ["self", "at"] (sp_Net__read K T.C_Net) := calmN (T.ok_Net__read.mono (by decide))
theorem T0.okx_Net__next_of (T : T0 K mg) : FnOk P w K mg base (L2N.CX P w) 4 T.a_Net__next_of T.fd_Net__next_of ["self", "house"] (sp_rNet__house T.C_Net T.C_NoHouse) := T.okr_Net__next_of
theorem T0.okx_Net__before_of (T : T0 K mg) : FnOk P w K mg base (L2N.CX P w) 4 T.a_Net__before_of T.fd_Net__before_of ["self", "house"] (sp_rNet__house T.C_Net T.C_NoHouse) := T.okr_Net__before_of
/-! ### deeds -/
def oV : Option Int → V
  | none => .non
  | some x => .int x
inductive Dd where
  | admit (x y : Int) | hold (x y : Int) | before (x : Int) (b : Option Int) | take (x : Int) | tell (x : Int) | ask (x : Int) | lose (k : Nat) | rep (k : Nat) | read (k : Nat)
def Dd.vals : Dd → List V
  | .admit x y => [.str "admit", .int x, .int y]
  | .hold x y => [.str "hold", .int x, .int y]
  | .before x b => [.str "before", .int x, oV b]
  | .take x => [.str "take", .int x]
  | .tell x => [.str "tell", .int x]
  | .ask x => [.str "ask", .int x]
  | .lose k => [.str "lose", .int (k : Int)]
  | .rep k => [.str "repeat", .int (k : Int)]
  | .read k => [.str "read", .int (k : Int)]
def Dd.ok (m : Nat) : Dd → Prop
  | .lose k => k < m
  | .rep k => k < m
  | .read k => k < m
  | _ => True
/-- the houses, the letters that it may add -/
def Dd.ad : Dd → Nat
  | .admit _ _ => 1
  | _ => 0
def Dd.po : Dd → Nat
  | .tell _ => 1
  | .ask _ => 1
  | .rep _ => 1
  | _ => 0
/-- the letters that a reading leaves -/
def rdA (L : Let) (b : V) : Option Let := match L, b with
  | .ask r u, .int z => some (.answer u r z)
  | _, _ => none
theorem hA_rdA (L : Let) (b : V) : hA L.to b L = (rdA L b).map Let.vals := by
  cases L with
  | tell r u => rfl
  | answer r u m => rfl
  | ask r u =>
    cases b <;> rfl
def rdL (n : Int) (bs : List (Key × V)) (Ls : List Let) (k : Nat) : List Let := match Ls[k]? with
  | none => Ls
  | some L => Ls.eraseIdx k ++ (rdA L (bef bs L.to)).toList
/-- which refusal is due -/
def dueE (n : Int) (nx bs : List (Key × V)) (ks : List Int) (Ls : List Let) : Dd → Option (Ek × Int)
  | .admit x y => if ¬ (0 ≤ x ∧ x < n) then some (.oc, x) else if x ∈ ks then some (.tp, x) else if y ∉ ks ∧ y ≠ x then some (.nh, y) else none
  | .hold x y => if x ∉ ks then some (.nh, x) else if y ∉ ks then some (.nh, y) else none
  | .before x b => if x ∉ ks then some (.nh, x) else match b with
    | none => none
    | some y => if y ∉ ks then some (.nh, y) else none
  | .take x => if x ∉ ks then some (.nh, x) else if namedL nx bs ks Ls x = true then some (.sn, x) else none
  | .tell x => if x ∉ ks then some (.nh, x) else none
  | .ask x => if x ∉ ks then some (.nh, x) else none
  | _ => none
def stK (ks : List Int) : Dd → List Int
  | .admit x _ => ks ++ [x]
  | .take x => ks.filter fun j => decide (j ≠ x)
  | _ => ks
def stN (n : Int) (nx bs : List (Key × V)) (Ls : List Let) : Dd → List (Key × V)
  | .admit x y => putK nx (.inl x) (.int y)
  | .hold x y => putK nx (.inl x) (.int y)
  | .take x => dropK nx (.inl x)
  | .read k => match Ls[k]? with
    | none => nx
    | some L => nN n L.to (iN nx L.to) (bef bs L.to) L nx
  | _ => nx
def stB (n : Int) (bs : List (Key × V)) (Ls : List Let) : Dd → List (Key × V)
  | .before x b => putK bs (.inl x) (oV b)
  | .take x => putK bs (.inl x) .non
  | .read k => match Ls[k]? with
    | none => bs
    | some L => nB n L.to (bef bs L.to) L bs
  | _ => bs
def stF (n : Int) (bf bs : List (Key × V)) (Ls : List Let) : Dd → List (Key × V)
  | .admit x _ => putK bf (.inl x) .non
  | .before x b => putK bf (.inl x) (oV b)
  | .take x => dropK bf (.inl x)
  | .read k => match Ls[k]? with
    | none => bf
    | some L => nB n L.to (bef bs L.to) L bf
  | _ => bf
def stL (n : Int) (nx bs : List (Key × V)) (Ls : List Let) : Dd → List Let
  | .tell x => Ls ++ [.tell (iN nx x) x]
  | .ask x => Ls ++ [.ask (iN nx x) x]
  | .lose k => Ls.eraseIdx k
  | .rep k => Ls ++ Ls[k]?.toList
  | .read k => rdL n bs Ls k
  | _ => Ls
/-- what is told of a deed -/
inductive RV where
  | at (v : V) | tp (xs : List V)
def RV.ok (H : Hp) (v : V) : RV → Prop
  | .at u => v = u ∧ atomV u = true
  | .tp xs => ∃ a, v = .ref a ∧ H a = some (.tup xs) ∧ xs.length ≤ 100000 ∧ ∀ y ∈ xs, atomV y = true
def resD (n : Int) (nx bs : List (Key × V)) (Ls : List Let) : Dd → RV
  | .hold x _ => .at (.int (iN nx x))
  | .tell x => .tp (Let.tell (iN nx x) x).vals
  | .ask x => .tp (Let.ask (iN nx x) x).vals
  | .lose k => match Ls[k]? with
    | none => .at .non
    | some L => .tp L.vals
  | .rep k => match Ls[k]? with
    | none => .at .non
    | some L => .tp L.vals
  | .read k => match Ls[k]? with
    | none => .at .non
    | some L => .tp (nT n L.to (iN nx L.to) (bef bs L.to) L)
  | _ => .at .non
section
variable {n : Int} {nx bs bf : List (Key × V)} {Ls : List Let} {k : Nat} {L : Let}
theorem stN_read (e : Ls[k]? = some L) : stN n nx bs Ls (.read k) = nN n L.to (iN nx L.to) (bef bs L.to) L nx := by
  unfold stN
  dsimp only
  rw [e]
theorem stB_read (e : Ls[k]? = some L) : stB n bs Ls (.read k) = nB n L.to (bef bs L.to) L bs := by
  unfold stB
  dsimp only
  rw [e]
theorem stF_read (e : Ls[k]? = some L) : stF n bf bs Ls (.read k) = nB n L.to (bef bs L.to) L bf := by
  unfold stF
  dsimp only
  rw [e]
theorem stL_read (e : Ls[k]? = some L) : stL n nx bs Ls (.read k) = Ls.eraseIdx k ++ (rdA L (bef bs L.to)).toList := by
  unfold stL rdL
  dsimp only
  rw [e]
theorem res_read (e : Ls[k]? = some L) : resD n nx bs Ls (.read k) = .tp (nT n L.to (iN nx L.to) (bef bs L.to) L) := by
  unfold resD
  dsimp only
  rw [e]
theorem res_lose (e : Ls[k]? = some L) : resD n nx bs Ls (.lose k) = .tp L.vals := by
  unfold resD
  dsimp only
  rw [e]
theorem res_rep (e : Ls[k]? = some L) : resD n nx bs Ls (.rep k) = .tp L.vals := by
  unfold resD
  dsimp only
  rw [e]
end
theorem RV.mono {H H' : Hp} {v : V} {r : RV} (h : RV.ok H v r) (f : ∀ a xs, H a = some (.tup xs) → H' a = some (.tup xs)) : RV.ok H' v r := by
  cases r with
  | «at» u => exact h
  | tp xs => obtain ⟨a, e, h1, h2⟩ := h; exact ⟨a, e, f _ _ h1, h2⟩
theorem RV.sm {H : Hp} {u v : V} {r : RV} (h : RV.ok H u r) (g : RV.ok H v r) : Sm K 2 H u v := by
  cases r with
  | «at» x =>
    obtain ⟨rfl, a⟩ := h
    obtain ⟨rfl, _⟩ := g
    exact .atom a
  | tp xs =>
    obtain ⟨a, rfl, h1, h2, h3⟩ := h
    obtain ⟨b, rfl, g1, _⟩ := g
    exact tup_same h1 g1 h2 h3
theorem RV.done {H : Hp} {p q : Addr} {u v : V} {r : RV} (hp : H p = some (.tup [.str "done", u])) (hq : H q = some (.tup [.str "done", v])) (h : RV.ok H u r) (g : RV.ok H v r) : Sm K 3 H (.ref p) (.ref q) :=
  .tupP (SqT.of hp) (SqT.of hq) (by show 2 ≤ 100000; decide) (.cons (.atom rfl) (.cons (RV.sm h g) .nil))
/-! ### befores that may be none -/
def GD (ks : List Int) (bs : List (Key × V)) : Prop := ∀ (p : Int) v, valV bs (.inl p) = some v → v = .non ∨ (p ∈ ks ∧ ∃ x ∈ ks, v = .int x)
section
variable {ks : List Int} {nx bs bf : List (Key × V)} {p x n r : Int} {v : V} {L : Let}
theorem GD.bef (g : GD ks bs) (k : Int) : bef bs k = .non ∨ (k ∈ ks ∧ ∃ x ∈ ks, bef bs k = .int x) := by
  unfold Z.bef
  cases e : valV bs (.inl k) with
  | none => exact .inl rfl
  | some v => exact g k v e
theorem GD.ok (g : GD ks bs) (k : Int) : okB (Z.bef bs k) := (g.bef k).imp id fun ⟨_, x, _, e⟩ => ⟨x, e⟩
theorem GD.b0 (g : GD ks bs) {k z : Int} (e : Z.bef bs k = .int z) : z ∈ ks := by
  rcases g.bef k with h | ⟨_, x, mx, h⟩
  · rw [e] at h
    cases h
  · rw [e] at h
    cases h
    exact mx
theorem GD.put (g : GD ks bs) (hv : v = .non ∨ (p ∈ ks ∧ ∃ x ∈ ks, v = .int x)) : GD ks (putK bs (.inl p) v) := fun k u e => by
  rw [valV_put] at e
  by_cases z : k = p
  · rw [if_pos (by rw [z])] at e
    cases e
    rw [z]
    exact hv
  · rw [if_neg (fun y => z (Sum.inl.inj y))] at e
    exact g k u e
theorem GD.nB (g : GD ks bs) (hL : ∀ k ∈ L.ns, k ∈ ks) (hr : r ∈ ks) : GD ks (nB n r (Z.bef bs r) L bs) := by
  unfold Z.nB
  split
  · rename_i h
    obtain ⟨u, mu, eu⟩ := (hB_mem (n := n) (r := r) (L := L) (g.ok r)).resolve_left h.2
    exact g.put (.inr ⟨hr, u, hL _ mu, eu⟩)
  · exact g
theorem GD.adm (g : GD ks bs) : GD (ks ++ [p]) bs := fun k u e => (g k u e).imp id fun ⟨h1, x, mx, ex⟩ => ⟨List.mem_append_left _ h1, x, List.mem_append_left _ mx, ex⟩
theorem VF.admD (h : VF ks bf bs) (g : GD ks bs) (hp : p ∉ ks) : VF (ks ++ [p]) (putK bf (.inl p) .non) bs := fun k hk => by
  rw [valV_put]
  by_cases e : k = p
  · rw [if_pos (by rw [e]), e]
    rcases g.bef p with z | z
    · rw [z]
    · exact absurd z.1 hp
  · rw [if_neg (fun z => e (Sum.inl.inj z))]
    exact h k ((List.mem_append.mp hk).resolve_right (fun z => e (List.mem_singleton.mp z)))
theorem GD.wo (g : GD ks bs) (no : ∀ k ∈ ks, k ≠ p → iN nx k ≠ p ∧ Z.bef bs k ≠ .int p) : GD (ks.filter fun j => decide (j ≠ p)) (putK bs (.inl p) .non) := fun k v e => by
  rw [valV_put] at e
  by_cases c : (Sum.inl k : Key) = .inl p
  · rw [if_pos c] at e
    cases e
    exact .inl rfl
  · rw [if_neg c] at e
    have ne : k ≠ p := fun z => c (by rw [z])
    refine (g k v e).imp id fun ⟨mk, x, mx, ex⟩ => ⟨mem_wo.mpr ⟨mk, ne⟩, x, mem_wo.mpr ⟨mx, fun z => (no k mk ne).2 ?_⟩, ex⟩
    unfold Z.bef
    rw [e, ex, z]
    rfl
theorem VF.woD (v : VF ks bf bs) : VF (ks.filter fun j => decide (j ≠ p)) (dropK bf (.inl p)) (putK bs (.inl p) .non) := fun k hk => by
  obtain ⟨mk, ne⟩ := mem_wo.mp hk
  rw [valV_dropK, if_neg (fun z => ne (Sum.inl.inj z)), v k mk]
  unfold Z.bef
  rw [valV_put, if_neg (fun z => ne (Sum.inl.inj z))]
theorem LAt.rep {H : Hp} {vs : List V} {Ls : List Let} {k : Nat} {v : V} (h : LAt Let.vals H vs Ls) (e : vs[k]? = some v) : LAt Let.vals H (vs ++ [v]) (Ls ++ Ls[k]?.toList) := by
  obtain ⟨a, L, hL, rfl, eL⟩ := h.at e
  rw [hL]
  exact h.app eL
end
/-- what a deed makes of the tables is sound -/
structure Snd (n : Int) (ks : List Int) (nx bs bf : List (Key × V)) (Ls : List Let) : Prop where
  gn : GN ks nx
  nd : ks.Nodup
  rng : ∀ k ∈ ks, 0 ≤ k ∧ k < n
  gd : GD ks bs
  vf : VF ks bf bs
  lns : ∀ L ∈ Ls, ∀ k ∈ L.ns, k ∈ ks
theorem Snd.step {n : Int} {ks : List Int} {nx bs bf : List (Key × V)} {Ls : List Let} {D : Dd} (s : Snd n ks nx bs bf Ls) (hu : dueE n nx bs ks Ls D = none) (ok : D.ok Ls.length) : Snd n (stK ks D) (stN n nx bs Ls D) (stB n bs Ls D) (stF n bf bs Ls D) (stL n nx bs Ls D) := by
  obtain ⟨gn, nd, rng, gd, vf, lns⟩ := s
  cases D with
  | admit x y =>
    unfold dueE at hu
    dsimp only at hu
    by_cases c1 : ¬ (0 ≤ x ∧ x < n)
    · rw [if_pos c1] at hu; cases hu
    rw [if_neg c1] at hu
    by_cases c2 : x ∈ ks
    · rw [if_pos c2] at hu; cases hu
    rw [if_neg c2] at hu
    by_cases c3 : y ∉ ks ∧ y ≠ x
    · rw [if_pos c3] at hu; cases hu
    have my : y ∈ ks ++ [x] := by
      by_cases e : y = x
      · rw [e]; simp
      · exact List.mem_append_left _ (Decidable.byContradiction fun z => c3 ⟨z, e⟩)
    refine ⟨gn.admS c2 my, ?_, fun k hk => ?_, gd.adm, vf.admD gd c2, fun L hL k hk => List.mem_append_left _ (lns L hL k hk)⟩
    · refine List.nodup_append.mpr ⟨nd, List.nodup_cons.mpr ⟨List.not_mem_nil, List.nodup_nil⟩, fun a ha b hb z => c2 ?_⟩
      rw [← List.mem_singleton.mp hb, ← z]
      exact ha
    · rcases List.mem_append.mp hk with hk | hk
      · exact rng k hk
      · rw [List.mem_singleton.mp hk]
        omega
  | hold x y =>
    unfold dueE at hu
    dsimp only at hu
    by_cases c1 : x ∉ ks
    · rw [if_pos c1] at hu; cases hu
    rw [if_neg c1] at hu
    by_cases c2 : y ∉ ks
    · rw [if_pos c2] at hu; cases hu
    exact ⟨gn.put (Decidable.not_not.mp c1) (Decidable.not_not.mp c2), nd, rng, gd, vf, lns⟩
  | before x b =>
    unfold dueE at hu
    dsimp only at hu
    by_cases c1 : x ∉ ks
    · rw [if_pos c1] at hu; cases hu
    rw [if_neg c1] at hu
    refine ⟨gn, nd, rng, gd.put ?_, vf.put, lns⟩
    cases b with
    | none => exact .inl rfl
    | some y =>
      dsimp only at hu
      by_cases c2 : y ∉ ks
      · rw [if_pos c2] at hu; cases hu
      exact .inr ⟨Decidable.not_not.mp c1, y, Decidable.not_not.mp c2, rfl⟩
  | take x =>
    unfold dueE at hu
    dsimp only at hu
    by_cases c1 : x ∉ ks
    · rw [if_pos c1] at hu; cases hu
    rw [if_neg c1] at hu
    by_cases c2 : namedL nx bs ks Ls x = true
    · rw [if_pos c2] at hu; cases hu
    obtain ⟨no, nl⟩ := named_no (Bool.eq_false_iff.mpr c2)
    exact ⟨gn.wo no, nd.sublist List.filter_sublist, fun k hk => rng k (mem_wo.mp hk).1, gd.wo no, vf.woD, fun L hL k hk => mem_wo.mpr ⟨lns L hL k hk, fun z => nl L hL (z ▸ hk)⟩⟩
  | tell x =>
    unfold dueE at hu
    dsimp only at hu
    by_cases c1 : x ∉ ks
    · rw [if_pos c1] at hu; cases hu
    obtain ⟨y, my, ey⟩ := gn.2 x (Decidable.not_not.mp c1)
    refine ⟨gn, nd, rng, gd, vf, fun L hL k hk => ?_⟩
    rcases List.mem_append.mp hL with h | h
    · exact lns L h k hk
    · rw [List.mem_singleton.mp h] at hk
      have hk : k ∈ [iN nx x, x] := hk
      rw [iN_of ey] at hk
      simp only [List.mem_cons, List.not_mem_nil, or_false] at hk
      rcases hk with rfl | rfl
      · exact my
      · exact Decidable.not_not.mp c1
  | ask x =>
    unfold dueE at hu
    dsimp only at hu
    by_cases c1 : x ∉ ks
    · rw [if_pos c1] at hu; cases hu
    obtain ⟨y, my, ey⟩ := gn.2 x (Decidable.not_not.mp c1)
    refine ⟨gn, nd, rng, gd, vf, fun L hL k hk => ?_⟩
    rcases List.mem_append.mp hL with h | h
    · exact lns L h k hk
    · rw [List.mem_singleton.mp h] at hk
      have hk : k ∈ [iN nx x, x] := hk
      rw [iN_of ey] at hk
      simp only [List.mem_cons, List.not_mem_nil, or_false] at hk
      rcases hk with rfl | rfl
      · exact my
      · exact Decidable.not_not.mp c1
  | lose k => exact ⟨gn, nd, rng, gd, vf, fun L hL => lns L (List.mem_of_mem_eraseIdx hL)⟩
  | rep k =>
    refine ⟨gn, nd, rng, gd, vf, fun L hL => ?_⟩
    rcases List.mem_append.mp hL with h | h
    · exact lns L h
    · exact lns L (List.mem_of_getElem? (Option.mem_toList.mp h))
  | read k =>
    have hk : k < Ls.length := ok
    have eL : Ls[k]? = some Ls[k] := List.getElem?_eq_getElem hk
    have hL := lns _ (List.mem_of_getElem? eL)
    have hr' := hL _ (Ls[k]).to_ns
    obtain ⟨y, my, ey⟩ := gn.2 _ hr'
    rw [stN_read eL, stB_read eL, stF_read eL, stL_read eL, iN_of ey]
    refine ⟨gn.nN hL hr' ey, nd, rng, gd.nB hL hr', VF.nB vf hr', fun L hL2 => ?_⟩
    rcases List.mem_append.mp hL2 with h | h
    · exact lns L (List.mem_of_mem_eraseIdx h)
    · cases eA : rdA Ls[k] (bef bs (Ls[k]).to) with
      | none => rw [eA] at h; nomatch h
      | some L' =>
        rw [eA] at h
        have h : L ∈ [L'] := h
        rw [List.mem_singleton.mp h]
        have hh := hA_rdA Ls[k] (bef bs (Ls[k]).to)
        rw [eA] at hh
        obtain ⟨L2, e, m⟩ := hA_let hh hL hr' (fun z e => gd.b0 e)
        intro j hj
        have : L'.ns.map V.int = L2.ns.map V.int := by
          rw [Let.vals_eq, Let.vals_eq] at e
          exact (List.cons.inj e).2
        have hm : V.int j ∈ L'.ns.map V.int := List.mem_map.mpr ⟨j, hj, rfl⟩
        rw [this] at hm
        obtain ⟨j2, hj2, e2⟩ := List.mem_map.mp hm
        cases e2
        exact m _ hj2
--CUT
/-! ### a net and the law's tables -/
structure NH (CN t c : Addr) (A : Bd) (n : Int) (m : Nat) (S : WK) (H : Hp) : Prop where
  tape : Tape H t c
  net : NetAt CN H A.h n A.dn A.db A.dl S.nx S.bf S.ls
  hN : H A.dN = some (.dK S.nx)
  hB : H A.dB = some (.dK S.bs)
  hP : H A.pO = some (.lst S.ps)
  sd : Snd n S.ks S.nx S.bs S.bf S.Ls
  n0 : 0 < n
  n9 : n ≤ 1000000000
  la : LAt Let.vals H S.ps S.Ls
  ll : LAt Let.vals H S.ls S.Ls
  ndl : A.pO ≠ t ∧ A.pO ≠ c ∧ A.dl ≠ t ∧ A.dl ≠ c ∧ A.pO ≠ A.dl
  ndd : A.dn ≠ A.db ∧ A.dn ≠ A.dN ∧ A.dn ≠ A.dB ∧ A.db ≠ A.dN ∧ A.db ≠ A.dB ∧ A.dN ≠ A.dB
  lks : S.ks.length ≤ 40
  lps : S.ps.length ≤ 60
  lbf : S.bf.length ≤ 40 + m
  lbs : S.bs.length ≤ 40 + m
section
variable {CN t c : Addr} {A : Bd} {n : Int} {m : Nat} {S : WK} {H H' : Hp}
theorem NH.gn (I : NH CN t c A n m S H) : GN S.ks S.nx := I.sd.gn
theorem NH.nd (I : NH CN t c A n m S H) : S.ks.Nodup := I.sd.nd
theorem NH.rng (I : NH CN t c A n m S H) : ∀ k ∈ S.ks, 0 ≤ k ∧ k < n := I.sd.rng
theorem NH.gd (I : NH CN t c A n m S H) : GD S.ks S.bs := I.sd.gd
theorem NH.vf (I : NH CN t c A n m S H) : VF S.ks S.bf S.bs := I.sd.vf
theorem NH.kp (I : NH CN t c A n m S H) (f : Kp t H H') (T : Tape H' t c) : NH CN t c A n m S H' := by
  obtain ⟨⟨xt, et⟩, _⟩ := tape_at I.tape
  have g : ∀ {a : Addr} {o : HO}, H a = Option.some o → (∀ xs, o ≠ .lst xs) → H' a = Option.some o := fun e no => f _ _ (fun z => by rw [z, et] at e; exact no _ (Option.some.inj e).symm) e
  exact { I with
    tape := T
    net := ⟨let ⟨d, e⟩ := I.net.me; ⟨d, g e (fun _ z => nomatch z)⟩, g I.net.hn (fun _ z => nomatch z), g I.net.hb (fun _ z => nomatch z), f _ _ I.ndl.2.2.1 I.net.hl⟩
    hN := g I.hN (fun _ z => nomatch z)
    hB := g I.hB (fun _ z => nomatch z)
    hP := f _ _ I.ndl.1 I.hP
    la := I.la.kp I.tape f
    ll := I.ll.kp I.tape f }
theorem NH.same (I : NH CN t c A n m S H) (s : Same H H') : NH CN t c A n m S H' := I.kp (.of_same s) (I.tape.same s)
theorem NH.len (I : NH CN t c A n m S H) : S.nx.length = S.ks.length := by have := congrArg List.length I.gn.1; rw [List.length_map, List.length_map] at this; exact this
theorem NH.lenl (I : NH CN t c A n m S H) : S.ls.length = S.ps.length := by rw [I.ll.1, I.la.1]
theorem NH.lets (I : NH CN t c A n m S H) : Alike (LetSame H S.ks) S.ps S.ls := ⟨I.lenl.symm, fun i x y hx hy => by
  obtain ⟨a, L, hL, rfl, eL⟩ := I.la.at hx
  obtain ⟨b, L2, hL2, rfl, eL2⟩ := I.ll.at hy
  rw [hL] at hL2
  cases hL2
  exact ⟨a, b, L, rfl, rfl, eL, eL2, I.sd.lns L (List.mem_of_getElem? hL)⟩⟩
end
/-- what a net says, against the tables -/
def sp__law_says (K : PySem.W.Frag) (CN : Addr) : Sp := fun vs H Q _ => ∃ (t c : Addr) (A : Bd) (n : Int) (m : Nat) (S : WK), vs = [.ref A.h, .int n, .ref A.dN, .ref A.dB, .ref A.pO] ∧ NH CN t c A n m S H ∧ ∀ H', Same H H' → Q (.bl true) H'
theorem T0.ok__law_says (T : T0 K mg) : FnOk P w K mg base CX0 6 T.a__law_says T.fd__law_says ["net", "size", "nexts", "behinds", "post"] (sp__law_says K T.C_Net) := by
  refine T.F__law_says.ok sc__law_says (fun vs H Q E h => ?_) (fun cdv A' outer s H vs Q E hr h => ?_)
  · obtain ⟨t, c, A, n, m, S, rfl, _⟩ := h
    rfl
  · obtain ⟨t, c, A, n, m, S, rfl, I, q⟩ := h
    refine ⟨_, (pss_cons (ps_set (i := 5) sc__law_says.nd rfl (Or.inl rfl) pe_dnewK)
        (pss_cons (ps_set (i := 6) sc__law_says.nd rfl (Or.inl rfl) pe_dnewK)
        (pss_cons (ps_set (i := 7) sc__law_says.nd rfl (Or.inl rfl) (pe_lst pa_nil))
        (pss_cons (ps_for PassesOwn.never rfl (pi_list (pe_callB (call_sortedDI rfl) (by rfl) T.m_sorted (by decide +kernel) (pa_cons (pv 2) pa_nil))) (pg_name (i := 8) sc__law_says.nd rfl (Or.inl rfl)) (pss_cons (ps_set (i := 9) sc__law_says.nd rfl (Or.inl rfl) (pe_dget1 (un1 hr) (pv 3) (pv 8) ⟨rfl, rfl, rfl, rfl⟩))
        (pss_cons (ps_asg (pe_dget (un1 hr) (pv 2) (pv 8) (fun _ _ => rfl)) (pg_sub (pv 5) (pv 8) (set_dict (un1 hr))))
        (C8.pss_cut (ps_if (pt_cmpR op_notN (pv 9) pe_non (nomark _)) (pss_one (ps_asg (pv 9) (pg_sub (pv 6) (pv 8) (set_dict (un1 hr))))) pss_nil)
        (pss_cons (ps_expr (pe_bm PySem.F.plainAttrs_list PySem.F.slot_list_append PySem.F.type_list_append mt_append (pv 7) (pa_cons (pe_tup (pa_cons (pv 8) (pa_cons (pe_dget (un1 hr) (pv 2) (pv 8) (fun _ _ => rfl)) (pa_cons (pv 9) pa_nil)))) pa_nil)))
        (pss_one (ps_if (PW.pt (pw_or (pt_not (pt_val (pe_call (T.ok__law_same 5) (hr.mono (by decide)) (by rfl) T.g__law_same T.k__law_same T.b__law_same .nil pass0 (pa_cons (pe_meth (pv 0) T.cl_Net T.me_Net__next_of T.ok_Net__next_of (hr.mono (by decide)) T.b_Net__next_of .nil pass0 (pa_cons (pv 8) pa_nil)) (pa_cons (pe_dget (un1 hr) (pv 2) (pv 8) (fun _ _ => rfl)) pa_nil))))) (pw_or1 (pt_not (pt_val (pe_call (T.ok__law_same 5) (hr.mono (by decide)) (by rfl) T.g__law_same T.k__law_same T.b__law_same .nil pass0 (pa_cons (pe_meth (pv 0) T.cl_Net T.me_Net__before_of T.ok_Net__before_of (hr.mono (by decide)) T.b_Net__before_of .nil pass0 (pa_cons (pv 8) pa_nil)) (pa_cons (pv 9) pa_nil)))))))) (pss_one (ps_ret pe_bl)) pss_nil)))))))
        (pss_cons (ps_if (PW.pt (pw_or (pt_not (pt_val (pe_call (T.ok__law_same 5) (hr.mono (by decide)) (by rfl) T.g__law_same T.k__law_same T.b__law_same .nil pass0 (pa_cons (show PE _ _ (tFld K _ _) from pe_fld (pv 0) rfl) (pa_cons (pv 1) pa_nil))))) (pw_or1 (pt_not (pt_val (pe_call (T.ok__law_same 5) (hr.mono (by decide)) (by rfl) T.g__law_same T.k__law_same T.b__law_same .nil pass0 (pa_cons (pe_meth0 (pv 0) T.cl_Net T.me_Net__houses T.ok_Net__houses (hr.mono (by decide)) T.b_Net__houses .nil pass0) (pa_cons (pe_callB (call_sortedDI rfl) (by rfl) T.m_sorted (by decide +kernel) (pa_cons (pv 2) pa_nil)) pa_nil)))))))) (pss_one (ps_ret pe_bl)) pss_nil)
        (pss_cons (ps_if (PW.pt (pw_or (pt_not (pt_val (pe_call (T.ok__law_same 5) (hr.mono (by decide)) (by rfl) T.g__law_same T.k__law_same T.b__law_same .nil pass0 (pa_cons (pe_meth0 (pv 0) T.cl_Net T.me_Net__nexts T.ok_Net__nexts (hr.mono (by decide)) T.b_Net__nexts .nil pass0) (pa_cons (pv 5) pa_nil))))) (pw_or1 (pt_not (pt_val (pe_call (T.ok__law_same 5) (hr.mono (by decide)) (by rfl) T.g__law_same T.k__law_same T.b__law_same .nil pass0 (pa_cons (pe_meth0 (pv 0) T.cl_Net T.me_Net__befores T.ok_Net__befores (hr.mono (by decide)) T.b_Net__befores .nil pass0) (pa_cons (pv 6) pa_nil)))))))) (pss_one (ps_ret pe_bl)) pss_nil)
        (pss_one (ps_ret (pe_and (pe_call (T.ok__law_same 5) (hr.mono (by decide)) (by rfl) T.g__law_same T.k__law_same T.b__law_same .nil pass0 (pa_cons (pe_meth0 (pv 0) T.cl_Net T.me_Net__letters T.ok_Net__letters (hr.mono (by decide)) T.b_Net__letters .nil pass0) (pa_cons (pv 4) pa_nil))) (pe_one (pe_call (T.ok__law_same 5) (hr.mono (by decide)) (by rfl) T.g__law_same T.k__law_same T.b__law_same .nil pass0 (pa_cons (pe_meth0 (pv 0) T.cl_Net T.me_Net__snapshot T.ok_Net__snapshot (hr.mono (by decide)) T.b_Net__snapshot .nil pass0) (pa_cons (pe_tup (pa_cons (pv 1) (pa_cons (pe_callTy (call_tuple_ofK (K := K)) (by rfl) T.m_tuple (by decide +kernel) (pa_cons (pv 7) pa_nil)) (pa_cons (pe_callTy (call_tuple_ofK (K := K)) (by rfl) T.m_tuple (by decide +kernel) (pa_cons (pv 4) pa_nil)) pa_nil)))) pa_nil))))))))))))), fun d1 nd1 => ?_⟩
    have s1 := same_upd (o := .dK []) nd1
    have e1 : upd H d1 (.dK []) d1 = some (.dK []) := upd_same
    generalize upd H d1 (.dK []) = H1 at s1 e1
    intro d2 nd2
    have n12 : d1 ≠ d2 := ne_of_none e1 nd2
    have nd20 : H d2 = none := none_back s1 nd2
    have s2 := Same.trans s1 (same_upd (o := .dK []) nd2)
    have e12 := (upd_ne (o := .dK []) n12).trans e1
    have e2 : upd H1 d2 (.dK []) d2 = some (.dK []) := upd_same
    generalize upd H1 d2 (.dK []) = H2 at s2 e12 e2
    refine ⟨Nat.zero_le _, fun rw nrw => ?_⟩
    have nrw0 : H rw = none := none_back s2 nrw
    have s2 := Same.trans s2 (same_upd (o := .lst []) nrw)
    have e12 := (upd_ne (o := .lst []) (ne_of_none e12 nrw)).trans e12
    have e2 := (upd_ne (o := .lst []) (ne_of_none e2 nrw)).trans e2
    have eR : upd H2 rw (.lst []) rw = some (.lst []) := upd_same
    generalize upd H2 rw (.lst []) = H2 at s2 e12 e2 eR
    have I2 := I.same s2
    have l1 := I.lks
    have l2 : S.nx.length = S.ks.length := by have := congrArg List.length I.gn.1; rw [List.length_map, List.length_map] at this; exact this
    have l60 := I.lps
    refine ⟨_, rfl, A.dN, S.nx, S.ks, rfl, .inl I2.hN, I2.gn.1, by omega, fun ys l perm pw nl => ?_⟩
    have ylen := perm.length_eq
    have ynd : ys.Nodup := perm.nodup_iff.mpr I.nd
    have s3 := Same.trans s2 (same_upd (o := .lst (ys.map V.int)) nl)
    have hl : upd H2 l (.lst (ys.map V.int)) l = some (.lst (ys.map V.int)) := upd_same
    have e13 := (upd_ne (o := .lst (ys.map V.int)) (ne_of_none e12 nl)).trans e12
    have e23 := (upd_ne (o := .lst (ys.map V.int)) (ne_of_none e2 nl)).trans e2
    have eR3 := (upd_ne (o := .lst (ys.map V.int)) (ne_of_none eR nl)).trans eR
    have nlr : l ≠ rw := (ne_of_none eR nl).symm
    generalize upd H2 l (.lst (ys.map V.int)) = H3 at s3 hl e13 e23 eR3
    have nl1 : l ≠ d1 := ne_kind hl e13 (fun z => nomatch z)
    have nl2 : l ≠ d2 := ne_kind hl e23 (fun z => nomatch z)
    have nr1 : rw ≠ d1 := ne_kind eR3 e13 (fun z => nomatch z)
    have nr2 : rw ≠ d2 := ne_kind eR3 e23 (fun z => nomatch z)
    have okf : ∀ y ∈ S.ks, ∃ x, valV S.nx (.inl y) = some (.int x) ∧ gV S.nx y = .int x := fun y hy => let ⟨x, _, hx⟩ := I.gn.2 y hy; ⟨x, hx, gV_of hx⟩
    refine ⟨l, rfl, ⟨_, SqL.of hl⟩, ?_⟩
    refine for_list (K := K) (a := l) (xs := ys.map V.int) (fun i σ' H' => ∃ (o8 o9 : Option V) (rs : List V), σ' = [some (.ref A.h), some (.int n), some (.ref A.dN), some (.ref A.dB), some (.ref A.pO), some (.ref d1), some (.ref d2), some (.ref rw), o8, o9] ∧ Same H H' ∧ H' l = some (.lst (ys.map V.int)) ∧ H' d1 = some (.dK ((ys.take i).map fun y => (.inl y, gV S.nx y))) ∧ H' d2 = some (.dK (((ys.take i).filter fun y => decide (bef S.bs y ≠ .non)).map fun y => (.inl y, bef S.bs y))) ∧ H' rw = some (.lst rs) ∧ LAt (rV (gV S.nx) (bef S.bs)) H' rs (ys.take i))
      ⟨none, none, [], rfl, s3, hl, e13, e23, eR3, .nil⟩ (fun i σ' H' _ pv => by obtain ⟨_, _, _, _, _, h, _⟩ := pv; exact SqL.of h) (fun i v σ' H4 hv pv => ?_) (fun σ' H4 pv => ?_)
    · obtain ⟨o8, o9, rs, rfl, s4, hl4, e14, e24, eR4, la4⟩ := pv
      rw [List.getElem?_map] at hv
      obtain ⟨y, hyi, rfl⟩ := Option.map_eq_some_iff.mp hv
      have hi : i < ys.length := (List.getElem?_eq_some_iff.mp hyi).1
      have hy : y ∈ S.ks := perm.mem_iff.mp (List.mem_of_getElem? hyi)
      have ti : (ys.take (i + 1)) = ys.take i ++ [y] := by rw [List.take_add_one, hyi]; rfl
      have I4 := I.same s4
      obtain ⟨x, hx, gx⟩ := okf y hy
      refine ⟨_, rfl, A.dB, rfl, .inl ⟨_, .inl I4.hB⟩, _, rfl, _, DGet.k (k := Sum.inl y) I4.hB, ?_⟩
      have ob := I.gd.ok y
      try (walk_at "nf")
      refine ⟨_, rfl, _, rfl, A.dN, _, rfl, dget_of (k := Sum.inl y) I4.hN hx, _, rfl, _, rfl, d1, _, rfl, DPut.k (k := Sum.inl y) e14 (small1000' (by rw [List.length_map, List.length_take]; omega)), ?_⟩
      have p5 : putK ((ys.take i).map fun y => ((Sum.inl y : Key), gV S.nx y)) (Sum.inl y) (.int x) = (ys.take (i + 1)).map fun y => (Sum.inl y, gV S.nx y) := by
        rw [putK_new _ (valV_none_of (not_in_take ynd hyi)), ti, List.map_append, ← gx]
        rfl
      rw [p5]
      have f5 : ∀ b o, b ≠ d1 → H4 b = some o → upd H4 d1 (.dK ((ys.take (i + 1)).map fun y => (Sum.inl y, gV S.nx y))) b = some o := fun b o nb e => (upd_ne nb).trans e
      have s5 : Same H (upd H4 d1 (.dK ((ys.take (i + 1)).map fun y => (Sum.inl y, gV S.nx y)))) := fun a o e => f5 _ _ (ne_of_none e nd1) (s4 _ _ e)
      have e15 : upd H4 d1 (.dK ((ys.take (i + 1)).map fun y => (Sum.inl y, gV S.nx y))) d1 = _ := upd_same
      have e25 := f5 _ _ n12.symm e24
      have hl5 := f5 _ _ nl1 hl4
      have eR5 := f5 _ _ nr1 eR4
      have la5 := la4.mono fun a xs e => f5 a _ (ne_kind e e14 (fun z => nomatch z)) e
      generalize upd H4 d1 (.dK ((ys.take (i + 1)).map fun y => (Sum.inl y, gV S.nx y))) = H5 at s5 e15 e25 hl5 eR5 la5
      have fs := filter_step (f := bef S.bs) hyi
      refine ⟨fun σ' H' => σ' = [some (.ref A.h), some (.int n), some (.ref A.dN), some (.ref A.dB), some (.ref A.pO), some (.ref d1), some (.ref d2), some (.ref rw), some (.int y), some (bef S.bs y)] ∧ Same H H' ∧ H' l = some (.lst (ys.map V.int)) ∧ H' d1 = some (.dK ((ys.take (i + 1)).map fun y => (.inl y, gV S.nx y))) ∧ H' d2 = some (.dK (((ys.take (i + 1)).filter fun y => decide (bef S.bs y ≠ .non)).map fun y => (.inl y, bef S.bs y))) ∧ H' rw = some (.lst rs) ∧ LAt (rV (gV S.nx) (bef S.bs)) H' rs (ys.take i), ?_, ?_⟩
      · refine ⟨_, rfl, rfl, _, rfl, ?_⟩
        by_cases e : bef S.bs y = .non
        · rw [if_pos e] at fs
          refine iteF' (by show (!decide (bef S.bs y = .non)) = false; rw [decide_eq_true e]; rfl) ?_
          rw [fs]
          exact ⟨rfl, s5, hl5, e15, e25, eR5, la5⟩
        · rw [if_neg e] at fs
          refine iteT' (by show (!decide (bef S.bs y = .non)) = true; rw [decide_eq_false e]; rfl) ?_
          refine ⟨_, rfl, _, rfl, _, rfl, d2, _, rfl, DPut.k (k := Sum.inl y) e25 (small1000' ?_), ?_⟩
          · rw [List.length_map]
            refine Nat.le_trans (List.length_filter_le _ _) ?_
            rw [List.length_take]
            omega
          · have nin : y ∉ (ys.take i).filter fun y => decide (bef S.bs y ≠ .non) := fun m => not_in_take ynd hyi (List.mem_filter.mp m).1
            refine ⟨rfl, fun a o e => (upd_ne (ne_of_none e nd20)).trans (s5 _ _ e), (upd_ne nl2).trans hl5, (upd_ne n12).trans e15, ?_, (upd_ne nr2).trans eR5, la5.mono fun a xs e => (upd_ne (ne_kind e e25 (fun z => nomatch z))).trans e⟩
            rw [upd_same, putK_new _ (valV_none_of nin), fs, List.map_append]
            rfl
      rintro _ H6 ⟨rfl, s6, hl6, e16, e26, eR6, la6⟩
      have I6 := I.same s6
      -- rows.append
      refine ⟨_, rfl, .inl ⟨rfl, _, SqL.of eR6⟩, _, rfl, _, rfl, _, rfl, A.dN, _, rfl, dget_of (k := Sum.inl y) I6.hN hx, _, rfl, lenL (by show 3 ≤ 100000; decide), fun p1 np1 => ?_⟩
      have s7 := same_upd (o := .tup [.int y, .int x, bef S.bs y]) np1
      have ep1 : upd H6 p1 (.tup [.int y, .int x, bef S.bs y]) p1 = some (.tup [.int y, .int x, bef S.bs y]) := upd_same
      generalize upd H6 p1 (.tup [.int y, .int x, bef S.bs y]) = H7 at s7 ep1
      have lr := la6.1
      rw [List.length_take] at lr
      have eR7 := s7 _ _ eR6
      refine ⟨rw, _, _, rfl, rfl, eR7, small1000' (by omega), ?_⟩
      have f8 : ∀ b o, b ≠ rw → H7 b = some o → upd H7 rw (.lst (rs ++ [.ref p1])) b = some o := fun b o nb e => (upd_ne nb).trans e
      have eR8 : upd H7 rw (.lst (rs ++ [.ref p1])) rw = some (.lst (rs ++ [.ref p1])) := upd_same
      have s8 : Same H (upd H7 rw (.lst (rs ++ [.ref p1]))) := fun a o e => f8 _ _ (ne_of_none e nrw0) (s7 _ _ (s6 _ _ e))
      have hl8 := f8 _ _ nlr (s7 _ _ hl6)
      have e18 := f8 _ _ nr1.symm (s7 _ _ e16)
      have e28 := f8 _ _ nr2.symm (s7 _ _ e26)
      have la8 : LAt (rV (gV S.nx) (bef S.bs)) (upd H7 rw (.lst (rs ++ [.ref p1]))) (rs ++ [.ref p1]) (ys.take (i + 1)) := by
        rw [ti]
        refine ((la6.same s7).app (q := y) ?_).mono fun a xs e => f8 a _ (ne_kind e eR7 (fun z => nomatch z)) e
        rw [ep1]
        unfold rV
        rw [gx]
      generalize upd H7 rw (.lst (rs ++ [.ref p1])) = H8 at eR8 s8 hl8 e18 e28 la8
      have I8 := I.same s8
      obtain ⟨dx8, hh8⟩ := I8.net.me
      -- next_of, before_of
      refine ⟨_, rfl, A.h, dx8, _, rfl, hh8, (by unfold nf; walk_at "lk"), _, rfl, A.h, A.dn, A.db, A.dl, n, y, .int x, S.nx, S.bf, S.ls, rfl, I8.net, hx, ?_⟩
      refine ⟨_, rfl, _, rfl, A.dN, _, rfl, dget_of (k := Sum.inl y) I8.hN hx, _, _, rfl, .atom rfl, fun H9 s9 => ⟨true, rfl, iteF ?_⟩⟩
      have I9 := I8.same s9
      obtain ⟨dx9, hh9⟩ := I9.net.me
      refine ⟨_, rfl, A.h, dx9, _, rfl, hh9, (by unfold nf; walk_at "lk"), _, rfl, A.h, A.dn, A.db, A.dl, n, y, bef S.bs y, S.nx, S.bf, S.ls, rfl, I9.net, (by rw [hx]; rfl), I9.vf y hy, ?_⟩
      refine ⟨_, rfl, _, _, rfl, .atom ob.atom, fun H10 s10 => ⟨true, rfl, iteF ?_⟩⟩
      have s80 := Same.trans s9 s10
      exact ⟨_, _, _, rfl, Same.trans s8 s80, s80 _ _ hl8, s80 _ _ e18, s80 _ _ e28, s80 _ _ eR8, la8.same s80⟩
    · obtain ⟨o8, o9, rs, rfl, s4, hl4, e14, e24, eR4, la4⟩ := pv
      rw [List.length_map, List.take_length] at e14 e24 la4
      have I4 := I.same s4
      obtain ⟨dx4, hh4⟩ := I4.net.me
      refine ⟨_, rfl, A.h, _, dx4, _, _, rfl, hh4, T.cl_Net, T.na_Net_size, nf_size, _, rfl, _, _, rfl, .atom rfl, fun H5 s5 => ⟨true, rfl, iteF ?_⟩⟩
      have s45 := Same.trans s4 s5
      have I5 := I.same s45
      obtain ⟨dx5, hh5⟩ := I5.net.me
      -- houses
      refine ⟨_, rfl, A.h, dx5, _, rfl, hh5, (by unfold nf; walk_at "lk"), A.h, A.dn, A.db, A.dl, n, S.nx, S.bf, S.ls, S.ks, rfl, I5.net, I5.gn.1, by omega, fun zs z permz pwz nz => ?_⟩
      have zy : zs = ys := perm_sorted_eq (permz.trans perm.symm) pwz pw
      subst zy
      have s6 := same_upd (o := .lst (zs.map V.int)) nz
      have ez : upd H5 z (.lst (zs.map V.int)) z = some (.lst (zs.map V.int)) := upd_same
      generalize upd H5 z (.lst (zs.map V.int)) = H6 at s6 ez
      have s46 := Same.trans s45 s6
      have I6 := I.same s46
      refine ⟨_, rfl, A.dN, S.nx, S.ks, rfl, .inl I6.hN, I6.gn.1, by omega, fun ws w2 permw pww nw => ?_⟩
      have wz : ws = zs := perm_sorted_eq (permw.trans perm.symm) pww pw
      subst wz
      have s7 := same_upd (o := .lst (ws.map V.int)) nw
      have ew : upd H6 w2 (.lst (ws.map V.int)) w2 = some (.lst (ws.map V.int)) := upd_same
      generalize upd H6 w2 (.lst (ws.map V.int)) = H7 at s7 ew
      have s47 := Same.trans s46 s7
      refine ⟨_, _, rfl, .lst (SqL.of (s7 _ _ ez)) (SqL.of ew) rfl (by rw [List.length_map]; omega) (fun i x y hx hy => ?_), fun H8 s8 => ⟨true, rfl, iteF ?_⟩⟩
      · rw [hx] at hy
        cases hy
        rw [List.getElem?_map] at hx
        obtain ⟨_, _, rfl⟩ := Option.map_eq_some_iff.mp hx
        exact .atom rfl
      have s48 := Same.trans s47 s8
      have I8 := I.same s48
      have s58 := Same.trans s5 (Same.trans s6 (Same.trans s7 s8))
      obtain ⟨dx8, hh8⟩ := I8.net.me
      refine ⟨_, rfl, A.h, dx8, _, rfl, hh8, (by unfold nf; walk_at "lk"), A.h, A.dn, A.db, A.dl, n, S.nx, S.bf, S.ls, S.ks, gV S.nx, rfl, I8.net, I8.gn.1, by omega, I8.nd, fun k hk => ?_, fun zs pz H9 permz pwz s9 npz epz => ?_⟩
      · obtain ⟨x, hx, gx⟩ := okf k hk
        rw [hx, gx]
      have zy : zs = ws := perm_sorted_eq (permz.trans perm.symm) pwz pw
      subst zy
      have s59 := Same.trans s58 s9
      refine ⟨_, rfl, .ref pz, .ref d1, rfl, dic_same epz (s59 _ _ e14) (by rw [List.length_map]; omega) (fun kv hkv => ?_), fun H10 s10 => ⟨true, rfl, iteF ?_⟩⟩
      · obtain ⟨k, hk, rfl⟩ := List.mem_map.mp hkv
        obtain ⟨x, _, gx⟩ := okf k (perm.mem_iff.mp hk)
        show atomV (gV S.nx k) = true
        rw [gx]
        rfl
      have s510 := Same.trans s59 s10
      have I10 := I4.same s510
      obtain ⟨dx10, hh10⟩ := I10.net.me
      refine ⟨_, rfl, A.h, dx10, _, rfl, hh10, (by unfold nf; walk_at "lk"), A.h, A.dn, A.db, A.dl, n, S.nx, S.bf, S.ls, S.ks, bef S.bs, rfl, I10.net, I10.gn.1, by omega, I10.nd, fun k hk => I10.vf k hk, fun ws pw' H11 permw pww s11 npw epw => ?_⟩
      have wy : ws = zs := perm_sorted_eq (permw.trans perm.symm) pww pw
      subst wy
      refine ⟨_, rfl, .ref pw', .ref d2, rfl, dic_same epw (s11 _ _ (s510 _ _ e24)) ?_ (fun kv hkv => ?_), fun H12 s12 => ⟨true, rfl, iteF ?_⟩⟩
      · rw [List.length_map]
        refine Nat.le_trans (List.length_filter_le _ _) ?_
        omega
      · obtain ⟨k, hk, rfl⟩ := List.mem_map.mp hkv
        exact (I.gd.ok k).atom
      have s512 := Same.trans s510 (Same.trans s11 s12)
      have I12 := I4.same s512
      obtain ⟨dx12, hh12⟩ := I12.net.me
      refine ⟨_, rfl, A.h, dx12, _, rfl, hh12, (by unfold nf; walk_at "lk"), A.h, A.dn, A.db, A.dl, n, S.nx, S.bf, S.ls, rfl, I12.net, fun p np => ?_⟩
      have s13 := same_upd (o := .lst S.ls) np
      have I13 := I12.same s13
      refine ⟨_, rfl, .ref p, .ref A.pO, rfl, .lst (SqL.of upd_same) (SqL.of I13.hP) I13.lets.1.symm (by omega) (fun i a b ha hb => (I13.lets.2 i b a hb ha).sm'.succ.succ), fun H14 s14 => ⟨true, rfl, iteT ?_⟩⟩
      have s514 := Same.trans s512 (Same.trans s13 s14)
      have I14 := I4.same s514
      obtain ⟨dx14, hh14⟩ := I14.net.me
      -- snapshot
      refine ⟨_, rfl, A.h, dx14, _, rfl, hh14, (by unfold nf; walk_at "lk"), A.h, A.dn, A.db, A.dl, n, S.nx, S.bf, S.ls, S.ks, gV S.nx, bef S.bs, rfl, I14.net, I14.gn.1, by omega, fun k hk => ⟨?_, I14.vf k hk⟩, fun vs p2 H15 permv pwv s15 sh => ?_⟩
      · obtain ⟨x, hx, gx⟩ := okf k hk
        rw [hx, gx]
      have vy : vs = ws := perm_sorted_eq (permv.trans perm.symm) pwv pw
      subst vy
      have s515 := Same.trans s514 s15
      have eR15 := s515 _ _ eR4
      refine ⟨_, rfl, _, rfl, rw, _, rfl, .inl ⟨SqL.of eR15, fun t1 nt1 => ?_⟩⟩
      have s16 := same_upd (o := .tup rs) nt1
      have et1 : upd H15 t1 (.tup rs) t1 = some (.tup rs) := upd_same
      generalize upd H15 t1 (.tup rs) = H16 at s16 et1
      have s516 := Same.trans s515 s16
      have I16 := I4.same s516
      refine ⟨_, rfl, A.pO, _, rfl, .inl ⟨SqL.of I16.hP, fun t2 nt2 => ?_⟩⟩
      have s17 := same_upd (o := .tup S.ps) nt2
      have et2 : upd H16 t2 (.tup S.ps) t2 = some (.tup S.ps) := upd_same
      have et1 := s17 _ _ et1
      generalize upd H16 t2 (.tup S.ps) = H17 at s17 et1 et2
      refine ⟨lenL (by show 3 ≤ 100000; decide), fun t3 nt3 => ?_⟩
      have s18 := same_upd (o := .tup [.int n, .ref t1, .ref t2]) nt3
      have et3 : upd H17 t3 (.tup [.int n, .ref t1, .ref t2]) t3 = some (.tup [.int n, .ref t1, .ref t2]) := upd_same
      generalize upd H17 t3 (.tup [.int n, .ref t1, .ref t2]) = H18 at s18 et3
      have s58' := Same.trans s16 (Same.trans s17 s18)
      have s518 := Same.trans s515 s58'
      have I18 := I4.same s518
      obtain ⟨r, l', rs', h1, h2, h3, la'⟩ := sh
      have la18 := la4.same s518
      refine ⟨.ref p2, .ref t3, rfl, .tupP (SqT.of (s58' _ _ h1)) (SqT.of et3) (by show 3 ≤ 100000; decide) (.cons (.atom rfl) (.cons ?_ (.cons ?_ .nil))), fun H19 s19 => q H19 (Same.trans s4 (Same.trans s518 s19))⟩
      · refine .tup (SqT.of (s58' _ _ h3)) (SqT.of (s18 _ _ et1)) (by rw [la'.1, la18.1]) (by rw [la18.1]; omega) (fun i x y hx hy => ?_)
        exact ((la'.same s58').sm la18 (fun q hq => ⟨by show 3 ≤ 100000; decide, fun z hz => by
          have hz : z ∈ [V.int q, gV S.nx q, bef S.bs q] := hz
          simp only [List.mem_cons, List.not_mem_nil, or_false] at hz
          rcases hz with rfl | rfl | rfl
          · rfl
          · obtain ⟨x, _, gx⟩ := okf q (perm.mem_iff.mp hq)
            rw [gx]
            rfl
          · exact (I.gd.ok q).atom⟩) i x y hx hy).succ
      · exact .tup (SqT.of (s58' _ _ h2)) (SqT.of (s18 _ _ et2)) I18.lets.1.symm (by omega) (fun i a b ha hb => (I18.lets.2 i b a hb ha).sm'.succ)
--CUT
def sp__law_letter (K : PySem.W.Frag) : Sp := fun vs H Q _ => ∃ (t c pl : Addr) (ms : List Int), vs = [.ref t, .ref pl] ∧ Tape H t c ∧ pl ≠ t ∧ H pl = some (.lst (ms.map V.int)) ∧ 0 < ms.length ∧ ms.length ≤ 1000 ∧
  ∀ l (L : Let) H', H l = none → H' l = some (.tup L.vals) → (∀ k ∈ L.ns, k ∈ ms) → Kp t H H' → Tape H' t c → Q (.ref l) H'
theorem T0.ok__law_letter (T : T0 K mg) : FnOk P w K mg base CX0 2 T.a__law_letter T.fd__law_letter ["tape", "some"] (sp__law_letter K) := by
  refine T.F__law_letter.ok sc__law_letter (fun vs H Q E h => ?_) (fun cdv A outer s H vs Q E hr h => ?_)
  · obtain ⟨t, c, pl, ms, rfl, _⟩ := h
    rfl
  · obtain ⟨t, c, pl, ms, rfl, hT, n1, hp, l0, l1, q⟩ := h
    refine ⟨_, (pss_cons (ps_setLc (i := 2) (own := [("k", 4)]) (g := gName 4) (by rfl) sc__law_letter.nd rfl rfl (sw_true rfl rfl rfl (by decide +kernel)) (pi_range1 (by rfl) T.m_range (pa_cons pe_int pa_nil)) (blkOk_by (own := [("k", 4)]) (N := ["tape", "some", "names", "word", "k"]) (sc := defScope s__law_letter) (by decide +kernel)) (fun _ _ _ _ _ => pg_name (i := 4) sc__law_letter.nd rfl (Or.inl rfl)) (fun _ _ _ _ _ => pts_nil) (fun _ _ _ _ _ => (pe_ix (ix_listK (K := K)) (pv 1) (pe_call T.ok__law_pick hr (by rfl) T.g__law_pick T.k__law_pick T.b__law_pick .nil pass0 (pa_cons (pv 0) (pa_cons (pe_callB (call_lenK (K := K)) (by rfl) T.m_len PySem.boot_len (pa_cons (pv 1) pa_nil)) pa_nil))) (fun _ _ => rfl))))
        (pss_cons (ps_set (i := 3) sc__law_letter.nd rfl (Or.inl rfl) (pe_ix (ix_listK (K := K)) (pe_lst (pa_cons pe_str (pa_cons pe_str (pa_cons pe_str pa_nil)))) (pe_call T.ok__law_pick hr (by rfl) T.g__law_pick T.k__law_pick T.b__law_pick .nil pass0 (pa_cons (pv 0) (pa_cons pe_int pa_nil))) (fun _ _ => rfl)))
        (C8.pss_cut (ps_if (pt_cmpR op_eq (pv 3) pe_str (nomark _)) (pss_one (ps_ret (pe_tup (pa_cons pe_str (pa_cons (pe_ix (ix_listK (K := K)) (pv 2) pe_int (fun _ _ => rfl)) (pa_cons (pe_ix (ix_listK (K := K)) (pv 2) pe_int (fun _ _ => rfl)) (pa_cons (pe_ix (ix_listK (K := K)) (pv 2) pe_int (fun _ _ => rfl)) pa_nil))))))) pss_nil)
        (pss_one (ps_ret (pe_tup (pa_cons (pv 3) (pa_cons (pe_ix (ix_listK (K := K)) (pv 2) pe_int (fun _ _ => rfl)) (pa_cons (pe_ix (ix_listK (K := K)) (pv 2) pe_int (fun _ _ => rfl)) pa_nil))))))))), ?_⟩
    refine ⟨3, rfl, by decide, by decide, fun D hD => ?_⟩
    have oD := hT.off hD
    refine lc_range (lo := 0) (n := 3) (fun i H' => ∃ zs : List Int, zs.length = i ∧ (∀ z ∈ zs, z ∈ ms) ∧ H' D = some (.lst (zs.map V.int)) ∧ Kp t H H' ∧ Tape H' t c) ⟨[], rfl, (fun _ z => nomatch z), upd_same, Kp.of_same (same_upd hD), hT.put oD⟩ (fun i H1 hi pv => ?_) (fun H1 pv => ?_)
    · obtain ⟨zs, lz, mz, e1, k1, T1⟩ := pv
      refine ⟨rfl, lc_yes ?_⟩
      refine ⟨_, rfl, _, rfl, _, rfl, pl, _, rfl, .inl (SqL.of (k1 _ _ n1 hp)), t, c, _, rfl, T1, by rw [List.length_map]; omega, by rw [List.length_map]; omega, fun z H2 z0 z1 k2 T2 => ?_⟩
      rw [List.length_map] at z1
      have hz : z.toNat < ms.length := by omega
      have az : atI (ms.map V.int) z = some (.int ms[z.toNat]) := by rw [← at_ints hz, Int.toNat_of_nonneg z0]
      refine ⟨pl, _, z, _, rfl, rfl, SqL.of (k2 _ _ n1 (k1 _ _ n1 hp)), az, _, k2 _ _ oD.1 e1, small1000' (by rw [List.length_map]; omega), zs ++ [ms[z.toNat]], by rw [List.length_append, lz]; rfl, fun y hy => ?_, ?_, fun b o nb e => (upd_ne (ne_of_none e hD)).trans (k2 _ _ nb (k1 _ _ nb e)), T2.put oD⟩
      · rcases List.mem_append.mp hy with hy | hy
        · exact mz y hy
        · rw [List.mem_singleton.mp hy]
          exact List.getElem_mem _
      · rw [upd_same, List.map_append]
        rfl
    obtain ⟨zs, lz, mz, e1, k1, T1⟩ := pv
    obtain ⟨za, zb, zc, rfl⟩ : ∃ a b c, zs = [a, b, c] := by
      match zs, lz with
      | [a, b, c], _ => exact ⟨a, b, c, rfl⟩
    have ma := mz za (by simp)
    have mb := mz zb (by simp)
    have mc := mz zc (by simp)
    refine ⟨lenL (by show 3 ≤ 100000; decide), fun p2 np2 => ?_⟩
    have op2 := T1.off np2
    have T2 := T1.put (o := .lst [.str "tell", .str "ask", .str "answer"]) op2
    have k2 := k1.new (o := .lst [.str "tell", .str "ask", .str "answer"]) np2
    have ep2 : upd H1 p2 (.lst [.str "tell", .str "ask", .str "answer"]) p2 = some (.lst [.str "tell", .str "ask", .str "answer"]) := upd_same
    have e2 := (upd_ne (o := .lst [.str "tell", .str "ask", .str "answer"]) (ne_of_none e1 np2)).trans e1
    generalize upd H1 p2 (.lst [.str "tell", .str "ask", .str "answer"]) = H2 at T2 k2 ep2 e2
    refine ⟨_, rfl, t, c, 3, rfl, T2, by decide, by decide, fun z H3 z0 z1 k3 T3 => ?_⟩
    have e3 := k3 _ _ oD.1 e2
    have k13 := k2.trans k3
    have i0 : atI ([za, zb, zc].map V.int) (0 : Int) = some (.int za) := rfl
    have i1 : atI ([za, zb, zc].map V.int) (1 : Int) = some (.int zb) := rfl
    have i2 : atI ([za, zb, zc].map V.int) (2 : Int) = some (.int zc) := rfl
    have ends : ∀ (L : Let), (∀ k ∈ L.ns, k ∈ [za, zb, zc]) → ∀ l, H3 l = none → Q (.ref l) (upd H3 l (.tup L.vals)) := fun L hL l nl => by
      have nl0 : H l = none := by
        cases e : H l with
        | none => rfl
        | some o =>
          by_cases z : l = t
          · rw [z] at nl
            obtain ⟨⟨xs, et⟩, _⟩ := tape_at T3
            rw [et] at nl
            cases nl
          · rw [k13 _ _ z e] at nl
            cases nl
      refine q l L _ nl0 upd_same (fun k hk => ?_) (k13.new nl) (T3.put (T3.off nl))
      have := hL k hk
      simp only [List.mem_cons, List.not_mem_nil, or_false] at this
      rcases this with rfl | rfl | rfl <;> assumption
    obtain ⟨wd, ew, hw⟩ : ∃ wd : Str, atI [V.str "tell", .str "ask", .str "answer"] z = some (.str wd) ∧ (wd = "tell" ∨ wd = "ask" ∨ wd = "answer") := by
      have e : z = 0 ∨ z = 1 ∨ z = 2 := by omega
      rcases e with rfl | rfl | rfl
      · exact ⟨_, rfl, .inl rfl⟩
      · exact ⟨_, rfl, .inr (.inl rfl)⟩
      · exact ⟨_, rfl, .inr (.inr rfl)⟩
    refine ⟨p2, _, z, _, rfl, rfl, SqL.of (k3 _ _ op2.1 ep2), ew, ?_⟩
    refine ⟨fun σ' H' => (wd = "tell" ∨ wd = "ask") ∧ H' = H3 ∧ ∃ o, σ' = [some (.ref t), some (.ref pl), some (.ref D), some (.str wd), o], ?_, ?_⟩
    · refine ⟨_, rfl, rfl, _, rfl, ?_⟩
      rcases hw with rfl | rfl | rfl
      · exact iteF' (by decide +kernel) ⟨.inl rfl, rfl, _, rfl⟩
      · exact iteF' (by decide +kernel) ⟨.inr rfl, rfl, _, rfl⟩
      · refine iteT' (by decide +kernel) ?_
        exact ⟨_, rfl, D, _, 0, _, rfl, rfl, SqL.of e3, i0, _, rfl, D, _, 1, _, rfl, rfl, SqL.of e3, i1, _, rfl, D, _, 2, _, rfl, rfl, SqL.of e3, i2, lenL (by show 4 ≤ 100000; decide), ends (.answer za zb zc) (fun k hk => hk)⟩
    rintro _ _ ⟨hw, rfl, o, rfl⟩
    refine ⟨_, rfl, _, rfl, D, _, 0, _, rfl, rfl, SqL.of e3, i0, _, rfl, D, _, 1, _, rfl, rfl, SqL.of e3, i1, lenL (by show 3 ≤ 100000; decide), ?_⟩
    have hk2 : ∀ k ∈ [za, zb], k ∈ [za, zb, zc] := fun k hk => by
      simp only [List.mem_cons, List.not_mem_nil, or_false] at hk ⊢
      rcases hk with h | h <;> simp [h]
    rcases hw with rfl | rfl
    · exact ends (.tell za zb) hk2
    · exact ends (.ask za zb) hk2
--CUT
def sp__law_place (K : PySem.W.Frag) : Sp := fun vs H Q _ => ∃ (t c dN : Addr) (n : Int) (nx : List (Key × V)) (ks : List Int), vs = [.ref t, .int n, .ref dN] ∧ Tape H t c ∧ dN ≠ t ∧ H dN = some (.dK nx) ∧ nx.map (·.1) = ks.map Sum.inl ∧ ks.length ≤ 40 ∧ 0 < n ∧ n ≤ 1000000000 ∧
  ∀ (p : Int) H', Kp t H H' → Tape H' t c → Q (.int p) H'
theorem T0.ok__law_place (T : T0 K mg) : FnOk P w K mg base CX0 3 T.a__law_place T.fd__law_place ["tape", "size", "nexts"] (sp__law_place K) := by
  refine T.F__law_place.ok sc__law_place (fun vs H Q E h => ?_) (fun cdv A outer s0 H vs Q E hr h => ?_)
  · obtain ⟨t, c, dN, n, nx, ks, rfl, _⟩ := h
    rfl
  · obtain ⟨t, c, dN, n, nx, ks, rfl, hT, ndt, hN, hk, l40, n0, n9, q⟩ := h
    refine ⟨_, (pss_cons (ps_set (i := 3) sc__law_place.nd rfl (Or.inl rfl) (pe_callB (call_sortedDI rfl) (by rfl) T.m_sorted (by decide +kernel) (pa_cons (pv 2) pa_nil)))
        (pss_cons (ps_set (i := 4) sc__law_place.nd rfl (Or.inl rfl) (pe_call T.ok__law_pick (hr.mono (by decide)) (by rfl) T.g__law_pick T.k__law_pick T.b__law_pick .nil pass0 (pa_cons (pv 0) (pa_cons pe_int pa_nil))))
        (pss_cons (ps_if (pt_cmpR op_eq (pv 4) pe_int (nomark _)) (pss_one (ps_ret (pe_ix (ix_listK (K := K)) (pe_lst (pa_cons (pe_op op_add (pv 1) (pe_call T.ok__law_pick (hr.mono (by decide)) (by rfl) T.g__law_pick T.k__law_pick T.b__law_pick .nil pass0 (pa_cons (pv 0) (pa_cons pe_int pa_nil)))) (pa_cons (pe_op op_sub (pe_un un_neg pe_int) (pe_call T.ok__law_pick (hr.mono (by decide)) (by rfl) T.g__law_pick T.k__law_pick T.b__law_pick .nil pass0 (pa_cons (pv 0) (pa_cons pe_int pa_nil)))) pa_nil))) (pe_call T.ok__law_pick (hr.mono (by decide)) (by rfl) T.g__law_pick T.k__law_pick T.b__law_pick .nil pass0 (pa_cons (pv 0) (pa_cons pe_int pa_nil))) (fun _ _ => rfl)))) pss_nil)
        (pss_cons (ps_if (PW.pt (pw_or (pt_cmpR op_le (pv 4) pe_int (nomark _)) (pw_or1 (pt_cmpR op_eq (pe_callB (call_lenK (K := K)) (by rfl) T.m_len PySem.boot_len (pa_cons (pv 3) pa_nil)) pe_int (nomark _))))) (pss_one (ps_ret (pe_call T.ok__law_pick (hr.mono (by decide)) (by rfl) T.g__law_pick T.k__law_pick T.b__law_pick .nil pass0 (pa_cons (pv 0) (pa_cons (pv 1) pa_nil))))) pss_nil)
        (pss_cons (ps_set (i := 5) sc__law_place.nd rfl (Or.inl rfl) (pe_ix (ix_listK (K := K)) (pv 3) (pe_call T.ok__law_pick (hr.mono (by decide)) (by rfl) T.g__law_pick T.k__law_pick T.b__law_pick .nil pass0 (pa_cons (pv 0) (pa_cons (pe_callB (call_lenK (K := K)) (by rfl) T.m_len PySem.boot_len (pa_cons (pv 3) pa_nil)) pa_nil))) (fun _ _ => rfl)))
        (pss_cons (ps_if (pt_cmpR op_eq (pv 4) pe_int (nomark _)) (pss_one (ps_ret (pe_op op_modN (pe_callTy call_int1 (by rfl) T.m_int (by decide +kernel) (pa_cons (pe_op op_add (pv 5) pe_int) pa_nil)) (pv 1)))) pss_nil)
        (pss_one (ps_ret (pv 5))))))))), ?_⟩
    refine ⟨_, rfl, dN, nx, ks, rfl, .inl hN, hk, by omega, fun ys l perm pw nl => ?_⟩
    have ylen := perm.length_eq
    have k1 := (Kp.refl t H).new (o := .lst (ys.map V.int)) nl
    have el : upd H l (.lst (ys.map V.int)) l = some (.lst (ys.map V.int)) := upd_same
    have ol := hT.off nl
    have T1 := hT.put (o := .lst (ys.map V.int)) ol
    generalize upd H l (.lst (ys.map V.int)) = H1 at k1 el T1
    refine ⟨_, rfl, t, c, 8, rfl, T1, by decide, by decide, fun kd H2 d0 d1 k2 T2 => ?_⟩
    have k12 := k1.trans k2
    have el2 := k2 _ _ ol.1 el
    refine ⟨_, rfl, rfl, _, rfl, ite2 (fun _ => ?_) (fun _ => ?_)⟩
    · refine ⟨_, rfl, _, rfl, t, c, 3, rfl, T2, by decide, by decide, fun z3 H3 _ _ k3 T3 => ⟨_, _, rfl, rfl, 1, rfl, _, rfl, t, c, 3, rfl, T3, by decide, by decide, fun z4 H4 _ _ k4 T4 => ⟨_, _, rfl, rfl, lenL (by show 2 ≤ 100000; decide), fun D nD => ?_⟩⟩⟩
      have T9 := T4.put (o := .lst [.int (n + z3), .int (-1 - z4)]) (T4.off nD)
      have Dt := (T4.off nD).1
      have k9 := ((k12.trans k3).trans k4).new (o := .lst [.int (n + z3), .int (-1 - z4)]) nD
      have e9 : upd H4 D (.lst [.int (n + z3), .int (-1 - z4)]) D = some (.lst [.int (n + z3), .int (-1 - z4)]) := upd_same
      generalize upd H4 D (.lst [.int (n + z3), .int (-1 - z4)]) = H9 at T9 k9 e9
      refine ⟨_, rfl, t, c, 2, rfl, T9, by decide, by decide, fun j H10 j0 j1 k10 T10 => ?_⟩
      have e10 := k10 _ _ Dt e9
      have hj : j = ((0 : Nat) : Int) ∨ j = ((1 : Nat) : Int) := by omega
      rcases hj with rfl | rfl
      · exact ⟨D, _, _, .int (n + z3), rfl, rfl, SqL.of e10, atI_nat rfl, q _ H10 (k9.trans k10) T10⟩
      · exact ⟨D, _, _, .int (-1 - z4), rfl, rfl, SqL.of e10, atI_nat rfl, q _ H10 (k9.trans k10) T10⟩
    · try (walk_at "nf")
      refine v_when (b := decide (kd ≤ 2) || decide (V.int ((ys.map V.int).length : Nat) = V.int 0)) (ans_o (fun _ q => ⟨_, rfl, _, _, rfl, rfl, _, rfl, q⟩) (fun _ => fun _ q => ⟨_, rfl, l, _, rfl, .inl (SqL.of el2), rfl, _, rfl, q⟩)) (fun _ => ?_) (fun e => ?_)
      · exact ⟨_, rfl, _, rfl, t, c, n, rfl, T2, n0, by omega, fun p H3 _ _ k3 T3 => q p H3 (k12.trans k3) T3⟩
      have y0 : 0 < ys.length := by
        rw [List.length_map] at e
        simp only [Bool.or_eq_false_iff, decide_eq_false_iff_not] at e
        have e2 := e.2
        refine Nat.pos_of_ne_zero fun z => e2 ?_
        rw [z]
        rfl
      refine ⟨_, rfl, _, rfl, _, rfl, l, _, rfl, .inl (SqL.of el2), draw ol.1 el2 (by omega) (by omega) T2 fun ho H3 mh k3 T3 => ?_⟩
      have k13 := k12.trans k3
      refine ⟨_, rfl, rfl, _, rfl, ite2 (fun _ => ?_) (fun _ => ?_)⟩
      · exact ⟨_, rfl, _, _, rfl, rfl, .inl ⟨_, rfl, _, rfl, _, _, rfl, rfl, by omega, q _ H3 k13 T3⟩⟩
      · exact ⟨_, rfl, q ho H3 k13 T3⟩
def wd : Nat → Str
  | 0 => "admit"
  | 1 => "hold"
  | 2 => "before"
  | 3 => "take"
  | 4 => "tell"
  | 5 => "ask"
  | 6 => "lose"
  | 7 => "read"
  | _ => "repeat"
theorem wd_eq : ∀ w < 9, ∀ v < 9, decide (V.str (wd w) = V.str (wd v)) = decide (w = v) := by decide +kernel
theorem in1 : ∀ w < 9, inV (.str (wd w)) [.str "lose", .str "read", .str "repeat"] = decide (6 ≤ w) := by decide +kernel
theorem in2 : ∀ w < 9, inV (.str (wd w)) [.str "admit", .str "hold", .str "before"] = decide (w ≤ 2) := by decide +kernel
def sp__law_drawn (K : PySem.W.Frag) : Sp := fun vs H Q _ => ∃ (t c dN : Addr) (n : Int) (m : Nat) (nx : List (Key × V)) (ks : List Int), vs = [.ref t, .int n, .ref dN, .int (m : Int)] ∧ Tape H t c ∧ dN ≠ t ∧ H dN = some (.dK nx) ∧ nx.map (·.1) = ks.map Sum.inl ∧ ks.length ≤ 40 ∧ 0 < n ∧ n ≤ 1000000000 ∧ m ≤ 1000 ∧
  ∀ (D : Dd) a H', D.ok m → H' a = some (.tup D.vals) → Kp t H H' → Tape H' t c → Q (.ref a) H'
theorem T0.ok__law_drawn (T : T0 K mg) : FnOk P w K mg base CX0 4 T.a__law_drawn T.fd__law_drawn ["tape", "size", "nexts", "count"] (sp__law_drawn K) := by
  refine T.F__law_drawn.ok sc__law_drawn (fun vs H Q E h => ?_) (fun cdv A' outer s0 H vs Q E hr h => ?_)
  · obtain ⟨t, c, dN, n, m, nx, ks, rfl, _⟩ := h
    rfl
  · obtain ⟨t, c, dN, n, m, nx, ks, rfl, hT, ndt, hN, hk, l40, n0, n9, hm, q⟩ := h
    refine ⟨_, (pss_cons (ps_set (i := 4) sc__law_drawn.nd rfl (Or.inl rfl) (pe_lst (pa_cons pe_str (pa_cons pe_str (pa_cons pe_str (pa_cons pe_str (pa_cons pe_str (pa_cons pe_str (pa_cons pe_str (pa_cons pe_str (pa_cons pe_str (pa_cons pe_str pa_nil))))))))))))
        (pss_cons (ps_set (i := 5) sc__law_drawn.nd rfl (Or.inl rfl) (pe_ix (ix_listK (K := K)) (pe_op op_cat (pv 4) (pe_lst (pa_cons pe_str (pa_cons pe_str (pa_cons pe_str pa_nil))))) (pe_call T.ok__law_pick (hr.mono (by decide)) (by rfl) T.g__law_pick T.k__law_pick T.b__law_pick .nil pass0 (pa_cons (pv 0) (pa_cons pe_int pa_nil))) (fun _ _ => rfl)))
        (pss_cons (ps_set (i := 6) sc__law_drawn.nd rfl (Or.inl rfl) (pe_call T.ok__law_place hr (by rfl) T.g__law_place T.k__law_place T.b__law_place .nil pass0 (pa_cons (pv 0) (pa_cons (pv 1) (pa_cons (pv 2) pa_nil)))))
        (pss_cons (ps_set (i := 7) sc__law_drawn.nd rfl (Or.inl rfl) (pe_call T.ok__law_place hr (by rfl) T.g__law_place T.k__law_place T.b__law_place .nil pass0 (pa_cons (pv 0) (pa_cons (pv 1) (pa_cons (pv 2) pa_nil)))))
        (C8.pss_cut (ps_if (PW.pt (pw_and (pt_cmpR op_eq (pv 5) pe_str (nomark _)) (pw_and1 (pt_cmpR op_eq (pe_call T.ok__law_pick (hr.mono (by decide)) (by rfl) T.g__law_pick T.k__law_pick T.b__law_pick .nil pass0 (pa_cons (pv 0) (pa_cons pe_int pa_nil))) pe_int (nomark _))))) (pss_one (ps_set (i := 7) sc__law_drawn.nd rfl (Or.inl rfl) (pv 6))) pss_nil)
        (C8.pss_cut (ps_if (PW.pt (pw_and (pt_cmpR op_eq (pv 5) pe_str (nomark _)) (pw_and1 (pt_cmpR op_eq (pe_call T.ok__law_pick (hr.mono (by decide)) (by rfl) T.g__law_pick T.k__law_pick T.b__law_pick .nil pass0 (pa_cons (pv 0) (pa_cons pe_int pa_nil))) pe_int (nomark _))))) (pss_one (ps_set (i := 7) sc__law_drawn.nd rfl (Or.inl rfl) pe_non)) pss_nil)
        (pss_cons (ps_if (PW.pt (pw_and (pt_cmpR (op_in_seqK (K := K)) (pv 5) (pe_lst (pa_cons pe_str (pa_cons pe_str (pa_cons pe_str pa_nil)))) (by rfl)) (pw_and1 (pt_cmpR op_gt (pv 3) pe_int (nomark _))))) (pss_one (ps_ret (pe_tup (pa_cons (pv 5) (pa_cons (pe_call T.ok__law_pick (hr.mono (by decide)) (by rfl) T.g__law_pick T.k__law_pick T.b__law_pick .nil pass0 (pa_cons (pv 0) (pa_cons (pv 3) pa_nil))) pa_nil))))) pss_nil)
        (pss_cons (ps_if (pt_cmpR (op_in_seqK (K := K)) (pv 5) (pe_lst (pa_cons pe_str (pa_cons pe_str (pa_cons pe_str pa_nil)))) (by rfl)) (pss_one (ps_ret (pe_tup (pa_cons (pv 5) (pa_cons (pv 6) (pa_cons (pv 7) pa_nil)))))) pss_nil)
        (pss_cons (ps_if (pt_cmpR (op_in_seqK (K := K)) (pv 5) (pe_lst (pa_cons pe_str (pa_cons pe_str (pa_cons pe_str pa_nil)))) (by rfl)) (pss_one (ps_ret (pe_tup (pa_cons pe_str (pa_cons (pv 6) pa_nil))))) pss_nil)
        (pss_one (ps_ret (pe_tup (pa_cons (pv 5) (pa_cons (pv 6) pa_nil)))))))))))))), ?_⟩
    have ends : ∀ (D : Dd) (H' : Hp), D.ok m → Kp t H H' → Tape H' t c → ∀ a, H' a = none → Q (.ref a) (upd H' a (.tup D.vals)) := fun D H' ok k T a na => q D a _ ok upd_same (k.new na) (T.put (T.off na))
    refine ⟨lenL (by show 10 ≤ 100000; decide), fun W nW => ?_⟩
    have oW := hT.off nW
    have k1 := (Kp.refl t H).new (o := .lst [.str "admit", .str "admit", .str "hold", .str "before", .str "before", .str "take", .str "take", .str "tell", .str "ask", .str "lose"]) nW
    have T1 := hT.put (o := .lst [.str "admit", .str "admit", .str "hold", .str "before", .str "before", .str "take", .str "take", .str "tell", .str "ask", .str "lose"]) oW
    have eW : upd H W (.lst [.str "admit", .str "admit", .str "hold", .str "before", .str "before", .str "take", .str "take", .str "tell", .str "ask", .str "lose"]) W = some (.lst [.str "admit", .str "admit", .str "hold", .str "before", .str "before", .str "take", .str "take", .str "tell", .str "ask", .str "lose"]) := upd_same
    generalize upd H W (.lst [.str "admit", .str "admit", .str "hold", .str "before", .str "before", .str "take", .str "take", .str "tell", .str "ask", .str "lose"]) = H1 at k1 T1 eW
    refine ⟨_, rfl, lenL (by show 3 ≤ 100000; decide), fun R nR => ?_⟩
    have k2 := k1.new (o := .lst [.str "read", .str "read", .str "repeat"]) nR
    have T2 := T1.put (o := .lst [.str "read", .str "read", .str "repeat"]) (T1.off nR)
    have eR : upd H1 R (.lst [.str "read", .str "read", .str "repeat"]) R = some (.lst [.str "read", .str "read", .str "repeat"]) := upd_same
    have eW2 := (upd_ne (o := .lst [.str "read", .str "read", .str "repeat"]) (ne_of_none eW nR)).trans eW
    generalize upd H1 R (.lst [.str "read", .str "read", .str "repeat"]) = H2 at k2 T2 eR eW2
    refine ⟨W, R, _, _, rfl, rfl, eW2, eR, lenL (by show 10 + 3 ≤ 100000; decide), fun C nC => ?_⟩
    have oC := T2.off nC
    obtain ⟨cs, ecs⟩ : ∃ cs : List V, cs = [.str "admit", .str "admit", .str "hold", .str "before", .str "before", .str "take", .str "take", .str "tell", .str "ask", .str "lose"] ++ [.str "read", .str "read", .str "repeat"] := ⟨_, rfl⟩
    rw [← ecs]
    have k3 := k2.new (o := .lst cs) nC
    have T3 := T2.put (o := .lst cs) oC
    have eC : upd H2 C (.lst cs) C = some (.lst cs) := upd_same
    generalize upd H2 C (.lst cs) = H3 at k3 T3 eC
    refine ⟨_, rfl, t, c, 13, rfl, T3, by decide, by decide, fun j H4 j0 j1 k4 T4 => ?_⟩
    obtain ⟨w, aw, lw⟩ : ∃ w : Nat, atI cs j = some (.str (wd w)) ∧ w < 9 := by
      subst ecs
      have hj : j = ((0 : Nat) : Int) ∨ j = ((1 : Nat) : Int) ∨ j = ((2 : Nat) : Int) ∨ j = ((3 : Nat) : Int) ∨ j = ((4 : Nat) : Int) ∨ j = ((5 : Nat) : Int) ∨ j = ((6 : Nat) : Int) ∨ j = ((7 : Nat) : Int) ∨ j = ((8 : Nat) : Int) ∨ j = ((9 : Nat) : Int) ∨ j = ((10 : Nat) : Int) ∨ j = ((11 : Nat) : Int) ∨ j = ((12 : Nat) : Int) := by omega
      rcases hj with rfl | rfl | rfl | rfl | rfl | rfl | rfl | rfl | rfl | rfl | rfl | rfl | rfl
      · exact ⟨0, atI_nat rfl, by decide⟩
      · exact ⟨0, atI_nat rfl, by decide⟩
      · exact ⟨1, atI_nat rfl, by decide⟩
      · exact ⟨2, atI_nat rfl, by decide⟩
      · exact ⟨2, atI_nat rfl, by decide⟩
      · exact ⟨3, atI_nat rfl, by decide⟩
      · exact ⟨3, atI_nat rfl, by decide⟩
      · exact ⟨4, atI_nat rfl, by decide⟩
      · exact ⟨5, atI_nat rfl, by decide⟩
      · exact ⟨6, atI_nat rfl, by decide⟩
      · exact ⟨7, atI_nat rfl, by decide⟩
      · exact ⟨7, atI_nat rfl, by decide⟩
      · exact ⟨8, atI_nat rfl, by decide⟩
    refine ⟨C, _, j, .str (wd w), rfl, rfl, SqL.of (k4 _ _ oC.1 eC), aw, ?_⟩
    have k14 := k3.trans k4
    clear k4 k3 k2 k1 T3 T2 T1 eC eW2 eR eW
    refine ⟨_, rfl, _, rfl, _, rfl, t, c, dN, n, nx, ks, rfl, T4, ndt, k14 _ _ ndt hN, hk, l40, n0, n9, fun one H5 k5 T5 => ?_⟩
    have k15 := k14.trans k5
    refine ⟨_, rfl, _, rfl, _, rfl, t, c, dN, n, nx, ks, rfl, T5, ndt, k15 _ _ ndt hN, hk, l40, n0, n9, fun two0 H6 k6 T6 => ?_⟩
    have k16 := k15.trans k6
    have ew : ∀ v < 9, decide (V.str (wd w) = V.str (wd v)) = decide (w = v) := fun v hv => wd_eq w lw v hv
    -- the same place twice
    refine ⟨fun σ' H' => ∃ two : Int, σ' = [some (.ref t), some (.int n), some (.ref dN), some (.int (m : Int)), some (.ref W), some (.str (wd w)), some (.int one), some (.int two)] ∧ Kp t H H' ∧ Tape H' t c, ?_, ?_⟩
    · refine ⟨_, rfl, rfl, _, rfl, ite2 (fun _ => ⟨_, rfl, t, c, 3, rfl, T6, by decide, by decide, fun y H7 _ _ k7 T7 => ⟨rfl, _, rfl, ite2 (fun _ => ?_) (fun _ => ?_)⟩⟩) (fun _ => iteF ?_)⟩
      · exact ⟨_, rfl, one, rfl, k16.trans k7, T7⟩
      · exact ⟨two0, rfl, k16.trans k7, T7⟩
      · exact ⟨two0, rfl, k16, T6⟩
    rintro _ H7 ⟨two, rfl, k17, T7⟩
    -- no house before it
    refine ⟨fun σ' H' => ∃ b : Option Int, (w ≠ 2 → b = some two) ∧ σ' = [some (.ref t), some (.int n), some (.ref dN), some (.int (m : Int)), some (.ref W), some (.str (wd w)), some (.int one), some (oV b)] ∧ Kp t H H' ∧ Tape H' t c, ?_, ?_⟩
    · refine ⟨_, rfl, rfl, _, rfl, ?_⟩
      by_cases c2 : w = 2
      · refine iteT' ((ew 2 (by decide)).trans (decide_eq_true c2)) ⟨_, rfl, t, c, 3, rfl, T7, by decide, by decide, fun y H8 _ _ k8 T8 => ⟨rfl, _, rfl, ite2 (fun _ => ?_) (fun _ => ?_)⟩⟩
        · exact ⟨none, fun z => absurd c2 z, rfl, k17.trans k8, T8⟩
        · exact ⟨some two, fun _ => rfl, rfl, k17.trans k8, T8⟩
      · exact iteF' ((ew 2 (by decide)).trans (decide_eq_false c2)) (iteF ⟨some two, fun _ => rfl, rfl, k17, T7⟩)
    rintro _ H8 ⟨b, hb, rfl, k18, T8⟩
    try (walk_at "nf")
    refine ⟨_, rfl, lenL (by show 3 ≤ 100000; decide), fun L nL => ?_⟩
    have k19 := k18.new (o := .lst [.str "lose", .str "read", .str "repeat"]) nL
    have T9 := T8.put (o := .lst [.str "lose", .str "read", .str "repeat"]) (T8.off nL)
    have eL : upd H8 L (.lst [.str "lose", .str "read", .str "repeat"]) L = some (.lst [.str "lose", .str "read", .str "repeat"]) := upd_same
    generalize upd H8 L (.lst [.str "lose", .str "read", .str "repeat"]) = H9 at k19 T9 eL
    refine ⟨L, _, rfl, .inl (SqL.of eL), rfl, rfl, ?_⟩
    have i1 := in1 w lw
    have i2 := in2 w lw
    -- three more lists
    have rest : ∀ H9, Kp t H H9 → Tape H9 t c → (w ≤ 2 → ∀ a, H9 a = none → Q (.ref a) (upd H9 a (.tup [.str (wd w), .int one, oV b]))) := fun H9 k9 T9 lw2 a na => by
      rcases (by omega : w = 0 ∨ w = 1 ∨ w = 2) with rfl | rfl | rfl
      · rw [hb (by decide)]
        exact ends (.admit one two) H9 trivial k9 T9 a na
      · rw [hb (by decide)]
        exact ends (.hold one two) H9 trivial k9 T9 a na
      · exact ends (.before one b) H9 trivial k9 T9 a na
    by_cases c6 : 6 ≤ w
    · have i1 := i1.trans (decide_eq_true c6)
      have i2 := i2.trans (decide_eq_false (by omega))
      refine ⟨_, rfl, iteT' i1 ⟨_, rfl, _, _, rfl, rfl, _, rfl, ite2 (fun e => ?_) (fun e => ?_)⟩⟩
      · have m0 : 0 < m := by
          have := of_decide_eq_true e
          omega
        refine ⟨_, rfl, _, rfl, _, rfl, t, c, (m : Int), rfl, T9, by omega, by omega, fun z H10 z0 z1 k10 T10 => ⟨lenL (by show 2 ≤ 100000; decide), fun a na => ?_⟩⟩
        obtain ⟨j, rfl⟩ : ∃ j : Nat, z = (j : Int) := ⟨z.toNat, by omega⟩
        have hj : j < m := by omega
        rcases (by omega : w = 6 ∨ w = 7 ∨ w = 8) with rfl | rfl | rfl
        · exact ends (.lose j) H10 hj (k19.trans k10) T10 a na
        · exact ends (.read j) H10 hj (k19.trans k10) T10 a na
        · exact ends (.rep j) H10 hj (k19.trans k10) T10 a na
      · refine ⟨_, rfl, lenL (by show 3 ≤ 100000; decide), fun L2 nL2 => ?_⟩
        have k20 := k19.new (o := .lst [.str "admit", .str "hold", .str "before"]) nL2
        have T10 := T9.put (o := .lst [.str "admit", .str "hold", .str "before"]) (T9.off nL2)
        have eL2 : upd H9 L2 (.lst [.str "admit", .str "hold", .str "before"]) L2 = some (.lst [.str "admit", .str "hold", .str "before"]) := upd_same
        generalize upd H9 L2 (.lst [.str "admit", .str "hold", .str "before"]) = H10 at k20 T10 eL2
        refine ⟨L2, _, rfl, .inl (SqL.of eL2), rfl, rfl, ⟨_, rfl, iteF' i2 ?_⟩⟩
        refine ⟨_, rfl, lenL (by show 3 ≤ 100000; decide), fun L3 nL3 => ?_⟩
        have k21 := k20.new (o := .lst [.str "lose", .str "read", .str "repeat"]) nL3
        have T11 := T10.put (o := .lst [.str "lose", .str "read", .str "repeat"]) (T10.off nL3)
        have eL3 : upd H10 L3 (.lst [.str "lose", .str "read", .str "repeat"]) L3 = some (.lst [.str "lose", .str "read", .str "repeat"]) := upd_same
        generalize upd H10 L3 (.lst [.str "lose", .str "read", .str "repeat"]) = H11 at k21 T11 eL3
        refine ⟨L3, _, rfl, .inl (SqL.of eL3), rfl, rfl, ⟨_, rfl, iteT' i1 ?_⟩⟩
        exact ⟨_, rfl, lenL (by show 2 ≤ 100000; decide), ends (.take one) H11 trivial k21 T11⟩
    · have i1 := i1.trans (decide_eq_false c6)
      refine ⟨_, rfl, iteF' i1 (iteF ?_)⟩
      refine ⟨_, rfl, lenL (by show 3 ≤ 100000; decide), fun L2 nL2 => ?_⟩
      have k20 := k19.new (o := .lst [.str "admit", .str "hold", .str "before"]) nL2
      have T10 := T9.put (o := .lst [.str "admit", .str "hold", .str "before"]) (T9.off nL2)
      have eL2 : upd H9 L2 (.lst [.str "admit", .str "hold", .str "before"]) L2 = some (.lst [.str "admit", .str "hold", .str "before"]) := upd_same
      generalize upd H9 L2 (.lst [.str "admit", .str "hold", .str "before"]) = H10 at k20 T10 eL2
      refine ⟨L2, _, rfl, .inl (SqL.of eL2), rfl, rfl, ⟨_, rfl, ?_⟩⟩
      by_cases c2 : w ≤ 2
      · refine iteT' (i2.trans (decide_eq_true c2)) ?_
        exact ⟨_, rfl, _, rfl, _, rfl, lenL (by show 3 ≤ 100000; decide), rest H10 k20 T10 c2⟩
      · refine iteF' (i2.trans (decide_eq_false c2)) ?_
        refine ⟨_, rfl, lenL (by show 3 ≤ 100000; decide), fun L3 nL3 => ?_⟩
        have k21 := k20.new (o := .lst [.str "lose", .str "read", .str "repeat"]) nL3
        have T11 := T10.put (o := .lst [.str "lose", .str "read", .str "repeat"]) (T10.off nL3)
        have eL3 : upd H10 L3 (.lst [.str "lose", .str "read", .str "repeat"]) L3 = some (.lst [.str "lose", .str "read", .str "repeat"]) := upd_same
        generalize upd H10 L3 (.lst [.str "lose", .str "read", .str "repeat"]) = H11 at k21 T11 eL3
        refine ⟨L3, _, rfl, .inl (SqL.of eL3), rfl, rfl, ⟨_, rfl, iteF' i1 ?_⟩⟩
        refine ⟨_, rfl, _, rfl, lenL (by show 2 ≤ 100000; decide), ?_⟩
        rcases (by omega : w = 3 ∨ w = 4 ∨ w = 5) with rfl | rfl | rfl
        · exact ends (.take one) H11 trivial k21 T11
        · exact ends (.tell one) H11 trivial k21 T11
        · exact ends (.ask one) H11 trivial k21 T11
--CUT
/-! ### a newcomer, by the law -/
theorem g_next {D : Ends} {σ : L2.St} {H : Hp} (h : D.nx σ H) : tNext D σ H := h
theorem pl_atoms (k : Ek) (p : Int) : ∀ y ∈ ([.str (nmE k), .int p, .bl true] : List V), atomV y = true := by simp [atomV]
def sp__law_admitted (K : PySem.W.Frag) : Sp := fun vs H Q _ => ∃ (dN : Addr) (n x y : Int) (nx bs : List (Key × V)) (ks : List Int) (Ls : List Let), vs = [.int n, .ref dN, .int x, .int y] ∧ H dN = some (.dK nx) ∧ nx.map (·.1) = ks.map Sum.inl ∧ ks.length ≤ 40 ∧
  (dueE n nx bs ks Ls (.admit x y) = none → ∀ a H', H' a = some (.tup [.str "done", .non]) → H' dN = some (.dK (putK nx (.inl x) (.int y))) → (∀ b o, b ≠ dN → H b = some o → H' b = some o) → Q (.ref a) H') ∧
  (∀ k p, dueE n nx bs ks Ls (.admit x y) = some (k, p) → ∀ a H', Same H H' → H' a = some (.tup [.str (nmE k), .int p, .bl true]) → Q (.ref a) H')
theorem valV_some_keys {ks : List Int} {nx : List (Key × V)} (h : nx.map (·.1) = ks.map Sum.inl) {x : Int} (c : x ∈ ks) : (valV nx (.inl x)).isSome = true := by
  rw [← valV_any]
  have : (Sum.inl x : Key) ∈ nx.map (·.1) := by rw [h]; exact List.mem_map.mpr ⟨x, c, rfl⟩
  obtain ⟨q, hq, e⟩ := List.mem_map.mp this
  exact List.any_eq_true.mpr ⟨q, hq, decide_eq_true e⟩
theorem isK {ks : List Int} {nx : List (Key × V)} (h : nx.map (·.1) = ks.map Sum.inl) (x : Int) : (valV nx (.inl x)).isSome = decide (x ∈ ks) := by
  by_cases c : x ∈ ks
  · rw [decide_eq_true c]
    exact valV_some_keys h c
  · rw [decide_eq_false c, valV_none_keys h c]
    rfl
theorem T0.ok__law_admitted (T : T0 K mg) : FnOk P w K mg base CX0 1 T.a__law_admitted T.fd__law_admitted ["size", "nexts", "place", "host"] (sp__law_admitted K) := by
  refine T.F__law_admitted.ok sc__law_admitted (fun vs H Q E h => ?_) (fun cdv A' outer s0 H vs Q E hr h => ?_)
  · obtain ⟨dN, n, x, y, nx, bs, ks, Ls, rfl, _⟩ := h
    rfl
  · obtain ⟨dN, n, x, y, nx, bs, ks, Ls, rfl, hN, hk, l40, q1, q2⟩ := h
    refine ⟨_, (pss_cons (ps_if (pt_not (pt_chain op_le op_lt pe_int (pv 2) (pv 0))) (pss_one (ps_ret (pe_tup (pa_cons pe_str (pa_cons (pv 2) (pa_cons pe_bl pa_nil)))))) pss_nil)
        (pss_cons (ps_if (pt_cmp (pc_din (un1 hr) (pv 2) (pv 1))) (pss_one (ps_ret (pe_tup (pa_cons pe_str (pa_cons (pv 2) (pa_cons pe_bl pa_nil)))))) pss_nil)
        (pss_cons (ps_if (PW.pt (pw_and (pt_cmp (pc_dnotin (un1 hr) (pv 3) (pv 1))) (pw_and1 (pt_cmpR op_ne (pv 3) (pv 2) (nomark _))))) (pss_one (ps_ret (pe_tup (pa_cons pe_str (pa_cons (pv 3) (pa_cons pe_bl pa_nil)))))) pss_nil)
        (pss_cons (ps_asg (pv 3) (pg_sub (pv 1) (pv 2) (set_dict (un1 hr))))
        (pss_one (ps_ret (pe_tup (pa_cons pe_str (pa_cons pe_non pa_nil))))))))), ?_⟩
    have lnx : nx.length = ks.length := by have := congrArg List.length hk; rw [List.length_map, List.length_map] at this; exact this
    have ret : ∀ {k : Ek} {p : Int}, dueE n nx bs ks Ls (.admit x y) = some (k, p) → ∀ a, H a = none → Q (.ref a) (upd H a (.tup [.str (nmE k), .int p, .bl true])) := fun e a na => q2 _ _ e a _ (same_upd na) upd_same
    have du : dueE n nx bs ks Ls (.admit x y) = if ¬ (0 ≤ x ∧ x < n) then some (.oc, x) else if x ∈ ks then some (.tp, x) else if y ∉ ks ∧ y ≠ x then some (.nh, y) else none := rfl
    try (walk_at "nf")
    refine v_when (b := !(decide (0 ≤ x) && decide (x < n))) (ans_n (ans_t (val_chain (g := fun i j => decide (i ≤ j)) (g' := fun i j => decide (i < j)) (i := 0) (j := x) (k := n) (fun _ q => q) (fun _ q => ⟨_, rfl, q⟩) (fun _ q => ⟨_, rfl, q⟩)))) (fun e => ?_) (fun e => ?_)
    · have c : ¬ (0 ≤ x ∧ x < n) := fun z => by
        simp only [Bool.not_eq_true', Bool.and_eq_false_iff, decide_eq_false_iff_not] at e
        rcases e with e | e
        · exact e z.1
        · exact e z.2
      rw [if_pos c] at du
      exact ⟨_, rfl, lenL (by show 3 ≤ 100000; decide), ret (k := .oc) du⟩
    have c : ¬ ¬ (0 ≤ x ∧ x < n) := fun z => by
      simp only [Bool.not_eq_false', Bool.and_eq_true, decide_eq_true_eq] at e
      exact z e
    rw [if_neg c] at du
    refine ⟨_, rfl, _, rfl, dN, _, rfl, DGet.k (k := Sum.inl x) hN, _, rfl, ?_⟩
    rw [isK hk x]
    refine ite2 (fun e => ?_) (fun e => ?_)
    · rw [if_pos (of_decide_eq_true e)] at du
      exact ⟨_, rfl, lenL (by show 3 ≤ 100000; decide), ret (k := .tp) du⟩
    rw [if_neg (fun z => e (decide_eq_true z))] at du
    refine g_next ?_
    dsimp only
    refine v_when (b := !decide (y ∈ ks) && !decide (V.int y = V.int x)) (ans_a (fun _ q => ⟨_, rfl, _, rfl, dN, _, rfl, DGet.k (k := Sum.inl y) hN, _, rfl, by rw [isK hk y]; exact q⟩) (fun _ => fun _ q => ⟨_, rfl, _, rfl, rfl, _, rfl, q⟩)) (fun e => ?_) (fun e => ?_)
    · have c3 : y ∉ ks ∧ y ≠ x := by
        simp only [Bool.and_eq_true, Bool.not_eq_true', decide_eq_false_iff_not] at e
        exact ⟨e.1, fun z => e.2 (by rw [z])⟩
      rw [if_pos c3] at du
      exact ⟨_, rfl, lenL (by show 3 ≤ 100000; decide), ret (k := .nh) du⟩
    have c3 : ¬ (y ∉ ks ∧ y ≠ x) := fun z => by
      simp only [Bool.and_eq_false_iff, Bool.not_eq_false', decide_eq_true_eq] at e
      rcases e with e | e
      · exact z.1 e
      · exact z.2 (V.int.inj e)
    rw [if_neg c3] at du
    refine ⟨_, rfl, _, rfl, _, rfl, dN, _, rfl, DPut.k (k := Sum.inl x) hN (small1000' (by omega)), ?_⟩
    refine ⟨lenL (by show 2 ≤ 100000; decide), fun a na => ?_⟩
    have s3 := same_upd (o := .tup [.str "done", .non]) na
    exact q1 du a _ upd_same (s3 _ _ upd_same) fun b o nb e => s3 _ _ ((upd_ne nb).trans e)
/-- the first house that is none among what a deed names -/
def fstB (ks : List Int) : List V → Option Int
  | [] => none
  | .int x :: r => if x ∉ ks then some x else fstB ks r
  | _ :: r => fstB ks r
theorem fstB_app {ks : List Int} : ∀ {us vs : List V}, fstB ks us = none → fstB ks (us ++ vs) = fstB ks vs
  | [], _, _ => rfl
  | .int x :: r, vs, h => by
    unfold fstB at h
    by_cases c : x ∉ ks
    · rw [if_pos c] at h
      cases h
    · rw [if_neg c] at h
      show (if x ∉ ks then some x else fstB ks (r ++ vs)) = _
      rw [if_neg c]
      exact fstB_app h
  | .non :: r, vs, h => fstB_app (us := r) h
  | .bl _ :: r, vs, h => fstB_app (us := r) h
  | .str _ :: r, vs, h => fstB_app (us := r) h
  | .ref _ :: r, vs, h => fstB_app (us := r) h
  | .byt _ :: r, vs, h => fstB_app (us := r) h
  | .flt _ :: r, vs, h => fstB_app (us := r) h
  | .ty _ :: r, vs, h => fstB_app (us := r) h
theorem fstB_bad {ks : List Int} {us : List V} {i : Nat} {x : Int} (h : fstB ks (us.take i) = none) (e : us[i]? = some (.int x)) (c : x ∉ ks) : fstB ks us = some x := by
  have hl : i < us.length := (List.getElem?_eq_some_iff.mp e).1
  have e2 : us = us.take i ++ us.drop i := (List.take_append_drop i us).symm
  have e3 : us.drop i = .int x :: us.drop (i + 1) := by
    rw [List.drop_eq_getElem_cons hl]
    rw [List.getElem?_eq_getElem hl] at e
    rw [Option.some.inj e]
  rw [e2, fstB_app h, e3]
  exact if_pos c
theorem fstB_good {ks : List Int} {us : List V} {i : Nat} {u : V} (h : fstB ks (us.take i) = none) (e : us[i]? = some u) (c : u = .non ∨ ∃ x, u = .int x ∧ x ∈ ks) : fstB ks (us.take (i + 1)) = none := by
  rw [tk_snoc e, fstB_app h]
  rcases c with rfl | ⟨x, rfl, c⟩
  · rfl
  · exact if_neg (fun z => z c)
theorem fstB_int {ks : List Int} {x : Int} {r : List V} (h : fstB ks (.int x :: r) = none) : x ∈ ks ∧ fstB ks r = none := by
  unfold fstB at h
  by_cases c : x ∉ ks
  · rw [if_pos c] at h
    cases h
  · rw [if_neg c] at h
    exact ⟨Decidable.not_not.mp c, h⟩
theorem cut_tl (x : V) (us : List V) : cutV (x :: us) (some 1) none = us := by
  have i1 : HT.sIx (x :: us).length 0 (some (1 : Int)) = 1 := by rw [show (1 : Int) = ((1 : Nat) : Int) from rfl, HT.sIx_nat, List.length_cons]; omega
  unfold cutV
  rw [i1, HT.sIx_none, List.take_of_length_le (by rw [List.length_drop]; exact Nat.le_refl _)]
  rfl
theorem cut_tl_ok (x : V) (us : List V) : ¬ (HT.sIx (x :: us).length 0 (some 1) = 0 ∧ HT.sIx (x :: us).length (x :: us).length none = (x :: us).length) := by
  have i1 : HT.sIx (x :: us).length 0 (some (1 : Int)) = 1 := by rw [show (1 : Int) = ((1 : Nat) : Int) from rfl, HT.sIx_nat, List.length_cons]; omega
  intro y
  rw [i1] at y
  exact absurd y.1 (by decide)
def Dd.spec : Dd → Bool
  | .lose _ => true
  | .rep _ => true
  | .read _ => true
  | .admit _ _ => true
  | _ => false
theorem Dd.gen {D : Dd} (h : D.spec = false) (n : Int) (nx bs : List (Key × V)) (ks : List Int) (Ls : List Let) : ∃ (w : Str) (us : List V), D.vals = .str w :: us ∧ decide (V.str w = V.str "lose") = false ∧ decide (V.str w = V.str "read") = false ∧ decide (V.str w = V.str "repeat") = false ∧ decide (V.str w = V.str "admit") = false ∧
    (∀ u ∈ us, u = .non ∨ ∃ x : Int, u = .int x) ∧ ∀ p, fstB ks us = some p → dueE n nx bs ks Ls D = some (.nh, p) := by
  cases D with
  | lose k => cases h
  | rep k => cases h
  | read k => cases h
  | admit x y => cases h
  | hold x y =>
    refine ⟨_, _, rfl, by decide +kernel, by decide +kernel, by decide +kernel, by decide +kernel, fun u hu => .inr ?_, fun p e => ?_⟩
    · simp only [List.mem_cons, List.not_mem_nil, or_false] at hu
      rcases hu with rfl | rfl <;> exact ⟨_, rfl⟩
    · show (if x ∉ ks then some (Ek.nh, x) else if y ∉ ks then some (Ek.nh, y) else none) = _
      unfold fstB fstB at e
      by_cases c : x ∉ ks
      · rw [if_pos c] at e ⊢
        rw [Option.some.inj e]
      rw [if_neg c] at e ⊢
      by_cases c2 : y ∉ ks
      · rw [if_pos c2] at e ⊢
        rw [Option.some.inj e]
      rw [if_neg c2] at e
      cases e
  | before x b =>
    cases b with
    | none =>
      refine ⟨_, _, rfl, by decide +kernel, by decide +kernel, by decide +kernel, by decide +kernel, fun u hu => ?_, fun p e => ?_⟩
      · simp only [List.mem_cons, List.not_mem_nil, or_false] at hu
        rcases hu with rfl | rfl
        · exact .inr ⟨_, rfl⟩
        · exact .inl rfl
      · show (if x ∉ ks then some (Ek.nh, x) else none) = _
        have e : (if x ∉ ks then some x else none) = some p := e
        by_cases c : x ∉ ks
        · rw [if_pos c] at e ⊢
          rw [Option.some.inj e]
        rw [if_neg c] at e
        cases e
    | some y =>
      refine ⟨_, _, rfl, by decide +kernel, by decide +kernel, by decide +kernel, by decide +kernel, fun u hu => .inr ?_, fun p e => ?_⟩
      · simp only [List.mem_cons, List.not_mem_nil, or_false] at hu
        rcases hu with rfl | rfl <;> exact ⟨_, rfl⟩
      · show (if x ∉ ks then some (Ek.nh, x) else if y ∉ ks then some (Ek.nh, y) else none) = _
        have e : (if x ∉ ks then some x else if y ∉ ks then some y else none) = some p := e
        by_cases c : x ∉ ks
        · rw [if_pos c] at e ⊢
          rw [Option.some.inj e]
        rw [if_neg c] at e ⊢
        by_cases c2 : y ∉ ks
        · rw [if_pos c2] at e ⊢
          rw [Option.some.inj e]
        rw [if_neg c2] at e
        cases e
  | take x =>
    refine ⟨_, _, rfl, by decide +kernel, by decide +kernel, by decide +kernel, by decide +kernel, fun u hu => .inr ?_, fun p e => ?_⟩
    · rw [List.mem_singleton.mp hu]
      exact ⟨_, rfl⟩
    · show (if x ∉ ks then some (Ek.nh, x) else if namedL nx bs ks Ls x = true then some (Ek.sn, x) else none) = _
      have e : (if x ∉ ks then some x else none) = some p := e
      by_cases c : x ∉ ks
      · rw [if_pos c] at e ⊢
        rw [Option.some.inj e]
      rw [if_neg c] at e
      cases e
  | tell x =>
    refine ⟨_, _, rfl, by decide +kernel, by decide +kernel, by decide +kernel, by decide +kernel, fun u hu => .inr ?_, fun p e => ?_⟩
    · rw [List.mem_singleton.mp hu]
      exact ⟨_, rfl⟩
    · show (if x ∉ ks then some (Ek.nh, x) else none) = _
      have e : (if x ∉ ks then some x else none) = some p := e
      by_cases c : x ∉ ks
      · rw [if_pos c] at e ⊢
        rw [Option.some.inj e]
      rw [if_neg c] at e
      cases e
  | ask x =>
    refine ⟨_, _, rfl, by decide +kernel, by decide +kernel, by decide +kernel, by decide +kernel, fun u hu => .inr ?_, fun p e => ?_⟩
    · rw [List.mem_singleton.mp hu]
      exact ⟨_, rfl⟩
    · show (if x ∉ ks then some (Ek.nh, x) else none) = _
      have e : (if x ∉ ks then some x else none) = some p := e
      by_cases c : x ∉ ks
      · rw [if_pos c] at e ⊢
        rw [Option.some.inj e]
      rw [if_neg c] at e
      cases e
--CUT
def sp__law_due (K : PySem.W.Frag) : Sp := fun vs H Q _ => ∃ (dN dB pO dd : Addr) (n : Int) (nx bs bf : List (Key × V)) (ps : List V) (ks : List Int) (Ls : List Let) (D : Dd), vs = [.int n, .ref dN, .ref dB, .ref pO, .ref dd] ∧ H dN = some (.dK nx) ∧ H dB = some (.dK bs) ∧ H pO = some (.lst ps) ∧ H dd = some (.tup D.vals) ∧ Snd n ks nx bs bf Ls ∧ LAt Let.vals H ps Ls ∧ D.ok Ls.length ∧ ks.length ≤ 40 ∧ bs.length ≤ 900 ∧ ps.length ≤ 60 ∧ 0 < n ∧ dN ≠ dB ∧
  (dueE n nx bs ks Ls D = none → ∀ a v ps' H', RV.ok H' v (resD n nx bs Ls D) → H' a = some (.tup [.str "done", v]) → H' dN = some (.dK (stN n nx bs Ls D)) → H' dB = some (.dK (stB n bs Ls D)) → H' pO = some (.lst ps') → LAt Let.vals H' ps' (stL n nx bs Ls D) → (∀ b o, b ≠ dN → b ≠ dB → b ≠ pO → H b = some o → H' b = some o) → Q (.ref a) H') ∧
  (∀ k p, dueE n nx bs ks Ls D = some (k, p) → ∀ a H', Same H H' → H' a = some (.tup [.str (nmE k), .int p, .bl true]) → Q (.ref a) H')
theorem T0.ok__law_due (T : T0 K mg) : FnOk P w K mg base CX0 4 T.a__law_due T.fd__law_due ["size", "nexts", "behinds", "post", "deed"] (sp__law_due K) := by
  refine T.F__law_due.ok sc__law_due (fun vs H Q E h => ?_) (fun cdv A' outer s0 H vs Q E hr h => ?_)
  · obtain ⟨dN, dB, pO, dd, n, nx, bs, bf, ps, ks, Ls, D, rfl, _⟩ := h
    rfl
  · obtain ⟨dN, dB, pO, dd, n, nx, bs, bf, ps, ks, Ls, D, rfl, hN, hB, hP, hd, sd, la, ok, l40, lbs, l60, n0, nNB, q1, q2⟩ := h
    refine ⟨_, (pss_cons (ps_if (pt_cmpR op_eq (pe_ix (ix_tupK (K := K)) (pv 4) pe_int (fun _ _ => rfl)) pe_str (nomark _)) (pss_one (ps_ret (pe_tup (pa_cons pe_str (pa_cons (pe_bm PySem.F.plainAttrs_list PySem.F.slot_list_pop PySem.F.type_list_pop mt_popAt (pv 3) (pa_cons (pe_ix (ix_tupK (K := K)) (pv 4) pe_int (fun _ _ => rfl)) pa_nil)) pa_nil))))) pss_nil)
        (pss_cons (ps_if (pt_cmpR op_eq (pe_ix (ix_tupK (K := K)) (pv 4) pe_int (fun _ _ => rfl)) pe_str (nomark _)) (pss_one (ps_ret (pe_tup (pa_cons pe_str (pa_cons (pe_call T.ok__law_read hr (by rfl) T.g__law_read T.k__law_read T.b__law_read .nil pass0 (pa_cons (pv 0) (pa_cons (pv 1) (pa_cons (pv 2) (pa_cons (pv 3) (pa_cons (pe_ix (ix_tupK (K := K)) (pv 4) pe_int (fun _ _ => rfl)) pa_nil)))))) pa_nil))))) pss_nil)
        (pss_cons (ps_if (pt_cmpR op_eq (pe_ix (ix_tupK (K := K)) (pv 4) pe_int (fun _ _ => rfl)) pe_str (nomark _)) (pss_cons (ps_expr (pe_bm PySem.F.plainAttrs_list PySem.F.slot_list_append PySem.F.type_list_append mt_append (pv 3) (pa_cons (pe_ix (ix_listK (K := K)) (pv 3) (pe_ix (ix_tupK (K := K)) (pv 4) pe_int (fun _ _ => rfl)) (fun _ _ => rfl)) pa_nil)))
        (pss_one (ps_ret (pe_tup (pa_cons pe_str (pa_cons (pe_ix (ix_listK (K := K)) (pv 3) (pe_un un_neg pe_int) (fun _ _ => rfl)) pa_nil)))))) pss_nil)
        (pss_cons (ps_if (pt_cmpR op_eq (pe_ix (ix_tupK (K := K)) (pv 4) pe_int (fun _ _ => rfl)) pe_str (nomark _)) (pss_one (ps_ret (pe_call T.ok__law_admitted (hr.mono (by decide)) (by rfl) T.g__law_admitted T.k__law_admitted T.b__law_admitted .nil pass0 (pa_cons (pv 0) (pa_cons (pv 1) (pa_cons (pe_ix (ix_tupK (K := K)) (pv 4) pe_int (fun _ _ => rfl)) (pa_cons (pe_ix (ix_tupK (K := K)) (pv 4) pe_int (fun _ _ => rfl)) pa_nil))))))) pss_nil)
        (C8.pss_cut (ps_for PassesOwn.never rfl (pi_tup (pe_slice (sl_tupK (K := K)) (pv 4) (po_some pe_int) po_none)) (pg_name (i := 5) sc__law_due.nd rfl (Or.inl rfl)) (pss_one (ps_if (PW.pt (pw_and (pt_cmpR op_notN (pv 5) pe_non (nomark _)) (pw_and1 (pt_cmp (pc_dnotin (un1 hr) (pv 5) (pv 1)))))) (pss_one (ps_ret (pe_tup (pa_cons pe_str (pa_cons (pv 5) (pa_cons pe_bl pa_nil)))))) pss_nil)))
        (pss_cons (ps_set (i := 6) sc__law_due.nd rfl (Or.inl rfl) (pe_ix (ix_tupK (K := K)) (pv 4) pe_int (fun _ _ => rfl)))
        (pss_cons (ps_if (pt_cmpR op_eq (pe_ix (ix_tupK (K := K)) (pv 4) pe_int (fun _ _ => rfl)) pe_str (nomark _)) (pss_cons (ps_set (i := 7) sc__law_due.nd rfl (Or.inl rfl) (pe_dget (un1 hr) (pv 1) (pv 6) (fun _ _ => rfl)))
        (pss_cons (ps_asg (pe_ix (ix_tupK (K := K)) (pv 4) pe_int (fun _ _ => rfl)) (pg_sub (pv 1) (pv 6) (set_dict (un1 hr))))
        (pss_one (ps_ret (pe_tup (pa_cons pe_str (pa_cons (pv 7) pa_nil))))))) pss_nil)
        (pss_cons (ps_if (pt_cmpR op_eq (pe_ix (ix_tupK (K := K)) (pv 4) pe_int (fun _ _ => rfl)) pe_str (nomark _)) (pss_cons (ps_asg (pe_ix (ix_tupK (K := K)) (pv 4) pe_int (fun _ _ => rfl)) (pg_sub (pv 2) (pv 6) (set_dict (un1 hr))))
        (pss_one (ps_ret (pe_tup (pa_cons pe_str (pa_cons pe_non pa_nil)))))) pss_nil)
        (pss_cons (ps_if (PW.pt (pw_or (pt_cmpR op_eq (pe_ix (ix_tupK (K := K)) (pv 4) pe_int (fun _ _ => rfl)) pe_str (nomark _)) (pw_or1 (pt_cmpR op_eq (pe_ix (ix_tupK (K := K)) (pv 4) pe_int (fun _ _ => rfl)) pe_str (nomark _))))) (pss_cons (ps_expr (pe_bm PySem.F.plainAttrs_list PySem.F.slot_list_append PySem.F.type_list_append mt_append (pv 3) (pa_cons (pe_tup (pa_cons (pe_ix (ix_tupK (K := K)) (pv 4) pe_int (fun _ _ => rfl)) (pa_cons (pe_dget (un1 hr) (pv 1) (pv 6) (fun _ _ => rfl)) (pa_cons (pv 6) pa_nil)))) pa_nil)))
        (pss_one (ps_ret (pe_tup (pa_cons pe_str (pa_cons (pe_ix (ix_listK (K := K)) (pv 3) (pe_un un_neg pe_int) (fun _ _ => rfl)) pa_nil)))))) pss_nil)
        (pss_cons (ps_if (pt_val (pe_call T.ok__law_named (hr.mono (by decide)) (by rfl) T.g__law_named T.k__law_named T.b__law_named .nil pass0 (pa_cons (pv 1) (pa_cons (pv 2) (pa_cons (pv 3) (pa_cons (pv 6) pa_nil)))))) (pss_one (ps_ret (pe_tup (pa_cons pe_str (pa_cons (pv 6) (pa_cons pe_bl pa_nil)))))) pss_nil)
        (pss_cons (ps_expr (pe_dpop1 (pv 1) (pv 6) ⟨rfl, rfl, rfl, rfl⟩))
        (pss_cons (ps_asg pe_non (pg_sub (pv 2) (pv 6) (set_dict (un1 hr))))
        (pss_one (ps_ret (pe_tup (pa_cons pe_str (pa_cons pe_non pa_nil))))))))))))))))), ?_⟩
    have gn := sd.gn
    have lnx : nx.length = ks.length := by have := congrArg List.length gn.1; rw [List.length_map, List.length_map] at this; exact this
    have nNP : dN ≠ pO := ne_kind hN hP (fun z => nomatch z)
    have nBP : dB ≠ pO := ne_kind hB hP (fun z => nomatch z)
    have kd : ∀ {o : HO} {a : Addr}, H a = some (.tup [.str "x"]) → True := fun _ => trivial
    have tl : ∀ (w : Str) (x : Int) (L : Let), L.vals = [.str w, .int (iN nx x), .int x] → resD n nx bs Ls D = .tp L.vals → stL n nx bs Ls D = Ls ++ [L] → stN n nx bs Ls D = nx → stB n bs Ls D = bs → dueE n nx bs ks Ls D = none → ∀ H1, Same H H1 → ∀ l, H1 l = none → ∀ a, upd (upd H1 l (.tup [.str w, .int (iN nx x), .int x])) pO (.lst (ps ++ [.ref l])) a = none → Q (.ref a) (upd (upd (upd H1 l (.tup [.str w, .int (iN nx x), .int x])) pO (.lst (ps ++ [.ref l]))) a (.tup [.str "done", .ref l])) := fun w x L eL r1 r2 r3 r4 hu H1 s1 l nl a na => by
      have hP1 := s1 _ _ hP
      have nlP : l ≠ pO := (ne_of_none hP1 nl).symm
      have el : upd (upd H1 l (.tup [.str w, .int (iN nx x), .int x])) pO (.lst (ps ++ [.ref l])) l = some (.tup L.vals) := by rw [upd_ne nlP, upd_same, eL]
      have eP : upd (upd H1 l (.tup [.str w, .int (iN nx x), .int x])) pO (.lst (ps ++ [.ref l])) pO = some (.lst (ps ++ [.ref l])) := upd_same
      have f1 : ∀ b o, b ≠ pO → H b = some o → upd (upd H1 l (.tup [.str w, .int (iN nx x), .int x])) pO (.lst (ps ++ [.ref l])) b = some o := fun b o nb e => (upd_ne nb).trans ((upd_ne (ne_of_none (s1 _ _ e) nl)).trans (s1 _ _ e))
      generalize upd (upd H1 l (.tup [.str w, .int (iN nx x), .int x])) pO (.lst (ps ++ [.ref l])) = H2 at el eP f1 na
      have s := same_upd (o := .tup [.str "done", .ref l]) na
      refine q1 hu a (.ref l) (ps ++ [.ref l]) _ ?_ upd_same ?_ ?_ (s _ _ eP) ?_ fun b o _ _ nb e => s _ _ (f1 _ _ nb e)
      · rw [r1]
        exact ⟨l, rfl, s _ _ el, (vals_atom L).1, (vals_atom L).2⟩
      · rw [r3]
        exact s _ _ (f1 _ _ nNP hN)
      · rw [r4]
        exact s _ _ (f1 _ _ nBP hB)
      · rw [r2]
        exact (la.mono fun b xs e => s _ _ (f1 _ _ (ne_kind e hP (fun z => nomatch z)) e)).app (s _ _ el)
    by_cases hs : D.spec = true
    · cases D with
      | hold x y => cases hs
      | before x b => cases hs
      | take x => cases hs
      | tell x => cases hs
      | ask x => cases hs
      | lose k =>
        refine ⟨_, rfl, dd, _, 0, _, rfl, rfl, SqT.of hd, rfl, rfl, _, rfl, iteT' (by decide +kernel) ?_⟩
        have hk : k < ps.length := by rw [la.1]; exact ok
        obtain ⟨b, L, hL, eb, eL⟩ := la.at (List.getElem?_eq_getElem hk)
        refine ⟨_, rfl, .inl ⟨rfl, _, SqL.of hP⟩, _, rfl, dd, _, 1, _, rfl, rfl, SqT.of hd, rfl, pO, ps, k, k, _, rfl, rfl, hP, by omega, by omega, seq_nat hk, List.getElem?_eq_getElem hk, lenL (by show 2 ≤ 100000; decide), fun a na => ?_⟩
        have f1 : ∀ b o, b ≠ pO → H b = some o → upd H pO (.lst (ps.eraseIdx k)) b = some o := fun b o nb e => (upd_ne nb).trans e
        have hP1 : upd H pO (.lst (ps.eraseIdx k)) pO = some (.lst (ps.eraseIdx k)) := upd_same
        generalize upd H pO (.lst (ps.eraseIdx k)) = H1 at f1 hP1 na
        have s := same_upd (o := .tup [.str "done", ps[k]]) na
        have kt : ∀ b xs, H b = some (.tup xs) → upd H1 a (.tup [.str "done", ps[k]]) b = some (.tup xs) := fun b xs e => s _ _ (f1 _ _ (ne_kind e hP (fun z => nomatch z)) e)
        refine q1 rfl a _ _ _ ?_ upd_same (s _ _ (f1 _ _ nNP hN)) (s _ _ (f1 _ _ nBP hB)) (s _ _ hP1) ((la.mono kt).erase k) fun b o _ _ nb e => s _ _ (f1 _ _ nb e)
        rw [res_lose hL]
        exact ⟨b, eb, kt _ _ eL, (vals_atom L).1, (vals_atom L).2⟩
      | rep k =>
        refine ⟨_, rfl, dd, _, 0, _, rfl, rfl, SqT.of hd, rfl, rfl, _, rfl, iteF' (by decide +kernel) ?_⟩
        refine ⟨_, rfl, dd, _, 0, _, rfl, rfl, SqT.of hd, rfl, rfl, _, rfl, iteF' (by decide +kernel) ?_⟩
        refine ⟨_, rfl, dd, _, 0, _, rfl, rfl, SqT.of hd, rfl, rfl, _, rfl, iteT' (by decide +kernel) ?_⟩
        have hk : k < ps.length := by rw [la.1]; exact ok
        obtain ⟨b, L, hL, eb, eL⟩ := la.at (List.getElem?_eq_getElem hk)
        refine ⟨_, rfl, .inl ⟨rfl, _, SqL.of hP⟩, _, rfl, _, rfl, dd, _, 1, _, rfl, rfl, SqT.of hd, rfl, pO, _, _, _, rfl, rfl, SqL.of hP, atI_nat (List.getElem?_eq_getElem hk), pO, _, _, rfl, rfl, hP, small1000' (by omega), ?_⟩
        refine ⟨_, rfl, 1, rfl, pO, _, -1, _, rfl, rfl, SqL.of upd_same, atI_last _ _, lenL (by show 2 ≤ 100000; decide), fun a na => ?_⟩
        have f1 : ∀ b o, b ≠ pO → H b = some o → upd H pO (.lst (ps ++ [ps[k]])) b = some o := fun b o nb e => (upd_ne nb).trans e
        have hP1 : upd H pO (.lst (ps ++ [ps[k]])) pO = some (.lst (ps ++ [ps[k]])) := upd_same
        generalize upd H pO (.lst (ps ++ [ps[k]])) = H1 at f1 hP1 na
        have s := same_upd (o := .tup [.str "done", ps[k]]) na
        have kt : ∀ b xs, H b = some (.tup xs) → upd H1 a (.tup [.str "done", ps[k]]) b = some (.tup xs) := fun b xs e => s _ _ (f1 _ _ (ne_kind e hP (fun z => nomatch z)) e)
        refine q1 rfl a _ _ _ ?_ upd_same (s _ _ (f1 _ _ nNP hN)) (s _ _ (f1 _ _ nBP hB)) (s _ _ hP1) ((la.mono kt).rep (List.getElem?_eq_getElem hk)) fun b o _ _ nb e => s _ _ (f1 _ _ nb e)
        rw [res_rep hL]
        exact ⟨b, eb, kt _ _ eL, (vals_atom L).1, (vals_atom L).2⟩
      | read k =>
        refine ⟨_, rfl, dd, _, 0, _, rfl, rfl, SqT.of hd, rfl, rfl, _, rfl, iteF' (by decide +kernel) ?_⟩
        refine ⟨_, rfl, dd, _, 0, _, rfl, rfl, SqT.of hd, rfl, rfl, _, rfl, iteT' (by decide +kernel) ?_⟩
        have hk : k < ps.length := by rw [la.1]; exact ok
        obtain ⟨lt, L, hL, eb, eL⟩ := la.at (List.getElem?_eq_getElem hk)
        have hLn := sd.lns L (List.mem_of_getElem? hL)
        obtain ⟨x, mx, hx⟩ := gn.2 _ (hLn _ L.to_ns)
        have ob := sd.gd.ok L.to
        have iN' : iN nx L.to = x := iN_of hx
        refine ⟨_, rfl, _, rfl, _, rfl, _, rfl, _, rfl, dd, _, 1, _, rfl, rfl, SqT.of hd, rfl, dN, dB, pO, lt, n, x, k, L, nx, bs, ps, rfl, hN, hB, hP, by rw [List.getElem?_eq_getElem hk, eb], eL, hx, ob, n0, nNB, by omega, by omega, by omega, fun H1 v ps' a6 f6 eN eB eP ht => ⟨lenL (by show 2 ≤ 100000; decide), fun a na => ?_⟩⟩
        obtain ⟨w, rfl, ew⟩ := ht
        have s := same_upd (o := .tup [.str "done", .ref w]) na
        have kt : ∀ b xs, H b = some (.tup xs) → upd H1 a (.tup [.str "done", .ref w]) b = some (.tup xs) := fun b xs e => s _ _ (f6 _ _ (ne_kind e hN (fun z => nomatch z)) (ne_kind e hB (fun z => nomatch z)) (ne_kind e hP (fun z => nomatch z)) e)
        refine q1 rfl a (.ref w) ps' _ ?_ upd_same ?_ ?_ (s _ _ eP) ?_ fun b o n1 n2 n3 e => s _ _ (f6 _ _ n1 n2 n3 e)
        · rw [res_read hL, iN']
          exact ⟨w, rfl, s _ _ ew, (nT_atom ob).1, (nT_atom ob).2⟩
        · rw [stN_read hL, iN']
          exact s _ _ eN
        · rw [stB_read hL]
          exact s _ _ eB
        · rw [stL_read hL]
          rw [hA_rdA] at a6
          have e1 := (la.mono kt).erase k
          cases eA : rdA L (bef bs L.to) with
          | none =>
            rw [eA] at a6
            rw [a6]
            show LAt Let.vals _ _ (_ ++ [])
            rw [List.append_nil]
            exact e1
          | some L' =>
            rw [eA] at a6
            obtain ⟨b, rfl, eb2⟩ := a6
            exact e1.app (s _ _ eb2)
      | admit x y =>
        refine ⟨_, rfl, dd, _, 0, _, rfl, rfl, SqT.of hd, rfl, rfl, _, rfl, iteF' (by decide +kernel) ?_⟩
        refine ⟨_, rfl, dd, _, 0, _, rfl, rfl, SqT.of hd, rfl, rfl, _, rfl, iteF' (by decide +kernel) ?_⟩
        refine ⟨_, rfl, dd, _, 0, _, rfl, rfl, SqT.of hd, rfl, rfl, _, rfl, iteF' (by decide +kernel) ?_⟩
        refine ⟨_, rfl, dd, _, 0, _, rfl, rfl, SqT.of hd, rfl, rfl, _, rfl, iteT' (by decide +kernel) ?_⟩
        refine ⟨_, rfl, _, rfl, _, rfl, dd, _, 1, _, rfl, rfl, SqT.of hd, rfl, _, rfl, dd, _, 2, _, rfl, rfl, SqT.of hd, rfl, dN, n, x, y, nx, bs, ks, Ls, rfl, hN, gn.1, l40, fun hu a H1 ea eN f => ?_, fun k p hu a H1 s1 ea => q2 k p hu a H1 s1 ea⟩
        exact q1 hu a .non ps H1 ⟨rfl, rfl⟩ ea eN (f _ _ nNB.symm hB) (f _ _ nNP.symm hP) (la.mono fun b xs e => f _ _ (ne_kind e hN (fun z => nomatch z)) e) fun b o n1 _ _ e => f b o n1 e
    obtain ⟨w, us, hD, t1, t2, t3, t4, hus, hbad⟩ := Dd.gen (Bool.eq_false_iff.mpr hs) n nx bs ks Ls
    have hd0 := hd
    rw [hD] at hd
    refine ⟨_, rfl, dd, _, 0, _, rfl, rfl, SqT.of hd, atI_nat (j := 0) rfl, rfl, _, rfl, iteF' t1 ?_⟩
    refine ⟨_, rfl, dd, _, 0, _, rfl, rfl, SqT.of hd, atI_nat (j := 0) rfl, rfl, _, rfl, iteF' t2 ?_⟩
    refine ⟨_, rfl, dd, _, 0, _, rfl, rfl, SqT.of hd, atI_nat (j := 0) rfl, rfl, _, rfl, iteF' t3 ?_⟩
    refine ⟨_, rfl, dd, _, 0, _, rfl, rfl, SqT.of hd, atI_nat (j := 0) rfl, rfl, _, rfl, iteF' t4 ?_⟩
    refine ⟨fun σ' H' => ∃ o5 : Option V, σ' = [some (.int n), some (.ref dN), some (.ref dB), some (.ref pO), some (.ref dd), o5, none, none] ∧ fstB ks us = none ∧ Same H H', ?_, ?_⟩
    · refine ⟨_, rfl, 1, rfl, dd, _, rfl, SqT.of hd, cut_tl_ok _ _, fun u nu => ?_⟩
      rw [cut_tl]
      have s1 := same_upd (o := .tup us) nu
      have eu : upd H u (.tup us) u = some (.tup us) := upd_same
      generalize upd H u (.tup us) = H1 at s1 eu
      refine ⟨u, rfl, ⟨_, SqT.of eu⟩, ?_⟩
      refine for_tup (K := K) (a := u) (xs := us) (fun i σ' H' => ∃ o5, σ' = [some (.int n), some (.ref dN), some (.ref dB), some (.ref pO), some (.ref dd), o5, none, none] ∧ H1 = H' ∧ fstB ks (us.take i) = none) ⟨none, rfl, rfl, by rw [List.take_zero]; rfl⟩ (fun i σ' H' _ p => by obtain ⟨_, _, rfl, _⟩ := p; exact SqT.of eu) (fun i v σ' H3 hv p => ?_) (fun σ' H3 p => ?_)
      · obtain ⟨o5, rfl, rfl, hf⟩ := p
        rcases hus v (List.mem_of_getElem? hv) with rfl | ⟨x, rfl⟩
        · refine ⟨_, rfl, rfl, _, rfl, iteF' (by rw [decide_eq_true rfl]; rfl) (iteF ?_)⟩
          exact ⟨_, rfl, rfl, fstB_good hf hv (.inl rfl)⟩
        · refine ⟨_, rfl, rfl, _, rfl, iteT' rfl ⟨_, rfl, _, rfl, dN, _, rfl, DGet.k (k := Sum.inl x) (s1 _ _ hN), _, rfl, ?_⟩⟩
          rw [isK gn.1 x]
          by_cases c : x ∈ ks
          · rw [decide_eq_true c]
            exact iteF ⟨_, rfl, rfl, fstB_good hf hv (.inr ⟨x, rfl, c⟩)⟩
          · rw [decide_eq_false c]
            refine iteT ⟨_, rfl, lenL (by show 3 ≤ 100000; decide), fun a na => ?_⟩
            exact q2 .nh x (hbad x (fstB_bad hf hv c)) a _ (Same.trans s1 (same_upd na)) upd_same
      · obtain ⟨o5, rfl, rfl, hf⟩ := p
        rw [List.take_length] at hf
        exact ⟨o5, rfl, hf, s1⟩
    rintro _ H1 ⟨o5, rfl, hf, s1⟩
    have hN1 := s1 _ _ hN
    have hB1 := s1 _ _ hB
    have hP1 := s1 _ _ hP
    have hd1 := s1 _ _ hd0
    cases D with
    | lose k => exact absurd rfl hs
    | rep k => exact absurd rfl hs
    | read k => exact absurd rfl hs
    | admit x y => exact absurd rfl hs
    | hold x y =>
      have eus : us = [.int x, .int y] := (List.cons.inj hD).2.symm
      rw [eus] at hf
      obtain ⟨mx, hf⟩ := fstB_int hf
      obtain ⟨my, _⟩ := fstB_int hf
      obtain ⟨v, mv, ev⟩ := gn.2 x mx
      have hu : dueE n nx bs ks Ls (.hold x y) = none := by
        unfold dueE
        dsimp only
        rw [if_neg (fun z => z mx), if_neg (fun z => z my)]
      refine ⟨_, rfl, dd, _, 1, _, rfl, rfl, SqT.of hd1, rfl, ?_⟩
      refine ⟨_, rfl, dd, _, 0, _, rfl, rfl, SqT.of hd1, rfl, rfl, _, rfl, iteT' (by decide +kernel) ?_⟩
      refine ⟨_, rfl, _, rfl, dN, _, rfl, dget_of (k := Sum.inl x) hN1 ev, ?_⟩
      refine ⟨_, rfl, dd, _, 2, _, rfl, rfl, SqT.of hd1, rfl, _, rfl, _, rfl, dN, _, rfl, DPut.k (k := Sum.inl x) hN1 (small1000' (by omega)), ?_⟩
      refine ⟨_, rfl, lenL (by show 2 ≤ 100000; decide), fun a na => ?_⟩
      have s3 := same_upd (o := .tup [.str "done", .int v]) na
      have f2 : ∀ b o, b ≠ dN → H b = some o → upd H1 dN (.dK (putK nx (.inl x) (.int y))) b = some o := fun b o nb e => (upd_ne nb).trans (s1 _ _ e)
      refine q1 hu a (.int v) ps _ ⟨by rw [iN_of ev], rfl⟩ upd_same (s3 _ _ upd_same) (s3 _ _ (f2 _ _ nNB.symm hB)) (s3 _ _ (f2 _ _ nNP.symm hP)) (la.mono fun b xs e => s3 _ _ (f2 _ _ (ne_kind e hN (fun z => nomatch z)) e)) fun b o n1 _ _ e => s3 _ _ (f2 _ _ n1 e)
    | before x b =>
      have eus : us = [.int x, oV b] := (List.cons.inj hD).2.symm
      rw [eus] at hf
      obtain ⟨mx, hf⟩ := fstB_int hf
      have hu : dueE n nx bs ks Ls (.before x b) = none := by
        unfold dueE
        dsimp only
        rw [if_neg (fun z => z mx)]
        cases b with
        | none => rfl
        | some y =>
          obtain ⟨my, _⟩ := fstB_int (r := []) hf
          exact if_neg (fun z => z my)
      refine ⟨_, rfl, dd, _, 1, _, rfl, rfl, SqT.of hd1, rfl, ?_⟩
      refine ⟨_, rfl, dd, _, 0, _, rfl, rfl, SqT.of hd1, rfl, rfl, _, rfl, iteF' (by decide +kernel) ?_⟩
      refine ⟨_, rfl, dd, _, 0, _, rfl, rfl, SqT.of hd1, rfl, rfl, _, rfl, iteT' (by decide +kernel) ?_⟩
      refine ⟨_, rfl, dd, _, 2, oV b, rfl, rfl, SqT.of hd1, rfl, _, rfl, _, rfl, dB, _, rfl, DPut.k (k := Sum.inl x) hB1 (small1000' (by omega)), ?_⟩
      refine ⟨lenL (by show 2 ≤ 100000; decide), fun a na => ?_⟩
      have s3 := same_upd (o := .tup [.str "done", .non]) na
      have f2 : ∀ c o, c ≠ dB → H c = some o → upd H1 dB (.dK (putK bs (.inl x) (oV b))) c = some o := fun c o nb e => (upd_ne nb).trans (s1 _ _ e)
      refine q1 hu a .non ps _ ⟨rfl, rfl⟩ upd_same (s3 _ _ (f2 _ _ nNB hN)) (s3 _ _ upd_same) (s3 _ _ (f2 _ _ nBP.symm hP)) (la.mono fun b xs e => s3 _ _ (f2 _ _ (ne_kind e hB (fun z => nomatch z)) e)) fun b o _ n2 _ e => s3 _ _ (f2 _ _ n2 e)
    | take x =>
      have eus : us = [.int x] := (List.cons.inj hD).2.symm
      rw [eus] at hf
      obtain ⟨mx, _⟩ := fstB_int hf
      obtain ⟨v, mv, ev⟩ := gn.2 x mx
      have du : dueE n nx bs ks Ls (.take x) = if namedL nx bs ks Ls x = true then some (.sn, x) else none := if_neg (fun z => z mx)
      refine ⟨_, rfl, dd, _, 1, _, rfl, rfl, SqT.of hd1, rfl, ?_⟩
      refine ⟨_, rfl, dd, _, 0, _, rfl, rfl, SqT.of hd1, rfl, rfl, _, rfl, iteF' (by decide +kernel) ?_⟩
      refine ⟨_, rfl, dd, _, 0, _, rfl, rfl, SqT.of hd1, rfl, rfl, _, rfl, iteF' (by decide +kernel) ?_⟩
      refine ⟨_, rfl, dd, _, 0, _, rfl, rfl, SqT.of hd1, rfl, rfl, _, rfl, iteF' (by decide +kernel) ?_⟩
      refine ⟨_, rfl, dd, _, 0, _, rfl, rfl, SqT.of hd1, rfl, rfl, _, rfl, iteF' (by decide +kernel) ?_⟩
      refine ⟨_, rfl, _, rfl, _, rfl, _, rfl, dN, dB, pO, x, nx, bs, ps, ks, Ls, rfl, hN1, hB1, hP1, gn, by omega, sd.gd.ok, la.same s1, by omega, fun H2 s2 => ⟨_, rfl, ?_⟩⟩
      have s12 := Same.trans s1 s2
      by_cases nm : namedL nx bs ks Ls x = true
      · refine iteT' nm ⟨_, rfl, lenL (by show 3 ≤ 100000; decide), fun a na => ?_⟩
        exact q2 .sn x (du.trans (if_pos nm)) a _ (Same.trans s12 (same_upd na)) upd_same
      · refine iteF' (Bool.eq_false_iff.mpr nm) ?_
        have hN2 := s12 _ _ hN
        refine ⟨_, rfl, dN, rfl, .inl ⟨_, .inl hN2⟩, _, rfl, _, .inl x, _, hN2, rfl, ev, ?_⟩
        have f3 : ∀ b o, b ≠ dN → H b = some o → upd H2 dN (.dK (dropK nx (.inl x))) b = some o := fun b o nb e => (upd_ne nb).trans (s12 _ _ e)
        have hN3 : upd H2 dN (.dK (dropK nx (.inl x))) dN = some (.dK (dropK nx (.inl x))) := upd_same
        generalize upd H2 dN (.dK (dropK nx (.inl x))) = H3 at f3 hN3
        refine ⟨_, rfl, _, rfl, dB, _, rfl, DPut.k (k := Sum.inl x) (f3 _ _ nNB.symm hB) (small1000' (by omega)), ?_⟩
        refine ⟨lenL (by show 2 ≤ 100000; decide), fun a na => ?_⟩
        have s3 := same_upd (o := .tup [.str "done", .non]) na
        have f4 : ∀ b o, b ≠ dN → b ≠ dB → H b = some o → upd H3 dB (.dK (putK bs (.inl x) .non)) b = some o := fun b o n1 n2 e => (upd_ne n2).trans (f3 _ _ n1 e)
        refine q1 (du.trans (if_neg nm)) a .non ps _ ⟨rfl, rfl⟩ upd_same (s3 _ _ ((upd_ne nNB).trans hN3)) (s3 _ _ upd_same) (s3 _ _ (f4 _ _ nNP.symm nBP.symm hP)) (la.mono fun b xs e => s3 _ _ (f4 _ _ (ne_kind e hN (fun z => nomatch z)) (ne_kind e hB (fun z => nomatch z)) e)) fun b o n1 n2 _ e => s3 _ _ (f4 _ _ n1 n2 e)
    | tell x =>
      have eus : us = [.int x] := (List.cons.inj hD).2.symm
      rw [eus] at hf
      obtain ⟨mx, _⟩ := fstB_int hf
      obtain ⟨v, mv, ev⟩ := gn.2 x mx
      have hu : dueE n nx bs ks Ls (.tell x) = none := if_neg (fun z => z mx)
      have tl := tl "tell" x (.tell (iN nx x) x) rfl rfl rfl rfl rfl hu H1 s1
      rw [iN_of ev] at tl
      refine ⟨_, rfl, dd, _, 1, _, rfl, rfl, SqT.of hd1, rfl, ?_⟩
      refine ⟨_, rfl, dd, _, 0, _, rfl, rfl, SqT.of hd1, rfl, rfl, _, rfl, iteF' (by decide +kernel) ?_⟩
      refine ⟨_, rfl, dd, _, 0, _, rfl, rfl, SqT.of hd1, rfl, rfl, _, rfl, iteF' (by decide +kernel) ?_⟩
      refine ⟨_, rfl, dd, _, 0, _, rfl, rfl, SqT.of hd1, rfl, rfl, _, rfl, iteT' (by decide +kernel) (iteT ?_)⟩
      refine ⟨_, rfl, .inl ⟨rfl, _, SqL.of hP1⟩, _, rfl, dd, _, 0, _, rfl, rfl, SqT.of hd1, rfl, _, rfl, _, rfl, dN, _, rfl, dget_of (k := Sum.inl x) hN1 ev, _, rfl, lenL (by show 3 ≤ 100000; decide), fun l nl => ?_⟩
      refine ⟨pO, _, _, rfl, rfl, (upd_ne (ne_of_none hP1 nl)).trans hP1, small1000' (by omega), ?_⟩
      exact ⟨_, rfl, 1, rfl, pO, _, -1, _, rfl, rfl, SqL.of upd_same, atI_last _ _, lenL (by show 2 ≤ 100000; decide), tl l nl⟩
    | ask x =>
      have eus : us = [.int x] := (List.cons.inj hD).2.symm
      rw [eus] at hf
      obtain ⟨mx, _⟩ := fstB_int hf
      obtain ⟨v, mv, ev⟩ := gn.2 x mx
      have hu : dueE n nx bs ks Ls (.ask x) = none := if_neg (fun z => z mx)
      have tl := tl "ask" x (.ask (iN nx x) x) rfl rfl rfl rfl rfl hu H1 s1
      rw [iN_of ev] at tl
      refine ⟨_, rfl, dd, _, 1, _, rfl, rfl, SqT.of hd1, rfl, ?_⟩
      refine ⟨_, rfl, dd, _, 0, _, rfl, rfl, SqT.of hd1, rfl, rfl, _, rfl, iteF' (by decide +kernel) ?_⟩
      refine ⟨_, rfl, dd, _, 0, _, rfl, rfl, SqT.of hd1, rfl, rfl, _, rfl, iteF' (by decide +kernel) ?_⟩
      refine ⟨_, rfl, dd, _, 0, _, rfl, rfl, SqT.of hd1, rfl, rfl, _, rfl, iteF' (by decide +kernel) ?_⟩
      refine ⟨_, rfl, dd, _, 0, _, rfl, rfl, SqT.of hd1, rfl, rfl, _, rfl, iteT' (by decide +kernel) ?_⟩
      refine ⟨_, rfl, .inl ⟨rfl, _, SqL.of hP1⟩, _, rfl, dd, _, 0, _, rfl, rfl, SqT.of hd1, rfl, _, rfl, _, rfl, dN, _, rfl, dget_of (k := Sum.inl x) hN1 ev, _, rfl, lenL (by show 3 ≤ 100000; decide), fun l nl => ?_⟩
      refine ⟨pO, _, _, rfl, rfl, (upd_ne (ne_of_none hP1 nl)).trans hP1, small1000' (by omega), ?_⟩
      exact ⟨_, rfl, 1, rfl, pO, _, -1, _, rfl, rfl, SqL.of upd_same, atI_last _ _, lenL (by show 2 ≤ 100000; decide), tl l nl⟩
--CUT
/-! ### a deed done -/
def dsp (K : PySem.W.Frag) (C : Addr) (f : Ek → Addr) : Dd → Addr → Hp → VK → XK → Prop
  | .admit x y, h, H, Q, E => sp_Net__admit C [.ref h, .int x, .int y] H Q E ∨ sp_r_admit C f [.ref h, .int x, .int y] H Q E
  | .hold x y, h, H, Q, E => sp_Net__hold C [.ref h, .int x, .int y] H Q E ∨ sp_r_hold C (f .nh) [.ref h, .int x, .int y] H Q E
  | .before x b, h, H, Q, E => sp_Net__set_before C [.ref h, .int x, oV b] H Q E ∨ sp_r_setb C (f .nh) [.ref h, .int x, oV b] H Q E
  | .take x, h, H, Q, E => sp_Net__take_out C [.ref h, .int x] H Q E ∨ sp_r_take C f [.ref h, .int x] H Q E
  | .tell x, h, H, Q, E => sp_Net__say C "tell" [.ref h, .int x] H Q E ∨ sp_rNet__house C (f .nh) [.ref h, .int x] H Q E
  | .ask x, h, H, Q, E => sp_Net__say C "ask" [.ref h, .int x] H Q E ∨ sp_rNet__house C (f .nh) [.ref h, .int x] H Q E
  | .lose k, h, H, Q, E => sp_Net__lose C [.ref h, .int (k : Int)] H Q E
  | .rep k, h, H, Q, E => sp_Net__repeat C [.ref h, .int (k : Int)] H Q E
  | .read k, h, H, Q, E => sp_Net__read K C [.ref h, .int (k : Int)] H Q E
def sp_x_law_call (K : PySem.W.Frag) (C : Addr) (f : Ek → Addr) : Sp := fun vs H Q E => ∃ (h dn db dl a : Addr) (n : Int) (nx bf : List (Key × V)) (ls : List V) (D : Dd), vs = [.ref h, .ref a] ∧ NetAt C H h n dn db dl nx bf ls ∧ H a = some (.tup D.vals) ∧ dsp K C f D h H Q E
theorem T0.okx__law_call (T : T0 K mg) : FnOk P w K mg base (L2N.CX P w) 7 T.a__law_call T.fd__law_call ["net", "deed"] (sp_x_law_call K T.C_Net T.cE) := by
  refine Fun_okN T.F__law_call sc__law_call (fun vs H Q E h => ?_) (fun cdv A outer s H vs Q E hr h => ?_)
  · obtain ⟨h, dn, db, dl, a, n, nx, bf, ls, D, rfl, _⟩ := h
    rfl
  · obtain ⟨h, dn, db, dl, a, n, nx, bf, ls, D, rfl, hN, ha, q⟩ := h
    obtain ⟨dx, hh⟩ := hN.me
    refine ⟨_, (pss_cons (ps_if (pt_cmpR op_eq (pe_ix (ix_tupK (K := K)) (pv 1) pe_int (fun _ _ => rfl)) pe_str (nomark _)) (pss_one (ps_ret (pe_methN (pv 0) T.cl_Net T.me_Net__admit T.okx_Net__admit (hr.mono (by decide)) T.b_Net__admit (fun σ => L2N.passAt (L2N.takes_of rfl rfl rfl rfl) σ) (pa_cons (pe_ix (ix_tupK (K := K)) (pv 1) pe_int (fun _ _ => rfl)) (pa_cons (pe_ix (ix_tupK (K := K)) (pv 1) pe_int (fun _ _ => rfl)) pa_nil))))) pss_nil)
        (pss_cons (ps_if (pt_cmpR op_eq (pe_ix (ix_tupK (K := K)) (pv 1) pe_int (fun _ _ => rfl)) pe_str (nomark _)) (pss_one (ps_ret (pe_methN (pv 0) T.cl_Net T.me_Net__hold T.okx_Net__hold (hr.mono (by decide)) T.b_Net__hold (fun σ => L2N.passAt (L2N.takes_of rfl rfl rfl rfl) σ) (pa_cons (pe_ix (ix_tupK (K := K)) (pv 1) pe_int (fun _ _ => rfl)) (pa_cons (pe_ix (ix_tupK (K := K)) (pv 1) pe_int (fun _ _ => rfl)) pa_nil))))) pss_nil)
        (pss_cons (ps_if (pt_cmpR op_eq (pe_ix (ix_tupK (K := K)) (pv 1) pe_int (fun _ _ => rfl)) pe_str (nomark _)) (pss_one (ps_ret (pe_methN (pv 0) T.cl_Net T.me_Net__set_before T.okx_Net__set_before (hr.mono (by decide)) T.b_Net__set_before (fun σ => L2N.passAt (L2N.takes_of rfl rfl rfl rfl) σ) (pa_cons (pe_ix (ix_tupK (K := K)) (pv 1) pe_int (fun _ _ => rfl)) (pa_cons (pe_ix (ix_tupK (K := K)) (pv 1) pe_int (fun _ _ => rfl)) pa_nil))))) pss_nil)
        (pss_cons (ps_if (pt_cmpR op_eq (pe_ix (ix_tupK (K := K)) (pv 1) pe_int (fun _ _ => rfl)) pe_str (nomark _)) (pss_one (ps_ret (pe_methN (pv 0) T.cl_Net T.me_Net__take_out T.okx_Net__take_out (hr.mono (by decide)) T.b_Net__take_out (fun σ => L2N.passAt (L2N.takes_of rfl rfl rfl rfl) σ) (pa_cons (pe_ix (ix_tupK (K := K)) (pv 1) pe_int (fun _ _ => rfl)) pa_nil)))) pss_nil)
        (pss_cons (ps_if (pt_cmpR op_eq (pe_ix (ix_tupK (K := K)) (pv 1) pe_int (fun _ _ => rfl)) pe_str (nomark _)) (pss_one (ps_ret (pe_methN (pv 0) T.cl_Net T.me_Net__tell T.okx_Net__tell (hr.mono (by decide)) T.b_Net__tell (fun σ => L2N.passAt (L2N.takes_of rfl rfl rfl rfl) σ) (pa_cons (pe_ix (ix_tupK (K := K)) (pv 1) pe_int (fun _ _ => rfl)) pa_nil)))) pss_nil)
        (pss_cons (ps_if (pt_cmpR op_eq (pe_ix (ix_tupK (K := K)) (pv 1) pe_int (fun _ _ => rfl)) pe_str (nomark _)) (pss_one (ps_ret (pe_methN (pv 0) T.cl_Net T.me_Net__ask T.okx_Net__ask (hr.mono (by decide)) T.b_Net__ask (fun σ => L2N.passAt (L2N.takes_of rfl rfl rfl rfl) σ) (pa_cons (pe_ix (ix_tupK (K := K)) (pv 1) pe_int (fun _ _ => rfl)) pa_nil)))) pss_nil)
        (pss_cons (ps_if (pt_cmpR op_eq (pe_ix (ix_tupK (K := K)) (pv 1) pe_int (fun _ _ => rfl)) pe_str (nomark _)) (pss_one (ps_ret (pe_methN (pv 0) T.cl_Net T.me_Net__read T.okx_Net__read (hr.mono (by decide)) T.b_Net__read (fun σ => L2N.passAt (L2N.takes_of rfl rfl rfl rfl) σ) (pa_cons (pe_ix (ix_tupK (K := K)) (pv 1) pe_int (fun _ _ => rfl)) pa_nil)))) pss_nil)
        (pss_cons (ps_if (pt_cmpR op_eq (pe_ix (ix_tupK (K := K)) (pv 1) pe_int (fun _ _ => rfl)) pe_str (nomark _)) (pss_one (ps_ret (pe_methN (pv 0) T.cl_Net T.me_Net__repeat T.okx_Net__repeat (hr.mono (by decide)) T.b_Net__repeat (fun σ => L2N.passAt (L2N.takes_of rfl rfl rfl rfl) σ) (pa_cons (pe_ix (ix_tupK (K := K)) (pv 1) pe_int (fun _ _ => rfl)) pa_nil)))) pss_nil)
        (pss_one (ps_ret (pe_methN (pv 0) T.cl_Net T.me_Net__lose T.okx_Net__lose (hr.mono (by decide)) T.b_Net__lose (fun σ => L2N.passAt (L2N.takes_of rfl rfl rfl rfl) σ) (pa_cons (pe_ix (ix_tupK (K := K)) (pv 1) pe_int (fun _ _ => rfl)) pa_nil)))))))))))), ?_⟩
    cases D with
    | admit x y =>
      refine ⟨_, rfl, a, _, 0, _, rfl, rfl, SqT.of ha, rfl, rfl, _, rfl, iteT' (by decide +kernel) ?_⟩
      exact ⟨_, rfl, h, dx, _, rfl, hh, (by unfold nf; walk_at "lk"), _, rfl, a, _, 1, _, rfl, rfl, SqT.of ha, rfl, _, rfl, a, _, 2, _, rfl, rfl, SqT.of ha, rfl, q⟩
    | hold x y =>
      refine ⟨_, rfl, a, _, 0, _, rfl, rfl, SqT.of ha, rfl, rfl, _, rfl, iteF' (by decide +kernel) ?_⟩
      refine ⟨_, rfl, a, _, 0, _, rfl, rfl, SqT.of ha, rfl, rfl, _, rfl, iteT' (by decide +kernel) ?_⟩
      exact ⟨_, rfl, h, dx, _, rfl, hh, (by unfold nf; walk_at "lk"), _, rfl, a, _, 1, _, rfl, rfl, SqT.of ha, rfl, _, rfl, a, _, 2, _, rfl, rfl, SqT.of ha, rfl, q⟩
    | before x b =>
      refine ⟨_, rfl, a, _, 0, _, rfl, rfl, SqT.of ha, rfl, rfl, _, rfl, iteF' (by decide +kernel) ?_⟩
      refine ⟨_, rfl, a, _, 0, _, rfl, rfl, SqT.of ha, rfl, rfl, _, rfl, iteF' (by decide +kernel) ?_⟩
      refine ⟨_, rfl, a, _, 0, _, rfl, rfl, SqT.of ha, rfl, rfl, _, rfl, iteT' (by decide +kernel) ?_⟩
      exact ⟨_, rfl, h, dx, _, rfl, hh, (by unfold nf; walk_at "lk"), _, rfl, a, _, 1, _, rfl, rfl, SqT.of ha, rfl, _, rfl, a, _, 2, oV b, rfl, rfl, SqT.of ha, rfl, q⟩
    | take x =>
      refine ⟨_, rfl, a, _, 0, _, rfl, rfl, SqT.of ha, rfl, rfl, _, rfl, iteF' (by decide +kernel) ?_⟩
      refine ⟨_, rfl, a, _, 0, _, rfl, rfl, SqT.of ha, rfl, rfl, _, rfl, iteF' (by decide +kernel) ?_⟩
      refine ⟨_, rfl, a, _, 0, _, rfl, rfl, SqT.of ha, rfl, rfl, _, rfl, iteF' (by decide +kernel) ?_⟩
      refine ⟨_, rfl, a, _, 0, _, rfl, rfl, SqT.of ha, rfl, rfl, _, rfl, iteT' (by decide +kernel) ?_⟩
      exact ⟨_, rfl, h, dx, _, rfl, hh, (by unfold nf; walk_at "lk"), _, rfl, a, _, 1, _, rfl, rfl, SqT.of ha, rfl, q⟩
    | tell x =>
      refine ⟨_, rfl, a, _, 0, _, rfl, rfl, SqT.of ha, rfl, rfl, _, rfl, iteF' (by decide +kernel) ?_⟩
      refine ⟨_, rfl, a, _, 0, _, rfl, rfl, SqT.of ha, rfl, rfl, _, rfl, iteF' (by decide +kernel) ?_⟩
      refine ⟨_, rfl, a, _, 0, _, rfl, rfl, SqT.of ha, rfl, rfl, _, rfl, iteF' (by decide +kernel) ?_⟩
      refine ⟨_, rfl, a, _, 0, _, rfl, rfl, SqT.of ha, rfl, rfl, _, rfl, iteF' (by decide +kernel) ?_⟩
      refine ⟨_, rfl, a, _, 0, _, rfl, rfl, SqT.of ha, rfl, rfl, _, rfl, iteT' (by decide +kernel) ?_⟩
      exact ⟨_, rfl, h, dx, _, rfl, hh, (by unfold nf; walk_at "lk"), _, rfl, a, _, 1, _, rfl, rfl, SqT.of ha, rfl, q⟩
    | ask x =>
      refine ⟨_, rfl, a, _, 0, _, rfl, rfl, SqT.of ha, rfl, rfl, _, rfl, iteF' (by decide +kernel) ?_⟩
      refine ⟨_, rfl, a, _, 0, _, rfl, rfl, SqT.of ha, rfl, rfl, _, rfl, iteF' (by decide +kernel) ?_⟩
      refine ⟨_, rfl, a, _, 0, _, rfl, rfl, SqT.of ha, rfl, rfl, _, rfl, iteF' (by decide +kernel) ?_⟩
      refine ⟨_, rfl, a, _, 0, _, rfl, rfl, SqT.of ha, rfl, rfl, _, rfl, iteF' (by decide +kernel) ?_⟩
      refine ⟨_, rfl, a, _, 0, _, rfl, rfl, SqT.of ha, rfl, rfl, _, rfl, iteF' (by decide +kernel) ?_⟩
      refine ⟨_, rfl, a, _, 0, _, rfl, rfl, SqT.of ha, rfl, rfl, _, rfl, iteT' (by decide +kernel) ?_⟩
      exact ⟨_, rfl, h, dx, _, rfl, hh, (by unfold nf; walk_at "lk"), _, rfl, a, _, 1, _, rfl, rfl, SqT.of ha, rfl, q⟩
    | read k =>
      refine ⟨_, rfl, a, _, 0, _, rfl, rfl, SqT.of ha, rfl, rfl, _, rfl, iteF' (by decide +kernel) ?_⟩
      refine ⟨_, rfl, a, _, 0, _, rfl, rfl, SqT.of ha, rfl, rfl, _, rfl, iteF' (by decide +kernel) ?_⟩
      refine ⟨_, rfl, a, _, 0, _, rfl, rfl, SqT.of ha, rfl, rfl, _, rfl, iteF' (by decide +kernel) ?_⟩
      refine ⟨_, rfl, a, _, 0, _, rfl, rfl, SqT.of ha, rfl, rfl, _, rfl, iteF' (by decide +kernel) ?_⟩
      refine ⟨_, rfl, a, _, 0, _, rfl, rfl, SqT.of ha, rfl, rfl, _, rfl, iteF' (by decide +kernel) ?_⟩
      refine ⟨_, rfl, a, _, 0, _, rfl, rfl, SqT.of ha, rfl, rfl, _, rfl, iteF' (by decide +kernel) ?_⟩
      refine ⟨_, rfl, a, _, 0, _, rfl, rfl, SqT.of ha, rfl, rfl, _, rfl, iteT' (by decide +kernel) ?_⟩
      exact ⟨_, rfl, h, dx, _, rfl, hh, (by unfold nf; walk_at "lk"), _, rfl, a, _, 1, _, rfl, rfl, SqT.of ha, rfl, q⟩
    | rep k =>
      refine ⟨_, rfl, a, _, 0, _, rfl, rfl, SqT.of ha, rfl, rfl, _, rfl, iteF' (by decide +kernel) ?_⟩
      refine ⟨_, rfl, a, _, 0, _, rfl, rfl, SqT.of ha, rfl, rfl, _, rfl, iteF' (by decide +kernel) ?_⟩
      refine ⟨_, rfl, a, _, 0, _, rfl, rfl, SqT.of ha, rfl, rfl, _, rfl, iteF' (by decide +kernel) ?_⟩
      refine ⟨_, rfl, a, _, 0, _, rfl, rfl, SqT.of ha, rfl, rfl, _, rfl, iteF' (by decide +kernel) ?_⟩
      refine ⟨_, rfl, a, _, 0, _, rfl, rfl, SqT.of ha, rfl, rfl, _, rfl, iteF' (by decide +kernel) ?_⟩
      refine ⟨_, rfl, a, _, 0, _, rfl, rfl, SqT.of ha, rfl, rfl, _, rfl, iteF' (by decide +kernel) ?_⟩
      refine ⟨_, rfl, a, _, 0, _, rfl, rfl, SqT.of ha, rfl, rfl, _, rfl, iteF' (by decide +kernel) ?_⟩
      refine ⟨_, rfl, a, _, 0, _, rfl, rfl, SqT.of ha, rfl, rfl, _, rfl, iteT' (by decide +kernel) ?_⟩
      exact ⟨_, rfl, h, dx, _, rfl, hh, (by unfold nf; walk_at "lk"), _, rfl, a, _, 1, _, rfl, rfl, SqT.of ha, rfl, q⟩
    | lose k =>
      refine ⟨_, rfl, a, _, 0, _, rfl, rfl, SqT.of ha, rfl, rfl, _, rfl, iteF' (by decide +kernel) ?_⟩
      refine ⟨_, rfl, a, _, 0, _, rfl, rfl, SqT.of ha, rfl, rfl, _, rfl, iteF' (by decide +kernel) ?_⟩
      refine ⟨_, rfl, a, _, 0, _, rfl, rfl, SqT.of ha, rfl, rfl, _, rfl, iteF' (by decide +kernel) ?_⟩
      refine ⟨_, rfl, a, _, 0, _, rfl, rfl, SqT.of ha, rfl, rfl, _, rfl, iteF' (by decide +kernel) ?_⟩
      refine ⟨_, rfl, a, _, 0, _, rfl, rfl, SqT.of ha, rfl, rfl, _, rfl, iteF' (by decide +kernel) ?_⟩
      refine ⟨_, rfl, a, _, 0, _, rfl, rfl, SqT.of ha, rfl, rfl, _, rfl, iteF' (by decide +kernel) ?_⟩
      refine ⟨_, rfl, a, _, 0, _, rfl, rfl, SqT.of ha, rfl, rfl, _, rfl, iteF' (by decide +kernel) ?_⟩
      refine ⟨_, rfl, a, _, 0, _, rfl, rfl, SqT.of ha, rfl, rfl, _, rfl, iteF' (by decide +kernel) ?_⟩
      exact ⟨_, rfl, h, dx, _, rfl, hh, (by unfold nf; walk_at "lk"), _, rfl, a, _, 1, _, rfl, rfl, SqT.of ha, rfl, q⟩
theorem dsp_of {C h dn db dl : Addr} {f : Ek → Addr} {n : Int} {nx bs bf : List (Key × V)} {ls : List V} {ks : List Int} {Ls : List Let} {D : Dd} {H : Hp} {Q : VK} {E : XK} (N : NetAt C H h n dn db dl nx bf ls) (sd : Snd n ks nx bs bf Ls) (la : LAt Let.vals H ls Ls) (ok : D.ok Ls.length) (l40 : ks.length ≤ 40) (lbf : bf.length ≤ 900) (l60 : ls.length ≤ 60) (n0 : 0 < n) (dbn : db ≠ dn)
    (hq : dueE n nx bs ks Ls D = none → ∀ v ls' H', RV.ok H' v (resD n nx bs Ls D) → NetAt C H' h n dn db dl (stN n nx bs Ls D) (stF n bf bs Ls D) ls' → LAt Let.vals H' ls' (stL n nx bs Ls D) → (∀ b o, b ≠ dn → b ≠ db → b ≠ dl → H b = some o → H' b = some o) → Q v H')
    (he : ∀ k p, dueE n nx bs ks Ls D = some (k, p) → Rz (f k) p H E) : dsp K C f D h H Q E := by
  have gn := sd.gn
  have lnx : nx.length = ks.length := by have := congrArg List.length gn.1; rw [List.length_map, List.length_map] at this; exact this
  have ldn : dl ≠ dn := ne_kind N.hl N.hn (fun z => nomatch z)
  have ldb : dl ≠ db := ne_kind N.hl N.hb (fun z => nomatch z)
  have no : ∀ {x : Int}, x ∉ ks → valV nx (.inl x) = none := fun c => valV_none_keys gn.1 c
  have ys : ∀ {x : Int}, x ∈ ks → (valV nx (.inl x)).isSome = true := fun c => valV_some_keys gn.1 c
  have kt : ∀ {H' : Hp}, (∀ b o, b ≠ dn → b ≠ db → b ≠ dl → H b = some o → H' b = some o) → ∀ b xs, H b = some (.tup xs) → H' b = some (.tup xs) := fun f b xs e => f _ _ (ne_kind e N.hn (fun z => nomatch z)) (ne_kind e N.hb (fun z => nomatch z)) (ne_kind e N.hl (fun z => nomatch z)) e
  cases D with
  | admit x y =>
    have du : dueE n nx bs ks Ls (.admit x y) = if ¬ (0 ≤ x ∧ x < n) then some (.oc, x) else if x ∈ ks then some (.tp, x) else if y ∉ ks ∧ y ≠ x then some (.nh, y) else none := rfl
    by_cases c1 : ¬ (0 ≤ x ∧ x < n)
    · rw [if_pos c1] at du
      exact .inr ⟨h, dn, db, dl, n, x, y, nx, bf, ls, rfl, N, .inl ⟨by omega, he _ _ du⟩⟩
    rw [if_neg c1] at du
    have c1 := Decidable.not_not.mp c1
    by_cases c2 : x ∈ ks
    · rw [if_pos c2] at du
      exact .inr ⟨h, dn, db, dl, n, x, y, nx, bf, ls, rfl, N, .inr (.inl ⟨c1.1, c1.2, ys c2, he _ _ du⟩)⟩
    rw [if_neg c2] at du
    by_cases c3 : y ∉ ks ∧ y ≠ x
    · rw [if_pos c3] at du
      exact .inr ⟨h, dn, db, dl, n, x, y, nx, bf, ls, rfl, N, .inr (.inr ⟨c1.1, c1.2, no c2, c3.2, no c3.1, he _ _ du⟩)⟩
    rw [if_neg c3] at du
    refine .inl ⟨h, dn, db, dl, n, x, y, nx, bf, ls, rfl, N, c1.1, c1.2, no c2, fun e => ys (Decidable.byContradiction fun z => c3 ⟨z, e⟩), dbn, by omega, by omega, ?_⟩
    have f2 : ∀ b o, b ≠ dn → b ≠ db → b ≠ dl → H b = some o → upd (upd H dn (.dK (putK nx (.inl x) (.int y)))) db (.dK (putK bf (.inl x) .non)) b = some o := fun b o n1 n2 _ e => (upd_ne n2).trans ((upd_ne n1).trans e)
    exact hq du .non ls _ ⟨rfl, rfl⟩ ((N.setn dbn).setb dbn) (la.mono (kt f2)) f2
  | hold x y =>
    have du : dueE n nx bs ks Ls (.hold x y) = if x ∉ ks then some (.nh, x) else if y ∉ ks then some (.nh, y) else none := rfl
    by_cases c1 : x ∉ ks
    · rw [if_pos c1] at du
      exact .inr ⟨h, dn, db, dl, n, x, y, nx, bf, ls, rfl, N, .inl ⟨no c1, he _ _ du⟩⟩
    rw [if_neg c1] at du
    have c1 := Decidable.not_not.mp c1
    by_cases c2 : y ∉ ks
    · rw [if_pos c2] at du
      exact .inr ⟨h, dn, db, dl, n, x, y, nx, bf, ls, rfl, N, .inr ⟨ys c1, no c2, he _ _ du⟩⟩
    rw [if_neg c2] at du
    obtain ⟨v, mv, ev⟩ := gn.2 x c1
    refine .inl ⟨h, dn, db, dl, n, x, y, .int v, nx, bf, ls, rfl, N, ev, ys (Decidable.not_not.mp c2), by omega, ?_⟩
    have f2 : ∀ b o, b ≠ dn → b ≠ db → b ≠ dl → H b = some o → upd H dn (.dK (putK nx (.inl x) (.int y))) b = some o := fun b o n1 _ _ e => (upd_ne n1).trans e
    exact hq du (.int v) ls _ ⟨by rw [iN_of ev], rfl⟩ (N.setn dbn) (la.mono (kt f2)) f2
  | before x b =>
    by_cases c1 : x ∉ ks
    · exact .inr ⟨h, dn, db, dl, n, x, oV b, nx, bf, ls, rfl, N, .inl ⟨no c1, he _ _ (if_pos c1)⟩⟩
    have c1' := Decidable.not_not.mp c1
    have f2 : ∀ c o, c ≠ dn → c ≠ db → c ≠ dl → H c = some o → upd H db (.dK (putK bf (.inl x) (oV b))) c = some o := fun c o _ n2 _ e => (upd_ne n2).trans e
    cases b with
    | none => exact .inl ⟨h, dn, db, dl, n, x, .non, nx, bf, ls, rfl, N, ys c1', .inl rfl, by omega, hq (if_neg c1) .non ls _ ⟨rfl, rfl⟩ (N.setb dbn) (la.mono (kt f2)) f2⟩
    | some y =>
      have du : dueE n nx bs ks Ls (.before x (some y)) = if y ∉ ks then some (.nh, y) else none := if_neg c1
      by_cases c2 : y ∉ ks
      · rw [if_pos c2] at du
        exact .inr ⟨h, dn, db, dl, n, x, .int y, nx, bf, ls, rfl, N, .inr ⟨ys c1', y, rfl, no c2, he _ _ du⟩⟩
      rw [if_neg c2] at du
      exact .inl ⟨h, dn, db, dl, n, x, .int y, nx, bf, ls, rfl, N, ys c1', .inr ⟨y, rfl, ys (Decidable.not_not.mp c2)⟩, by omega, hq du .non ls _ ⟨rfl, rfl⟩ (N.setb dbn) (la.mono (kt f2)) f2⟩
  | take x =>
    have vN : ∀ k ∈ ks, ∃ x, valV nx (.inl k) = some (.int x) := fun k hk => let ⟨x, _, e⟩ := gn.2 k hk; ⟨x, e⟩
    have vB : ∀ k ∈ ks, ∃ b, valV bf (.inl k) = some b ∧ okB b := fun k hk => ⟨_, sd.vf k hk, sd.gd.ok k⟩
    by_cases c1 : x ∉ ks
    · exact .inr ⟨h, dn, db, dl, n, x, nx, bf, ls, ks, Ls, rfl, N, gn.1, by omega, vN, vB, la, by omega, .inl ⟨no c1, he _ _ (if_pos c1)⟩⟩
    have du : dueE n nx bs ks Ls (.take x) = if namedL nx bs ks Ls x = true then some (.sn, x) else none := if_neg c1
    have c1 := Decidable.not_not.mp c1
    have ne := named_eq (Ls := Ls) (p := x) gn sd.vf sd.gd.ok
    by_cases c2 : namedL nx bs ks Ls x = true
    · rw [if_pos c2] at du
      exact .inr ⟨h, dn, db, dl, n, x, nx, bf, ls, ks, Ls, rfl, N, gn.1, by omega, vN, vB, la, by omega, .inr ⟨c1, ne.trans c2, he _ _ du⟩⟩
    rw [if_neg c2] at du
    refine .inl ⟨h, dn, db, dl, n, x, nx, bf, ls, ks, Ls, rfl, N, gn.1, by omega, vN, vB, la, by omega, c1, dbn, ne.trans (Bool.eq_false_iff.mpr c2), fun H' N' f' => ?_⟩
    have f2 : ∀ c o, c ≠ dn → c ≠ db → c ≠ dl → H c = some o → H' c = some o := fun c o n1 n2 _ e => f' c o n1 n2 e
    exact hq du .non ls H' ⟨rfl, rfl⟩ N' (la.mono (kt f2)) f2
  | tell x =>
    by_cases c1 : x ∉ ks
    · exact .inr ⟨h, dn, db, dl, n, x, nx, bf, ls, rfl, N, no c1, (he _ _ (if_pos c1)).now⟩
    have hu : dueE n nx bs ks Ls (.tell x) = none := if_neg c1
    obtain ⟨v, mv, ev⟩ := gn.2 x (Decidable.not_not.mp c1)
    refine .inl ⟨h, dn, db, dl, n, x, v, bef bs x, nx, bf, ls, rfl, N, ev, sd.vf x (Decidable.not_not.mp c1), by omega, fun H1 l s1 nl el => ?_⟩
    have N1 := (N.same s1).setl (ls' := ls ++ [.ref l])
    have nld : l ≠ dl := fun z => by rw [z, (N.same s1).hl] at el; cases el
    have el2 := (upd_ne (o := .lst (ls ++ [.ref l])) nld).trans el
    have f2 : ∀ c o, c ≠ dn → c ≠ db → c ≠ dl → H c = some o → upd H1 dl (.lst (ls ++ [.ref l])) c = some o := fun c o _ _ nc e => (upd_ne nc).trans (s1 _ _ e)
    have eL : upd H1 dl (.lst (ls ++ [.ref l])) l = some (.tup (Let.tell (iN nx x) x).vals) := by rw [el2, iN_of ev]; rfl
    exact hq hu (.ref l) (ls ++ [V.ref l]) _ ⟨l, rfl, eL, (vals_atom _).1, (vals_atom _).2⟩ N1 ((la.mono (kt f2)).app eL) f2
  | ask x =>
    by_cases c1 : x ∉ ks
    · exact .inr ⟨h, dn, db, dl, n, x, nx, bf, ls, rfl, N, no c1, (he _ _ (if_pos c1)).now⟩
    have hu : dueE n nx bs ks Ls (.ask x) = none := if_neg c1
    obtain ⟨v, mv, ev⟩ := gn.2 x (Decidable.not_not.mp c1)
    refine .inl ⟨h, dn, db, dl, n, x, v, bef bs x, nx, bf, ls, rfl, N, ev, sd.vf x (Decidable.not_not.mp c1), by omega, fun H1 l s1 nl el => ?_⟩
    have N1 := (N.same s1).setl (ls' := ls ++ [.ref l])
    have nld : l ≠ dl := fun z => by rw [z, (N.same s1).hl] at el; cases el
    have el2 := (upd_ne (o := .lst (ls ++ [.ref l])) nld).trans el
    have f2 : ∀ c o, c ≠ dn → c ≠ db → c ≠ dl → H c = some o → upd H1 dl (.lst (ls ++ [.ref l])) c = some o := fun c o _ _ nc e => (upd_ne nc).trans (s1 _ _ e)
    have eL : upd H1 dl (.lst (ls ++ [.ref l])) l = some (.tup (Let.ask (iN nx x) x).vals) := by rw [el2, iN_of ev]; rfl
    exact hq hu (.ref l) (ls ++ [V.ref l]) _ ⟨l, rfl, eL, (vals_atom _).1, (vals_atom _).2⟩ N1 ((la.mono (kt f2)).app eL) f2
  | lose k =>
    have hk : k < ls.length := by rw [la.1]; exact ok
    obtain ⟨b, L, hL, eb, eL⟩ := la.at (List.getElem?_eq_getElem hk)
    have f2 : ∀ c o, c ≠ dn → c ≠ db → c ≠ dl → H c = some o → upd H dl (.lst (ls.eraseIdx k)) c = some o := fun c o _ _ nc e => (upd_ne nc).trans e
    refine ⟨h, dn, db, dl, n, k, _, nx, bf, ls, rfl, N, List.getElem?_eq_getElem hk, by omega, hq rfl _ _ _ ?_ N.setl ((la.mono (kt f2)).erase k) f2⟩
    rw [res_lose hL]
    exact ⟨b, eb, kt f2 _ _ eL, (vals_atom L).1, (vals_atom L).2⟩
  | rep k =>
    have hk : k < ls.length := by rw [la.1]; exact ok
    obtain ⟨b, L, hL, eb, eL⟩ := la.at (List.getElem?_eq_getElem hk)
    have f2 : ∀ c o, c ≠ dn → c ≠ db → c ≠ dl → H c = some o → upd H dl (.lst (ls ++ [ls[k]])) c = some o := fun c o _ _ nc e => (upd_ne nc).trans e
    refine ⟨h, dn, db, dl, n, k, _, nx, bf, ls, rfl, N, List.getElem?_eq_getElem hk, by omega, hq rfl _ _ _ ?_ N.setl ((la.mono (kt f2)).rep (List.getElem?_eq_getElem hk)) f2⟩
    rw [res_rep hL]
    exact ⟨b, eb, kt f2 _ _ eL, (vals_atom L).1, (vals_atom L).2⟩
  | read k =>
    have hk : k < ls.length := by rw [la.1]; exact ok
    obtain ⟨lt, L, hL, eb, eL⟩ := la.at (List.getElem?_eq_getElem hk)
    have hLn := sd.lns L (List.mem_of_getElem? hL)
    have mt := hLn _ L.to_ns
    obtain ⟨x, mx, hx⟩ := gn.2 _ mt
    have ob := sd.gd.ok L.to
    have iN' : iN nx L.to = x := iN_of hx
    refine ⟨h, dn, db, dl, lt, n, x, bef bs L.to, k, L, nx, bf, ls, rfl, N, by rw [List.getElem?_eq_getElem hk, eb], eL, hx, sd.vf _ mt, ob, n0, dbn, by omega, by omega, by omega, fun H1 v ls' a5 R => ?_⟩
    obtain ⟨w, rfl, ew⟩ := R.told
    have f2 : ∀ c o, c ≠ dn → c ≠ db → c ≠ dl → H c = some o → H1 c = some o := R.keep
    have N1 : NetAt C H1 h n dn db dl (nN n L.to x (bef bs L.to) L nx) (nB n L.to (bef bs L.to) L bf) ls' := R.net
    refine hq rfl (.ref w) ls' H1 ?_ (by rw [stN_read hL, stF_read hL, iN']; exact N1) ?_ f2
    · rw [res_read hL, iN']
      exact ⟨w, rfl, ew, (nT_atom ob).1, (nT_atom ob).2⟩
    · rw [stL_read hL]
      rw [hA_rdA] at a5
      have e1 := (la.mono (kt f2)).erase k
      cases eA : rdA L (bef bs L.to) with
      | none =>
        rw [eA] at a5
        rw [a5]
        show LAt Let.vals _ _ (_ ++ [])
        rw [List.append_nil]
        exact e1
      | some L' =>
        rw [eA] at a5
        obtain ⟨b, rfl, eb2⟩ := a5
        exact e1.app eb2
--CUT
def sp__law_done (K : PySem.W.Frag) (C : Addr) : Sp := fun vs H Q _ => ∃ (h dn db dl dd : Addr) (n : Int) (nx bs bf : List (Key × V)) (ls : List V) (ks : List Int) (Ls : List Let) (D : Dd), vs = [.ref h, .ref dd] ∧ NetAt C H h n dn db dl nx bf ls ∧ H dd = some (.tup D.vals) ∧ Snd n ks nx bs bf Ls ∧ LAt Let.vals H ls Ls ∧ D.ok Ls.length ∧ ks.length ≤ 40 ∧ bf.length ≤ 900 ∧ ls.length ≤ 60 ∧ 0 < n ∧ db ≠ dn ∧
  (dueE n nx bs ks Ls D = none → ∀ a v ls' H', RV.ok H' v (resD n nx bs Ls D) → H' a = some (.tup [.str "done", v]) → NetAt C H' h n dn db dl (stN n nx bs Ls D) (stF n bf bs Ls D) ls' → LAt Let.vals H' ls' (stL n nx bs Ls D) → (∀ b o, b ≠ dn → b ≠ db → b ≠ dl → H b = some o → H' b = some o) → Q (.ref a) H') ∧
  (∀ k p, dueE n nx bs ks Ls D = some (k, p) → ∀ a H', Same H H' → H' a = some (.tup [.str (nmE k), .int p, .bl true]) → Q (.ref a) H')
theorem T0.ok__law_done (T : T0 K mg) : FnOk P w K mg base CX0 8 T.a__law_done T.fd__law_done ["net", "deed"] (sp__law_done K T.C_Net) := by
  refine T.F__law_done.ok sc__law_done (fun vs H Q E h => ?_) (fun cdv A outer s0 H vs Q E hr h => ?_)
  · obtain ⟨h, dn, db, dl, dd, n, nx, bs, bf, ls, ks, Ls, D, rfl, _⟩ := h
    rfl
  · obtain ⟨h, dn, db, dl, dd, n, nx, bs, bf, ls, ks, Ls, D, rfl, N, hd, sd, la, ok, l40, lbf, l60, n0, dbn, q1, q2⟩ := h
    refine ⟨_, (pss_one (ps_tryM rfl rfl takesN (fun W pn xe tk _ => (pss_one (ps_ret (pe_tup (pa_cons pe_str (pa_cons (pe_callS T.okx__law_call hr rfl T.g__law_call T.k__law_call T.b__law_call (fun σ => L2N.passAt (tk) σ) (pa_cons (pv 0) (pa_cons (pv 1) pa_nil))) pa_nil)))))) (.name sc__law_done.nd (i := 2) rfl rfl ⟨rfl, by decide, .inl T.mc_NoHouse⟩ (fun a oe cls d pn hz hf => (pss_one (ps_ret (pe_tup (pa_cons pe_str (pa_cons (show PE _ _ (tXs K a cls d _ _) from pe_xs hz hf (pv 2)) (pa_cons (pe_callS1 T.okp__law_plain (hr.mono (by decide)) hz hf rfl T.g__law_plain T.k__law_plain T.b__law_plain (pa_cons (pv 2) pa_nil)) pa_nil))))))) (.name sc__law_done.nd (i := 2) rfl rfl ⟨rfl, by decide, .inl T.mc_OffCircle⟩ (fun a oe cls d pn hz hf => (pss_one (ps_ret (pe_tup (pa_cons pe_str (pa_cons (show PE _ _ (tXs K a cls d _ _) from pe_xs hz hf (pv 2)) (pa_cons (pe_callS1 T.okp__law_plain (hr.mono (by decide)) hz hf rfl T.g__law_plain T.k__law_plain T.b__law_plain (pa_cons (pv 2) pa_nil)) pa_nil))))))) (.name sc__law_done.nd (i := 2) rfl rfl ⟨rfl, by decide, .inl T.mc_TakenPlace⟩ (fun a oe cls d pn hz hf => (pss_one (ps_ret (pe_tup (pa_cons pe_str (pa_cons (show PE _ _ (tXs K a cls d _ _) from pe_xs hz hf (pv 2)) (pa_cons (pe_callS1 T.okp__law_plain (hr.mono (by decide)) hz hf rfl T.g__law_plain T.k__law_plain T.b__law_plain (pa_cons (pv 2) pa_nil)) pa_nil))))))) (.name sc__law_done.nd (i := 2) rfl rfl ⟨rfl, by decide, .inl T.mc_StillNamed⟩ (fun a oe cls d pn hz hf => (pss_one (ps_ret (pe_tup (pa_cons pe_str (pa_cons (show PE _ _ (tXs K a cls d _ _) from pe_xs hz hf (pv 2)) (pa_cons (pe_callS1 T.okp__law_plain (hr.mono (by decide)) hz hf rfl T.g__law_plain T.k__law_plain T.b__law_plain (pa_cons (pv 2) pa_nil)) pa_nil))))))) (.bare ⟨rfl, by decide, .inl T.mc_RingError⟩ (fun a oe cls d pn hz hf => (pss_one (ps_ret (pe_tup (pa_cons pe_str (pa_cons pe_non (pa_cons pe_bl pa_nil))))))) .nil))))))), ?_⟩
    refine ⟨_, rfl, _, rfl, h, dn, db, dl, dd, n, nx, bf, ls, D, rfl, N, hd, dsp_of N sd la ok l40 lbf l60 n0 dbn (fun hu v ls' H1 rv N1 la1 f1 => ⟨lenL (by show 2 ≤ 100000; decide), fun a na => ?_⟩) (fun k p hu H2 d2 s2 e2 => ?_)⟩
    · have s3 := same_upd (o := .tup [.str "done", v]) na
      exact q1 hu a v ls' _ (RV.mono rv fun b xs e => s3 _ _ e) upd_same (N1.same s3) (la1.same s3) fun b o n1 n2 n3 e => s3 _ _ (f1 b o n1 n2 n3 e)
    · cases k with
      | nh =>
        refine ⟨true, T.ex_NoHouse_NoHouse, fun _ a na => ?_, fun z => nomatch z⟩
        refine ⟨_, rfl, _, d2, _, .int p, rfl, rfl, rfl, T.er_NoHouse, T.na_NoHouse_place, e2, lk0, _, rfl, fun oe hz hf => ⟨.nh, d2, _, rfl, errS hz hf e2, fun H4 s4 => ⟨lenL (by show 3 ≤ 100000; decide), fun a na => ?_⟩⟩⟩
        exact q2 .nh p hu a _ (Same.trans s2 (Same.trans s4 (same_upd na))) upd_same
      | oc =>
        refine ⟨false, T.ex_OffCircle_NoHouse, (fun z => nomatch z), fun _ => ⟨true, T.ex_OffCircle_OffCircle, fun _ a na => ?_, fun z => nomatch z⟩⟩
        refine ⟨_, rfl, _, d2, _, .int p, rfl, rfl, rfl, T.er_OffCircle, T.na_OffCircle_place, e2, lk0, _, rfl, fun oe hz hf => ⟨.oc, d2, _, rfl, errS hz hf e2, fun H4 s4 => ⟨lenL (by show 3 ≤ 100000; decide), fun a na => ?_⟩⟩⟩
        exact q2 .oc p hu a _ (Same.trans s2 (Same.trans s4 (same_upd na))) upd_same
      | tp =>
        refine ⟨false, T.ex_TakenPlace_NoHouse, (fun z => nomatch z), fun _ => ⟨false, T.ex_TakenPlace_OffCircle, (fun z => nomatch z), fun _ => ⟨true, T.ex_TakenPlace_TakenPlace, fun _ a na => ?_, fun z => nomatch z⟩⟩⟩
        refine ⟨_, rfl, _, d2, _, .int p, rfl, rfl, rfl, T.er_TakenPlace, T.na_TakenPlace_place, e2, lk0, _, rfl, fun oe hz hf => ⟨.tp, d2, _, rfl, errS hz hf e2, fun H4 s4 => ⟨lenL (by show 3 ≤ 100000; decide), fun a na => ?_⟩⟩⟩
        exact q2 .tp p hu a _ (Same.trans s2 (Same.trans s4 (same_upd na))) upd_same
      | sn =>
        refine ⟨false, T.ex_StillNamed_NoHouse, (fun z => nomatch z), fun _ => ⟨false, T.ex_StillNamed_OffCircle, (fun z => nomatch z), fun _ => ⟨false, T.ex_StillNamed_TakenPlace, (fun z => nomatch z), fun _ => ⟨true, T.ex_StillNamed_StillNamed, fun _ a na => ?_, fun z => nomatch z⟩⟩⟩⟩
        refine ⟨_, rfl, _, d2, _, .int p, rfl, rfl, rfl, T.er_StillNamed, T.na_StillNamed_place, e2, lk0, _, rfl, fun oe hz hf => ⟨.sn, d2, _, rfl, errS hz hf e2, fun H4 s4 => ⟨lenL (by show 3 ≤ 100000; decide), fun a na => ?_⟩⟩⟩
        exact q2 .sn p hu a _ (Same.trans s2 (Same.trans s4 (same_upd na))) upd_same
--CUT
/-! ### one that is gone -/
def sp__law_lost (C : Addr) : Sp := fun vs H Q _ => ∃ (h dn db dl : Addr) (n p : Int) (nx bf : List (Key × V)) (ls : List V) (z : Bool), vs = [.ref h, .str (if z then "next" else "before"), .int p] ∧ NetAt C H h n dn db dl nx bf ls ∧ valV nx (.inl p) = none ∧ ∀ H', Same H H' → Q (.bl true) H'
theorem T0.ok__law_lost (T : T0 K mg) : FnOk P w K mg base CX0 6 T.a__law_lost T.fd__law_lost ["net", "word", "place"] (sp__law_lost T.C_Net) := by
  refine T.F__law_lost.ok sc__law_lost (fun vs H Q E h => ?_) (fun cdv A outer s H vs Q E hr h => ?_)
  · obtain ⟨h, dn, db, dl, n, p, nx, bf, ls, z, rfl, _⟩ := h
    rfl
  · obtain ⟨h, dn, db, dl, n, p, nx, bf, ls, z, rfl, hN, hp, q⟩ := h
    obtain ⟨dx, hh⟩ := hN.me
    refine ⟨_, (pss_cons (ps_tryM rfl rfl takesN (fun W pn xe tk _ => (pss_one (ps_if (pt_cmpR op_eq (pv 1) pe_str (nomark _)) (pss_one (ps_expr (pe_methN (pv 0) T.cl_Net T.me_Net__next_of T.okx_Net__next_of (hr.mono (by decide)) T.b_Net__next_of (fun σ => L2N.passAt (tk) σ) (pa_cons (pv 2) pa_nil)))) (pss_one (ps_expr (pe_methN (pv 0) T.cl_Net T.me_Net__before_of T.okx_Net__before_of (hr.mono (by decide)) T.b_Net__before_of (fun σ => L2N.passAt (tk) σ) (pa_cons (pv 2) pa_nil))))))) (.name sc__law_lost.nd (i := 3) rfl rfl ⟨rfl, by decide, .inl T.mc_NoHouse⟩ (fun a oe cls d pn hz hf => (pss_one (ps_ret (pe_and (pe_callS1 (T.okp__law_same 1 (by decide)) (hr.mono (by decide)) hz hf rfl T.g__law_same T.k__law_same T.b__law_same (pa_cons (show PE _ _ (tXs K a cls d _ _) from pe_xs hz hf (pv 3)) (pa_cons (pv 2) pa_nil))) (pe_one (pe_callS1 T.okp__law_plain (hr.mono (by decide)) hz hf rfl T.g__law_plain T.k__law_plain T.b__law_plain (pa_cons (pv 3) pa_nil))))))) (.bare ⟨rfl, by decide, .inl T.mc_RingError⟩ (fun a oe cls d pn hz hf => (pss_one (ps_ret pe_bl))) .nil)))
        (pss_one (ps_ret pe_bl))), ?_⟩
    cases z with
    | true =>
      refine ⟨_, rfl, rfl, _, rfl, iteT' (by decide +kernel) ?_⟩
      refine ⟨_, rfl, h, dx, _, rfl, hh, (by unfold nf; walk_at "lk"), _, rfl, h, dn, db, dl, n, p, nx, bf, ls, rfl, hN, hp, fun d nd => ?_⟩
      have s1 := same_upd (o := .xd [("place", .int p)]) nd
      have e1 : upd H d (.xd [("place", .int p)]) d = some (.xd [("place", .int p)]) := upd_same
      generalize upd H d (.xd [("place", .int p)]) = H1 at s1 e1
      refine ⟨true, T.ex_NoHouse_NoHouse, fun _ a na => ?_, fun z => nomatch z⟩
      refine ⟨_, rfl, _, d, _, .int p, rfl, rfl, rfl, T.er_NoHouse, T.na_NoHouse_place, e1, lk0, _, rfl, fun oe hz hf => ⟨_, _, rfl, Sm.int rfl, fun H2 s2 => ⟨true, rfl, iteT ?_⟩⟩⟩
      exact ⟨_, rfl, fun oe hz hf => ⟨.nh, d, _, rfl, errS hz hf (s2 _ _ e1), fun H3 s3 => q H3 (Same.trans s1 (Same.trans s2 s3))⟩⟩
    | false =>
      refine ⟨_, rfl, rfl, _, rfl, iteF' (by decide +kernel) ?_⟩
      refine ⟨_, rfl, h, dx, _, rfl, hh, (by unfold nf; walk_at "lk"), _, rfl, h, dn, db, dl, n, p, nx, bf, ls, rfl, hN, hp, fun d nd => ?_⟩
      have s1 := same_upd (o := .xd [("place", .int p)]) nd
      have e1 : upd H d (.xd [("place", .int p)]) d = some (.xd [("place", .int p)]) := upd_same
      generalize upd H d (.xd [("place", .int p)]) = H1 at s1 e1
      refine ⟨true, T.ex_NoHouse_NoHouse, fun _ a na => ?_, fun z => nomatch z⟩
      refine ⟨_, rfl, _, d, _, .int p, rfl, rfl, rfl, T.er_NoHouse, T.na_NoHouse_place, e1, lk0, _, rfl, fun oe hz hf => ⟨_, _, rfl, Sm.int rfl, fun H2 s2 => ⟨true, rfl, iteT ?_⟩⟩⟩
      exact ⟨_, rfl, fun oe hz hf => ⟨.nh, d, _, rfl, errS hz hf (s2 _ _ e1), fun H3 s3 => q H3 (Same.trans s1 (Same.trans s2 s3))⟩⟩
/-! ### a step of both -/
section
variable {ks : List Int} {nx bs bf : List (Key × V)} {Ls : List Let} {n : Int} {D : Dd}
theorem stK_len : (stK ks D).length ≤ ks.length + D.ad := by
  cases D with
  | admit x y => show (ks ++ [x]).length ≤ _; rw [List.length_append]; exact Nat.le_refl _
  | take x => exact List.length_filter_le _ _
  | _ => exact Nat.le_refl _
theorem nB_le {r : Int} {b : V} {L : Let} : (nB n r b L bs).length ≤ bs.length + 1 := by
  unfold Z.nB
  split
  · exact len_putK_le _ _ _
  · exact Nat.le_succ _
theorem dropK_len {k : Key} : (dropK bs k).length ≤ bs.length + 1 := Nat.le_succ_of_le (List.length_filter_le _ _)
theorem stB_len : (stB n bs Ls D).length ≤ bs.length + 1 := by
  cases D with
  | before x b => exact len_putK_le _ _ _
  | take x => exact len_putK_le _ _ _
  | read k =>
    unfold stB
    dsimp only
    split
    · exact Nat.le_succ _
    · exact nB_le
  | _ => exact Nat.le_succ _
theorem stF_len : (stF n bf bs Ls D).length ≤ bf.length + 1 := by
  cases D with
  | before x b => exact len_putK_le _ _ _
  | admit x y => exact len_putK_le _ _ _
  | take x => exact dropK_len
  | read k =>
    unfold stF
    dsimp only
    split
    · exact Nat.le_succ _
    · exact nB_le
  | _ => exact Nat.le_succ _
theorem stL_len (ok : D.ok Ls.length) : (stL n nx bs Ls D).length ≤ Ls.length + D.po := by
  cases D with
  | tell x => show (Ls ++ [_]).length ≤ _; rw [List.length_append]; exact Nat.le_refl _
  | ask x => show (Ls ++ [_]).length ≤ _; rw [List.length_append]; exact Nat.le_refl _
  | lose k => exact List.length_eraseIdx_le _ _
  | rep k =>
    show (Ls ++ Ls[k]?.toList).length ≤ _
    have hk : k < Ls.length := ok
    rw [List.length_append, List.getElem?_eq_getElem hk]
    exact Nat.le_refl _
  | read k =>
    have hk : k < Ls.length := ok
    rw [stL_read (List.getElem?_eq_getElem hk), List.length_append, List.length_eraseIdx, if_pos hk]
    have : ((rdA Ls[k] (bef bs (Ls[k]).to)).toList).length ≤ 1 := by
      cases rdA Ls[k] (bef bs (Ls[k]).to) with
      | none => exact Nat.zero_le _
      | some L => exact Nat.le_refl _
    show _ ≤ Ls.length + 0
    omega
  | _ => exact Nat.le_refl _
end
def Dd.nm : Dd → Str
  | .admit _ _ => "admit"
  | .hold _ _ => "hold"
  | .before _ _ => "before"
  | .take _ => "take"
  | .tell _ => "tell"
  | .ask _ => "ask"
  | .lose _ => "lose"
  | .rep _ => "repeat"
  | .read _ => "read"
theorem Dd.vals0 (D : Dd) : D.vals[0]? = some (.str D.nm) := by cases D <;> rfl
theorem Dd.nm_take {D : Dd} (h : ¬ ∃ x, D = .take x) : decide (V.str D.nm = V.str "take") = false := by
  cases D with
  | take x => exact absurd ⟨x, rfl⟩ h
  | admit _ _ => show decide (V.str "admit" = V.str "take") = false; decide +kernel
  | hold _ _ => show decide (V.str "hold" = V.str "take") = false; decide +kernel
  | before _ _ => show decide (V.str "before" = V.str "take") = false; decide +kernel
  | tell _ => show decide (V.str "tell" = V.str "take") = false; decide +kernel
  | ask _ => show decide (V.str "ask" = V.str "take") = false; decide +kernel
  | lose _ => show decide (V.str "lose" = V.str "take") = false; decide +kernel
  | rep _ => show decide (V.str "repeat" = V.str "take") = false; decide +kernel
  | read _ => show decide (V.str "read" = V.str "take") = false; decide +kernel
def sp__law_step (K : PySem.W.Frag) (CN : Addr) : Sp := fun vs H Q _ => ∃ (t c dd : Addr) (A : Bd) (n : Int) (m : Nat) (S : WK) (D : Dd), vs = [.ref A.h, .int n, .ref A.dN, .ref A.dB, .ref A.pO, .ref dd] ∧ NH CN t c A n m S H ∧ H dd = some (.tup D.vals) ∧ D.ok S.Ls.length ∧ S.ks.length + D.ad ≤ 40 ∧ S.ps.length + D.po ≤ 60 ∧ m ≤ 800 ∧
  ∀ S' H', NH CN t c A n (m + 1) S' H' → FrA A H H' → S'.ks.length ≤ S.ks.length + D.ad → (S'.Ls = S.Ls ∨ S'.Ls = stL n S.nx S.bs S.Ls D) → Q (.bl true) H'
theorem T0.ok__law_step (T : T0 K mg) : FnOk P w K mg base CX0 9 T.a__law_step T.fd__law_step ["net", "size", "nexts", "behinds", "post", "deed"] (sp__law_step K T.C_Net) := by
  refine T.F__law_step.ok sc__law_step (fun vs H Q E h => ?_) (fun cdv A' outer s0 H vs Q E hr h => ?_)
  · obtain ⟨t, c, dd, A, n, m, S, D, rfl, _⟩ := h
    rfl
  · obtain ⟨t, c, dd, A, n, m, S, D, rfl, I, hd, ok, l40, l60, lm, q⟩ := h
    refine ⟨_, (pss_cons (ps_set (i := 6) sc__law_step.nd rfl (Or.inl rfl) (pe_call T.ok__law_due (hr.mono (by decide)) (by rfl) T.g__law_due T.k__law_due T.b__law_due .nil pass0 (pa_cons (pv 1) (pa_cons (pv 2) (pa_cons (pv 3) (pa_cons (pv 4) (pa_cons (pv 5) pa_nil)))))))
        (pss_cons (ps_if (PW.pt (pw_or (pt_not (pt_val (pe_call (T.ok__law_same 3) (hr.mono (by decide)) (by rfl) T.g__law_same T.k__law_same T.b__law_same .nil pass0 (pa_cons (pe_call T.ok__law_done hr (by rfl) T.g__law_done T.k__law_done T.b__law_done .nil pass0 (pa_cons (pv 0) (pa_cons (pv 5) pa_nil))) (pa_cons (pv 6) pa_nil))))) (pw_or1 (pt_not (pt_val (pe_call T.ok__law_says (hr.mono (by decide)) (by rfl) T.g__law_says T.k__law_says T.b__law_says .nil pass0 (pa_cons (pv 0) (pa_cons (pv 1) (pa_cons (pv 2) (pa_cons (pv 3) (pa_cons (pv 4) pa_nil))))))))))) (pss_one (ps_ret pe_bl)) pss_nil)
        (pss_cons (ps_if (PW.pt (pw_and (pt_cmpR op_eq (pe_ix (ix_tupK (K := K)) (pv 5) pe_int (fun _ _ => rfl)) pe_str (nomark _)) (pw_and1 (pt_cmpR op_eq (pe_ix (ix_tupK (K := K)) (pv 6) pe_int (fun _ _ => rfl)) pe_str (nomark _))))) (pss_one (ps_ret (show PE _ _ (tAndT K _ _) from pe_andT (pe_call T.ok__law_lost (hr.mono (by decide)) (by rfl) T.g__law_lost T.k__law_lost T.b__law_lost .nil pass0 (pa_cons (pv 0) (pa_cons pe_str (pa_cons (pe_ix (ix_tupK (K := K)) (pv 5) pe_int (fun _ _ => rfl)) pa_nil)))) (pe_one (pe_call T.ok__law_lost (hr.mono (by decide)) (by rfl) T.g__law_lost T.k__law_lost T.b__law_lost .nil pass0 (pa_cons (pv 0) (pa_cons pe_str (pa_cons (pe_ix (ix_tupK (K := K)) (pv 5) pe_int (fun _ _ => rfl)) pa_nil)))))))) pss_nil)
        (pss_one (ps_ret pe_bl))))), ?_⟩
    have lks := I.lks
    have lps := I.lps
    have lbf := I.lbf
    have lbs := I.lbs
    have lls := I.lenl
    obtain ⟨dnb, dnN, dnB, dbN, dbB, dNB⟩ := I.ndd
    have h0 := D.vals0
    refine ⟨_, rfl, _, rfl, _, rfl, _, rfl, _, rfl, A.dN, A.dB, A.pO, dd, n, S.nx, S.bs, S.bf, S.ps, S.ks, S.Ls, D, rfl, I.hN, I.hB, I.hP, hd, I.sd, I.la, ok, by omega, by omega, by omega, I.n0, dNB, fun hu a v ps' H1 rv ea eN eB eP la1 f1 => ?_, fun k p hu a H1 s1 ea => ?_⟩
    · -- done
      have g1 : ∀ {b : Addr} {o : HO}, H b = some o → (∀ z, o ≠ .dK z) → (∀ z, o ≠ .lst z) → H1 b = some o := fun e n1 n2 => f1 _ _ (ne_kind e I.hN (n1 _)) (ne_kind e I.hB (n1 _)) (ne_kind e I.hP (n2 _)) e
      have N1 : NetAt T.C_Net H1 A.h n A.dn A.db A.dl S.nx S.bf S.ls := ⟨let ⟨d, e⟩ := I.net.me; ⟨d, g1 e (fun _ z => nomatch z) (fun _ z => nomatch z)⟩, f1 _ _ dnN dnB (ne_kind I.net.hn I.hP (fun z => nomatch z)) I.net.hn, f1 _ _ dbN dbB (ne_kind I.net.hb I.hP (fun z => nomatch z)) I.net.hb, f1 _ _ (ne_kind I.net.hl I.hN (fun z => nomatch z)) (ne_kind I.net.hl I.hB (fun z => nomatch z)) I.ndl.2.2.2.2.symm I.net.hl⟩
      have kt1 : ∀ b xs, H b = some (.tup xs) → H1 b = some (.tup xs) := fun b xs e => g1 e (fun _ z => nomatch z) (fun _ z => nomatch z)
      refine ⟨_, rfl, _, rfl, A.h, A.dn, A.db, A.dl, dd, n, S.nx, S.bs, S.bf, S.ls, S.ks, S.Ls, D, rfl, N1, kt1 _ _ hd, I.sd, I.ll.mono kt1, ok, by omega, by omega, by omega, I.n0, dnb.symm, fun _ a2 v2 ls' H2 rv2 ea2 N2 la2 f2 => ?_, (fun k p hu2 => by rw [hu] at hu2; cases hu2)⟩
      have kt2 : ∀ b xs, H1 b = some (.tup xs) → H2 b = some (.tup xs) := fun b xs e => f2 _ _ (ne_kind e N1.hn (fun z => nomatch z)) (ne_kind e N1.hb (fun z => nomatch z)) (ne_kind e N1.hl (fun z => nomatch z)) e
      have fx : FrA A H H2 := fun b o n1 n2 n3 n4 n5 n6 e => f2 _ _ n1 n2 n3 (f1 _ _ n4 n5 n6 e)
      obtain ⟨cs, ta, tb, tk, tr, e1, e2, e3, e4⟩ := I.tape
      have tp : ∀ {b : Addr} {xs : List V}, H b = some (.lst xs) → b ≠ A.dl → b ≠ A.pO → H2 b = some (.lst xs) := fun e n1 n2 => fx _ _ (ne_kind e I.net.hn (fun z => nomatch z)) (ne_kind e I.net.hb (fun z => nomatch z)) n1 (ne_kind e I.hN (fun z => nomatch z)) (ne_kind e I.hB (fun z => nomatch z)) n2 e
      have T2 : Tape H2 t c := ⟨cs, ta, tb, tk, tr, tp e1 I.ndl.2.2.1.symm I.ndl.1.symm, tp e2 I.ndl.2.2.2.1.symm I.ndl.2.1.symm, e3, e4⟩
      have lsL : (stL n S.nx S.bs S.Ls D).length ≤ S.Ls.length + D.po := stL_len ok
      have lpL := I.la.1
      have J : NH T.C_Net t c A n (m + 1) ⟨stK S.ks D, stN n S.nx S.bs S.Ls D, stB n S.bs S.Ls D, stF n S.bf S.bs S.Ls D, ps', ls', stL n S.nx S.bs S.Ls D⟩ H2 := {
        tape := T2, net := N2
        hN := f2 _ _ dnN.symm dbN.symm (ne_kind eN N1.hl (fun z => nomatch z)) eN
        hB := f2 _ _ dnB.symm dbB.symm (ne_kind eB N1.hl (fun z => nomatch z)) eB
        hP := f2 _ _ (ne_kind eP N1.hn (fun z => nomatch z)) (ne_kind eP N1.hb (fun z => nomatch z)) I.ndl.2.2.2.2 eP
        sd := I.sd.step hu ok, n0 := I.n0, n9 := I.n9, la := la1.mono kt2, ll := la2, ndl := I.ndl, ndd := I.ndd
        lks := Nat.le_trans stK_len l40
        lps := by
          show ps'.length ≤ 60
          rw [la1.1]
          omega
        lbf := by
          have := stF_len (n := n) (bf := S.bf) (bs := S.bs) (Ls := S.Ls) (D := D)
          show (stF n S.bf S.bs S.Ls D).length ≤ _
          omega
        lbs := by
          have := stB_len (n := n) (bs := S.bs) (Ls := S.Ls) (D := D)
          show (stB n S.bs S.Ls D).length ≤ _
          omega }
      refine ⟨_, rfl, _, _, rfl, RV.done ea2 (kt2 _ _ ea) rv2 (RV.mono rv kt2), fun H3 s3 => ⟨true, rfl, iteF ?_⟩⟩
      have J3 := J.same s3
      refine ⟨_, rfl, _, rfl, _, rfl, _, rfl, _, rfl, t, c, A, n, _, _, rfl, J3, fun H4 s4 => ⟨true, rfl, iteF ?_⟩⟩
      have J4 := J3.same s4
      have s24 := Same.trans s3 s4
      have fr : FrA A H H4 := fx.trans (.of s24)
      have hd4 := s24 _ _ (kt2 _ _ (kt1 _ _ hd))
      have ea4 := s24 _ _ (kt2 _ _ ea)
      have fin := q _ H4 J4 fr stK_len (.inr rfl)
      by_cases ht : ∃ x, D = .take x
      · obtain ⟨x, rfl⟩ := ht
        refine ⟨_, rfl, dd, _, 0, _, rfl, rfl, SqT.of hd4, rfl, rfl, _, rfl, iteT' (by decide +kernel) ?_⟩
        refine ⟨_, rfl, a, _, 0, _, rfl, rfl, SqT.of ea4, rfl, rfl, _, rfl, iteT' (by decide +kernel) ?_⟩
        have vno : valV (dropK S.nx (.inl x)) (.inl x) = none := by rw [valV_dropK, if_pos rfl]
        obtain ⟨dx4, hh4⟩ := J4.net.me
        refine ⟨_, rfl, _, rfl, dd, _, 1, _, rfl, rfl, SqT.of hd4, rfl, A.h, A.dn, A.db, A.dl, n, x, _, _, _, true, rfl, J4.net, vno, fun H5 s5 => ⟨true, rfl, iteT ?_⟩⟩
        have J5 := J4.same s5
        refine ⟨_, rfl, _, rfl, dd, _, 1, _, rfl, rfl, SqT.of (s5 _ _ hd4), rfl, A.h, A.dn, A.db, A.dl, n, x, _, _, _, false, rfl, J5.net, vno, fun H6 s6 => ?_⟩
        exact q _ H6 (J5.same s6) (fr.trans (.of (Same.trans s5 s6))) (stK_len (ks := S.ks) (D := .take x)) (.inr rfl)
      · exact ⟨_, rfl, dd, _, 0, _, rfl, rfl, SqT.of hd4, atI_nat (j := 0) h0, rfl, _, rfl, iteF' (Dd.nm_take ht) (iteF fin)⟩
    · -- refused
      have I1 := I.same s1
      have hd1 := s1 _ _ hd
      refine ⟨_, rfl, _, rfl, A.h, A.dn, A.db, A.dl, dd, n, S.nx, S.bs, S.bf, S.ls, S.ks, S.Ls, D, rfl, I1.net, hd1, I.sd, I1.ll, ok, by omega, by omega, by omega, I.n0, dnb.symm, (fun hu2 => by rw [hu] at hu2; cases hu2), fun k2 p2 hu2 a2 H2 s2 ea2 => ?_⟩
      rw [hu] at hu2
      cases hu2
      refine ⟨_, rfl, _, _, rfl, (tup_same ea2 (s2 _ _ ea) (by show 3 ≤ 100000; decide) (pl_atoms k p) : Sm K 2 _ _ _).succ, fun H3 s3 => ⟨true, rfl, iteF ?_⟩⟩
      have s13 := Same.trans s1 (Same.trans s2 s3)
      have J3 := I.same s13
      refine ⟨_, rfl, _, rfl, _, rfl, _, rfl, _, rfl, t, c, A, n, _, _, rfl, J3, fun H4 s4 => ⟨true, rfl, iteF ?_⟩⟩
      have s14 := Same.trans s13 s4
      have J4 := I.same s14
      have hd4 := s14 _ _ hd
      have ea4 := s4 _ _ (s3 _ _ (s2 _ _ ea))
      have J4' : NH T.C_Net t c A n (m + 1) S H4 := { J4 with lbf := Nat.le_succ_of_le J4.lbf, lbs := Nat.le_succ_of_le J4.lbs }
      have fin := q S H4 J4' (.of s14) (Nat.le_add_right _ _) (.inl rfl)
      have hne : decide (V.str (nmE k) = V.str "done") = false := by cases k <;> decide +kernel
      by_cases ht : ∃ x, D = .take x
      · obtain ⟨x, rfl⟩ := ht
        refine ⟨_, rfl, dd, _, 0, _, rfl, rfl, SqT.of hd4, rfl, rfl, _, rfl, iteT' (by decide +kernel) ?_⟩
        exact ⟨_, rfl, a, _, 0, _, rfl, rfl, SqT.of ea4, rfl, rfl, _, rfl, iteF' hne fin⟩
      · exact ⟨_, rfl, dd, _, 0, _, rfl, rfl, SqT.of hd4, atI_nat (j := 0) h0, rfl, _, rfl, iteF' (Dd.nm_take ht) (iteF fin)⟩
--CUT
/-! ### what frees a house -/
def Dd.flat : Dd → Bool
  | .hold _ _ => true
  | .before _ _ => true
  | .take _ => true
  | .admit _ _ => true
  | .lose _ => true
  | _ => false
def Dd.low : Dd → Option Nat
  | .lose i => some i
  | _ => none
/-- a row of deeds: those that lose go down from below m -/
structure Seq (m : Nat) (ds : List Dd) : Prop where
  fl : ∀ D ∈ ds, D.flat = true
  dn : (ds.filterMap Dd.low).Pairwise (· > ·)
  lt : ∀ i ∈ ds.filterMap Dd.low, i < m
theorem Seq.nil {m : Nat} : Seq m [] := ⟨fun _ h => (nomatch h), .nil, fun _ h => (nomatch h)⟩
theorem Seq.add {m : Nat} {ds : List Dd} {D : Dd} (s : Seq m ds) (f : D.flat = true) (h : D.low = none) : Seq m (ds ++ [D]) := by
  have e : (ds ++ [D]).filterMap Dd.low = ds.filterMap Dd.low := by rw [List.filterMap_append, List.filterMap_cons, h, List.filterMap_nil, List.append_nil]
  refine ⟨fun D' h' => ?_, by rw [e]; exact s.dn, by rw [e]; exact s.lt⟩
  rcases List.mem_append.mp h' with h' | h'
  · exact s.fl _ h'
  · rw [List.mem_singleton.mp h']
    exact f
theorem Seq.lose {m k : Nat} {ds : List Dd} (s : Seq m ds) (h : k < m) (lo : ∀ i ∈ ds.filterMap Dd.low, k < i) : Seq m (ds ++ [Dd.lose k]) := by
  have e : (ds ++ [Dd.lose k]).filterMap Dd.low = ds.filterMap Dd.low ++ [k] := by rw [List.filterMap_append]; rfl
  refine ⟨fun D' h' => ?_, ?_, fun i hi => ?_⟩
  · rcases List.mem_append.mp h' with h' | h'
    · exact s.fl _ h'
    · rw [List.mem_singleton.mp h']
      rfl
  · rw [e]
    refine List.pairwise_append.mpr ⟨s.dn, List.pairwise_singleton _ _, fun a ha b hb => ?_⟩
    rw [List.mem_singleton.mp hb]
    exact lo a ha
  · rw [e] at hi
    rcases List.mem_append.mp hi with h' | h'
    · exact s.lt _ h'
    · rw [List.mem_singleton.mp h']
      exact h
theorem Seq.tail {m : Nat} {D : Dd} {r : List Dd} (s : Seq m (D :: r)) : Seq m r ∧ (∀ k, D = .lose k → k < m ∧ Seq k r) := by
  have fr : ∀ D ∈ r, D.flat = true := fun D' h => s.fl _ (List.mem_cons_of_mem _ h)
  cases e : D.low with
  | none =>
    have e2 : (D :: r).filterMap Dd.low = r.filterMap Dd.low := by rw [List.filterMap_cons, e]
    have h1 := s.dn
    have h2 := s.lt
    rw [e2] at h1 h2
    exact ⟨⟨fr, h1, h2⟩, fun k hk => by rw [hk] at e; cases e⟩
  | some i =>
    have e2 : (D :: r).filterMap Dd.low = i :: r.filterMap Dd.low := by rw [List.filterMap_cons, e]
    have h1 := s.dn
    have h2 := s.lt
    rw [e2] at h1 h2
    obtain ⟨h3, h4⟩ := List.pairwise_cons.mp h1
    refine ⟨⟨fr, h4, fun j hj => h2 j (List.mem_cons_of_mem _ hj)⟩, fun k hk => ?_⟩
    rw [hk] at e
    cases e
    exact ⟨h2 _ List.mem_cons_self, fr, h4, fun j hj => h3 j hj⟩
theorem fr_add {H H4 : Hp} {R a : Addr} {us : List V} {ds : List Dd} {D : Dd} (s : Same H H4) (nR : H R = none) (eR : H4 R = some (.lst us)) (na : H4 a = none) (la : LAt Dd.vals H4 us ds) : Same H (upd (upd H4 a (.tup D.vals)) R (.lst (us ++ [.ref a]))) ∧ upd (upd H4 a (.tup D.vals)) R (.lst (us ++ [.ref a])) R = some (.lst (us ++ [.ref a])) ∧
    LAt Dd.vals (upd (upd H4 a (.tup D.vals)) R (.lst (us ++ [.ref a]))) (us ++ [.ref a]) (ds ++ [D]) ∧ ∀ z o, z ≠ R → H4 z = some o → upd (upd H4 a (.tup D.vals)) R (.lst (us ++ [.ref a])) z = some o := by
  have f : ∀ z o, z ≠ R → H4 z = some o → upd (upd H4 a (.tup D.vals)) R (.lst (us ++ [.ref a])) z = some o := fun z o nz e => (upd_ne nz).trans ((upd_ne (ne_of_none e na)).trans e)
  have aR : a ≠ R := (ne_of_none eR na).symm
  exact ⟨fun z o e => f z o (ne_of_none e nR) (s _ _ e), upd_same, (la.mono fun z xs e => f z _ (ne_kind e eR (fun z => nomatch z)) e).app ((upd_ne aR).trans upd_same), f⟩
def sp__law_freeing (K : PySem.W.Frag) : Sp := fun vs H Q _ => ∃ (dN dB pO : Addr) (n p : Int) (nx bs bf : List (Key × V)) (ps : List V) (ks : List Int) (Ls : List Let), vs = [.ref dN, .ref dB, .ref pO, .int p] ∧ H dN = some (.dK nx) ∧ H dB = some (.dK bs) ∧ H pO = some (.lst ps) ∧ Snd n ks nx bs bf Ls ∧ LAt Let.vals H ps Ls ∧ ks.length ≤ 40 ∧ ps.length ≤ 60 ∧
  ∀ l (us : List V) (ds : List Dd) H', H l = none → H' l = some (.lst us) → LAt Dd.vals H' us ds → Seq ps.length ds → (∀ D ∈ ds, D.ad = 0) → us.length ≤ 140 → Same H H' → Q (.ref l) H'
theorem T0.ok__law_freeing (T : T0 K mg) : FnOk P w K mg base CX0 2 T.a__law_freeing T.fd__law_freeing ["nexts", "behinds", "post", "house"] (sp__law_freeing K) := by
  refine T.F__law_freeing.ok sc__law_freeing (fun vs H Q E h => ?_) (fun cdv A' outer s0 H vs Q E hr h => ?_)
  · obtain ⟨dN, dB, pO, n, p, nx, bs, bf, ps, ks, Ls, rfl, _⟩ := h
    rfl
  · obtain ⟨dN, dB, pO, n, p, nx, bs, bf, ps, ks, Ls, rfl, hN, hB, hP, sd, la, l40, l60, q⟩ := h
    refine ⟨_, (pss_cons (ps_set (i := 4) sc__law_freeing.nd rfl (Or.inl rfl) (pe_lst pa_nil))
        (pss_cons (ps_for PassesOwn.never rfl (pi_list (pe_callB (call_sortedDI rfl) (by rfl) T.m_sorted (by decide +kernel) (pa_cons (pv 0) pa_nil))) (pg_name (i := 5) sc__law_freeing.nd rfl (Or.inl rfl)) (C8.pss_cut (ps_if (PW.pt (pw_and (pt_cmpR op_ne (pv 5) (pv 3) (nomark _)) (pw_and1 (pt_cmpR op_eq (pe_dget (un1 hr) (pv 0) (pv 5) (fun _ _ => rfl)) (pv 3) (nomark _))))) (pss_one (ps_expr (pe_bm PySem.F.plainAttrs_list PySem.F.slot_list_append PySem.F.type_list_append mt_append (pv 4) (pa_cons (pe_tup (pa_cons pe_str (pa_cons (pv 5) (pa_cons (pv 5) pa_nil)))) pa_nil)))) pss_nil)
        (pss_one (ps_if (PW.pt (pw_and (pt_cmpR op_ne (pv 5) (pv 3) (nomark _)) (pw_and1 (pt_cmpR op_eq (pe_dget1 (un1 hr) (pv 1) (pv 5) ⟨rfl, rfl, rfl, rfl⟩) (pv 3) (nomark _))))) (pss_one (ps_expr (pe_bm PySem.F.plainAttrs_list PySem.F.slot_list_append PySem.F.type_list_append mt_append (pv 4) (pa_cons (pe_tup (pa_cons pe_str (pa_cons (pv 5) (pa_cons pe_non pa_nil)))) pa_nil)))) pss_nil))))
        (pss_cons (ps_for PassesOwn.never rfl (pi_range1 (by rfl) T.m_range (pa_cons (pe_callB (call_lenK (K := K)) (by rfl) T.m_len PySem.boot_len (pa_cons (pv 2) pa_nil)) pa_nil)) (pg_name (i := 6) sc__law_freeing.nd rfl (Or.inl rfl)) (pss_cons (ps_set (i := 7) sc__law_freeing.nd rfl (Or.inl rfl) (pe_op op_sub (pe_op op_sub (pe_callB (call_lenK (K := K)) (by rfl) T.m_len PySem.boot_len (pa_cons (pv 2) pa_nil)) pe_int) (pv 6)))
        (pss_one (ps_if (pt_cmpR (op_in_seqK (K := K)) (pv 3) (pe_slice (sl_tupK (K := K)) (pe_ix (ix_listK (K := K)) (pv 2) (pv 7) (fun _ _ => rfl)) (po_some pe_int) po_none) (by rfl)) (pss_one (ps_expr (pe_bm PySem.F.plainAttrs_list PySem.F.slot_list_append PySem.F.type_list_append mt_append (pv 4) (pa_cons (pe_tup (pa_cons pe_str (pa_cons (pv 7) pa_nil))) pa_nil)))) pss_nil))))
        (pss_one (ps_ret (pv 4)))))), ?_⟩
    refine ⟨Nat.zero_le _, fun R nR => ?_⟩
    have s0 := same_upd (o := .lst []) nR
    have eR : upd H R (.lst []) R = some (.lst []) := upd_same
    generalize upd H R (.lst []) = H0 at s0 eR
    refine ⟨_, rfl, dN, nx, ks, rfl, .inl (s0 _ _ hN), sd.gn.1, by omega, fun ys z perm pw nz => ?_⟩
    have ylen := perm.length_eq
    have s1 := same_upd (o := .lst (ys.map V.int)) nz
    have e1 : upd H0 z (.lst (ys.map V.int)) z = some (.lst (ys.map V.int)) := upd_same
    have eR0 := eR
    have eR := (upd_ne (o := .lst (ys.map V.int)) (ne_of_none eR nz)).trans eR
    have nzR : z ≠ R := (ne_of_none eR0 nz).symm
    generalize upd H0 z (.lst (ys.map V.int)) = H1 at s1 e1 eR
    have s01 := Same.trans s0 s1
    refine ⟨z, rfl, ⟨_, SqL.of e1⟩, ?_⟩
    refine for_list (K := K) (a := z) (xs := ys.map V.int) (fun i σ' H' => ∃ (o5 : Option V) (us : List V) (ds : List Dd), σ' = [some (.ref dN), some (.ref dB), some (.ref pO), some (.int p), some (.ref R), o5, none, none] ∧ H' R = some (.lst us) ∧ LAt Dd.vals H' us ds ∧ Seq ps.length ds ∧ ds.filterMap Dd.low = [] ∧ (∀ D ∈ ds, D.ad = 0) ∧ us.length ≤ 2 * i ∧ Same H H' ∧ H' z = some (.lst (ys.map V.int)))
      ⟨none, [], [], rfl, eR, .nil, .nil, rfl, (fun _ h => nomatch h), Nat.zero_le _, s01, e1⟩ (fun i σ' H' _ pv => by obtain ⟨_, _, _, _, _, _, _, _, _, _, _, h⟩ := pv; exact SqL.of h) (fun i v σ' H3 hv pv => ?_) (fun σ' H3 pv => ?_)
    · obtain ⟨o5, us, ds, rfl, eR3, la3, sq3, lo3, ad3, lu3, s3, ez3⟩ := pv
      rw [List.getElem?_map] at hv
      obtain ⟨y, hyi, rfl⟩ := Option.map_eq_some_iff.mp hv
      have hi : i < ys.length := (List.getElem?_eq_some_iff.mp hyi).1
      have my := perm.mem_iff.mp (List.mem_of_getElem? hyi)
      obtain ⟨x, _, ex⟩ := sd.gn.2 y my
      refine g_name ?_
      refine ⟨fun σ' H' => ∃ (us : List V) (ds : List Dd), σ' = [some (.ref dN), some (.ref dB), some (.ref pO), some (.int p), some (.ref R), some (.int y), none, none] ∧ H' R = some (.lst us) ∧ LAt Dd.vals H' us ds ∧ Seq ps.length ds ∧ ds.filterMap Dd.low = [] ∧ (∀ D ∈ ds, D.ad = 0) ∧ us.length ≤ 2 * i + 1 ∧ Same H H' ∧ H' z = some (.lst (ys.map V.int)), ?_, ?_⟩
      · refine v_if1 (ans_a (fun _ q => ⟨_, rfl, _, rfl, rfl, _, rfl, q⟩) (fun _ => fun _ q => ⟨_, rfl, _, rfl, dN, _, rfl, dget_of (k := Sum.inl y) (s3 _ _ hN) ex, _, rfl, rfl, _, rfl, q⟩)) (fun _ => ?_) (fun _ => ?_)
        · refine ⟨_, rfl, .inl ⟨rfl, _, SqL.of eR3⟩, _, rfl, _, rfl, lenL (by show 3 ≤ 100000; decide), fun a na => ?_⟩
          refine ⟨R, _, _, rfl, rfl, (upd_ne (ne_of_none eR3 na)).trans eR3, small1000' (by omega), ?_⟩
          obtain ⟨h1, h2, h3, h4⟩ := fr_add (D := .hold y y) s3 nR eR3 na la3
          refine ⟨_, ds ++ [Dd.hold y y], rfl, h2, h3, sq3.add rfl rfl, by rw [List.filterMap_append, lo3]; rfl, fun D hD => ?_, by rw [List.length_append]; show _ + 1 ≤ _; omega, h1, h4 _ _ nzR ez3⟩
          rcases List.mem_append.mp hD with h | h
          · exact ad3 D h
          · rw [List.mem_singleton.mp h]
            rfl
        · exact ⟨us, ds, rfl, eR3, la3, sq3, lo3, ad3, by omega, s3, ez3⟩
      rintro _ H4 ⟨us, ds, rfl, eR3, la3, sq3, lo3, ad3, lu3, s3, ez3⟩
      refine v_if1 (ans_a (fun _ q => ⟨_, rfl, _, rfl, rfl, _, rfl, q⟩) (fun _ => fun _ q => ⟨_, rfl, dB, rfl, .inl ⟨_, .inl (s3 _ _ hB)⟩, _, rfl, _, DGet.k (k := Sum.inl y) (s3 _ _ hB), _, rfl, scal_ok (sd.gd.ok y) (.inr ⟨p, rfl⟩), _, rfl, q⟩)) (fun _ => ?_) (fun _ => ?_)
      · refine ⟨_, rfl, .inl ⟨rfl, _, SqL.of eR3⟩, _, rfl, lenL (by show 3 ≤ 100000; decide), fun a na => ?_⟩
        refine ⟨R, _, _, rfl, rfl, (upd_ne (ne_of_none eR3 na)).trans eR3, small1000' (by omega), ?_⟩
        obtain ⟨h1, h2, h3, h4⟩ := fr_add (D := .before y none) s3 nR eR3 na la3
        refine ⟨_, _, ds ++ [Dd.before y none], rfl, h2, h3, sq3.add rfl rfl, by rw [List.filterMap_append, lo3]; rfl, fun D hD => ?_, by rw [List.length_append]; show _ + 1 ≤ _; omega, h1, h4 _ _ nzR ez3⟩
        rcases List.mem_append.mp hD with h | h
        · exact ad3 D h
        · rw [List.mem_singleton.mp h]
          rfl
      · exact ⟨_, us, ds, rfl, eR3, la3, sq3, lo3, ad3, by omega, s3, ez3⟩
    obtain ⟨o5, us, ds, rfl, eR3, la3, sq3, lo3, ad3, lu3, s3, _⟩ := pv
    rw [List.length_map] at lu3
    refine ⟨_, rfl, pO, _, rfl, .inl (SqL.of (s3 _ _ hP)), _, rfl, by omega, by omega, ?_⟩
    refine for_range (lo := 0) (n := ((ps.length : Nat) : Int).toNat) (fun i σ' H' => ∃ (o6 o7 : Option V) (us : List V) (ds : List Dd), σ' = [some (.ref dN), some (.ref dB), some (.ref pO), some (.int p), some (.ref R), o5, o6, o7] ∧ H' R = some (.lst us) ∧ LAt Dd.vals H' us ds ∧ Seq ps.length ds ∧ (∀ j ∈ ds.filterMap Dd.low, ps.length ≤ j + i) ∧ (∀ D ∈ ds, D.ad = 0) ∧ us.length ≤ 80 + i ∧ Same H H')
      ⟨_, _, us, ds, rfl, eR3, la3, sq3, (by rw [lo3]; exact fun _ h => nomatch h), ad3, by omega, s3⟩ (fun i σ' H4 hi pv => ?_) (fun σ' H4 pv => ?_)
    · obtain ⟨o6, o7, us, ds, rfl, eR4, la4, sq4, lo4, ad4, lu4, s4⟩ := pv
      have hP4 := s4 _ _ hP
      have hi2 : i < ps.length := by omega
      refine ⟨_, rfl, pO, _, rfl, .inl (SqL.of hP4), _, _, rfl, rfl, _, rfl, _, _, rfl, rfl, ?_⟩
      obtain ⟨k, hk⟩ : ∃ k : Nat, k + 1 + i = ps.length := ⟨ps.length - 1 - i, by omega⟩
      have ek : ((ps.length : Nat) : Int) - 1 - (0 + (i : Int)) = (k : Int) := by omega
      have hk2 : k < ps.length := by omega
      obtain ⟨b, L, hL, eb, eL⟩ := la.at (List.getElem?_eq_getElem hk2)
      try (walk_at "nf")
      rw [ek]
      refine ⟨_, rfl, _, rfl, _, rfl, pO, _, (k : Int), .ref b, rfl, rfl, SqL.of hP4, atI_nat (by rw [List.getElem?_eq_getElem hk2, eb]), 1, rfl, b, _, rfl, SqT.of (s4 _ _ eL), cut_let_ok L, fun t nt => ?_⟩
      rw [cut_let]
      have s5 := Same.trans s4 (same_upd (o := .tup (L.ns.map V.int)) nt)
      have eR5 := (upd_ne (o := .tup (L.ns.map V.int)) (ne_of_none eR4 nt)).trans eR4
      have la5 := la4.same (same_upd (o := .tup (L.ns.map V.int)) nt)
      have et : upd H4 t (.tup (L.ns.map V.int)) t = some (.tup (L.ns.map V.int)) := upd_same
      generalize upd H4 t (.tup (L.ns.map V.int)) = H5 at s5 eR5 la5 et
      refine ⟨t, _, rfl, .inr (SqT.of et), rfl, flat_ints, _, rfl, ite2 (fun _ => ?_) (fun _ => ?_)⟩
      · refine ⟨_, rfl, .inl ⟨rfl, _, SqL.of eR5⟩, _, rfl, lenL (by show 2 ≤ 100000; decide), fun a na => ?_⟩
        refine ⟨R, _, _, rfl, rfl, (upd_ne (ne_of_none eR5 na)).trans eR5, small1000' (by omega), ?_⟩
        obtain ⟨h1, h2, h3, h4⟩ := fr_add (D := .lose k) s5 nR eR5 na la5
        refine ⟨_, _, _, ds ++ [Dd.lose k], rfl, h2, h3, sq4.lose hk2 (fun j hj => by have := lo4 j hj; omega), fun j hj => ?_, fun D hD => ?_, by rw [List.length_append]; show _ + 1 ≤ _; omega, h1⟩
        · rw [List.filterMap_append] at hj
          rcases List.mem_append.mp hj with h | h
          · have := lo4 j h
            omega
          · have h : j ∈ [k] := h
            rw [List.mem_singleton.mp h]
            omega
        · rcases List.mem_append.mp hD with h | h
          · exact ad4 D h
          · rw [List.mem_singleton.mp h]
            rfl
      · exact ⟨_, _, us, ds, rfl, eR5, la5, sq4, fun j hj => by have := lo4 j hj; omega, ad4, by omega, s5⟩
    · obtain ⟨o6, o7, us, ds, rfl, eR4, la4, sq4, lo4, ad4, lu4, s4⟩ := pv
      exact ⟨_, rfl, q R us ds H4 nR eR4 la4 sq4 ad4 (by omega) s4⟩
--CUT
/-! ### the law -/
section
variable {CN t c : Addr} {A : Bd} {n : Int} {m : Nat} {S : WK} {H H' : Hp}
theorem NH.frl (I : NH CN t c A n m S H) (f : FrA A H H') {a : Addr} {xs : List V} (n1 : a ≠ A.dl) (n2 : a ≠ A.pO) (e : H a = some (.lst xs)) : H' a = some (.lst xs) :=
  f a _ (ne_kind e I.net.hn (fun z => nomatch z)) (ne_kind e I.net.hb (fun z => nomatch z)) n1 (ne_kind e I.hN (fun z => nomatch z)) (ne_kind e I.hB (fun z => nomatch z)) n2 e
theorem NH.frt (I : NH CN t c A n m S H) (f : FrA A H H') {a : Addr} {xs : List V} (e : H a = some (.tup xs)) : H' a = some (.tup xs) :=
  f a _ (ne_kind e I.net.hn (fun z => nomatch z)) (ne_kind e I.net.hb (fun z => nomatch z)) (ne_kind e I.net.hl (fun z => nomatch z)) (ne_kind e I.hN (fun z => nomatch z)) (ne_kind e I.hB (fun z => nomatch z)) (ne_kind e I.hP (fun z => nomatch z)) e
end
theorem Dd.ad_le (D : Dd) : D.ad ≤ 1 := by cases D <;> first | exact Nat.le_refl _ | exact Nat.zero_le _
theorem Dd.po_le (D : Dd) : D.po ≤ 1 := by cases D <;> first | exact Nat.le_refl _ | exact Nat.zero_le _
theorem Dd.flat_po {D : Dd} (h : D.flat = true) : D.po = 0 := by cases D <;> first | rfl | cases h
theorem Seq.of_take {m j : Nat} {ds X : List Dd} (s : Seq m ds) (f : ∀ D ∈ X, D.flat = true) (e : X.filterMap Dd.low = (ds.take j).filterMap Dd.low) : Seq m X := by
  have sub : ((ds.take j).filterMap Dd.low).Sublist (ds.filterMap Dd.low) := (List.take_sublist j ds).filterMap _
  exact ⟨f, by rw [e]; exact s.dn.sublist sub, fun i hi => by rw [e] at hi; exact s.lt i (sub.subset hi)⟩
def adS (ds : List Dd) : Nat := (ds.map Dd.ad).sum
theorem adS_app {as bs : List Dd} : adS (as ++ bs) = adS as + adS bs := by unfold adS; rw [List.map_append, List.sum_append]
theorem adS_zero {ds : List Dd} (h : ∀ D ∈ ds, D.ad = 0) : adS ds = 0 := by
  induction ds with
  | nil => rfl
  | cons D r ih =>
    show D.ad + adS r = 0
    rw [h D List.mem_cons_self, ih fun D' h' => h D' (List.mem_cons_of_mem _ h')]
theorem Seq.four {m : Nat} {ds : List Dd} {p : Int} (s : Seq m ds) : Seq m (ds ++ [.take p, .admit p p, .before p (some p), .take p]) := by
  have h := (((s.add (D := .take p) rfl rfl).add (D := .admit p p) rfl rfl).add (D := .before p (some p)) rfl rfl).add (D := .take p) rfl rfl
  rw [List.append_assoc, List.append_assoc, List.append_assoc] at h
  exact h
def sp_law (K : PySem.W.Frag) : Sp := fun vs H Q _ => ∃ (a : Addr) (ns : List Int), vs = [.ref a] ∧ SqL K H a (ns.map V.int) ∧ ns.length ≤ 63 ∧ ∀ H', Q (.bl true) H'
theorem T0.ok_law (T : T0 K mg) : FnOk P w K mg base CX0 10 T.a_law T.fd_law ["script"] (sp_law K) := by
  refine T.F_law.ok sc_law (fun vs H Q E h => ?_) (fun cdv A' outer s H vs Q E hr h => ?_)
  · obtain ⟨a, ns, rfl, _⟩ := h
    rfl
  · obtain ⟨a, ns, rfl, hS, hlen, q⟩ := h
    refine ⟨_, (pss_cons (ps_set (i := 1) sc_law.nd rfl (Or.inr rfl) (pe_call T.ok__law_tape (hr.mono (by decide)) (by rfl) T.g__law_tape T.k__law_tape T.b__law_tape .nil pass0 (pa_cons (pv 0) pa_nil)))
        (pss_cons (ps_set (i := 2) sc_law.nd rfl (Or.inl rfl) (pe_op op_add pe_int (pe_call T.ok__law_pick (hr.mono (by decide)) (by rfl) T.g__law_pick T.k__law_pick T.b__law_pick .nil pass0 (pa_cons (pv 1) (pa_cons pe_int pa_nil)))))
        (pss_cons (ps_set (i := 3) sc_law.nd rfl (Or.inl rfl) (pe_call T.ok__law_pick (hr.mono (by decide)) (by rfl) T.g__law_pick T.k__law_pick T.b__law_pick .nil pass0 (pa_cons (pv 1) (pa_cons pe_int pa_nil))))
        (C8.pss_cut (ps_if (pt_cmpR op_eq (pe_call T.ok__law_pick (hr.mono (by decide)) (by rfl) T.g__law_pick T.k__law_pick T.b__law_pick .nil pass0 (pa_cons (pv 1) (pa_cons pe_int pa_nil))) pe_int (nomark _)) (pss_one (ps_set (i := 3) sc_law.nd rfl (Or.inl rfl) (pe_call T.ok__law_pick (hr.mono (by decide)) (by rfl) T.g__law_pick T.k__law_pick T.b__law_pick .nil pass0 (pa_cons (pv 1) (pa_cons pe_int pa_nil))))) pss_nil)
        (pss_cons (ps_set (i := 4) sc_law.nd rfl (Or.inl rfl) (pe_call T.ok__law_size (hr.mono (by decide)) (by rfl) T.g__law_size T.k__law_size T.b__law_size .nil pass0 (pa_cons (pv 1) (pa_cons (pv 3) pa_nil))))
        (pss_cons (ps_set (i := 5) sc_law.nd rfl (Or.inr rfl) (pe_call T.ok__law_places (hr.mono (by decide)) (by rfl) T.g__law_places T.k__law_places T.b__law_places .nil pass0 (pa_cons (pv 1) (pa_cons (pv 4) (pa_cons (pv 3) pa_nil)))))
        (pss_cons (ps_set (i := 6) sc_law.nd rfl (Or.inl rfl) (pe_call T.ok__law_nexts (hr.mono (by decide)) (by rfl) T.g__law_nexts T.k__law_nexts T.b__law_nexts .nil pass0 (pa_cons (pv 1) (pa_cons (pv 5) pa_nil))))
        (pss_cons (ps_set (i := 7) sc_law.nd rfl (Or.inl rfl) pe_dnewK)
        (pss_cons (ps_for PassesOwn.never rfl (pi_list (pv 5)) (pg_name (i := 8) sc_law.nd rfl (Or.inl rfl)) (pss_one (ps_if (pt_cmpR op_eq (pe_call T.ok__law_pick (hr.mono (by decide)) (by rfl) T.g__law_pick T.k__law_pick T.b__law_pick .nil pass0 (pa_cons (pv 1) (pa_cons pe_int pa_nil))) pe_int (nomark _)) (pss_one (ps_asg (pe_ix (ix_listK (K := K)) (pv 5) (pe_call T.ok__law_pick (hr.mono (by decide)) (by rfl) T.g__law_pick T.k__law_pick T.b__law_pick .nil pass0 (pa_cons (pv 1) (pa_cons (pv 3) pa_nil))) (fun _ _ => rfl)) (pg_sub (pv 7) (pv 8) (set_dict (un1 hr))))) pss_nil)))
        (pss_cons (ps_setLc (i := 10) (own := [("k", 9)]) (g := gName 9) (by rfl) sc_law.nd rfl rfl (sw_true rfl rfl rfl (by decide +kernel)) (pi_range1 (by rfl) T.m_range (pa_cons (pe_op op_mul (pe_op op_mul (pe_call T.ok__law_pick (hr.mono (by decide)) (by rfl) T.g__law_pick T.k__law_pick T.b__law_pick .nil pass0 (pa_cons (pv 1) (pa_cons pe_int pa_nil))) (pe_call T.ok__law_pick (hr.mono (by decide)) (by rfl) T.g__law_pick T.k__law_pick T.b__law_pick .nil pass0 (pa_cons (pv 1) (pa_cons pe_int pa_nil)))) (pe_callB (call_min2 rfl) (by rfl) T.m_min (by decide +kernel) (pa_cons pe_int (pa_cons (pv 3) pa_nil)))) pa_nil)) (blkOk_by (own := [("k", 9)]) (N := ["script", "tape", "turns", "count", "size", "places", "nexts", "behinds", "place", "k", "post", "net", "deed", "houses", "house", "deeds"]) (sc := defScope s_law) (by decide +kernel)) (fun _ _ _ _ _ => pg_name (i := 9) sc_law.nd rfl (Or.inl rfl)) (fun _ _ _ _ _ => pts_nil) (fun _ _ _ _ _ => (pe_call T.ok__law_letter (hr.mono (by decide)) (by rfl) T.g__law_letter T.k__law_letter T.b__law_letter .nil pass0 (pa_cons (pv 1) (pa_cons (pv 5) pa_nil)))))
        (pss_cons (ps_set (i := 11) sc_law.nd rfl (Or.inl rfl) (pe_makeK T.mk_Net T.ok_Net__init (hr.mono (by decide)) (by rfl) T.mc_Net T.kb_Net__init pass0 (pa_cons (pv 4) (pa_cons (pe_callTy call_dictD (by rfl) T.m_dict (by decide +kernel) (pa_cons (pv 6) pa_nil)) pa_nil)) (pk_cons (pe_callTy call_dictD (by rfl) T.m_dict (by decide +kernel) (pa_cons (pv 7) pa_nil)) (pk_cons (pe_callTy (call_list_ofK (K := K)) (by rfl) T.m_list (by decide +kernel) (pa_cons (pv 10) pa_nil)) pk_nil))))
        (pss_cons (ps_for PassesOwn.never rfl (pi_range1 (by rfl) T.m_range (pa_cons (pv 2) pa_nil)) (pg_name (i := 9) sc_law.nd rfl (Or.inl rfl)) (pss_cons (ps_set (i := 12) sc_law.nd rfl (Or.inl rfl) (pe_call T.ok__law_drawn (hr.mono (by decide)) (by rfl) T.g__law_drawn T.k__law_drawn T.b__law_drawn .nil pass0 (pa_cons (pv 1) (pa_cons (pv 4) (pa_cons (pv 6) (pa_cons (pe_callB (call_lenK (K := K)) (by rfl) T.m_len PySem.boot_len (pa_cons (pv 10) pa_nil)) pa_nil))))))
        (pss_one (ps_if (pt_not (pt_val (pe_call T.ok__law_step hr (by rfl) T.g__law_step T.k__law_step T.b__law_step .nil pass0 (pa_cons (pv 11) (pa_cons (pv 4) (pa_cons (pv 6) (pa_cons (pv 7) (pa_cons (pv 10) (pa_cons (pv 12) pa_nil))))))))) (pss_one (ps_ret pe_bl)) pss_nil))))
        (pss_cons (ps_set (i := 13) sc_law.nd rfl (Or.inl rfl) (pe_callB (call_sortedDI rfl) (by rfl) T.m_sorted (by decide +kernel) (pa_cons (pv 6) pa_nil)))
        (pss_cons (ps_set (i := 14) sc_law.nd rfl (Or.inl rfl) (pe_ix (ix_listK (K := K)) (pe_op op_cat (pv 13) (pe_lst (pa_cons (pe_call T.ok__law_pick (hr.mono (by decide)) (by rfl) T.g__law_pick T.k__law_pick T.b__law_pick .nil pass0 (pa_cons (pv 1) (pa_cons (pv 4) pa_nil))) pa_nil))) (pe_call T.ok__law_pick (hr.mono (by decide)) (by rfl) T.g__law_pick T.k__law_pick T.b__law_pick .nil pass0 (pa_cons (pv 1) (pa_cons (pe_callB (call_max2 rfl) (by rfl) T.m_max (by decide +kernel) (pa_cons pe_int (pa_cons (pe_callB (call_lenK (K := K)) (by rfl) T.m_len PySem.boot_len (pa_cons (pv 13) pa_nil)) pa_nil))) pa_nil))) (fun _ _ => rfl)))
        (pss_cons (ps_set (i := 15) sc_law.nd rfl (Or.inl rfl) (pe_lst (pa_cons (pe_tup (pa_cons pe_str (pa_cons (pv 14) pa_nil))) pa_nil)))
        (pss_cons (ps_for PassesOwn.never rfl (pi_list (pe_call T.ok__law_freeing (hr.mono (by decide)) (by rfl) T.g__law_freeing T.k__law_freeing T.b__law_freeing .nil pass0 (pa_cons (pv 6) (pa_cons (pv 7) (pa_cons (pv 10) (pa_cons (pv 14) pa_nil)))))) (pg_name (i := 12) sc_law.nd rfl (Or.inl rfl)) (pss_cons (ps_expr (pe_bm PySem.F.plainAttrs_list PySem.F.slot_list_append PySem.F.type_list_append mt_append (pv 15) (pa_cons (pv 12) pa_nil)))
        (pss_one (ps_if (pt_cmpR op_lt (pe_callB (call_lenK (K := K)) (by rfl) T.m_len PySem.boot_len (pa_cons (pv 15) pa_nil)) pe_int (nomark _)) (pss_one (ps_expr (pe_bm PySem.F.plainAttrs_list PySem.F.slot_list_append PySem.F.type_list_append mt_append (pv 15) (pa_cons (pe_tup (pa_cons pe_str (pa_cons (pv 14) pa_nil))) pa_nil)))) pss_nil))))
        (pss_cons (ps_set (i := 15) sc_law.nd rfl (Or.inl rfl) (pe_op op_cat (pv 15) (pe_lst (pa_cons (pe_tup (pa_cons pe_str (pa_cons (pv 14) pa_nil))) (pa_cons (pe_tup (pa_cons pe_str (pa_cons (pv 14) (pa_cons (pv 14) pa_nil)))) (pa_cons (pe_tup (pa_cons pe_str (pa_cons (pv 14) (pa_cons (pv 14) pa_nil)))) (pa_cons (pe_tup (pa_cons pe_str (pa_cons (pv 14) pa_nil))) pa_nil)))))))
        (pss_cons (ps_for PassesOwn.never rfl (pi_list (pv 15)) (pg_name (i := 12) sc_law.nd rfl (Or.inl rfl)) (pss_one (ps_if (pt_not (pt_val (pe_call T.ok__law_step hr (by rfl) T.g__law_step T.k__law_step T.b__law_step .nil pass0 (pa_cons (pv 11) (pa_cons (pv 4) (pa_cons (pv 6) (pa_cons (pv 7) (pa_cons (pv 10) (pa_cons (pv 12) pa_nil))))))))) (pss_one (ps_ret pe_bl)) pss_nil)))
        (pss_one (ps_ret pe_bl)))))))))))))))))))), ?_⟩
    refine ⟨_, rfl, a, ns, rfl, hS, by omega, fun H1 t c sm nt T1 => ?_⟩
    refine ⟨_, rfl, t, c, 16, rfl, T1, by decide, by decide, fun tu H2 tu0 tu1 k2 T2 => ⟨_, _, rfl, rfl, ?_⟩⟩
    refine ⟨_, rfl, t, c, 7, rfl, T2, by decide, by decide, fun co H3 co0 co1 k3 T3 => ?_⟩
    refine ⟨fun σ' H' => ∃ co : Int, σ' = [some (.ref a), some (.ref t), some (.int (1 + tu)), some (.int co), none, none, none, none, none, none, none, none, none, none, none, none] ∧ 0 ≤ co ∧ co ≤ 20 ∧ Tape H' t c, ?_, ?_⟩
    · refine ⟨_, rfl, t, c, 16, rfl, T3, by decide, by decide, fun z H4 _ _ k4 T4 => ⟨rfl, _, rfl, ite2 (fun _ => ?_) (fun _ => ?_)⟩⟩
      · exact ⟨_, rfl, t, c, 21, rfl, T4, by decide, by decide, fun co H5 c0 c1 k5 T5 => ⟨_, rfl, by omega, by omega, T5⟩⟩
      · exact ⟨_, rfl, by omega, by omega, T4⟩
    rintro _ H4 ⟨co, rfl, c0, c1, T4⟩
    refine ⟨_, rfl, _, rfl, t, c, co, rfl, T4, by omega, fun n H5 n0 n1 n2 k5 T5 => ?_⟩
    refine ⟨_, rfl, _, rfl, _, rfl, t, c, n, co, rfl, T5, by omega, by omega, by omega, n2, fun pl ms H6 npl hpl lms mnd mrg k6 T6 => ?_⟩
    have opl := T5.off npl
    have l20 : ms.length ≤ 20 := by omega
    refine ⟨_, rfl, _, rfl, t, c, pl, ms, rfl, T6, opl.1, hpl, mnd, by omega, fun dN nx H7 ndN hN keys vN k7 T7 => ?_⟩
    have odN := T6.off ndN
    have hpl7 := k7 _ _ opl.1 hpl
    intro dB ndB
    have odB := T7.off ndB
    have T8 := T7.put (o := .dK []) odB
    have hN8 := (upd_ne (o := .dK []) (ne_of_none hN ndB)).trans hN
    have hpl8 := (upd_ne (o := .dK []) (ne_of_none hpl7 ndB)).trans hpl7
    have hB8 : upd H7 dB (.dK []) dB = some (.dK []) := upd_same
    have dNB : dN ≠ dB := ne_of_none hN ndB
    generalize upd H7 dB (.dK []) = H8 at T8 hN8 hpl8 hB8
    have dBp : dB ≠ pl := ne_kind hB8 hpl8 (fun z => nomatch z)
    -- behinds
    refine ⟨_, rfl, pl, rfl, ⟨_, SqL.of hpl8⟩, ?_⟩
    refine for_list (K := K) (a := pl) (xs := ms.map V.int) (fun i σ' H' => ∃ (o8 : Option V) (bs : List (Key × V)) (js : List Int), σ' = [some (.ref a), some (.ref t), some (.int (1 + tu)), some (.int co), some (.int n), some (.ref pl), some (.ref dN), some (.ref dB), o8, none, none, none, none, none, none, none] ∧ H' dB = some (.dK bs) ∧ bs.map (·.1) = js.map Sum.inl ∧ js.Nodup ∧ js.length ≤ i ∧ (∀ j ∈ js, j ∈ ms.take i ∧ ∃ x ∈ ms, valV bs (.inl j) = some (.int x)) ∧ H' dN = some (.dK nx) ∧ H' pl = some (.lst (ms.map V.int)) ∧ Tape H' t c)
      ⟨none, [], [], rfl, hB8, rfl, List.nodup_nil, Nat.le_refl _, (fun _ h => nomatch h), hN8, hpl8, T8⟩ (fun i σ' H' _ pv => by obtain ⟨_, _, _, _, _, _, _, _, _, _, h, _⟩ := pv; exact SqL.of h) (fun i v σ' H10 hv pv => ?_) (fun σ' H9 pv => ?_)
    · obtain ⟨o8, bs, js, rfl, hB, kb, jnd, lj, vj, hN, hp, T10⟩ := pv
      rw [List.getElem?_map] at hv
      obtain ⟨y, hyi, rfl⟩ := Option.map_eq_some_iff.mp hv
      have hi : i < ms.length := (List.getElem?_eq_some_iff.mp hyi).1
      have ti : (ms.take (i + 1)) = ms.take i ++ [y] := by rw [List.take_add_one, hyi]; rfl
      refine ⟨_, rfl, t, c, 2, rfl, T10, by decide, by decide, fun z H11 _ _ k11 T11 => ⟨rfl, _, rfl, ite2 (fun _ => ?_) (fun _ => ?_)⟩⟩
      · have hp11 := k11 _ _ opl.1 hp
        refine ⟨_, rfl, _, rfl, _, rfl, t, c, co, rfl, T11, by omega, by omega, fun z H12 z0 z1 k12 T12 => ?_⟩
        have hz : z.toNat < ms.length := by omega
        have az : atI (ms.map V.int) z = some (.int ms[z.toNat]) := by
          rw [← at_ints hz, Int.toNat_of_nonneg z0]
        have hB12 := k12 _ _ odB.1 (k11 _ _ odB.1 hB)
        have lb : bs.length = js.length := by have := congrArg List.length kb; rw [List.length_map, List.length_map] at this; exact this
        have nj : y ∉ js := fun h => not_in_take mnd hyi (vj y h).1
        refine ⟨pl, _, z, _, rfl, rfl, SqL.of (k12 _ _ opl.1 hp11), az, _, rfl, _, rfl, dB, _, rfl, DPut.k (k := Sum.inl y) hB12 (small1000' (by omega)), ?_⟩
        refine ⟨_, _, js ++ [y], rfl, upd_same, ?_, List.nodup_append.mpr ⟨jnd, by simp, fun a ha b hb e => nj (by rw [List.mem_singleton] at hb; rw [← hb, ← e]; exact ha)⟩, ?_, fun j hj => ?_, (upd_ne dNB).trans (k12 _ _ odN.1 (k11 _ _ odN.1 hN)), (upd_ne dBp.symm).trans (k12 _ _ opl.1 hp11), T12.put odB⟩
        · rw [putK_new _ (valV_none_keys kb nj), List.map_append, List.map_append, kb]
          rfl
        · rw [List.length_append]
          exact Nat.succ_le_succ lj
        · rw [ti, valV_put]
          by_cases e : j = y
          · rw [if_pos (by rw [e]), e]
            exact ⟨List.mem_append_right _ (List.mem_singleton.mpr rfl), _, List.getElem_mem hz, rfl⟩
          · rw [if_neg (fun z => e (Sum.inl.inj z))]
            have := vj j ((List.mem_append.mp hj).resolve_right (fun z => e (List.mem_singleton.mp z)))
            exact ⟨List.mem_append_left _ this.1, this.2⟩
      · refine ⟨_, bs, js, rfl, k11 _ _ odB.1 hB, kb, jnd, Nat.le_succ_of_le lj, fun j hj => ?_, k11 _ _ odN.1 hN, k11 _ _ opl.1 hp, T11⟩
        rw [ti]
        exact ⟨List.mem_append_left _ (vj j hj).1, (vj j hj).2⟩
    obtain ⟨o8, bs, js, rfl, hB9, kb, jnd, lj, vj, hN9, hp9, T9⟩ := pv
    rw [List.length_map] at lj vj
    rw [List.take_length] at vj
    have lb : bs.length = js.length := by have := congrArg List.length kb; rw [List.length_map, List.length_map] at this; exact this
    -- post
    refine ⟨_, rfl, t, c, 4, rfl, T9, by decide, by decide, fun u1 H10 u10 u11 k10 T10 => ?_⟩
    refine ⟨_, rfl, t, c, 4, rfl, T10, by decide, by decide, fun u2 H11 u20 u21 k11 T11 => ?_⟩
    have hu : 0 ≤ u1 * u2 ∧ u1 * u2 ≤ 9 := by
      have e : u1 = 0 ∨ u1 = 1 ∨ u1 = 2 ∨ u1 = 3 := by omega
      rcases e with rfl | rfl | rfl | rfl <;> omega
    refine ⟨_, _, rfl, rfl, .inl ⟨by omega, by omega⟩, _, rfl, _, _, rfl, _, _, rfl, rfl, .inl ⟨by omega, by omega⟩, ?_⟩
    obtain ⟨g, eg⟩ : ∃ g : Int, g = u1 * u2 * (if co < 1 then co else 1) := ⟨_, rfl⟩
    have hg : 0 ≤ g ∧ g ≤ 9 ∧ (0 < g → 0 < ms.length) := by
      by_cases e : co < 1
      · have : co = 0 := by omega
        rw [if_pos e, this, Int.mul_zero] at eg
        omega
      · rw [if_neg e, Int.mul_one] at eg
        omega
    refine ⟨g, congrArg (fun z => [V.int z]) eg.symm, by omega, by omega, fun pO npO => ?_⟩
    have opO := T11.off npO
    have k911 := k10.trans k11
    have hN11 := k911 _ _ odN.1 hN9
    have hB11 := k911 _ _ odB.1 hB9
    have hp11 := k911 _ _ opl.1 hp9
    refine lc_range (lo := 0) (n := g.toNat) (fun i H' => ∃ (ps : List V) (Ls : List Let), ps.length = i ∧ Ltr ms H' ps Ls ∧ H' pO = some (.lst ps) ∧ Kp t H11 H' ∧ Tape H' t c) ⟨[], [], rfl, ⟨.nil, fun _ h => nomatch h⟩, upd_same, Kp.of_same (same_upd npO), T11.put opO⟩ (fun i H12 hi pv => ?_) (fun H12 pv => ?_)
    · obtain ⟨ps, Ls, lp, mp, hP, k12, T12⟩ := pv
      refine ⟨rfl, lc_yes ?_⟩
      have l0 : 0 < ms.length := hg.2.2 (by omega)
      refine ⟨_, rfl, _, rfl, t, c, pl, ms, rfl, T12, opl.1, k12 _ _ opl.1 hp11, l0, by omega, fun l L H13 nl hl hL k13 T13 => ?_⟩
      have hP13 := k13 _ _ opO.1 hP
      have kt : ∀ {b : Addr} {xs : List V}, H13 b = some (.tup xs) → upd H13 pO (.lst (ps ++ [.ref l])) b = some (.tup xs) := fun e => (upd_ne (ne_kind e hP13 (fun z => nomatch z))).trans e
      exact ⟨_, hP13, small1000' (by omega), ps ++ [.ref l], Ls ++ [L], by rw [List.length_append, lp]; rfl, (((mp.kp T12 k13).mono (fun _ _ e => kt e) (fun _ h => h)).app (kt hl) hL), upd_same, fun b o nb e => (upd_ne (ne_of_none e npO)).trans (k13 _ _ nb (k12 _ _ nb e)), T13.put opO⟩
    obtain ⟨ps, Ls, lp, mp, hP, k12, T12⟩ := pv
    have hN12 := k12 _ _ odN.1 hN11
    have hB12 := k12 _ _ odB.1 hB11
    -- net
    refine ⟨_, rfl, _, rfl, dN, nx, rfl, .inl hN12, fun d1 n1 => ?_⟩
    have s13 := same_upd (o := .dK nx) n1
    have e1 : upd H12 d1 (.dK nx) d1 = some (.dK nx) := upd_same
    generalize upd H12 d1 (.dK nx) = H13 at s13 e1
    refine ⟨_, rfl, dB, bs, rfl, .inl (s13 _ _ hB12), fun d2 n2' => ?_⟩
    have s14 := same_upd (o := .dK bs) n2'
    have e2 : upd H13 d2 (.dK bs) d2 = some (.dK bs) := upd_same
    generalize upd H13 d2 (.dK bs) = H14 at s14 e2
    have s1214 := Same.trans s13 s14
    refine ⟨_, rfl, pO, ps, rfl, .inl (SqL.of (s1214 _ _ hP)), fun d3 n3 => ?_⟩
    have s15 := same_upd (o := .lst ps) n3
    have e3 : upd H14 d3 (.lst ps) d3 = some (.lst ps) := upd_same
    generalize upd H14 d3 (.lst ps) = H15 at s15 e3
    have s1215 := Same.trans s1214 s15
    refine ⟨rfl, rfl, fun h dx nh ndx ne => ?_⟩
    have s16 : Same H15 (upd (upd H15 dx (.own h)) h (.ins T.C_Net dx [])) := fun b o e => (upd_ne (ne_of_none e nh)).trans ((upd_ne (ne_of_none e ndx)).trans e)
    have hh16 : upd (upd H15 dx (.own h)) h (.ins T.C_Net dx []) h = some (.ins T.C_Net dx []) := upd_same
    generalize upd (upd H15 dx (.own h)) h (.ins T.C_Net dx []) = H16 at s16 hh16
    have s1216 := Same.trans s1215 s16
    have mem_some : ∀ k ∈ ms, (valV nx (.inl k)).isSome = true := fun k hk => by obtain ⟨x, _, e⟩ := vN k hk; rw [e]; rfl
    refine ⟨h, dx, d1, d2, d3, n, nx, bs, ps, ms, js, rfl, hh16, s16 _ _ (s15 _ _ (s14 _ _ e1)), s16 _ _ (s15 _ _ e2), s16 _ _ e3, keys, by omega, mnd, kb, by omega, by omega, fun k hk => ?_, fun j hj => ?_, fun v hv => ?_, fun H17 dn db dl bf N17 f17 m1 m2 m3 ndb vF lbf => ⟨rfl, ?_⟩⟩
    · obtain ⟨x, mx, e⟩ := vN k hk
      exact ⟨(mrg k hk).1, (mrg k hk).2, x, e, mem_some x mx⟩
    · obtain ⟨mj, x, mx, e⟩ := vj j hj
      exact ⟨mem_some j mj, x, e, mem_some x mx⟩
    · obtain ⟨i, hi⟩ := List.getElem?_of_mem hv
      obtain ⟨p, L, hL, rfl, ep⟩ := mp.1.at hi
      exact ⟨p, L.wd, L.ns, rfl, by rw [← L.vals_eq]; exact s1216 _ _ ep, fun k hk => mem_some k (mp.2 L (List.mem_of_getElem? hL) k hk)⟩
    have k1217 : ∀ {b : Addr} {o : HO}, H12 b = some o → (∀ c d f, o ≠ .ins c d f) → H17 b = some o := fun e no => f17 _ _ (ne_kind (s1216 _ _ e) hh16 (no _ _ _)) (s1216 _ _ e)
    have fresh : ∀ {b d : Addr} {o : HO}, H12 b = some o → H16 d = none → b ≠ d := fun e hd z => by rw [← z, s1216 _ _ e] at hd; cases hd
    obtain ⟨cs, ta, tb, tk, tr, et1, et2, et3, et4⟩ := T12
    have T17 : Tape H17 t c := ⟨cs, ta, tb, tk, tr, k1217 et1 (fun _ _ _ z => nomatch z), k1217 et2 (fun _ _ _ z => nomatch z), et3, et4⟩
    have la17 : LAt Let.vals H17 ps Ls := mp.1.mono fun b xs e => k1217 e (fun _ _ _ z => nomatch z)
    have gd : GD ms bs := fun p v e => by
      by_cases hp : p ∈ js
      · obtain ⟨mj, x, mx, ex⟩ := vj p hp
        rw [ex] at e
        exact .inr ⟨mj, x, mx, (Option.some.inj e).symm⟩
      · rw [valV_none_keys kb hp] at e
        cases e
    have IA : NH T.C_Net t c ⟨h, dn, db, dl, dN, dB, pO⟩ n 0 ⟨ms, nx, bs, bf, ps, ps, Ls⟩ H17 := {
      tape := T17, net := N17, hN := k1217 hN12 (fun _ _ _ z => nomatch z), hB := k1217 hB12 (fun _ _ _ z => nomatch z), hP := k1217 hP (fun _ _ _ z => nomatch z), sd := ⟨⟨keys, vN⟩, mnd, mrg, gd, vF, mp.2⟩, n0 := by omega, n9 := by omega, la := la17, ll := la17
      ndl := ⟨opO.1, opO.2, fun z => fresh et1 m3 z.symm, fun z => fresh et2 m3 z.symm, fresh hP m3⟩
      ndd := ⟨ndb.symm, fun z => fresh hN12 m1 z.symm, fun z => fresh hB12 m1 z.symm, fun z => fresh hN12 m2 z.symm, fun z => fresh hB12 m2 z.symm, dNB⟩
      lks := by show ms.length ≤ 40; omega
      lps := by show ps.length ≤ 60; omega
      lbf := by show bf.length ≤ 40 + 0; omega
      lbs := by show bs.length ≤ 40 + 0; omega }
    -- the deeds
    obtain ⟨A, eA⟩ : ∃ A : Bd, A = ⟨h, dn, db, dl, dN, dB, pO⟩ := ⟨_, rfl⟩
    have a1 : A.h = h := by rw [eA]
    have a2 : A.dN = dN := by rw [eA]
    have a3 : A.dB = dB := by rw [eA]
    have a4 : A.pO = pO := by rw [eA]
    rw [← eA] at IA
    rw [← a1, ← a2, ← a3, ← a4]
    clear eA
    refine ⟨_, rfl, 1 + tu, rfl, by omega, by omega, ?_⟩
    refine for_range (lo := 0) (n := (1 + tu).toNat) (fun i σ' H' => ∃ (o9 o12 : Option V) (S : WK), σ' = [some (.ref a), some (.ref t), some (.int (1 + tu)), some (.int co), some (.int n), some (.ref pl), some (.ref A.dN), some (.ref A.dB), o8, o9, some (.ref A.pO), some (.ref A.h), o12, none, none, none] ∧ NH T.C_Net t c A n i S H' ∧ S.ks.length ≤ 20 + i ∧ S.ps.length ≤ 9 + i)
      ⟨_, _, _, rfl, IA, by show ms.length ≤ 20 + 0; omega, by show ps.length ≤ 9 + 0; omega⟩ (fun i σ' H20 hi pv => ?_) (fun σ' H20 pv => ?_)
    · obtain ⟨o9, o12, S, rfl, I, lki, lpi⟩ := pv
      have nNt : A.dN ≠ t := by
        obtain ⟨⟨xt, et⟩, _⟩ := tape_at I.tape
        exact ne_kind I.hN et (fun z => nomatch z)
      have lks := I.lks
      refine ⟨_, rfl, _, rfl, _, rfl, _, rfl, A.pO, _, rfl, .inl (SqL.of I.hP), t, c, A.dN, n, S.ps.length, S.nx, S.ks, rfl, I.tape, nNt, I.hN, I.gn.1, by omega, I.n0, I.n9, by omega, fun D da H21 ok ea k21 T21 => ?_⟩
      have I1 := I.kp k21 T21
      have d1 := D.ad_le
      have d2 := D.po_le
      have ok2 : D.ok S.Ls.length := by rw [← I.la.1]; exact ok
      refine ⟨_, rfl, _, rfl, _, rfl, _, rfl, _, rfl, _, rfl, t, c, da, A, n, i, S, D, rfl, I1, ea, ok2, by omega, by omega, by omega, fun S' H22 J fr lk hl => ⟨true, rfl, iteF ?_⟩⟩
      refine ⟨_, _, S', rfl, J, by omega, ?_⟩
      have e1 := J.la.1
      have e2 := I.la.1
      rcases hl with hl | hl
      · rw [e1, hl]
        omega
      · have := stL_len (n := n) (nx := S.nx) (bs := S.bs) ok2
        rw [e1, hl]
        omega
    obtain ⟨o9, o12, S, rfl, I, lki, lpi⟩ := pv
    obtain ⟨m, hm⟩ : ∃ m : Nat, m = (1 + tu).toNat := ⟨_, rfl⟩
    rw [← hm] at I lki lpi
    have m16 : m ≤ 16 := by omega
    have lks := I.lks
    refine ⟨_, rfl, A.dN, S.nx, S.ks, rfl, .inl I.hN, I.gn.1, by omega, fun zs zl permz pwz nz => ?_⟩
    have s1 := same_upd (o := .lst (zs.map V.int)) nz
    have ez : upd H20 zl (.lst (zs.map V.int)) zl = some (.lst (zs.map V.int)) := upd_same
    have oz := I.tape.off nz
    generalize upd H20 zl (.lst (zs.map V.int)) = H21 at s1 ez
    have I1 := I.same s1
    have zlen := permz.length_eq
    refine ⟨_, rfl, _, rfl, _, rfl, t, c, n, rfl, I1.tape, by omega, by omega, fun z H22 _ _ k22 T22 => ⟨lenL (by show 1 ≤ 100000; decide), fun L nL => ?_⟩⟩
    have ez2 := k22 _ _ oz.1 ez
    have I2 := (I1.kp k22 T22).same (same_upd (o := .lst [.int z]) nL)
    have ez3 := (upd_ne (o := .lst [.int z]) (ne_of_none ez2 nL)).trans ez2
    have eL : upd H22 L (.lst [.int z]) L = some (.lst [.int z]) := upd_same
    generalize upd H22 L (.lst [.int z]) = H23 at I2 ez3 eL
    refine ⟨zl, L, _, _, rfl, rfl, ez3, eL, lenL (by rw [List.length_map]; show zs.length + 1 ≤ 100000; omega), fun C nC => ?_⟩
    have I3 := I2.same (same_upd (o := .lst (zs.map V.int ++ [.int z])) nC)
    have ez4 := (upd_ne (o := .lst (zs.map V.int ++ [.int z])) (ne_of_none ez3 nC)).trans ez3
    have oC := I2.tape.off nC
    have eC : upd H23 C (.lst (zs.map V.int ++ [.int z])) C = some (.lst ((zs ++ [z]).map V.int)) := by rw [upd_same, List.map_append]; rfl
    generalize upd H23 C (.lst (zs.map V.int ++ [.int z])) = H24 at I3 ez4 eC
    refine ⟨_, rfl, _, rfl, zl, _, rfl, .inl (SqL.of ez4), _, _, rfl, t, c, _, rfl, I3.tape, ?_, ?_, fun j H25 j0 j1 k25 T25 => ?_⟩
    · rw [List.length_map]
      split <;> omega
    · rw [List.length_map]
      split <;> omega
    rw [List.length_map] at j1
    have hj : j.toNat < (zs ++ [z]).length := by
      rw [List.length_append]
      show _ < zs.length + 1
      split at j1 <;> omega
    obtain ⟨p, ep⟩ : ∃ p, p = (zs ++ [z])[j.toNat] := ⟨_, rfl⟩
    have aj : atI ((zs ++ [z]).map V.int) j = some (.int p) := by rw [ep, ← at_ints hj, Int.toNat_of_nonneg j0]
    refine ⟨C, _, j, .int p, rfl, rfl, SqL.of (k25 _ _ oC.1 eC), aj, ?_⟩
    have I4 := I3.kp k25 T25
    clear ez4 eC eL ez3 ez2 I1 I2 I3 aj ep hj
    -- the row of deeds
    refine ⟨_, rfl, lenL (by show 2 ≤ 100000; decide), fun a1' na1 => ⟨lenL (by show 1 ≤ 100000; decide), fun R nR => ?_⟩⟩
    have s5 := same_upd (o := .tup [.str "take", .int p]) na1
    have e5 : upd H25 a1' (.tup [.str "take", .int p]) a1' = some (.tup (Dd.take p).vals) := upd_same
    generalize upd H25 a1' (.tup [.str "take", .int p]) = H26 at s5 e5 nR
    have nR0 := none_back s5 nR
    have s6 := same_upd (o := .lst [.ref a1']) nR
    have e6 := s6 _ _ e5
    have eR : upd H26 R (.lst [.ref a1']) R = some (.lst [.ref a1']) := upd_same
    generalize upd H26 R (.lst [.ref a1']) = H27 at s6 e6 eR
    have s56 := Same.trans s5 s6
    have I7 := I4.same s56
    have lps := I7.lps
    refine ⟨_, rfl, _, rfl, _, rfl, _, rfl, A.dN, A.dB, A.pO, n, p, S.nx, S.bs, S.bf, S.ps, S.ks, S.Ls, rfl, I7.hN, I7.hB, I7.hP, I.sd, I7.la, by omega, lps, fun l us ds H28 nl el lad sq ad0 lu s8 => ?_⟩
    have nlR : l ≠ R := (ne_of_none eR nl).symm
    have s58 := Same.trans s56 s8
    refine ⟨l, rfl, ⟨_, SqL.of el⟩, ?_⟩
    have lu2 := lad.1
    refine for_list (K := K) (a := l) (xs := us) (fun i σ' H' => ∃ (o12 : Option V) (vs : List V) (Ds : List Dd), σ' = [some (.ref a), some (.ref t), some (.int (1 + tu)), some (.int co), some (.int n), some (.ref pl), some (.ref A.dN), some (.ref A.dB), o8, o9, some (.ref A.pO), some (.ref A.h), o12, some (.ref zl), some (.int p), some (.ref R)] ∧ H' R = some (.lst vs) ∧ LAt Dd.vals H' vs Ds ∧ (∀ D ∈ Ds, D.flat = true) ∧ (∀ D ∈ Ds, D.ad = 0) ∧ Ds.filterMap Dd.low = (ds.take i).filterMap Dd.low ∧ vs.length ≤ 1 + 2 * i ∧ Same H25 H' ∧ H' l = some (.lst us) ∧ LAt Dd.vals H' us ds)
      ⟨_, [.ref a1'], [.take p], rfl, s8 _ _ eR, LAt.app (vs := []) (qs := []) .nil (s8 _ _ e6), (fun D hD => by rw [List.mem_singleton.mp hD]; rfl), (fun D hD => by rw [List.mem_singleton.mp hD]; rfl), rfl, by show 1 ≤ _; omega, s58, el, lad⟩ (fun i σ' H' _ pv => by obtain ⟨_, _, _, _, _, _, _, _, _, _, _, h, _⟩ := pv; exact SqL.of h) (fun i v σ' H30 hv pv => ?_) (fun σ' H30 pv => ?_)
    · obtain ⟨o12, vs, Ds, rfl, eR3, la3, fl3, ad3, lo3, lv3, s3, el3, lad3⟩ := pv
      have hi : i < us.length := (List.getElem?_eq_some_iff.mp hv).1
      obtain ⟨b, D, hD, rfl, eb⟩ := lad3.at hv
      have mD := List.mem_of_getElem? hD
      refine ⟨_, rfl, .inl ⟨rfl, _, SqL.of eR3⟩, _, rfl, R, _, _, rfl, rfl, eR3, small1000' (by omega), ?_⟩
      have f4 : ∀ x o, x ≠ R → H30 x = some o → upd H30 R (.lst (vs ++ [.ref b])) x = some o := fun x o nx e => (upd_ne nx).trans e
      have s4 : Same H25 (upd H30 R (.lst (vs ++ [.ref b]))) := fun x o e => f4 _ _ (ne_of_none e nR0) (s3 _ _ e)
      have kt4 : ∀ x xs, H30 x = some (.tup xs) → upd H30 R (.lst (vs ++ [.ref b])) x = some (.tup xs) := fun x xs e => f4 _ _ (ne_kind e eR3 (fun z => nomatch z)) e
      have eR4 : upd H30 R (.lst (vs ++ [.ref b])) R = some (.lst (vs ++ [.ref b])) := upd_same
      have la4 := (la3.mono kt4).app (q := D) (kt4 _ _ eb)
      have el4 := f4 _ _ nlR el3
      have lad4 := lad3.mono kt4
      generalize upd H30 R (.lst (vs ++ [.ref b])) = H31 at s4 eR4 la4 el4 lad4
      have fl4 : ∀ D' ∈ Ds ++ [D], D'.flat = true := fun D' h => (List.mem_append.mp h).elim (fl3 D') fun h => by rw [List.mem_singleton.mp h]; exact sq.fl D mD
      have ad4 : ∀ D' ∈ Ds ++ [D], D'.ad = 0 := fun D' h => (List.mem_append.mp h).elim (ad3 D') fun h => by rw [List.mem_singleton.mp h]; exact ad0 D mD
      have lo4 : (Ds ++ [D]).filterMap Dd.low = (ds.take (i + 1)).filterMap Dd.low := by rw [tk_snoc hD, List.filterMap_append, List.filterMap_append, lo3]
      have lv4 : (vs ++ [V.ref b]).length = vs.length + 1 := by rw [List.length_append]; rfl
      refine ⟨_, rfl, R, _, rfl, .inl (SqL.of eR4), _, _, rfl, rfl, _, rfl, ite2 (fun _ => ?_) (fun _ => ?_)⟩
      · refine ⟨_, rfl, .inl ⟨rfl, _, SqL.of eR4⟩, _, rfl, lenL (by show 2 ≤ 100000; decide), fun a2' na2 => ?_⟩
        refine ⟨R, _, _, rfl, rfl, (upd_ne (ne_of_none eR4 na2)).trans eR4, small1000' (by omega), ?_⟩
        obtain ⟨h1, h2, h3, h4⟩ := fr_add (D := .take p) s4 nR0 eR4 na2 la4
        refine ⟨_, _, (Ds ++ [D]) ++ [Dd.take p], rfl, h2, h3, fun D' h => (List.mem_append.mp h).elim (fl4 D') (fun h => by rw [List.mem_singleton.mp h]; rfl), fun D' h => (List.mem_append.mp h).elim (ad4 D') (fun h => by rw [List.mem_singleton.mp h]; rfl), ?_, by rw [List.length_append, lv4]; show _ + 1 ≤ _; omega, h1, h4 _ _ nlR el4, ?_⟩
        · rw [List.filterMap_append, lo4]
          exact List.append_nil _
        · exact lad4.mono fun x xs e => h4 _ _ (ne_kind e eR4 (fun z => nomatch z)) e
      · exact ⟨_, _, Ds ++ [D], rfl, eR4, la4, fl4, ad4, lo4, by rw [lv4]; omega, s4, el4, lad4⟩
    obtain ⟨o12', vs, Ds, rfl, eR3, la3, fl3, ad3, lo3, lv3, s3, _, _⟩ := pv
    have sqD : Seq S.ps.length (Ds ++ [.take p, .admit p p, .before p (some p), .take p]) := (sq.of_take fl3 lo3).four
    have I30 := I4.same s3
    clear I7 lad el eR e5 e6 nl
    refine ⟨_, rfl, _, rfl, lenL (by show 2 ≤ 100000; decide), fun x1 n1 => ⟨_, rfl, _, rfl, lenL (by show 3 ≤ 100000; decide), fun x2 n2 => ⟨_, rfl, _, rfl, lenL (by show 3 ≤ 100000; decide), fun x3 n3 => ⟨_, rfl, lenL (by show 2 ≤ 100000; decide), fun x4 n4 => ⟨lenL (by show 4 ≤ 100000; decide), fun L nL => ?_⟩⟩⟩⟩⟩
    have t1 := same_upd (o := .tup [.str "take", .int p]) n1
    have e1 : upd H30 x1 (.tup [.str "take", .int p]) x1 = some (.tup (Dd.take p).vals) := upd_same
    generalize upd H30 x1 (.tup [.str "take", .int p]) = H31 at t1 e1 n2 n3 n4 nL ⊢
    have t2 := same_upd (o := .tup [.str "admit", .int p, .int p]) n2
    have e2 : upd H31 x2 (.tup [.str "admit", .int p, .int p]) x2 = some (.tup (Dd.admit p p).vals) := upd_same
    generalize upd H31 x2 (.tup [.str "admit", .int p, .int p]) = H32 at t2 e2 n3 n4 nL ⊢
    have t3 := same_upd (o := .tup [.str "before", .int p, .int p]) n3
    have e3 : upd H32 x3 (.tup [.str "before", .int p, .int p]) x3 = some (.tup (Dd.before p (some p)).vals) := upd_same
    generalize upd H32 x3 (.tup [.str "before", .int p, .int p]) = H33 at t3 e3 n4 nL ⊢
    have t4 := same_upd (o := .tup [.str "take", .int p]) n4
    have e4 : upd H33 x4 (.tup [.str "take", .int p]) x4 = some (.tup (Dd.take p).vals) := upd_same
    generalize upd H33 x4 (.tup [.str "take", .int p]) = H34 at t4 e4 nL ⊢
    have t5 := same_upd (o := .lst [.ref x1, .ref x2, .ref x3, .ref x4]) nL
    have eL : upd H34 L (.lst [.ref x1, .ref x2, .ref x3, .ref x4]) L = some (.lst [.ref x1, .ref x2, .ref x3, .ref x4]) := upd_same
    generalize upd H34 L (.lst [.ref x1, .ref x2, .ref x3, .ref x4]) = H35 at t5 eL ⊢
    have t15 := Same.trans t1 (Same.trans t2 (Same.trans t3 (Same.trans t4 t5)))
    have e1 := t5 _ _ (t4 _ _ (t3 _ _ (t2 _ _ e1)))
    have e2 := t5 _ _ (t4 _ _ (t3 _ _ e2))
    have e3 := t5 _ _ (t4 _ _ e3)
    have e4 := t5 _ _ e4
    have la5 : LAt Dd.vals H35 (vs ++ [.ref x1, .ref x2, .ref x3, .ref x4]) (Ds ++ [.take p, .admit p p, .before p (some p), .take p]) := by
      have h := ((((la3.same t15).app e1).app e2).app e3).app e4
      rw [List.append_assoc, List.append_assoc, List.append_assoc, List.append_assoc, List.append_assoc, List.append_assoc] at h
      exact h
    refine ⟨R, L, _, _, rfl, rfl, t15 _ _ eR3, eL, lenL (by show vs.length + 4 ≤ 100000; omega), fun C nC => ?_⟩
    have I36 := (I30.same t15).same (same_upd (o := .lst (vs ++ [.ref x1, .ref x2, .ref x3, .ref x4])) nC)
    have eC : upd H35 C (.lst (vs ++ [.ref x1, .ref x2, .ref x3, .ref x4])) C = some (.lst (vs ++ [.ref x1, .ref x2, .ref x3, .ref x4])) := upd_same
    have la6 := la5.same (same_upd (o := .lst (vs ++ [.ref x1, .ref x2, .ref x3, .ref x4])) nC)
    have nCl : C ≠ A.dl := (ne_of_none (I30.same t15).net.hl nC).symm
    have nCp : C ≠ A.pO := (ne_of_none (I30.same t15).hP nC).symm
    have lvs : (vs ++ [V.ref x1, .ref x2, .ref x3, .ref x4]).length ≤ 300 := by rw [List.length_append]; show vs.length + 4 ≤ 300; omega
    have ads : adS (Ds ++ [.take p, .admit p p, .before p (some p), .take p]) = 1 := by rw [adS_app, adS_zero ad3]; rfl
    generalize vs ++ [V.ref x1, .ref x2, .ref x3, .ref x4] = ws at eC la6 lvs I36 la5
    generalize Ds ++ [.take p, .admit p p, .before p (some p), .take p] = Fs at la6 sqD ads la5
    generalize upd H35 C (.lst ws) = H36 at I36 eC la6
    -- all of them
    refine ⟨_, rfl, C, rfl, ⟨_, SqL.of eC⟩, ?_⟩
    have lF := la6.1
    refine for_list (K := K) (a := C) (xs := ws) (fun i σ' H' => ∃ (o12 : Option V) (S : WK), σ' = [some (.ref a), some (.ref t), some (.int (1 + tu)), some (.int co), some (.int n), some (.ref pl), some (.ref A.dN), some (.ref A.dB), o8, o9, some (.ref A.pO), some (.ref A.h), o12, some (.ref zl), some (.int p), some (.ref C)] ∧ NH T.C_Net t c A n (m + i) S H' ∧ (∃ j, j ≤ S.ps.length ∧ Seq j (Fs.drop i)) ∧ S.ks.length + adS (Fs.drop i) ≤ 40 ∧ LAt Dd.vals H' ws Fs ∧ H' C = some (.lst ws))
      ⟨_, S, rfl, I36, ⟨_, Nat.le_refl _, by rw [List.drop_zero]; exact sqD⟩, by rw [List.drop_zero, ads]; omega, la6, eC⟩ (fun i σ' H' _ pv => by obtain ⟨_, _, _, _, _, _, _, h⟩ := pv; exact SqL.of h) (fun i v σ' H40 hv pv => ?_) (fun σ' H40 pv => ?_)
    · obtain ⟨o12, S, rfl, J, ⟨j, lj, sqi⟩, lad, la4, eC4⟩ := pv
      have hi : i < ws.length := (List.getElem?_eq_some_iff.mp hv).1
      obtain ⟨b, D, hD, rfl, eb⟩ := la4.at hv
      have hiF := (List.getElem?_eq_some_iff.mp hD).1
      have edr : Fs.drop i = D :: Fs.drop (i + 1) := by
        rw [List.drop_eq_getElem_cons hiF]
        rw [List.getElem?_eq_getElem hiF] at hD
        rw [Option.some.inj hD]
      rw [edr] at sqi lad
      have lad : S.ks.length + (D.ad + adS (Fs.drop (i + 1))) ≤ 40 := lad
      obtain ⟨sqt, sql⟩ := sqi.tail
      have fD := sqi.fl D List.mem_cons_self
      have po := Dd.flat_po fD
      have lps := J.lps
      have eps := J.la.1
      have ok : D.ok S.Ls.length := by
        cases D with
        | lose k =>
          have := (sql k rfl).1
          show k < S.Ls.length
          omega
        | rep k => cases fD
        | read k => cases fD
        | _ => exact trivial
      refine ⟨_, rfl, _, rfl, _, rfl, _, rfl, _, rfl, _, rfl, t, c, b, A, n, m + i, S, D, rfl, J, eb, ok, by omega, by omega, by omega, fun S' H41 J' fr lk hl => ⟨true, rfl, iteF ?_⟩⟩
      have eps' := J'.la.1
      refine ⟨_, S', rfl, J', ?_, by omega, la4.mono fun x xs e => J.frt fr e, J.frl fr nCl nCp eC4⟩
      cases hk : D.low with
      | none =>
        refine ⟨j, ?_, sqt⟩
        have hL : S'.Ls = S.Ls := by
          rcases hl with hl | hl
          · exact hl
          · rw [hl]
            cases D with
            | lose k => cases hk
            | tell x => cases fD
            | ask x => cases fD
            | rep k => cases fD
            | read k => cases fD
            | _ => rfl
        rw [eps', hL]
        omega
      | some k =>
        obtain rfl : D = .lose k := by
          cases D with
          | lose i => cases hk; rfl
          | _ => cases hk
        obtain ⟨k1, k2⟩ := sql k rfl
        refine ⟨k, ?_, k2⟩
        rcases hl with hl | hl
        · rw [eps', hl]
          omega
        · have e : S'.Ls = S.Ls.eraseIdx k := hl
          have := List.length_eraseIdx_of_lt (l := S.Ls) (i := k) (by omega)
          rw [eps', e, this]
          omega
    · exact q _
end
set_option maxHeartbeats 0 in
theorem heFacts {P : Program} {w : World} {K : PySem.W.Frag} {h : Heap} {mg : Str → Option Value} {f : Addr} (X : K.In h) (G : h.Ns mainGlobals mg) (hfa : mg ("law" : Str) = some (.ref f)) (c : HeSays heFa heFn heEx K) :
    ∃ fd : FuncData, (∀ (s : Shared) (v : Value), BindsTo s fd ⟨[v], []⟩ [("script", v)]) ∧ ∀ base : Heap, K.In base → base.Ns mainGlobals mg → FnOk P w K mg base CX0 10 f fd ["script"] (sp_law K) := by
  obtain ⟨fd0, FD0⟩ := c.d.def_ 0 (d := hd__law_nexts) rfl
  have F0 : Fun K "_law_nexts" "_law_nexts" s__law_nexts (He.fAd K ("_law_nexts", none)) fd0 := fun_of (st := s__law_nexts) FD0
  obtain ⟨fd1, FD1⟩ := c.d.def_ 1 (d := hd_Net__next_of) rfl
  have F1 : Fun K "next_of" "Net.next_of" s_Net__next_of (He.fAd K ("Net", some "next_of")) fd1 := fun_of (st := s_Net__next_of) FD1
  obtain ⟨fd2, FD2⟩ := c.d.def_ 2 (d := hd_Net__before_of) rfl
  have F2 : Fun K "before_of" "Net.before_of" s_Net__before_of (He.fAd K ("Net", some "before_of")) fd2 := fun_of (st := s_Net__before_of) FD2
  obtain ⟨fd3, FD3⟩ := c.d.def_ 3 (d := hd_Net__hold) rfl
  have F3 : Fun K "hold" "Net.hold" s_Net__hold (He.fAd K ("Net", some "hold")) fd3 := fun_of (st := s_Net__hold) FD3
  obtain ⟨fd4, FD4⟩ := c.d.def_ 4 (d := hd_Net__set_before) rfl
  have F4 : Fun K "set_before" "Net.set_before" s_Net__set_before (He.fAd K ("Net", some "set_before")) fd4 := fun_of (st := s_Net__set_before) FD4
  obtain ⟨fd5, FD5⟩ := c.d.def_ 5 (d := hd_Net__admit) rfl
  have F5 : Fun K "admit" "Net.admit" s_Net__admit (He.fAd K ("Net", some "admit")) fd5 := fun_of (st := s_Net__admit) FD5
  obtain ⟨fd6, FD6⟩ := c.d.def_ 6 (d := hd_Net__take_out) rfl
  have F6 : Fun K "take_out" "Net.take_out" s_Net__take_out (He.fAd K ("Net", some "take_out")) fd6 := fun_of (st := s_Net__take_out) FD6
  obtain ⟨fd7, FD7⟩ := c.d.def_ 7 (d := hd_Net__is_named) rfl
  have F7 : Fun K "_is_named" "Net._is_named" s_Net__is_named (He.fAd K ("Net", some "_is_named")) fd7 := fun_of (st := s_Net__is_named) FD7
  obtain ⟨fd8, FD8⟩ := c.d.def_ 8 (d := hd_Net__check_free) rfl
  have F8 : Fun K "check_free" "Net.check_free" s_Net__check_free (He.fAd K ("Net", some "check_free")) fd8 := fun_of (st := s_Net__check_free) FD8
  obtain ⟨fd9, FD9⟩ := c.d.def_ 9 (d := hd_Net__snapshot) rfl
  have F9 : Fun K "snapshot" "Net.snapshot" s_Net__snapshot (He.fAd K ("Net", some "snapshot")) fd9 := fun_of (st := s_Net__snapshot) FD9
  obtain ⟨fd10, FD10⟩ := c.d.def_ 10 (d := hd_Net__houses) rfl
  have F10 : Fun K "houses" "Net.houses" s_Net__houses (He.fAd K ("Net", some "houses")) fd10 := fun_of (st := s_Net__houses) FD10
  obtain ⟨fd11, FD11⟩ := c.d.def_ 11 (d := hd_Net__tell) rfl
  have F11 : Fun K "tell" "Net.tell" s_Net__tell (He.fAd K ("Net", some "tell")) fd11 := fun_of (st := s_Net__tell) FD11
  obtain ⟨fd12, FD12⟩ := c.d.def_ 12 (d := hd_Net__ask) rfl
  have F12 : Fun K "ask" "Net.ask" s_Net__ask (He.fAd K ("Net", some "ask")) fd12 := fun_of (st := s_Net__ask) FD12
  obtain ⟨fd13, FD13⟩ := c.d.def_ 13 (d := hd_Net__repeat) rfl
  have F13 : Fun K "repeat" "Net.repeat" s_Net__repeat (He.fAd K ("Net", some "repeat")) fd13 := fun_of (st := s_Net__repeat) FD13
  obtain ⟨fd14, FD14⟩ := c.d.def_ 14 (d := hd_Net__lose) rfl
  have F14 : Fun K "lose" "Net.lose" s_Net__lose (He.fAd K ("Net", some "lose")) fd14 := fun_of (st := s_Net__lose) FD14
  obtain ⟨fd15, FD15⟩ := c.d.def_ 15 (d := hd_Net__read) rfl
  have F15 : Fun K "read" "Net.read" s_Net__read (He.fAd K ("Net", some "read")) fd15 := fun_of (st := s_Net__read) FD15
  obtain ⟨fd16, FD16⟩ := c.d.def_ 16 (d := hd__law_far) rfl
  have F16 : Fun K "_law_far" "_law_far" s__law_far (He.fAd K ("_law_far", none)) fd16 := fun_of (st := s__law_far) FD16
  obtain ⟨fd17, FD17⟩ := c.d.def_ 17 (d := hd__law_between) rfl
  have F17 : Fun K "_law_between" "_law_between" s__law_between (He.fAd K ("_law_between", none)) fd17 := fun_of (st := s__law_between) FD17
  obtain ⟨fd18, FD18⟩ := c.d.def_ 18 (d := hd_far) rfl
  have F18 : Fun K "far" "far" s_far (He.fAd K ("far", none)) fd18 := fun_of (st := s_far) FD18
  obtain ⟨fd19, FD19⟩ := c.d.def_ 19 (d := hd_between) rfl
  have F19 : Fun K "between" "between" s_between (He.fAd K ("between", none)) fd19 := fun_of (st := s_between) FD19
  obtain ⟨fd20, FD20⟩ := c.d.def_ 20 (d := hd_check_on_circle) rfl
  have F20 : Fun K "check_on_circle" "check_on_circle" s_check_on_circle (He.fAd K ("check_on_circle", none)) fd20 := fun_of (st := s_check_on_circle) FD20
  obtain ⟨fd21, FD21⟩ := c.d.def_ 21 (d := hd__law_letter) rfl
  have F21 : Fun K "_law_letter" "_law_letter" s__law_letter (He.fAd K ("_law_letter", none)) fd21 := fun_of (st := s__law_letter) FD21
  obtain ⟨fd22, FD22⟩ := c.d.def_ 22 (d := hd__law_plain) rfl
  have F22 : Fun K "_law_plain" "_law_plain" s__law_plain (He.fAd K ("_law_plain", none)) fd22 := fun_of (st := s__law_plain) FD22
  obtain ⟨fd23, FD23⟩ := c.d.def_ 23 (d := hd__law_place) rfl
  have F23 : Fun K "_law_place" "_law_place" s__law_place (He.fAd K ("_law_place", none)) fd23 := fun_of (st := s__law_place) FD23
  obtain ⟨fd24, FD24⟩ := c.d.def_ 24 (d := hd__law_drawn) rfl
  have F24 : Fun K "_law_drawn" "_law_drawn" s__law_drawn (He.fAd K ("_law_drawn", none)) fd24 := fun_of (st := s__law_drawn) FD24
  obtain ⟨fd25, FD25⟩ := c.d.def_ 25 (d := hd__law_call) rfl
  have F25 : Fun K "_law_call" "_law_call" s__law_call (He.fAd K ("_law_call", none)) fd25 := fun_of (st := s__law_call) FD25
  obtain ⟨fd26, FD26⟩ := c.d.def_ 26 (d := hd__law_done) rfl
  have F26 : Fun K "_law_done" "_law_done" s__law_done (He.fAd K ("_law_done", none)) fd26 := fun_of (st := s__law_done) FD26
  obtain ⟨fd27, FD27⟩ := c.d.def_ 27 (d := hd__law_lost) rfl
  have F27 : Fun K "_law_lost" "_law_lost" s__law_lost (He.fAd K ("_law_lost", none)) fd27 := fun_of (st := s__law_lost) FD27
  obtain ⟨fd28, FD28⟩ := c.d.def_ 28 (d := hd__law_named) rfl
  have F28 : Fun K "_law_named" "_law_named" s__law_named (He.fAd K ("_law_named", none)) fd28 := fun_of (st := s__law_named) FD28
  obtain ⟨fd29, FD29⟩ := c.d.def_ 29 (d := hd__law_admitted) rfl
  have F29 : Fun K "_law_admitted" "_law_admitted" s__law_admitted (He.fAd K ("_law_admitted", none)) fd29 := fun_of (st := s__law_admitted) FD29
  obtain ⟨fd30, FD30⟩ := c.d.def_ 30 (d := hd__law_due) rfl
  have F30 : Fun K "_law_due" "_law_due" s__law_due (He.fAd K ("_law_due", none)) fd30 := fun_of (st := s__law_due) FD30
  obtain ⟨fd31, FD31⟩ := c.d.def_ 31 (d := hd__law_says) rfl
  have F31 : Fun K "_law_says" "_law_says" s__law_says (He.fAd K ("_law_says", none)) fd31 := fun_of (st := s__law_says) FD31
  obtain ⟨fd32, FD32⟩ := c.d.def_ 32 (d := hd__law_step) rfl
  have F32 : Fun K "_law_step" "_law_step" s__law_step (He.fAd K ("_law_step", none)) fd32 := fun_of (st := s__law_step) FD32
  obtain ⟨fd33, FD33⟩ := c.d.def_ 33 (d := hd__law_freeing) rfl
  have F33 : Fun K "_law_freeing" "_law_freeing" s__law_freeing (He.fAd K ("_law_freeing", none)) fd33 := fun_of (st := s__law_freeing) FD33
  obtain ⟨fd34, FD34⟩ := c.d.def_ 34 (d := hd_law) rfl
  have F34 : Fun K "law" "law" s_law (He.fAd K ("law", none)) fd34 := fun_of (st := s_law) FD34
  obtain ⟨fd35, FD35⟩ := c.d.def_ 35 (d := hd__law_tape) rfl
  have F35 : Fun K "_law_tape" "_law_tape" s__law_tape (He.fAd K ("_law_tape", none)) fd35 := fun_of (st := s__law_tape) FD35
  obtain ⟨fd36, FD36⟩ := c.d.def_ 36 (d := hd__law_pick) rfl
  have F36 : Fun K "_law_pick" "_law_pick" s__law_pick (He.fAd K ("_law_pick", none)) fd36 := fun_of (st := s__law_pick) FD36
  obtain ⟨fd37, FD37⟩ := c.d.def_ 37 (d := hd__law_size) rfl
  have F37 : Fun K "_law_size" "_law_size" s__law_size (He.fAd K ("_law_size", none)) fd37 := fun_of (st := s__law_size) FD37
  obtain ⟨fd38, FD38⟩ := c.d.def_ 38 (d := hd__law_same) rfl
  have F38 : Fun K "_law_same" "_law_same" s__law_same (He.fAd K ("_law_same", none)) fd38 := fun_of (st := s__law_same) FD38
  obtain ⟨fd39, FD39⟩ := c.d.def_ 39 (d := hd_House__init) rfl
  have FD39 : FunD K "__init__" "House.__init__" (defArgs s_House__init) (defBody s_House__init) (defScope s_House__init) [.non] [] (He.fAd K ("House", some "__init__")) fd39 := FD39
  obtain ⟨da39, dva39, db39⟩ := FD39.binds1 (ps := ["self", "size", "place", "next_house", "before"]) 5 1 (by decide) rfl (fun _ _ _ _ _ _ _ us its l1 l2 => match us, its, l1, l2 with | [_, _, _, _, _], [_], _, _ => ⟨_, rfl, rfl⟩)
  cases dva39
  obtain ⟨de39, dve39, dbe39⟩ := FD39.binds1 (ps := ["self", "size", "place", "next_house", "before"]) 4 0 (by decide) rfl (fun _ _ _ _ _ _ _ us its l1 l2 => match us, its, l1, l2 with | [_, _, _, _], [_], _, _ => ⟨_, rfl, rfl⟩)
  obtain ⟨dk39, dbk39⟩ := FD39.kbindsD (ps := ["self", "size", "place", "next_house", "before"]) 4 ["before"] (fun us _ ws => us ++ ws) (by decide) (fun r1 _ r3 => r1.append r3) (fun _ _ _ _ _ _ _ us its ws l1 l2 l3 => match us, its, ws, l1, l2, l3 with | [_, _, _, _], [_], [_], _, _, _ => ⟨_, rfl, rfl⟩)
  obtain ⟨fd40, FD40⟩ := c.d.def_ 40 (d := hd_House__tell_letter) rfl
  have F40 : Fun K "tell_letter" "House.tell_letter" s_House__tell_letter (He.fAd K ("House", some "tell_letter")) fd40 := fun_of (st := s_House__tell_letter) FD40
  obtain ⟨fd41, FD41⟩ := c.d.def_ 41 (d := hd_House__ask_letter) rfl
  have F41 : Fun K "ask_letter" "House.ask_letter" s_House__ask_letter (He.fAd K ("House", some "ask_letter")) fd41 := fun_of (st := s_House__ask_letter) FD41
  obtain ⟨fd42, FD42⟩ := c.d.def_ 42 (d := hd_House__answer_to) rfl
  have F42 : Fun K "_answer_to" "House._answer_to" s_House__answer_to (He.fAd K ("House", some "_answer_to")) fd42 := fun_of (st := s_House__answer_to) FD42
  obtain ⟨fd43, FD43⟩ := c.d.def_ 43 (d := hd_House__hear_tell) rfl
  have F43 : Fun K "_hear_tell" "House._hear_tell" s_House__hear_tell (He.fAd K ("House", some "_hear_tell")) fd43 := fun_of (st := s_House__hear_tell) FD43
  obtain ⟨fd44, FD44⟩ := c.d.def_ 44 (d := hd_House__hear_answer) rfl
  have F44 : Fun K "_hear_answer" "House._hear_answer" s_House__hear_answer (He.fAd K ("House", some "_hear_answer")) fd44 := fun_of (st := s_House__hear_answer) FD44
  obtain ⟨fd45, FD45⟩ := c.d.def_ 45 (d := hd_House__hear) rfl
  have F45 : Fun K "hear" "House.hear" s_House__hear (He.fAd K ("House", some "hear")) fd45 := fun_of (st := s_House__hear) FD45
  obtain ⟨fd46, FD46⟩ := c.d.def_ 46 (d := hd_Net__check_house) rfl
  have F46 : Fun K "check_house" "Net.check_house" s_Net__check_house (He.fAd K ("Net", some "check_house")) fd46 := fun_of (st := s_Net__check_house) FD46
  obtain ⟨fd47, FD47⟩ := c.d.def_ 47 (d := hd_Net__check_letter) rfl
  have F47 : Fun K "_check_letter" "Net._check_letter" s_Net__check_letter (He.fAd K ("Net", some "_check_letter")) fd47 := fun_of (st := s_Net__check_letter) FD47
  obtain ⟨fd48, FD48⟩ := c.d.def_ 48 (d := hd_Net__house_at) rfl
  have F48 : Fun K "_house_at" "Net._house_at" s_Net__house_at (He.fAd K ("Net", some "_house_at")) fd48 := fun_of (st := s_Net__house_at) FD48
  obtain ⟨fd49, FD49⟩ := c.d.def_ 49 (d := hd_Net__send) rfl
  have F49 : Fun K "_send" "Net._send" s_Net__send (He.fAd K ("Net", some "_send")) fd49 := fun_of (st := s_Net__send) FD49
  obtain ⟨fd50, FD50⟩ := c.d.def_ 50 (d := hd_Net__letters) rfl
  have F50 : Fun K "letters" "Net.letters" s_Net__letters (He.fAd K ("Net", some "letters")) fd50 := fun_of (st := s_Net__letters) FD50
  obtain ⟨fd51, FD51⟩ := c.d.def_ 51 (d := hd_Net__nexts) rfl
  have F51 : Fun K "nexts" "Net.nexts" s_Net__nexts (He.fAd K ("Net", some "nexts")) fd51 := fun_of (st := s_Net__nexts) FD51
  obtain ⟨fd52, FD52⟩ := c.d.def_ 52 (d := hd_Net__befores) rfl
  have F52 : Fun K "befores" "Net.befores" s_Net__befores (He.fAd K ("Net", some "befores")) fd52 := fun_of (st := s_Net__befores) FD52
  obtain ⟨fd53, FD53⟩ := c.d.def_ 53 (d := hd_Net__check_letters) rfl
  have F53 : Fun K "_check_letters" "Net._check_letters" s_Net__check_letters (He.fAd K ("Net", some "_check_letters")) fd53 := fun_of (st := s_Net__check_letters) FD53
  obtain ⟨fd54, FD54⟩ := c.d.def_ 54 (d := hd_Net__check_places) rfl
  have F54 : Fun K "_check_places" "Net._check_places" s_Net__check_places (He.fAd K ("Net", some "_check_places")) fd54 := fun_of (st := s_Net__check_places) FD54
  obtain ⟨fd55, FD55⟩ := c.d.def_ 55 (d := hd_Net__take_befores) rfl
  have F55 : Fun K "_take_befores" "Net._take_befores" s_Net__take_befores (He.fAd K ("Net", some "_take_befores")) fd55 := fun_of (st := s_Net__take_befores) FD55
  obtain ⟨fd56, FD56⟩ := c.d.def_ 56 (d := hd_Net__init) rfl
  have FD56 : FunD K "__init__" "Net.__init__" (defArgs s_Net__init) (defBody s_Net__init) (defScope s_Net__init) [] [("befores", .non), ("letters", .non)] (He.fAd K ("Net", some "__init__")) fd56 := FD56
  obtain ⟨dk56, dbk56⟩ := FD56.kbinds0 (ps := ["self", "size", "nexts", "befores", "letters"]) 3 ["befores", "letters"] [] (fun us _ ws => us ++ ws) (by decide) (fun _ h => nomatch h) (fun r1 _ r3 => r1.append r3) (fun _ _ _ _ _ _ us mv ws l1 l2 l3 => match us, mv, ws, l1, l2, l3 with | [_, _, _], [], [_, _], _, _, _ => rfl)
  obtain ⟨de56, dve56, dbe56⟩ := FD56.binds0 (ps := ["self", "size", "nexts", "befores", "letters"]) 3 (by decide) rfl (fun _ _ _ _ _ _ us its l1 l2 => match us, its, l1, l2 with | [_, _, _], [_, _], _, _ => ⟨_, _, _, _, _, _, rfl, rfl, _, _, _, _, _, _, rfl, rfl, rfl⟩)
  obtain ⟨fd57, FD57⟩ := c.d.def_ 57 (d := hd_NoHouse__init) rfl
  have F57 : Fun K "__init__" "NoHouse.__init__" s_NoHouse__init (He.fAd K ("NoHouse", some "__init__")) fd57 := fun_of (st := s_NoHouse__init) FD57
  obtain ⟨fd58, FD58⟩ := c.d.def_ 58 (d := hd_OffCircle__init) rfl
  have F58 : Fun K "__init__" "OffCircle.__init__" s_OffCircle__init (He.fAd K ("OffCircle", some "__init__")) fd58 := fun_of (st := s_OffCircle__init) FD58
  obtain ⟨fd59, FD59⟩ := c.d.def_ 59 (d := hd_TakenPlace__init) rfl
  have F59 : Fun K "__init__" "TakenPlace.__init__" s_TakenPlace__init (He.fAd K ("TakenPlace", some "__init__")) fd59 := fun_of (st := s_TakenPlace__init) FD59
  obtain ⟨fd60, FD60⟩ := c.d.def_ 60 (d := hd_StillNamed__init) rfl
  have F60 : Fun K "__init__" "StillNamed.__init__" s_StillNamed__init (He.fAd K ("StillNamed", some "__init__")) fd60 := fun_of (st := s_StillNamed__init) FD60
  obtain ⟨fd61, FD61⟩ := c.d.def_ 61 (d := hd__law_read) rfl
  have F61 : Fun K "_law_read" "_law_read" s__law_read (He.fAd K ("_law_read", none)) fd61 := fun_of (st := s__law_read) FD61
  obtain ⟨fd62, FD62⟩ := c.d.def_ 62 (d := hd__law_places) rfl
  have F62 : Fun K "_law_places" "_law_places" s__law_places (He.fAd K ("_law_places", none)) fd62 := fun_of (st := s__law_places) FD62
  have e := hfa.symm.trans (He.glo_ok X G (c.d.fact 34 rfl))
  cases e
  have b := FunD.bindsA (ps := ["script"]) FD34 fun _ _ _ _ _ _ us hl => match us, hl with | [_], _ => rfl
  let T : T0 K mg := {
    m_ValueError := He.free_ok X G (c.d.fact 0 rfl),
    m_abs := He.free_ok X G (c.d.fact 1 rfl),
    m_any := He.free_ok X G (c.d.fact 2 rfl),
    m_bool := He.free_ok X G (c.d.fact 3 rfl),
    m_dict := He.free_ok X G (c.d.fact 4 rfl),
    m_int := He.free_ok X G (c.d.fact 5 rfl),
    m_isinstance := He.free_ok X G (c.d.fact 6 rfl),
    m_len := He.free_ok X G (c.d.fact 7 rfl),
    m_list := He.free_ok X G (c.d.fact 8 rfl),
    m_max := He.free_ok X G (c.d.fact 9 rfl),
    m_min := He.free_ok X G (c.d.fact 10 rfl),
    m_range := He.free_ok X G (c.d.fact 11 rfl),
    m_sorted := He.free_ok X G (c.d.fact 12 rfl),
    m_str := He.free_ok X G (c.d.fact 13 rfl),
    m_tuple := He.free_ok X G (c.d.fact 14 rfl),
    a__law_nexts := He.fAd K ("_law_nexts", none),
    fd__law_nexts := fd0,
    g__law_nexts := He.glo_ok X G (c.d.fact 15 rfl),
    F__law_nexts := F0,
    b__law_nexts := F0.binds (ps := ["tape", "places"]) fun _ _ _ _ _ _ us hl => match us, hl with | [_, _], _ => rfl,
    a_Net__next_of := He.fAd K ("Net", some "next_of"),
    fd_Net__next_of := fd1,
    F_Net__next_of := F1,
    b_Net__next_of := F1.binds (ps := ["self", "house"]) fun _ _ _ _ _ _ us hl => match us, hl with | [_, _], _ => rfl,
    a_Net__before_of := He.fAd K ("Net", some "before_of"),
    fd_Net__before_of := fd2,
    F_Net__before_of := F2,
    b_Net__before_of := F2.binds (ps := ["self", "house"]) fun _ _ _ _ _ _ us hl => match us, hl with | [_, _], _ => rfl,
    a_Net__hold := He.fAd K ("Net", some "hold"),
    fd_Net__hold := fd3,
    F_Net__hold := F3,
    b_Net__hold := F3.binds (ps := ["self", "house", "target"]) fun _ _ _ _ _ _ us hl => match us, hl with | [_, _, _], _ => rfl,
    a_Net__set_before := He.fAd K ("Net", some "set_before"),
    fd_Net__set_before := fd4,
    F_Net__set_before := F4,
    b_Net__set_before := F4.binds (ps := ["self", "house", "before"]) fun _ _ _ _ _ _ us hl => match us, hl with | [_, _, _], _ => rfl,
    a_Net__admit := He.fAd K ("Net", some "admit"),
    fd_Net__admit := fd5,
    F_Net__admit := F5,
    b_Net__admit := F5.binds (ps := ["self", "place", "host"]) fun _ _ _ _ _ _ us hl => match us, hl with | [_, _, _], _ => rfl,
    a_Net__take_out := He.fAd K ("Net", some "take_out"),
    fd_Net__take_out := fd6,
    F_Net__take_out := F6,
    b_Net__take_out := F6.binds (ps := ["self", "house"]) fun _ _ _ _ _ _ us hl => match us, hl with | [_, _], _ => rfl,
    a_Net__is_named := He.fAd K ("Net", some "_is_named"),
    fd_Net__is_named := fd7,
    F_Net__is_named := F7,
    b_Net__is_named := F7.binds (ps := ["self", "house"]) fun _ _ _ _ _ _ us hl => match us, hl with | [_, _], _ => rfl,
    a_Net__check_free := He.fAd K ("Net", some "check_free"),
    fd_Net__check_free := fd8,
    F_Net__check_free := F8,
    b_Net__check_free := F8.binds (ps := ["self", "place"]) fun _ _ _ _ _ _ us hl => match us, hl with | [_, _], _ => rfl,
    a_Net__snapshot := He.fAd K ("Net", some "snapshot"),
    fd_Net__snapshot := fd9,
    F_Net__snapshot := F9,
    b_Net__snapshot := F9.binds (ps := ["self"]) fun _ _ _ _ _ _ us hl => match us, hl with | [_], _ => rfl,
    a_Net__houses := He.fAd K ("Net", some "houses"),
    fd_Net__houses := fd10,
    F_Net__houses := F10,
    b_Net__houses := F10.binds (ps := ["self"]) fun _ _ _ _ _ _ us hl => match us, hl with | [_], _ => rfl,
    a_Net__tell := He.fAd K ("Net", some "tell"),
    fd_Net__tell := fd11,
    F_Net__tell := F11,
    b_Net__tell := F11.binds (ps := ["self", "house"]) fun _ _ _ _ _ _ us hl => match us, hl with | [_, _], _ => rfl,
    a_Net__ask := He.fAd K ("Net", some "ask"),
    fd_Net__ask := fd12,
    F_Net__ask := F12,
    b_Net__ask := F12.binds (ps := ["self", "house"]) fun _ _ _ _ _ _ us hl => match us, hl with | [_, _], _ => rfl,
    a_Net__repeat := He.fAd K ("Net", some "repeat"),
    fd_Net__repeat := fd13,
    F_Net__repeat := F13,
    b_Net__repeat := F13.binds (ps := ["self", "at"]) fun _ _ _ _ _ _ us hl => match us, hl with | [_, _], _ => rfl,
    a_Net__lose := He.fAd K ("Net", some "lose"),
    fd_Net__lose := fd14,
    F_Net__lose := F14,
    b_Net__lose := F14.binds (ps := ["self", "at"]) fun _ _ _ _ _ _ us hl => match us, hl with | [_, _], _ => rfl,
    a_Net__read := He.fAd K ("Net", some "read"),
    fd_Net__read := fd15,
    F_Net__read := F15,
    b_Net__read := F15.binds (ps := ["self", "at"]) fun _ _ _ _ _ _ us hl => match us, hl with | [_, _], _ => rfl,
    a__law_far := He.fAd K ("_law_far", none),
    fd__law_far := fd16,
    g__law_far := He.glo_ok X G (c.d.fact 16 rfl),
    F__law_far := F16,
    b__law_far := F16.binds (ps := ["size", "start", "end"]) fun _ _ _ _ _ _ us hl => match us, hl with | [_, _, _], _ => rfl,
    a__law_between := He.fAd K ("_law_between", none),
    fd__law_between := fd17,
    g__law_between := He.glo_ok X G (c.d.fact 17 rfl),
    F__law_between := F17,
    b__law_between := F17.binds (ps := ["size", "start", "place", "end"]) fun _ _ _ _ _ _ us hl => match us, hl with | [_, _, _, _], _ => rfl,
    a_far := He.fAd K ("far", none),
    fd_far := fd18,
    g_far := He.glo_ok X G (c.d.fact 18 rfl),
    F_far := F18,
    b_far := F18.binds (ps := ["size", "start", "end"]) fun _ _ _ _ _ _ us hl => match us, hl with | [_, _, _], _ => rfl,
    a_between := He.fAd K ("between", none),
    fd_between := fd19,
    g_between := He.glo_ok X G (c.d.fact 19 rfl),
    F_between := F19,
    b_between := F19.binds (ps := ["size", "start", "place", "end"]) fun _ _ _ _ _ _ us hl => match us, hl with | [_, _, _, _], _ => rfl,
    a_check_on_circle := He.fAd K ("check_on_circle", none),
    fd_check_on_circle := fd20,
    g_check_on_circle := He.glo_ok X G (c.d.fact 20 rfl),
    F_check_on_circle := F20,
    b_check_on_circle := F20.binds (ps := ["size", "place"]) fun _ _ _ _ _ _ us hl => match us, hl with | [_, _], _ => rfl,
    a__law_letter := He.fAd K ("_law_letter", none),
    fd__law_letter := fd21,
    g__law_letter := He.glo_ok X G (c.d.fact 21 rfl),
    F__law_letter := F21,
    b__law_letter := F21.binds (ps := ["tape", "some"]) fun _ _ _ _ _ _ us hl => match us, hl with | [_, _], _ => rfl,
    a__law_plain := He.fAd K ("_law_plain", none),
    fd__law_plain := fd22,
    g__law_plain := He.glo_ok X G (c.d.fact 22 rfl),
    F__law_plain := F22,
    b__law_plain := F22.binds (ps := ["error"]) fun _ _ _ _ _ _ us hl => match us, hl with | [_], _ => rfl,
    a__law_place := He.fAd K ("_law_place", none),
    fd__law_place := fd23,
    g__law_place := He.glo_ok X G (c.d.fact 23 rfl),
    F__law_place := F23,
    b__law_place := F23.binds (ps := ["tape", "size", "nexts"]) fun _ _ _ _ _ _ us hl => match us, hl with | [_, _, _], _ => rfl,
    a__law_drawn := He.fAd K ("_law_drawn", none),
    fd__law_drawn := fd24,
    g__law_drawn := He.glo_ok X G (c.d.fact 24 rfl),
    F__law_drawn := F24,
    b__law_drawn := F24.binds (ps := ["tape", "size", "nexts", "count"]) fun _ _ _ _ _ _ us hl => match us, hl with | [_, _, _, _], _ => rfl,
    a__law_call := He.fAd K ("_law_call", none),
    fd__law_call := fd25,
    g__law_call := He.glo_ok X G (c.d.fact 25 rfl),
    F__law_call := F25,
    b__law_call := F25.binds (ps := ["net", "deed"]) fun _ _ _ _ _ _ us hl => match us, hl with | [_, _], _ => rfl,
    a__law_done := He.fAd K ("_law_done", none),
    fd__law_done := fd26,
    g__law_done := He.glo_ok X G (c.d.fact 26 rfl),
    F__law_done := F26,
    b__law_done := F26.binds (ps := ["net", "deed"]) fun _ _ _ _ _ _ us hl => match us, hl with | [_, _], _ => rfl,
    a__law_lost := He.fAd K ("_law_lost", none),
    fd__law_lost := fd27,
    g__law_lost := He.glo_ok X G (c.d.fact 27 rfl),
    F__law_lost := F27,
    b__law_lost := F27.binds (ps := ["net", "word", "place"]) fun _ _ _ _ _ _ us hl => match us, hl with | [_, _, _], _ => rfl,
    a__law_named := He.fAd K ("_law_named", none),
    fd__law_named := fd28,
    g__law_named := He.glo_ok X G (c.d.fact 28 rfl),
    F__law_named := F28,
    b__law_named := F28.binds (ps := ["nexts", "behinds", "post", "house"]) fun _ _ _ _ _ _ us hl => match us, hl with | [_, _, _, _], _ => rfl,
    a__law_admitted := He.fAd K ("_law_admitted", none),
    fd__law_admitted := fd29,
    g__law_admitted := He.glo_ok X G (c.d.fact 29 rfl),
    F__law_admitted := F29,
    b__law_admitted := F29.binds (ps := ["size", "nexts", "place", "host"]) fun _ _ _ _ _ _ us hl => match us, hl with | [_, _, _, _], _ => rfl,
    a__law_due := He.fAd K ("_law_due", none),
    fd__law_due := fd30,
    g__law_due := He.glo_ok X G (c.d.fact 30 rfl),
    F__law_due := F30,
    b__law_due := F30.binds (ps := ["size", "nexts", "behinds", "post", "deed"]) fun _ _ _ _ _ _ us hl => match us, hl with | [_, _, _, _, _], _ => rfl,
    a__law_says := He.fAd K ("_law_says", none),
    fd__law_says := fd31,
    g__law_says := He.glo_ok X G (c.d.fact 31 rfl),
    F__law_says := F31,
    b__law_says := F31.binds (ps := ["net", "size", "nexts", "behinds", "post"]) fun _ _ _ _ _ _ us hl => match us, hl with | [_, _, _, _, _], _ => rfl,
    a__law_step := He.fAd K ("_law_step", none),
    fd__law_step := fd32,
    g__law_step := He.glo_ok X G (c.d.fact 32 rfl),
    F__law_step := F32,
    b__law_step := F32.binds (ps := ["net", "size", "nexts", "behinds", "post", "deed"]) fun _ _ _ _ _ _ us hl => match us, hl with | [_, _, _, _, _, _], _ => rfl,
    a__law_freeing := He.fAd K ("_law_freeing", none),
    fd__law_freeing := fd33,
    g__law_freeing := He.glo_ok X G (c.d.fact 33 rfl),
    F__law_freeing := F33,
    b__law_freeing := F33.binds (ps := ["nexts", "behinds", "post", "house"]) fun _ _ _ _ _ _ us hl => match us, hl with | [_, _, _, _], _ => rfl,
    a_law := He.fAd K ("law", none),
    fd_law := fd34,
    g_law := He.glo_ok X G (c.d.fact 34 rfl),
    F_law := F34,
    b_law := F34.binds (ps := ["script"]) fun _ _ _ _ _ _ us hl => match us, hl with | [_], _ => rfl,
    a__law_tape := He.fAd K ("_law_tape", none),
    fd__law_tape := fd35,
    g__law_tape := He.glo_ok X G (c.d.fact 35 rfl),
    F__law_tape := F35,
    b__law_tape := F35.binds (ps := ["script"]) fun _ _ _ _ _ _ us hl => match us, hl with | [_], _ => rfl,
    a__law_pick := He.fAd K ("_law_pick", none),
    fd__law_pick := fd36,
    g__law_pick := He.glo_ok X G (c.d.fact 36 rfl),
    F__law_pick := F36,
    b__law_pick := F36.binds (ps := ["tape", "size"]) fun _ _ _ _ _ _ us hl => match us, hl with | [_, _], _ => rfl,
    a__law_size := He.fAd K ("_law_size", none),
    fd__law_size := fd37,
    g__law_size := He.glo_ok X G (c.d.fact 37 rfl),
    F__law_size := F37,
    b__law_size := F37.binds (ps := ["tape", "count"]) fun _ _ _ _ _ _ us hl => match us, hl with | [_, _], _ => rfl,
    a__law_same := He.fAd K ("_law_same", none),
    fd__law_same := fd38,
    g__law_same := He.glo_ok X G (c.d.fact 38 rfl),
    F__law_same := F38,
    b__law_same := F38.binds (ps := ["actual", "due"]) fun _ _ _ _ _ _ us hl => match us, hl with | [_, _], _ => rfl,
    a_House__init := He.fAd K ("House", some "__init__"),
    fd_House__init := fd39,
    F_House__init := FD39,
    b_House__init := db39,
    bd_House__init := de39,
    bv_House__init := dve39,
    b1_House__init := dbe39,
    kg_House__init := _,
    kb_House__init := dbk39,
    a_House__tell_letter := He.fAd K ("House", some "tell_letter"),
    fd_House__tell_letter := fd40,
    F_House__tell_letter := F40,
    b_House__tell_letter := F40.binds (ps := ["self"]) fun _ _ _ _ _ _ us hl => match us, hl with | [_], _ => rfl,
    a_House__ask_letter := He.fAd K ("House", some "ask_letter"),
    fd_House__ask_letter := fd41,
    F_House__ask_letter := F41,
    b_House__ask_letter := F41.binds (ps := ["self"]) fun _ _ _ _ _ _ us hl => match us, hl with | [_], _ => rfl,
    a_House__answer_to := He.fAd K ("House", some "_answer_to"),
    fd_House__answer_to := fd42,
    F_House__answer_to := F42,
    b_House__answer_to := F42.binds (ps := ["self", "sender"]) fun _ _ _ _ _ _ us hl => match us, hl with | [_, _], _ => rfl,
    a_House__hear_tell := He.fAd K ("House", some "_hear_tell"),
    fd_House__hear_tell := fd43,
    F_House__hear_tell := F43,
    b_House__hear_tell := F43.binds (ps := ["self", "sender"]) fun _ _ _ _ _ _ us hl => match us, hl with | [_, _], _ => rfl,
    a_House__hear_answer := He.fAd K ("House", some "_hear_answer"),
    fd_House__hear_answer := fd44,
    F_House__hear_answer := F44,
    b_House__hear_answer := F44.binds (ps := ["self", "sender", "named"]) fun _ _ _ _ _ _ us hl => match us, hl with | [_, _, _], _ => rfl,
    a_House__hear := He.fAd K ("House", some "hear"),
    fd_House__hear := fd45,
    F_House__hear := F45,
    b_House__hear := F45.binds (ps := ["self", "letter"]) fun _ _ _ _ _ _ us hl => match us, hl with | [_, _], _ => rfl,
    a_Net__check_house := He.fAd K ("Net", some "check_house"),
    fd_Net__check_house := fd46,
    F_Net__check_house := F46,
    b_Net__check_house := F46.binds (ps := ["self", "place"]) fun _ _ _ _ _ _ us hl => match us, hl with | [_, _], _ => rfl,
    a_Net__check_letter := He.fAd K ("Net", some "_check_letter"),
    fd_Net__check_letter := fd47,
    F_Net__check_letter := F47,
    b_Net__check_letter := F47.binds (ps := ["self", "at"]) fun _ _ _ _ _ _ us hl => match us, hl with | [_, _], _ => rfl,
    a_Net__house_at := He.fAd K ("Net", some "_house_at"),
    fd_Net__house_at := fd48,
    F_Net__house_at := F48,
    b_Net__house_at := F48.binds (ps := ["self", "place"]) fun _ _ _ _ _ _ us hl => match us, hl with | [_, _], _ => rfl,
    a_Net__send := He.fAd K ("Net", some "_send"),
    fd_Net__send := fd49,
    F_Net__send := F49,
    b_Net__send := F49.binds (ps := ["self", "letter"]) fun _ _ _ _ _ _ us hl => match us, hl with | [_, _], _ => rfl,
    a_Net__letters := He.fAd K ("Net", some "letters"),
    fd_Net__letters := fd50,
    F_Net__letters := F50,
    b_Net__letters := F50.binds (ps := ["self"]) fun _ _ _ _ _ _ us hl => match us, hl with | [_], _ => rfl,
    a_Net__nexts := He.fAd K ("Net", some "nexts"),
    fd_Net__nexts := fd51,
    F_Net__nexts := F51,
    b_Net__nexts := F51.binds (ps := ["self"]) fun _ _ _ _ _ _ us hl => match us, hl with | [_], _ => rfl,
    a_Net__befores := He.fAd K ("Net", some "befores"),
    fd_Net__befores := fd52,
    F_Net__befores := F52,
    b_Net__befores := F52.binds (ps := ["self"]) fun _ _ _ _ _ _ us hl => match us, hl with | [_], _ => rfl,
    a_Net__check_letters := He.fAd K ("Net", some "_check_letters"),
    fd_Net__check_letters := fd53,
    F_Net__check_letters := F53,
    b_Net__check_letters := F53.binds (ps := ["self"]) fun _ _ _ _ _ _ us hl => match us, hl with | [_], _ => rfl,
    a_Net__check_places := He.fAd K ("Net", some "_check_places"),
    fd_Net__check_places := fd54,
    F_Net__check_places := F54,
    b_Net__check_places := F54.binds (ps := ["self"]) fun _ _ _ _ _ _ us hl => match us, hl with | [_], _ => rfl,
    a_Net__take_befores := He.fAd K ("Net", some "_take_befores"),
    fd_Net__take_befores := fd55,
    F_Net__take_befores := F55,
    b_Net__take_befores := F55.binds (ps := ["self", "befores"]) fun _ _ _ _ _ _ us hl => match us, hl with | [_, _], _ => rfl,
    a_Net__init := He.fAd K ("Net", some "__init__"),
    fd_Net__init := fd56,
    F_Net__init := FD56,
    kg_Net__init := _,
    kb_Net__init := dbk56,
    bd_Net__init := de56,
    bv_Net__init := dve56,
    b1_Net__init := dbe56,
    a_NoHouse__init := He.fAd K ("NoHouse", some "__init__"),
    fd_NoHouse__init := fd57,
    F_NoHouse__init := F57,
    b_NoHouse__init := F57.binds (ps := ["self", "place"]) fun _ _ _ _ _ _ us hl => match us, hl with | [_, _], _ => rfl,
    a_OffCircle__init := He.fAd K ("OffCircle", some "__init__"),
    fd_OffCircle__init := fd58,
    F_OffCircle__init := F58,
    b_OffCircle__init := F58.binds (ps := ["self", "place"]) fun _ _ _ _ _ _ us hl => match us, hl with | [_, _], _ => rfl,
    a_TakenPlace__init := He.fAd K ("TakenPlace", some "__init__"),
    fd_TakenPlace__init := fd59,
    F_TakenPlace__init := F59,
    b_TakenPlace__init := F59.binds (ps := ["self", "place"]) fun _ _ _ _ _ _ us hl => match us, hl with | [_, _], _ => rfl,
    a_StillNamed__init := He.fAd K ("StillNamed", some "__init__"),
    fd_StillNamed__init := fd60,
    F_StillNamed__init := F60,
    b_StillNamed__init := F60.binds (ps := ["self", "place"]) fun _ _ _ _ _ _ us hl => match us, hl with | [_, _], _ => rfl,
    a__law_read := He.fAd K ("_law_read", none),
    fd__law_read := fd61,
    g__law_read := He.glo_ok X G (c.d.fact 39 rfl),
    F__law_read := F61,
    b__law_read := F61.binds (ps := ["size", "nexts", "behinds", "post", "at"]) fun _ _ _ _ _ _ us hl => match us, hl with | [_, _, _, _, _], _ => rfl,
    a__law_places := He.fAd K ("_law_places", none),
    fd__law_places := fd62,
    g__law_places := He.glo_ok X G (c.d.fact 40 rfl),
    F__law_places := F62,
    b__law_places := F62.binds (ps := ["tape", "size", "count"]) fun _ _ _ _ _ _ us hl => match us, hl with | [_, _, _], _ => rfl,
    C_House := He.ga K "House",
    mc_House := He.glo_ok X G (c.d.fact 41 rfl),
    cl_House := He.cls_ok (c.d.fact 42 rfl),
    na_House_size := He.noat_ok (c.d.fact 43 rfl),
    na_House_place := He.noat_ok (c.d.fact 44 rfl),
    na_House_next_house := He.noat_ok (c.d.fact 45 rfl),
    na_House_before := He.noat_ok (c.d.fact 46 rfl),
    mk_House := He.mkr_ok (c.d.fact 47 rfl),
    me_House__tell_letter := He.meth_ok (c.d.fact 48 rfl),
    me_House__ask_letter := He.meth_ok (c.d.fact 49 rfl),
    me_House__answer_to := He.meth_ok (c.d.fact 50 rfl),
    me_House__hear_tell := He.meth_ok (c.d.fact 51 rfl),
    me_House__hear_answer := He.meth_ok (c.d.fact 52 rfl),
    me_House__hear := He.meth_ok (c.d.fact 53 rfl),
    C_Net := He.ga K "Net",
    mc_Net := He.glo_ok X G (c.d.fact 54 rfl),
    cl_Net := He.cls_ok (c.d.fact 55 rfl),
    na_Net_size := He.noat_ok (c.d.fact 56 rfl),
    na_Net__nexts := He.noat_ok (c.d.fact 57 rfl),
    na_Net__befores := He.noat_ok (c.d.fact 58 rfl),
    na_Net__letters := He.noat_ok (c.d.fact 59 rfl),
    me_Net__next_of := He.meth_ok (c.d.fact 60 rfl),
    me_Net__before_of := He.meth_ok (c.d.fact 61 rfl),
    me_Net__hold := He.meth_ok (c.d.fact 62 rfl),
    me_Net__set_before := He.meth_ok (c.d.fact 63 rfl),
    me_Net__admit := He.meth_ok (c.d.fact 64 rfl),
    me_Net__take_out := He.meth_ok (c.d.fact 65 rfl),
    me_Net__is_named := He.meth_ok (c.d.fact 66 rfl),
    me_Net__check_free := He.meth_ok (c.d.fact 67 rfl),
    me_Net__snapshot := He.meth_ok (c.d.fact 68 rfl),
    me_Net__houses := He.meth_ok (c.d.fact 69 rfl),
    me_Net__tell := He.meth_ok (c.d.fact 70 rfl),
    me_Net__ask := He.meth_ok (c.d.fact 71 rfl),
    me_Net__repeat := He.meth_ok (c.d.fact 72 rfl),
    me_Net__lose := He.meth_ok (c.d.fact 73 rfl),
    me_Net__read := He.meth_ok (c.d.fact 74 rfl),
    me_Net__check_house := He.meth_ok (c.d.fact 75 rfl),
    me_Net__check_letter := He.meth_ok (c.d.fact 76 rfl),
    me_Net__house_at := He.meth_ok (c.d.fact 77 rfl),
    me_Net__send := He.meth_ok (c.d.fact 78 rfl),
    me_Net__letters := He.meth_ok (c.d.fact 79 rfl),
    me_Net__nexts := He.meth_ok (c.d.fact 80 rfl),
    me_Net__befores := He.meth_ok (c.d.fact 81 rfl),
    me_Net__check_letters := He.meth_ok (c.d.fact 82 rfl),
    me_Net__check_places := He.meth_ok (c.d.fact 83 rfl),
    me_Net__take_befores := He.meth_ok (c.d.fact 84 rfl),
    mk_Net := He.mkr_ok (c.d.fact 85 rfl),
    C_StillNamed := He.ga K "StillNamed",
    mc_StillNamed := He.glo_ok X G (c.d.fact 86 rfl),
    C_TakenPlace := He.ga K "TakenPlace",
    mc_TakenPlace := He.glo_ok X G (c.d.fact 87 rfl),
    C_OffCircle := He.ga K "OffCircle",
    mc_OffCircle := He.glo_ok X G (c.d.fact 88 rfl),
    C_NoHouse := He.ga K "NoHouse",
    mc_NoHouse := He.glo_ok X G (c.d.fact 89 rfl),
    C_RingError := He.ga K "RingError",
    mc_RingError := He.glo_ok X G (c.d.fact 90 rfl),
    C_NotBetween := He.ga K "NotBetween",
    mc_NotBetween := He.glo_ok X G (c.d.fact 91 rfl),
    C_SamePiece := He.ga K "SamePiece",
    mc_SamePiece := He.glo_ok X G (c.d.fact 92 rfl),
    C_NotQuiet := He.ga K "NotQuiet",
    mc_NotQuiet := He.glo_ok X G (c.d.fact 93 rfl),
    C_NotAtRest := He.ga K "NotAtRest",
    mc_NotAtRest := He.glo_ok X G (c.d.fact 94 rfl),
    C_Untold := He.ga K "Untold",
    mc_Untold := He.glo_ok X G (c.d.fact 95 rfl),
    C_NoLetter := He.ga K "NoLetter",
    mc_NoLetter := He.glo_ok X G (c.d.fact 96 rfl),
    C_BadText := He.ga K "BadText",
    mc_BadText := He.glo_ok X G (c.d.fact 97 rfl),
    er_StillNamed := errC_mk (c.exf 0 rfl) (He.eqO_ok (c.exf 1 rfl)) (He.eqO_ok (c.exf 2 rfl)) (of_decide_eq_true (c.exf 3 rfl)) (c.exf 4 rfl) (He.eqO_ok (c.exf 5 rfl)) (He.eqO_ok (c.exf 6 rfl)) (of_decide_eq_true (c.exf 7 rfl)) (of_decide_eq_true (c.exf 8 rfl)),
    ox_StillNamed := ⟨oexB_ok (c.exf 9 rfl), (He.eqO_ok (c.exf 10 rfl)), (of_decide_eq_true (c.exf 3 rfl)), (of_decide_eq_true (c.exf 11 rfl)), (c.exf 12 rfl)⟩,
    mi_StillNamed := (He.eqO_ok (c.exf 13 rfl)),
    ti_StillNamed := (of_decide_eq_true (c.exf 14 rfl)),
    na_StillNamed_place := (He.eqO_ok (c.exf 15 rfl)),
    ki_StillNamed_StillNamed := (of_decide_eq_true (c.exf 16 rfl)),
    ex_StillNamed_StillNamed := exm_sub (of_decide_eq_true (c.exf 3 rfl)) (c.exf 0 rfl) (of_decide_eq_true (c.exf 11 rfl)) (of_decide_eq_true (c.exf 17 rfl)),
    ki_StillNamed_TakenPlace := (of_decide_eq_true (c.exf 18 rfl)),
    ex_StillNamed_TakenPlace := exm_sub (of_decide_eq_true (c.exf 19 rfl)) (c.exf 20 rfl) (of_decide_eq_true (c.exf 21 rfl)) (of_decide_eq_true (c.exf 22 rfl)),
    ki_StillNamed_OffCircle := (of_decide_eq_true (c.exf 23 rfl)),
    ex_StillNamed_OffCircle := exm_sub (of_decide_eq_true (c.exf 24 rfl)) (c.exf 25 rfl) (of_decide_eq_true (c.exf 26 rfl)) (of_decide_eq_true (c.exf 27 rfl)),
    ki_StillNamed_NoHouse := (of_decide_eq_true (c.exf 28 rfl)),
    ex_StillNamed_NoHouse := exm_sub (of_decide_eq_true (c.exf 29 rfl)) (c.exf 30 rfl) (of_decide_eq_true (c.exf 31 rfl)) (of_decide_eq_true (c.exf 32 rfl)),
    ki_StillNamed_RingError := (of_decide_eq_true (c.exf 33 rfl)),
    ex_StillNamed_RingError := exm_sub (of_decide_eq_true (c.exf 34 rfl)) (c.exf 35 rfl) (of_decide_eq_true (c.exf 36 rfl)) (of_decide_eq_true (c.exf 37 rfl)),
    ki_StillNamed_NotBetween := (of_decide_eq_true (c.exf 38 rfl)),
    ex_StillNamed_NotBetween := exm_sub (of_decide_eq_true (c.exf 39 rfl)) (c.exf 40 rfl) (of_decide_eq_true (c.exf 41 rfl)) (of_decide_eq_true (c.exf 42 rfl)),
    ki_StillNamed_SamePiece := (of_decide_eq_true (c.exf 43 rfl)),
    ex_StillNamed_SamePiece := exm_sub (of_decide_eq_true (c.exf 44 rfl)) (c.exf 45 rfl) (of_decide_eq_true (c.exf 46 rfl)) (of_decide_eq_true (c.exf 47 rfl)),
    ki_StillNamed_NotQuiet := (of_decide_eq_true (c.exf 48 rfl)),
    ex_StillNamed_NotQuiet := exm_sub (of_decide_eq_true (c.exf 49 rfl)) (c.exf 50 rfl) (of_decide_eq_true (c.exf 51 rfl)) (of_decide_eq_true (c.exf 52 rfl)),
    ki_StillNamed_NotAtRest := (of_decide_eq_true (c.exf 53 rfl)),
    ex_StillNamed_NotAtRest := exm_sub (of_decide_eq_true (c.exf 54 rfl)) (c.exf 55 rfl) (of_decide_eq_true (c.exf 56 rfl)) (of_decide_eq_true (c.exf 57 rfl)),
    ki_StillNamed_Untold := (of_decide_eq_true (c.exf 58 rfl)),
    ex_StillNamed_Untold := exm_sub (of_decide_eq_true (c.exf 59 rfl)) (c.exf 60 rfl) (of_decide_eq_true (c.exf 61 rfl)) (of_decide_eq_true (c.exf 62 rfl)),
    ki_StillNamed_NoLetter := (of_decide_eq_true (c.exf 63 rfl)),
    ex_StillNamed_NoLetter := exm_sub (of_decide_eq_true (c.exf 64 rfl)) (c.exf 65 rfl) (of_decide_eq_true (c.exf 66 rfl)) (of_decide_eq_true (c.exf 67 rfl)),
    ki_StillNamed_BadText := (of_decide_eq_true (c.exf 68 rfl)),
    ex_StillNamed_BadText := exm_sub (of_decide_eq_true (c.exf 69 rfl)) (c.exf 70 rfl) (of_decide_eq_true (c.exf 71 rfl)) (of_decide_eq_true (c.exf 72 rfl)),
    ki_StillNamed_ValueError := (of_decide_eq_true (c.exf 73 rfl)),
    er_TakenPlace := errC_mk (c.exf 20 rfl) (He.eqO_ok (c.exf 74 rfl)) (He.eqO_ok (c.exf 75 rfl)) (of_decide_eq_true (c.exf 19 rfl)) (c.exf 76 rfl) (He.eqO_ok (c.exf 77 rfl)) (He.eqO_ok (c.exf 6 rfl)) (of_decide_eq_true (c.exf 7 rfl)) (of_decide_eq_true (c.exf 78 rfl)),
    ox_TakenPlace := ⟨oexB_ok (c.exf 79 rfl), (He.eqO_ok (c.exf 80 rfl)), (of_decide_eq_true (c.exf 19 rfl)), (of_decide_eq_true (c.exf 21 rfl)), (c.exf 81 rfl)⟩,
    mi_TakenPlace := (He.eqO_ok (c.exf 82 rfl)),
    ti_TakenPlace := (of_decide_eq_true (c.exf 83 rfl)),
    na_TakenPlace_place := (He.eqO_ok (c.exf 84 rfl)),
    ki_TakenPlace_StillNamed := (of_decide_eq_true (c.exf 85 rfl)),
    ex_TakenPlace_StillNamed := exm_sub (of_decide_eq_true (c.exf 3 rfl)) (c.exf 0 rfl) (of_decide_eq_true (c.exf 11 rfl)) (of_decide_eq_true (c.exf 86 rfl)),
    ki_TakenPlace_TakenPlace := (of_decide_eq_true (c.exf 87 rfl)),
    ex_TakenPlace_TakenPlace := exm_sub (of_decide_eq_true (c.exf 19 rfl)) (c.exf 20 rfl) (of_decide_eq_true (c.exf 21 rfl)) (of_decide_eq_true (c.exf 88 rfl)),
    ki_TakenPlace_OffCircle := (of_decide_eq_true (c.exf 89 rfl)),
    ex_TakenPlace_OffCircle := exm_sub (of_decide_eq_true (c.exf 24 rfl)) (c.exf 25 rfl) (of_decide_eq_true (c.exf 26 rfl)) (of_decide_eq_true (c.exf 90 rfl)),
    ki_TakenPlace_NoHouse := (of_decide_eq_true (c.exf 91 rfl)),
    ex_TakenPlace_NoHouse := exm_sub (of_decide_eq_true (c.exf 29 rfl)) (c.exf 30 rfl) (of_decide_eq_true (c.exf 31 rfl)) (of_decide_eq_true (c.exf 92 rfl)),
    ki_TakenPlace_RingError := (of_decide_eq_true (c.exf 93 rfl)),
    ex_TakenPlace_RingError := exm_sub (of_decide_eq_true (c.exf 34 rfl)) (c.exf 35 rfl) (of_decide_eq_true (c.exf 36 rfl)) (of_decide_eq_true (c.exf 94 rfl)),
    ki_TakenPlace_NotBetween := (of_decide_eq_true (c.exf 95 rfl)),
    ex_TakenPlace_NotBetween := exm_sub (of_decide_eq_true (c.exf 39 rfl)) (c.exf 40 rfl) (of_decide_eq_true (c.exf 41 rfl)) (of_decide_eq_true (c.exf 96 rfl)),
    ki_TakenPlace_SamePiece := (of_decide_eq_true (c.exf 97 rfl)),
    ex_TakenPlace_SamePiece := exm_sub (of_decide_eq_true (c.exf 44 rfl)) (c.exf 45 rfl) (of_decide_eq_true (c.exf 46 rfl)) (of_decide_eq_true (c.exf 98 rfl)),
    ki_TakenPlace_NotQuiet := (of_decide_eq_true (c.exf 99 rfl)),
    ex_TakenPlace_NotQuiet := exm_sub (of_decide_eq_true (c.exf 49 rfl)) (c.exf 50 rfl) (of_decide_eq_true (c.exf 51 rfl)) (of_decide_eq_true (c.exf 100 rfl)),
    ki_TakenPlace_NotAtRest := (of_decide_eq_true (c.exf 101 rfl)),
    ex_TakenPlace_NotAtRest := exm_sub (of_decide_eq_true (c.exf 54 rfl)) (c.exf 55 rfl) (of_decide_eq_true (c.exf 56 rfl)) (of_decide_eq_true (c.exf 102 rfl)),
    ki_TakenPlace_Untold := (of_decide_eq_true (c.exf 103 rfl)),
    ex_TakenPlace_Untold := exm_sub (of_decide_eq_true (c.exf 59 rfl)) (c.exf 60 rfl) (of_decide_eq_true (c.exf 61 rfl)) (of_decide_eq_true (c.exf 104 rfl)),
    ki_TakenPlace_NoLetter := (of_decide_eq_true (c.exf 105 rfl)),
    ex_TakenPlace_NoLetter := exm_sub (of_decide_eq_true (c.exf 64 rfl)) (c.exf 65 rfl) (of_decide_eq_true (c.exf 66 rfl)) (of_decide_eq_true (c.exf 106 rfl)),
    ki_TakenPlace_BadText := (of_decide_eq_true (c.exf 107 rfl)),
    ex_TakenPlace_BadText := exm_sub (of_decide_eq_true (c.exf 69 rfl)) (c.exf 70 rfl) (of_decide_eq_true (c.exf 71 rfl)) (of_decide_eq_true (c.exf 108 rfl)),
    ki_TakenPlace_ValueError := (of_decide_eq_true (c.exf 109 rfl)),
    er_OffCircle := errC_mk (c.exf 25 rfl) (He.eqO_ok (c.exf 110 rfl)) (He.eqO_ok (c.exf 111 rfl)) (of_decide_eq_true (c.exf 24 rfl)) (c.exf 112 rfl) (He.eqO_ok (c.exf 113 rfl)) (He.eqO_ok (c.exf 6 rfl)) (of_decide_eq_true (c.exf 7 rfl)) (of_decide_eq_true (c.exf 114 rfl)),
    ox_OffCircle := ⟨oexB_ok (c.exf 115 rfl), (He.eqO_ok (c.exf 116 rfl)), (of_decide_eq_true (c.exf 24 rfl)), (of_decide_eq_true (c.exf 26 rfl)), (c.exf 117 rfl)⟩,
    mi_OffCircle := (He.eqO_ok (c.exf 118 rfl)),
    ti_OffCircle := (of_decide_eq_true (c.exf 119 rfl)),
    na_OffCircle_place := (He.eqO_ok (c.exf 120 rfl)),
    ki_OffCircle_StillNamed := (of_decide_eq_true (c.exf 121 rfl)),
    ex_OffCircle_StillNamed := exm_sub (of_decide_eq_true (c.exf 3 rfl)) (c.exf 0 rfl) (of_decide_eq_true (c.exf 11 rfl)) (of_decide_eq_true (c.exf 122 rfl)),
    ki_OffCircle_TakenPlace := (of_decide_eq_true (c.exf 123 rfl)),
    ex_OffCircle_TakenPlace := exm_sub (of_decide_eq_true (c.exf 19 rfl)) (c.exf 20 rfl) (of_decide_eq_true (c.exf 21 rfl)) (of_decide_eq_true (c.exf 124 rfl)),
    ki_OffCircle_OffCircle := (of_decide_eq_true (c.exf 125 rfl)),
    ex_OffCircle_OffCircle := exm_sub (of_decide_eq_true (c.exf 24 rfl)) (c.exf 25 rfl) (of_decide_eq_true (c.exf 26 rfl)) (of_decide_eq_true (c.exf 126 rfl)),
    ki_OffCircle_NoHouse := (of_decide_eq_true (c.exf 127 rfl)),
    ex_OffCircle_NoHouse := exm_sub (of_decide_eq_true (c.exf 29 rfl)) (c.exf 30 rfl) (of_decide_eq_true (c.exf 31 rfl)) (of_decide_eq_true (c.exf 128 rfl)),
    ki_OffCircle_RingError := (of_decide_eq_true (c.exf 129 rfl)),
    ex_OffCircle_RingError := exm_sub (of_decide_eq_true (c.exf 34 rfl)) (c.exf 35 rfl) (of_decide_eq_true (c.exf 36 rfl)) (of_decide_eq_true (c.exf 130 rfl)),
    ki_OffCircle_NotBetween := (of_decide_eq_true (c.exf 131 rfl)),
    ex_OffCircle_NotBetween := exm_sub (of_decide_eq_true (c.exf 39 rfl)) (c.exf 40 rfl) (of_decide_eq_true (c.exf 41 rfl)) (of_decide_eq_true (c.exf 132 rfl)),
    ki_OffCircle_SamePiece := (of_decide_eq_true (c.exf 133 rfl)),
    ex_OffCircle_SamePiece := exm_sub (of_decide_eq_true (c.exf 44 rfl)) (c.exf 45 rfl) (of_decide_eq_true (c.exf 46 rfl)) (of_decide_eq_true (c.exf 134 rfl)),
    ki_OffCircle_NotQuiet := (of_decide_eq_true (c.exf 135 rfl)),
    ex_OffCircle_NotQuiet := exm_sub (of_decide_eq_true (c.exf 49 rfl)) (c.exf 50 rfl) (of_decide_eq_true (c.exf 51 rfl)) (of_decide_eq_true (c.exf 136 rfl)),
    ki_OffCircle_NotAtRest := (of_decide_eq_true (c.exf 137 rfl)),
    ex_OffCircle_NotAtRest := exm_sub (of_decide_eq_true (c.exf 54 rfl)) (c.exf 55 rfl) (of_decide_eq_true (c.exf 56 rfl)) (of_decide_eq_true (c.exf 138 rfl)),
    ki_OffCircle_Untold := (of_decide_eq_true (c.exf 139 rfl)),
    ex_OffCircle_Untold := exm_sub (of_decide_eq_true (c.exf 59 rfl)) (c.exf 60 rfl) (of_decide_eq_true (c.exf 61 rfl)) (of_decide_eq_true (c.exf 140 rfl)),
    ki_OffCircle_NoLetter := (of_decide_eq_true (c.exf 141 rfl)),
    ex_OffCircle_NoLetter := exm_sub (of_decide_eq_true (c.exf 64 rfl)) (c.exf 65 rfl) (of_decide_eq_true (c.exf 66 rfl)) (of_decide_eq_true (c.exf 142 rfl)),
    ki_OffCircle_BadText := (of_decide_eq_true (c.exf 143 rfl)),
    ex_OffCircle_BadText := exm_sub (of_decide_eq_true (c.exf 69 rfl)) (c.exf 70 rfl) (of_decide_eq_true (c.exf 71 rfl)) (of_decide_eq_true (c.exf 144 rfl)),
    ki_OffCircle_ValueError := (of_decide_eq_true (c.exf 145 rfl)),
    er_NoHouse := errC_mk (c.exf 30 rfl) (He.eqO_ok (c.exf 146 rfl)) (He.eqO_ok (c.exf 147 rfl)) (of_decide_eq_true (c.exf 29 rfl)) (c.exf 148 rfl) (He.eqO_ok (c.exf 149 rfl)) (He.eqO_ok (c.exf 6 rfl)) (of_decide_eq_true (c.exf 7 rfl)) (of_decide_eq_true (c.exf 150 rfl)),
    ox_NoHouse := ⟨oexB_ok (c.exf 151 rfl), (He.eqO_ok (c.exf 152 rfl)), (of_decide_eq_true (c.exf 29 rfl)), (of_decide_eq_true (c.exf 31 rfl)), (c.exf 153 rfl)⟩,
    mi_NoHouse := (He.eqO_ok (c.exf 154 rfl)),
    ti_NoHouse := (of_decide_eq_true (c.exf 155 rfl)),
    na_NoHouse_place := (He.eqO_ok (c.exf 156 rfl)),
    ki_NoHouse_StillNamed := (of_decide_eq_true (c.exf 157 rfl)),
    ex_NoHouse_StillNamed := exm_sub (of_decide_eq_true (c.exf 3 rfl)) (c.exf 0 rfl) (of_decide_eq_true (c.exf 11 rfl)) (of_decide_eq_true (c.exf 158 rfl)),
    ki_NoHouse_TakenPlace := (of_decide_eq_true (c.exf 159 rfl)),
    ex_NoHouse_TakenPlace := exm_sub (of_decide_eq_true (c.exf 19 rfl)) (c.exf 20 rfl) (of_decide_eq_true (c.exf 21 rfl)) (of_decide_eq_true (c.exf 160 rfl)),
    ki_NoHouse_OffCircle := (of_decide_eq_true (c.exf 161 rfl)),
    ex_NoHouse_OffCircle := exm_sub (of_decide_eq_true (c.exf 24 rfl)) (c.exf 25 rfl) (of_decide_eq_true (c.exf 26 rfl)) (of_decide_eq_true (c.exf 162 rfl)),
    ki_NoHouse_NoHouse := (of_decide_eq_true (c.exf 163 rfl)),
    ex_NoHouse_NoHouse := exm_sub (of_decide_eq_true (c.exf 29 rfl)) (c.exf 30 rfl) (of_decide_eq_true (c.exf 31 rfl)) (of_decide_eq_true (c.exf 164 rfl)),
    ki_NoHouse_RingError := (of_decide_eq_true (c.exf 165 rfl)),
    ex_NoHouse_RingError := exm_sub (of_decide_eq_true (c.exf 34 rfl)) (c.exf 35 rfl) (of_decide_eq_true (c.exf 36 rfl)) (of_decide_eq_true (c.exf 166 rfl)),
    ki_NoHouse_NotBetween := (of_decide_eq_true (c.exf 167 rfl)),
    ex_NoHouse_NotBetween := exm_sub (of_decide_eq_true (c.exf 39 rfl)) (c.exf 40 rfl) (of_decide_eq_true (c.exf 41 rfl)) (of_decide_eq_true (c.exf 168 rfl)),
    ki_NoHouse_SamePiece := (of_decide_eq_true (c.exf 169 rfl)),
    ex_NoHouse_SamePiece := exm_sub (of_decide_eq_true (c.exf 44 rfl)) (c.exf 45 rfl) (of_decide_eq_true (c.exf 46 rfl)) (of_decide_eq_true (c.exf 170 rfl)),
    ki_NoHouse_NotQuiet := (of_decide_eq_true (c.exf 171 rfl)),
    ex_NoHouse_NotQuiet := exm_sub (of_decide_eq_true (c.exf 49 rfl)) (c.exf 50 rfl) (of_decide_eq_true (c.exf 51 rfl)) (of_decide_eq_true (c.exf 172 rfl)),
    ki_NoHouse_NotAtRest := (of_decide_eq_true (c.exf 173 rfl)),
    ex_NoHouse_NotAtRest := exm_sub (of_decide_eq_true (c.exf 54 rfl)) (c.exf 55 rfl) (of_decide_eq_true (c.exf 56 rfl)) (of_decide_eq_true (c.exf 174 rfl)),
    ki_NoHouse_Untold := (of_decide_eq_true (c.exf 175 rfl)),
    ex_NoHouse_Untold := exm_sub (of_decide_eq_true (c.exf 59 rfl)) (c.exf 60 rfl) (of_decide_eq_true (c.exf 61 rfl)) (of_decide_eq_true (c.exf 176 rfl)),
    ki_NoHouse_NoLetter := (of_decide_eq_true (c.exf 177 rfl)),
    ex_NoHouse_NoLetter := exm_sub (of_decide_eq_true (c.exf 64 rfl)) (c.exf 65 rfl) (of_decide_eq_true (c.exf 66 rfl)) (of_decide_eq_true (c.exf 178 rfl)),
    ki_NoHouse_BadText := (of_decide_eq_true (c.exf 179 rfl)),
    ex_NoHouse_BadText := exm_sub (of_decide_eq_true (c.exf 69 rfl)) (c.exf 70 rfl) (of_decide_eq_true (c.exf 71 rfl)) (of_decide_eq_true (c.exf 180 rfl)),
    ki_NoHouse_ValueError := (of_decide_eq_true (c.exf 181 rfl)) }
  exact ⟨fd34, fun s v => b s [v] rfl, fun base _ _ => T.ok_law⟩
end Z
open PySem PySem.W PySem.Calls PyProof.Rows
set_option maxHeartbeats 0 in
theorem PySem.Challenge.cw_ringlaps_k10_admit_hold_take_out_holds : PySem.Challenge.rw_ringlaps_k10_admit_hold_take_out.Holds := by
  w_on; o_law
  refine HandSHeadRun.head_any (r := OpenLaw.row PySem.Challenge.rw_ringlaps_k10_admit_hold_take_out) (q := view (OpenLaw.row PySem.Challenge.rw_ringlaps_k10_admit_hold_take_out).prog [45]) (H := Z.heK) (ob := Z.heOb) (M := 30000) (loose := Z.heLoose) (d := HandSHeadRun.topDef (OpenLaw.row PySem.Challenge.rw_ringlaps_k10_admit_hold_take_out).prog 45) (kwd := []) Z.heOb_eq
    (by kernel_rfl) (fun s => by kernel_rfl) Z.heRun (by kernel_rfl) (by kernel_rfl) (by kernel_rfl) (by rfl) (by first | assumption | decide +kernel) (by decide +kernel) ⟨rfl, rfl, rfl, rfl, rfl, by decide +kernel⟩ ?hw ?hc
  case hw => w_witness2
  case hc =>
    refine L2.walk_ofE (l := PySem.Challenge.rw_ringlaps_k10_admit_hold_take_out) (n := 63) (k := 10) (x := "script") (CX := L2.CX0) rfl (by decide) (by kernel_rfl) ⟨rfl, by decide, by decide⟩ ?F (fun _ _ _ _ z => z)
    intro w mg fa h Y G hmg0
    obtain ⟨K, KX, c⟩ := Y
    have hmg : mg ("law" : PySem.Str) = some (.ref fa) := by
      have e : (HandSHeadRun.topDef (OpenLaw.row PySem.Challenge.rw_ringlaps_k10_admit_hold_take_out).prog 45).name = ("law" : PySem.Str) := by kernel_rfl
      rw [← e]
      exact hmg0
    obtain ⟨fd, hb, hF⟩ := Z.heFacts (P := (PySem.Challenge.rw_ringlaps_k10_admit_hold_take_out).prog) (w := w) KX G hmg c
    exact ⟨K, fd, Z.sp_law K, KX, hb, fun H a ns hl _ hS => ⟨a, ns, rfl, hS, hl, fun _ => rfl⟩, hF⟩
#print axioms PySem.Challenge.cw_ringlaps_k10_admit_hold_take_out_holds
