import PyProof.Rows.All
import Wide.All
import OpenK.AllK
import Wide.FinOn
import PySem.Challenge.RW_ringlaps_k03_places_in_order
import HandS.ForMost
import HandS.Star
import HandS.Defaults
import HandS.MakeKw
import HandS.Style
import HandS.Zip0
import HandS.Zip
import KE.KDictZip
import HandS.Steps
import HandS.ListItems
import HandS.Codes
import HandS.Conv
import HandS.Dict
import HandS.DictComp
import HandS.More
import HandS.Small
import HandS.MakeKwOnly
import HandS.ForDict
import HandS.Walk
import HandS.Wide
import HandS.Flow
import HandS.IsInst
import HandS.Sort
import HandS.SortKw
import HandS.Iter
import KE.KEqSeq
import KE.KUnpackStar
import KE.KDictSum
import HandS.ExcInit
import HandS.ExcInitHot
import HandS.ExcCtx
import HandS.HotCalls
import HandS.ExcOwn
import HandS.SetFor
import KE.KSortTupAny
import HandS.SetBool
import HandS.Strs
import HandS.SortOrd
import HandS.ExcValue
import KE.KExcIs
import HandS.SetKeys
import HandS.Head0
import HandS.Head1
import HandS.Head2
import HandS.HeadEnd
import HandS.HeadHook1
import HandS.HeadHook2
import HandS.HeadHook4
import KE.SortKeyHeap
import KE.DataMinKey
import HandS.NestedK
import HandS.FltList
import HandS.EndTab
import HandS.HeadWalk
set_option Elab.async false
set_option linter.all false
set_option maxRecDepth 100000
set_option maxHeartbeats 4000000
namespace Z
open PySem PySem.Spec PyProof.Rows L2
def lamTf : List He.Defn := [("places_from", none), ("nearest_ahead", none), ("nearest_behind", none)]
def LT (K : PySem.W.Frag) : List (Addr × Str) := [((He.cT K ("places_from", none)).2, (("places_from" : Str) ++ ".<locals>." ++ "<lambda>")), ((He.cT K ("nearest_ahead", none)).2, (("nearest_ahead" : Str) ++ ".<locals>." ++ "<lambda>")), ((He.cT K ("nearest_behind", none)).2, (("nearest_behind" : Str) ++ ".<locals>." ++ "<lambda>"))]
def topS (i : Nat) : Stmt := PySem.Challenge.pw_ringlaps_k03_places_in_order.main.body.getD i (.Pass ⟨0, 0, 0, 0⟩)
abbrev s_far : Stmt := topS 1
theorem sc_far : FnScope ["size", "start", "end"] ["size", "start", "end"] (defScope s_far) := ⟨rfl, rfl, rfl, by decide +kernel, rfl, by decide +kernel, by decide +kernel⟩
abbrev s_between : Stmt := topS 2
theorem sc_between : FnScope ["size", "start", "place", "end"] ["size", "start", "place", "end"] (defScope s_between) := ⟨rfl, rfl, rfl, by decide +kernel, rfl, by decide +kernel, by decide +kernel⟩
abbrev s_places_from : Stmt := topS 3
theorem sc_places_from : FnScope ["size", "start", "places"] ["size", "start", "places"] (defScope s_places_from) := ⟨rfl, rfl, rfl, by decide +kernel, rfl, by decide +kernel, by decide +kernel⟩
abbrev s_inside : Stmt := topS 4
theorem sc_inside : FnScope ["size", "start", "end", "places", "place"] ["size", "start", "end", "places"] (defScope s_inside) := ⟨rfl, rfl, rfl, by decide +kernel, rfl, by decide +kernel, by decide +kernel⟩
abbrev s_nearest_ahead : Stmt := topS 5
theorem sc_nearest_ahead : FnScope ["size", "start", "places"] ["size", "start", "places"] (defScope s_nearest_ahead) := ⟨rfl, rfl, rfl, by decide +kernel, rfl, by decide +kernel, by decide +kernel⟩
abbrev s_nearest_behind : Stmt := topS 6
theorem sc_nearest_behind : FnScope ["size", "end", "places"] ["size", "end", "places"] (defScope s_nearest_behind) := ⟨rfl, rfl, rfl, by decide +kernel, rfl, by decide +kernel, by decide +kernel⟩
abbrev s__law_size : Stmt := topS 10
theorem sc__law_size : FnScope ["tape", "count", "kind", "least"] ["tape", "count"] (defScope s__law_size) := ⟨rfl, rfl, rfl, by decide +kernel, rfl, by decide +kernel, by decide +kernel⟩
abbrev s__law_places : Stmt := topS 11
theorem sc__law_places : FnScope ["tape", "size", "count", "places", "k", "place", "other"] ["tape", "size", "count"] (defScope s__law_places) := ⟨rfl, rfl, rfl, by decide +kernel, rfl, by decide +kernel, by decide +kernel⟩
abbrev s__law_far : Stmt := topS 12
theorem sc__law_far : FnScope ["size", "start", "end", "steps"] ["size", "start", "end"] (defScope s__law_far) := ⟨rfl, rfl, rfl, by decide +kernel, rfl, by decide +kernel, by decide +kernel⟩
abbrev s__law_between : Stmt := topS 13
theorem sc__law_between : FnScope ["size", "start", "place", "end"] ["size", "start", "place", "end"] (defScope s__law_between) := ⟨rfl, rfl, rfl, by decide +kernel, rfl, by decide +kernel, by decide +kernel⟩
abbrev s__law_wide : Stmt := topS 15
theorem sc__law_wide : FnScope ["tape", "size"] ["tape", "size"] (defScope s__law_wide) := ⟨rfl, rfl, rfl, by decide +kernel, rfl, by decide +kernel, by decide +kernel⟩
abbrev s__law_circle : Stmt := topS 16
theorem sc__law_circle : FnScope ["tape", "count", "least", "kind"] ["tape", "count"] (defScope s__law_circle) := ⟨rfl, rfl, rfl, by decide +kernel, rfl, by decide +kernel, by decide +kernel⟩
abbrev s__law_spot : Stmt := topS 17
theorem sc__law_spot : FnScope ["tape", "size", "places"] ["tape", "size", "places"] (defScope s__law_spot) := ⟨rfl, rfl, rfl, by decide +kernel, rfl, by decide +kernel, by decide +kernel⟩
abbrev s__law_met : Stmt := topS 18
theorem sc__law_met : FnScope ["size", "start", "places", "pairs", "pair", "place"] ["size", "start", "places"] (defScope s__law_met) := ⟨rfl, rfl, rfl, by decide +kernel, rfl, by decide +kernel, by decide +kernel⟩
abbrev s__law_nearest : Stmt := topS 19
theorem sc__law_nearest : FnScope ["pairs"] ["pairs"] (defScope s__law_nearest) := ⟨rfl, rfl, rfl, by decide +kernel, rfl, by decide +kernel, by decide +kernel⟩
abbrev s_law : Stmt := topS 20
theorem sc_law : FnScope ["script", "tape", "count", "size", "places", "start", "end", "met", "due", "handed", "k", "told", "place"] ["script"] (defScope s_law) := ⟨rfl, rfl, rfl, by decide +kernel, rfl, by decide +kernel, by decide +kernel⟩
abbrev s__law_tape : Stmt := topS 8
theorem sc__law_tape : FnScope ["script", "cells", "cell"] ["script"] (defScope s__law_tape) := ⟨rfl, rfl, rfl, by decide +kernel, rfl, by decide +kernel, by decide +kernel⟩
abbrev s__law_pick : Stmt := topS 9
theorem sc__law_pick : FnScope ["tape", "size", "cells", "cell", "k", "number", "used", "mixed"] ["tape", "size"] (defScope s__law_pick) := ⟨rfl, rfl, rfl, by decide +kernel, rfl, by decide +kernel, by decide +kernel⟩
abbrev s__law_same : Stmt := topS 14
theorem sc__law_same : FnScope ["actual", "due", "k"] ["actual", "due"] (defScope s__law_same) := ⟨rfl, rfl, rfl, by decide +kernel, rfl, by decide +kernel, by decide +kernel⟩
/-! ### what the top has left, read off by names -/
theorem fun_of {K : PySem.W.Frag} {x qual : Str} {st : Stmt} {f : Addr} {fd : FuncData} (F : FunD K x qual (defArgs st) (defBody st) (defScope st) [] [] f fd) : Fun K x qual st f fd := by
  obtain ⟨oc, od, dV, kV, doc, pm, an, cdv, ct, osl, e, lk, hc, hd, _⟩ := F.ex
  have e2 : dV = .none := by
    rcases hd with ⟨_, h⟩ | ⟨h, _⟩
    · exact h
    · exact absurd rfl h
  subst e2
  exact ⟨⟨oc, od, kV, doc, pm, an, cdv, ct, osl, e, lk, hc⟩, F.kp⟩
def oexB (K : PySem.W.Frag) (C : Addr) : Bool := match K.lookup C with
  | some ⟨.type T, _, .cls cd, sl⟩ => (match cd.mro, sl.toList with
    | .ref C' :: bm, [_, _, _, _, some (.builtin n), _] => decide (T = "type") && (decide (C' = C) && (decide (n = "ValueError.__new__") && (!cd.hasDel && (cd.hasDict && PySem.HandSPX.refsVE bm))))
    | _, _ => false)
  | _ => false
theorem oexB_ok {K : PySem.W.Frag} {C : Addr} (h : oexB K C = true) : ∃ nm q N bs bm sn sub ab col dd k0 k1 k2 k3 k5, K.lookup C = some (excClassObj nm q C N bs bm true sn sub ab col dd k0 k1 k2 k3 k5 "ValueError.__new__") ∧ PySem.HandSPX.refsVE bm = true := by
  unfold oexB at h
  split at h
  · rename_i T dd cd sl ho
    split at h
    · rename_i C' bm k0 k1 k2 k3 n k5 hm hs
      obtain ⟨h0, h⟩ := He.ba h
      obtain ⟨h1, h⟩ := He.ba h
      obtain ⟨h2, h⟩ := He.ba h
      obtain ⟨h3, h⟩ := He.ba h
      obtain ⟨h4, h5⟩ := He.ba h
      obtain rfl := of_decide_eq_true h0
      obtain rfl := of_decide_eq_true h1
      obtain rfl := of_decide_eq_true h2
      obtain ⟨c1, c2, c3, c4, c5, c6, c7, c8, c9, c10, c11⟩ := cd
      simp only at hm h3 h4
      subst hm
      have h3' : c11 = false := by simpa using h3
      subst h3' h4
      have es : sl = #[k0, k1, k2, k3, some (.builtin "ValueError.__new__"), k5] := by
        apply Array.toList_inj.mp
        rw [hs]
      subst es
      exact ⟨c1, c5, c4, c2, bm, c7, c8, c9, c10, dd, k0, k1, k2, k3, k5, ho, h5⟩
    · cases h
  · cases h
/-! ### what the names reach, each address once: a mask of bits -/
def bitQ (m a : Nat) : Bool := Nat.beq (Nat.land (Nat.shiftRight m a) 1) 1
def seeQ : List Addr → Nat → List Addr → (Nat → List Addr → List Addr) → List Addr
  | [], m, l, k => k m l
  | a :: r, m, l, k => HandSHeadRun.frNat a fun a => match bitQ m a with
    | true => seeQ r m l k
    | false => HandSHeadRun.frNat (Nat.lor m (Nat.shiftLeft 1 a)) fun m => seeQ r m (a :: l) k
def goQ (g : Addr → Option Obj) : List Addr → Nat → List Addr → (Nat → List Addr → List Addr) → List Addr
  | [], m, l, k => k m l
  | a :: r, m, l, k => match g a with
    | some o => seeQ (He.refsD o) m l fun m l => goQ g r m l k
    | none => goQ g r m l k
def asQ (g : Addr → Option Obj) : Nat → Nat → List Addr → List Addr
  | 0, _, f => f
  | n + 1, m, f => f ++ goQ g f m [] fun m l => asQ g n m l
abbrev heAl : Type := Bool × List He.FnW
def heObs (fa : List He.Fa) (fn : List He.DefD) (ex : PySem.W.Frag → List Bool) (K : PySem.W.Frag) : heAl := (((fa.all fun f => f.ok K) && fn.all fun d => d.ok K) && (ex K).all id, fn.map fun d => He.fnW K d.at_)
def heVal (fn : List He.DefD) : heAl := (true, fn.map He.DefD.val)
def HeSays (fa : List He.Fa) (fn : List He.DefD) (ex : PySem.W.Frag → List Bool) (K : PySem.W.Frag) : Prop := heObs fa fn ex K = heVal fn
def heObsG (n : Nat) (fa : List He.Fa) (fn : List He.DefD) (ex : PySem.W.Frag → List Bool) (g : Addr → Option Obj) : heAl := heObs fa fn ex (He.frG g (asQ g n (Nat.shiftLeft 1 mainGlobals) [mainGlobals]))
def heHook (n : Nat) (fa : List He.Fa) (fn : List He.DefD) (ex : PySem.W.Frag → List Bool) : PySem.W.Hook where
  α := heAl
  obs := fun s => heObsG n fa fn ex s.heap.get?
  val := fun _ => heVal fn
  says := fun _ h => ∃ K : PySem.W.Frag, K.In h ∧ HeSays fa fn ex K
  of := fun _ _ e => ⟨_, He.frG_in, e⟩
  keeps := fun _ _ _ ⟨K, hK, c⟩ k => ⟨K, PySem.W.Frag.In.keeps hK k, c⟩
theorem heObsG_eq {n : Nat} {fa : List He.Fa} {fn : List He.DefD} {ex : PySem.W.Frag → List Bool} {g : Addr → Option Obj} {s : Shared} (h : ∀ a, g a = s.heap.get? a) : heObsG n fa fn ex g = (heHook n fa fn ex).obs s := by
  have e : g = s.heap.get? := funext h
  rw [e] <;> rfl
section
variable {fa : List He.Fa} {fn : List He.DefD} {ex : PySem.W.Frag → List Bool} {K : PySem.W.Frag}
theorem HeSays.d (c : HeSays fa fn ex K) : He.SaysD fa fn K := by
  have c1 := (He.ba (show (((fa.all fun f => f.ok K) && fn.all fun d => d.ok K) && (ex K).all id) = true from congrArg (fun z : heAl => z.1) c)).1
  have c2 : fn.map (fun d => He.fnW K d.at_) = fn.map He.DefD.val := congrArg (fun z : heAl => z.2) c
  exact Prod.ext c1 c2
theorem HeSays.exf (c : HeSays fa fn ex K) (i : Nat) {b : Bool} (h : (ex K)[i]? = some b := by rfl) : b = true := by
  have c1 := (He.ba (show (((fa.all fun f => f.ok K) && fn.all fun d => d.ok K) && (ex K).all id) = true from congrArg (fun z : heAl => z.1) c)).2
  exact List.all_eq_true.mp c1 b (List.mem_of_getElem? h)
end
/-! ### .. and the tables of code objects of the defs that make lambdas: empty, not in K -/
abbrev heAlL : Type := heAl × Bool
def heObsL (n : Nat) (fa : List He.Fa) (fn : List He.DefD) (ex : PySem.W.Frag → List Bool) (tf : List He.Defn) (g : Addr → Option Obj) : heAlL := (heObs fa fn ex (He.frT g (asQ g n (Nat.shiftLeft 1 mainGlobals) [mainGlobals])), He.tabsB g tf (He.frT g (asQ g n (Nat.shiftLeft 1 mainGlobals) [mainGlobals])))
def heValL (fn : List He.DefD) : heAlL := (heVal fn, true)
structure HeSaysL (fa : List He.Fa) (fn : List He.DefD) (ex : PySem.W.Frag → List Bool) (tf : List He.Defn) (h : Heap) (K : PySem.W.Frag) : Prop where
  s : HeSays fa fn ex K
  hd : ∀ p ∈ tf, PySem.W.codeHdIn K (He.cT K p).1 (He.cT K p).2 = true
  out : ∀ p ∈ tf, K.lookup (He.cT K p).2 = none
  empty : ∀ p ∈ tf, h.get? (He.cT K p).2 = some { cls := .none, data := .fields #[] }
theorem heSaysL_of {n : Nat} {fa : List He.Fa} {fn : List He.DefD} {ex : PySem.W.Frag → List Bool} {tf : List He.Defn} {h : Heap} (e : heObsL n fa fn ex tf h.get? = heValL fn) : HeSaysL fa fn ex tf h (He.frT h.get? (asQ h.get? n (Nat.shiftLeft 1 mainGlobals) [mainGlobals])) := by
  have e1 : heObs fa fn ex (He.frT h.get? (asQ h.get? n (Nat.shiftLeft 1 mainGlobals) [mainGlobals])) = heVal fn := congrArg (fun z : heAlL => z.1) e
  have e2 : He.tabsB h.get? tf (He.frT h.get? (asQ h.get? n (Nat.shiftLeft 1 mainGlobals) [mainGlobals])) = true := congrArg (fun z : heAlL => z.2) e
  generalize asQ h.get? n (Nat.shiftLeft 1 mainGlobals) [mainGlobals] = as at e1 e2 ⊢
  have key : ∀ p ∈ tf, PySem.W.codeHdIn (He.frT h.get? as) (He.cT (He.frT h.get? as) p).1 (He.cT (He.frT h.get? as) p).2 = true ∧ ∃ o, h.get? (He.cT (He.frT h.get? as) p).2 = some o ∧ He.emptyTab o = true := fun p hp => by
    obtain ⟨h3, h4⟩ := He.ba (List.all_eq_true.mp e2 p hp)
    refine ⟨h3, ?_⟩
    cases q : h.get? (He.cT (He.frT h.get? as) p).2 with
    | none =>
      rw [q] at h4
      cases h4
    | some o =>
      rw [q] at h4
      exact ⟨o, rfl, h4⟩
  exact ⟨e1, fun p hp => (key p hp).1, fun p hp => by
    obtain ⟨_, o, q, z⟩ := key p hp
    exact He.frT_none q z, fun p hp => by
    obtain ⟨_, o, q, z⟩ := key p hp
    rw [q, He.emptyTab_eq z]⟩
def heHookL (n : Nat) (fa : List He.Fa) (fn : List He.DefD) (ex : PySem.W.Frag → List Bool) (tf : List He.Defn) : PySem.W.Hook where
  α := heAlL
  obs := fun s => heObsL n fa fn ex tf s.heap.get?
  val := fun _ => heValL fn
  says := fun _ h => ∃ K : PySem.W.Frag, K.In h ∧ HeSaysL fa fn ex tf h K
  of := fun _ _ e => ⟨_, He.frT_in, heSaysL_of e⟩
  keeps := fun _ _ _ ⟨K, hK, c⟩ k => ⟨K, PySem.W.Frag.In.keeps hK k, ⟨c.s, c.hd, c.out, fun p hp => k _ _ (c.empty p hp)⟩⟩
theorem heObsL_eq {n : Nat} {fa : List He.Fa} {fn : List He.DefD} {ex : PySem.W.Frag → List Bool} {tf : List He.Defn} {g : Addr → Option Obj} {s : Shared} (h : ∀ a, g a = s.heap.get? a) : heObsL n fa fn ex tf g = (heHookL n fa fn ex tf).obs s := by
  have e : g = s.heap.get? := funext h
  rw [e] <;> rfl
theorem code_of {K : PySem.W.Frag} {p : He.Defn} {x qual : Str} {st : Stmt} {fd : FuncData} (F : Fun K x qual st (He.fAd K p) fd) : fd.code = .ref (He.cT K p).1 := by
  obtain ⟨oc, od, kV, doc, pm, an, cdv, ct, osl, rfl, lk, hcd⟩ := F.ex
  obtain ⟨c, rfl⟩ := He.codeIn_ref hcd
  show Value.ref c = .ref (He.codeOf K p)
  rw [He.codeOf_eq lk rfl]
theorem lt_of {l : List (Addr × Str)} {P : Addr} {nm : Str} (h : (l.all fun p => !decide (p.1 = P) || decide (p.2 = nm)) = true) : ∀ p ∈ l, p.1 = P → p.2 = nm := fun p hp e => by
  have z := List.all_eq_true.mp h p hp
  rw [decide_eq_true e] at z
  exact of_decide_eq_true (by simpa using z)
def hd_far : He.DefD := ⟨("far", none), "far", "far", defArgs s_far, defBody s_far, defScope s_far, [], []⟩
def hd_between : He.DefD := ⟨("between", none), "between", "between", defArgs s_between, defBody s_between, defScope s_between, [], []⟩
def hd_places_from : He.DefD := ⟨("places_from", none), "places_from", "places_from", defArgs s_places_from, defBody s_places_from, defScope s_places_from, [], []⟩
def hd_inside : He.DefD := ⟨("inside", none), "inside", "inside", defArgs s_inside, defBody s_inside, defScope s_inside, [], []⟩
def hd_nearest_ahead : He.DefD := ⟨("nearest_ahead", none), "nearest_ahead", "nearest_ahead", defArgs s_nearest_ahead, defBody s_nearest_ahead, defScope s_nearest_ahead, [], []⟩
def hd_nearest_behind : He.DefD := ⟨("nearest_behind", none), "nearest_behind", "nearest_behind", defArgs s_nearest_behind, defBody s_nearest_behind, defScope s_nearest_behind, [], []⟩
def hd__law_size : He.DefD := ⟨("_law_size", none), "_law_size", "_law_size", defArgs s__law_size, defBody s__law_size, defScope s__law_size, [], []⟩
def hd__law_places : He.DefD := ⟨("_law_places", none), "_law_places", "_law_places", defArgs s__law_places, defBody s__law_places, defScope s__law_places, [], []⟩
def hd__law_far : He.DefD := ⟨("_law_far", none), "_law_far", "_law_far", defArgs s__law_far, defBody s__law_far, defScope s__law_far, [], []⟩
def hd__law_between : He.DefD := ⟨("_law_between", none), "_law_between", "_law_between", defArgs s__law_between, defBody s__law_between, defScope s__law_between, [], []⟩
def hd__law_wide : He.DefD := ⟨("_law_wide", none), "_law_wide", "_law_wide", defArgs s__law_wide, defBody s__law_wide, defScope s__law_wide, [], []⟩
def hd__law_circle : He.DefD := ⟨("_law_circle", none), "_law_circle", "_law_circle", defArgs s__law_circle, defBody s__law_circle, defScope s__law_circle, [], []⟩
def hd__law_spot : He.DefD := ⟨("_law_spot", none), "_law_spot", "_law_spot", defArgs s__law_spot, defBody s__law_spot, defScope s__law_spot, [], []⟩
def hd__law_met : He.DefD := ⟨("_law_met", none), "_law_met", "_law_met", defArgs s__law_met, defBody s__law_met, defScope s__law_met, [], []⟩
def hd__law_nearest : He.DefD := ⟨("_law_nearest", none), "_law_nearest", "_law_nearest", defArgs s__law_nearest, defBody s__law_nearest, defScope s__law_nearest, [], []⟩
def hd_law : He.DefD := ⟨("law", none), "law", "law", defArgs s_law, defBody s_law, defScope s_law, [], []⟩
def hd__law_tape : He.DefD := ⟨("_law_tape", none), "_law_tape", "_law_tape", defArgs s__law_tape, defBody s__law_tape, defScope s__law_tape, [], []⟩
def hd__law_pick : He.DefD := ⟨("_law_pick", none), "_law_pick", "_law_pick", defArgs s__law_pick, defBody s__law_pick, defScope s__law_pick, [], []⟩
def hd__law_same : He.DefD := ⟨("_law_same", none), "_law_same", "_law_same", defArgs s__law_same, defBody s__law_same, defScope s__law_same, [], []⟩
def heFn : List He.DefD := [hd_far, hd_between, hd_places_from, hd_inside, hd_nearest_ahead, hd_nearest_behind, hd__law_size, hd__law_places, hd__law_far, hd__law_between, hd__law_wide, hd__law_circle, hd__law_spot, hd__law_met, hd__law_nearest, hd_law, hd__law_tape, hd__law_pick, hd__law_same]
def heFa : List He.Fa := [.free "abs", .free "bool", .free "dict", .free "int", .free "isinstance", .free "len", .free "list", .free "max", .free "min", .free "range", .free "sorted", .free "str", .free "tuple", .glo "far", .glo "between", .glo "places_from", .glo "inside", .glo "nearest_ahead", .glo "nearest_behind", .glo "_law_size", .glo "_law_places", .glo "_law_far", .glo "_law_between", .glo "_law_wide", .glo "_law_circle", .glo "_law_spot", .glo "_law_met", .glo "_law_nearest", .glo "law", .glo "_law_tape", .glo "_law_pick", .glo "_law_same"]
def heEx (K : PySem.W.Frag) : List Bool := [(LT K).all fun p => !decide (p.1 = (He.cT K ("places_from", none)).2) || decide (p.2 = (("places_from" : Str) ++ ".<locals>." ++ "<lambda>")),
  (LT K).all fun p => !decide (p.1 = (He.cT K ("nearest_ahead", none)).2) || decide (p.2 = (("nearest_ahead" : Str) ++ ".<locals>." ++ "<lambda>")),
  (LT K).all fun p => !decide (p.1 = (He.cT K ("nearest_behind", none)).2) || decide (p.2 = (("nearest_behind" : Str) ++ ".<locals>." ++ "<lambda>"))]
def heLoose0 : List Str := ["far", "between", "places_from", "inside", "nearest_ahead", "nearest_behind", "_law_tape", "_law_pick", "_law_size", "_law_places", "_law_far", "_law_between", "_law_same", "_law_wide", "_law_circle", "_law_spot", "_law_met", "_law_nearest"]
abbrev heLoose : List Str := heLoose0
abbrev heR : PySem.W.OpenRow := PySem.W.OpenLaw.row PySem.Challenge.rw_ringlaps_k03_places_in_order
abbrev heK : PySem.W.Hook := heHookL 5 heFa heFn heEx lamTf
def heOb (s : PySem.W.SharedT) : heAlL := heObsL 5 heFa heFn heEx lamTf (HandSHeadRun.getT s)
theorem heOb_eq (s : PySem.W.SharedT) : heOb s = heK.obs s.abs := heObsL_eq (HandSHeadRun.getT_eq s)
set_option maxHeartbeats 0 in
theorem heRun (w : World) : HandSHeadRun.RunEq heR (PySem.W.view heR.prog [20]) heK heOb 30000 heLoose w := by
  intro os
  kernel_rfl
/-! what is asked of the error in hand: (a, oe) is pinned, its dict at d -/
structure ErrC (K : PySem.W.Frag) (D : Addr) : Prop where
  cl : (PySem.W.clsIn K D).isSome = true
  ga : PySem.W.findIn K (.ref D) "__getattribute__" = some (some (.builtin "BaseException.__getattribute__"))
  gg : PySem.W.findIn K (.ref D) "__getattr__" = some none
  ex : PySem.W.subIn K (.ref D) (.type "BaseException") = some true
  hd : PySem.W.hasDictIn K D = true
  ca : PySem.W.findIn K (.ref D) "__class__" = some (some (.builtin "object.__class__"))
  cn : PySem.W.specialIn K (.builtin "object.__class__") "__get__" = some (some (.builtin "getset_descriptor.__get__"))
  ct : PySem.W.takesIn K (.builtin "object.__class__") = some true
  mo : PySem.W.mroIn K D (.type "object") = some true
class LamT (K : PySem.W.Frag) (mg : Str → Option Value) (base : outParam Heap) : Prop where
  tb_places_from : LamX.TabB base mg (He.cT K ("places_from", none)).1 (He.cT K ("places_from", none)).2
  tb_nearest_ahead : LamX.TabB base mg (He.cT K ("nearest_ahead", none)).1 (He.cT K ("nearest_ahead", none)).2
  tb_nearest_behind : LamX.TabB base mg (He.cT K ("nearest_behind", none)).1 (He.cT K ("nearest_behind", none)).2
structure T0 (K : PySem.W.Frag) (mg : Str → Option Value) where
  fd_places_from : FuncData
  cd_places_from : fd_places_from.code = .ref (He.cT K ("places_from", none)).1
  lt_places_from : ∀ p ∈ LT K, p.1 = (He.cT K ("places_from", none)).2 → p.2 = (("places_from" : Str) ++ ".<locals>." ++ "<lambda>")
  fd_nearest_ahead : FuncData
  cd_nearest_ahead : fd_nearest_ahead.code = .ref (He.cT K ("nearest_ahead", none)).1
  lt_nearest_ahead : ∀ p ∈ LT K, p.1 = (He.cT K ("nearest_ahead", none)).2 → p.2 = (("nearest_ahead" : Str) ++ ".<locals>." ++ "<lambda>")
  fd_nearest_behind : FuncData
  cd_nearest_behind : fd_nearest_behind.code = .ref (He.cT K ("nearest_behind", none)).1
  lt_nearest_behind : ∀ p ∈ LT K, p.1 = (He.cT K ("nearest_behind", none)).2 → p.2 = (("nearest_behind" : Str) ++ ".<locals>." ++ "<lambda>")
  m_abs : mg "abs" = none
  m_bool : mg "bool" = none
  m_dict : mg "dict" = none
  m_int : mg "int" = none
  m_isinstance : mg "isinstance" = none
  m_len : mg "len" = none
  m_list : mg "list" = none
  m_max : mg "max" = none
  m_min : mg "min" = none
  m_range : mg "range" = none
  m_sorted : mg "sorted" = none
  m_str : mg "str" = none
  m_tuple : mg "tuple" = none
  a_far : Addr
  fd_far : FuncData
  F_far : Fun K "far" "far" s_far a_far fd_far
  b_far : Binds K fd_far ["size", "start", "end"] []
  g_far : mg "far" = some (.ref a_far)
  a_between : Addr
  fd_between : FuncData
  F_between : Fun K "between" "between" s_between a_between fd_between
  b_between : Binds K fd_between ["size", "start", "place", "end"] []
  g_between : mg "between" = some (.ref a_between)
  a_places_from : Addr
  F_places_from : Fun K "places_from" "places_from" s_places_from a_places_from fd_places_from
  b_places_from : Binds K fd_places_from ["size", "start", "places"] []
  g_places_from : mg "places_from" = some (.ref a_places_from)
  a_inside : Addr
  fd_inside : FuncData
  F_inside : Fun K "inside" "inside" s_inside a_inside fd_inside
  b_inside : Binds K fd_inside ["size", "start", "end", "places"] []
  g_inside : mg "inside" = some (.ref a_inside)
  a_nearest_ahead : Addr
  F_nearest_ahead : Fun K "nearest_ahead" "nearest_ahead" s_nearest_ahead a_nearest_ahead fd_nearest_ahead
  b_nearest_ahead : Binds K fd_nearest_ahead ["size", "start", "places"] []
  g_nearest_ahead : mg "nearest_ahead" = some (.ref a_nearest_ahead)
  a_nearest_behind : Addr
  F_nearest_behind : Fun K "nearest_behind" "nearest_behind" s_nearest_behind a_nearest_behind fd_nearest_behind
  b_nearest_behind : Binds K fd_nearest_behind ["size", "end", "places"] []
  g_nearest_behind : mg "nearest_behind" = some (.ref a_nearest_behind)
  a__law_size : Addr
  fd__law_size : FuncData
  F__law_size : Fun K "_law_size" "_law_size" s__law_size a__law_size fd__law_size
  b__law_size : Binds K fd__law_size ["tape", "count"] []
  g__law_size : mg "_law_size" = some (.ref a__law_size)
  a__law_places : Addr
  fd__law_places : FuncData
  F__law_places : Fun K "_law_places" "_law_places" s__law_places a__law_places fd__law_places
  b__law_places : Binds K fd__law_places ["tape", "size", "count"] []
  g__law_places : mg "_law_places" = some (.ref a__law_places)
  a__law_far : Addr
  fd__law_far : FuncData
  F__law_far : Fun K "_law_far" "_law_far" s__law_far a__law_far fd__law_far
  b__law_far : Binds K fd__law_far ["size", "start", "end"] []
  g__law_far : mg "_law_far" = some (.ref a__law_far)
  a__law_between : Addr
  fd__law_between : FuncData
  F__law_between : Fun K "_law_between" "_law_between" s__law_between a__law_between fd__law_between
  b__law_between : Binds K fd__law_between ["size", "start", "place", "end"] []
  g__law_between : mg "_law_between" = some (.ref a__law_between)
  a__law_wide : Addr
  fd__law_wide : FuncData
  F__law_wide : Fun K "_law_wide" "_law_wide" s__law_wide a__law_wide fd__law_wide
  b__law_wide : Binds K fd__law_wide ["tape", "size"] []
  g__law_wide : mg "_law_wide" = some (.ref a__law_wide)
  a__law_circle : Addr
  fd__law_circle : FuncData
  F__law_circle : Fun K "_law_circle" "_law_circle" s__law_circle a__law_circle fd__law_circle
  b__law_circle : Binds K fd__law_circle ["tape", "count"] []
  g__law_circle : mg "_law_circle" = some (.ref a__law_circle)
  a__law_spot : Addr
  fd__law_spot : FuncData
  F__law_spot : Fun K "_law_spot" "_law_spot" s__law_spot a__law_spot fd__law_spot
  b__law_spot : Binds K fd__law_spot ["tape", "size", "places"] []
  g__law_spot : mg "_law_spot" = some (.ref a__law_spot)
  a__law_met : Addr
  fd__law_met : FuncData
  F__law_met : Fun K "_law_met" "_law_met" s__law_met a__law_met fd__law_met
  b__law_met : Binds K fd__law_met ["size", "start", "places"] []
  g__law_met : mg "_law_met" = some (.ref a__law_met)
  a__law_nearest : Addr
  fd__law_nearest : FuncData
  F__law_nearest : Fun K "_law_nearest" "_law_nearest" s__law_nearest a__law_nearest fd__law_nearest
  b__law_nearest : Binds K fd__law_nearest ["pairs"] []
  g__law_nearest : mg "_law_nearest" = some (.ref a__law_nearest)
  a_law : Addr
  fd_law : FuncData
  F_law : Fun K "law" "law" s_law a_law fd_law
  b_law : Binds K fd_law ["script"] []
  g_law : mg "law" = some (.ref a_law)
  a__law_tape : Addr
  fd__law_tape : FuncData
  F__law_tape : Fun K "_law_tape" "_law_tape" s__law_tape a__law_tape fd__law_tape
  b__law_tape : Binds K fd__law_tape ["script"] []
  g__law_tape : mg "_law_tape" = some (.ref a__law_tape)
  a__law_pick : Addr
  fd__law_pick : FuncData
  F__law_pick : Fun K "_law_pick" "_law_pick" s__law_pick a__law_pick fd__law_pick
  b__law_pick : Binds K fd__law_pick ["tape", "size"] []
  g__law_pick : mg "_law_pick" = some (.ref a__law_pick)
  a__law_same : Addr
  fd__law_same : FuncData
  F__law_same : Fun K "_law_same" "_law_same" s__law_same a__law_same fd__law_same
  b__law_same : Binds K fd__law_same ["actual", "due"] []
  g__law_same : mg "_law_same" = some (.ref a__law_same)
namespace T0
variable {K : PySem.W.Frag} {mg : Str → Option Value} (T : T0 K mg)
theorem k_far : PySem.W.keepIn K (.ref T.a_far) = true := T.F_far.kp
theorem k_between : PySem.W.keepIn K (.ref T.a_between) = true := T.F_between.kp
theorem k_places_from : PySem.W.keepIn K (.ref T.a_places_from) = true := T.F_places_from.kp
theorem k_inside : PySem.W.keepIn K (.ref T.a_inside) = true := T.F_inside.kp
theorem k_nearest_ahead : PySem.W.keepIn K (.ref T.a_nearest_ahead) = true := T.F_nearest_ahead.kp
theorem k_nearest_behind : PySem.W.keepIn K (.ref T.a_nearest_behind) = true := T.F_nearest_behind.kp
theorem k__law_size : PySem.W.keepIn K (.ref T.a__law_size) = true := T.F__law_size.kp
theorem k__law_places : PySem.W.keepIn K (.ref T.a__law_places) = true := T.F__law_places.kp
theorem k__law_far : PySem.W.keepIn K (.ref T.a__law_far) = true := T.F__law_far.kp
theorem k__law_between : PySem.W.keepIn K (.ref T.a__law_between) = true := T.F__law_between.kp
theorem k__law_wide : PySem.W.keepIn K (.ref T.a__law_wide) = true := T.F__law_wide.kp
theorem k__law_circle : PySem.W.keepIn K (.ref T.a__law_circle) = true := T.F__law_circle.kp
theorem k__law_spot : PySem.W.keepIn K (.ref T.a__law_spot) = true := T.F__law_spot.kp
theorem k__law_met : PySem.W.keepIn K (.ref T.a__law_met) = true := T.F__law_met.kp
theorem k__law_nearest : PySem.W.keepIn K (.ref T.a__law_nearest) = true := T.F__law_nearest.kp
theorem k_law : PySem.W.keepIn K (.ref T.a_law) = true := T.F_law.kp
theorem k__law_tape : PySem.W.keepIn K (.ref T.a__law_tape) = true := T.F__law_tape.kp
theorem k__law_pick : PySem.W.keepIn K (.ref T.a__law_pick) = true := T.F__law_pick.kp
theorem k__law_same : PySem.W.keepIn K (.ref T.a__law_same) = true := T.F__law_same.kp
end T0
theorem un1 {k : Nat} {A : Around} (r : Room k A) : A.units + 1 < cLine := by have := r.un; omega
theorem iteT' {b : Bool} {A B : Prop} (h : b = true) (a : A) : if b = true then A else B := by rw [if_pos h]; exact a
theorem iteF' {b : Bool} {A B : Prop} (h : b = false) (a : B) : if b = true then A else B := by rw [if_neg (by rw [h]; exact Bool.false_ne_true)]; exact a
theorem small1000' {n : Nat} (h : n ≤ 100000) : n < sizeLine := Nat.lt_of_le_of_lt h (by decide)
theorem upd_self {H : Hp} {t : Addr} {o : HO} (h : H t = Option.some o) : H = upd H t o := by
  funext b
  unfold upd
  split
  · rename_i e
    rw [e, h]
  · rfl
theorem at_ints {cs : List Int} {a : Nat} (h : a < cs.length) : atI (cs.map V.int) (a : Int) = Option.some (.int (cs[a])) := by
  refine atI_nat ?_
  rw [List.getElem?_map, List.getElem?_eq_getElem h]
  rfl
theorem at_getD {cs : List Int} {a : Nat} (h : a < cs.length) : atI (cs.map V.int) (a : Int) = Option.some (.int (cs.getD a 0)) := by
  refine atI_nat ?_
  rw [List.getElem?_map, List.getElem?_eq_getElem h, List.getD_eq_getElem?_getD, List.getElem?_eq_getElem h]
  rfl
theorem fmod_range (x : Int) {n : Int} (h : 0 < n) : 0 ≤ x.fmod n ∧ x.fmod n < n := ⟨Int.fmod_nonneg_of_pos x h, Int.fmod_lt_of_pos x h⟩
theorem mod_small (x : Int) {m : Int} (h : 0 < m) (h2 : m ≤ 9223372036854775808) : -(2 ^ 64) < x.fmod m ∧ x.fmod m < 2 ^ 64 := by
  have h3 := Int.fmod_nonneg_of_pos x h
  have h4 := Int.fmod_lt_of_pos x h
  constructor <;> omega
theorem cdivn (x : Int) {n : Int} (h : 0 < n) (h2 : n ≤ 1000000001) : CDivN x n := ⟨by omega, by omega⟩
theorem cdivw (x : Int) {n : Int} (h : 0 < n) (h2 : n ≤ 4000000000) : CDivW x n := wide_div (b := 63) h (by omega) (by decide) (by decide)
local macro_rules | `(tactic| walk_at "side") => `(tactic| first
  | with_reducible assumption
  | decide
  | ((with_reducible apply mod_small) <;> decide)
  | exact Or.inl ⟨by decide, by decide⟩
  | (apply Or.inl; (with_reducible apply mod_small) <;> decide)
  | exact Or.inr ⟨by decide, by decide⟩
  | ((with_reducible apply cdivn) <;> first | decide | omega)
  | ((with_reducible apply cdivw) <;> first | decide | omega)
  | (dsimp only; first | decide | omega)
  | exact ⟨by dsimp only; first | decide | omega, by dsimp only; first | decide | omega⟩)
local macro_rules | `(tactic| walk_at "go1") => `(tactic| first
  | refine ⟨_, rfl, ?_⟩
  | refine ⟨_, _, rfl, rfl, ?_⟩
  | refine Or.inl ⟨_, rfl, ?_⟩
  | refine ⟨_, _, _, _, rfl, rfl, (by first | assumption | exact SqL.of (by assumption) | exact upd_same | exact SqL.of upd_same), (by rfl), ?_⟩
  | refine ⟨rfl, ?_⟩
  | refine ⟨(show (_ : Prop) from by walk_at "side"), ?_⟩)
local macro_rules | `(tactic| walk_at "go") => `(tactic| repeat (walk_at "go1"))
section
variable {X : Cx} {K : PySem.W.Frag}
theorem ix_listK (h : X.K = K := by rfl) : IxR X (rIxL K) := by subst h; exact ix_list
theorem ix_tupK (h : X.K = K := by rfl) : IxR X (rIxT K) := by subst h; exact ix_tup
theorem ix_seqK (h : X.K = K := by rfl) : IxR X (rIx K) := by subst h; exact ix_seq
theorem sl_listK (h : X.K = K := by rfl) : SlR X (rSlL K) := by subst h; exact sl_list
theorem sl_tupK (h : X.K = K := by rfl) : SlR X (rSlT K) := by subst h; exact sl_tup
theorem op_in_seqK (h : X.K = K := by rfl) : OpR X (compareOp .In) (rIn K false) := by subst h; exact op_in_seq
theorem op_notIn_seqK (h : X.K = K := by rfl) : OpR X (compareOp .NotIn) (rIn K true) := by subst h; exact op_notIn_seq
def rLen (K : PySem.W.Frag) : List V → Hp → VK → Prop := fun xs H Q => ∃ p ys, xs = [.ref p] ∧ (SqL K H p ys ∨ SqT K H p ys) ∧ Q (.int ys.length) H
theorem call_lenK (h : X.K = K := by rfl) : CallR X (.builtin "len") (rLen K) := by subst h; exact call_len_seq
def rListOf (K : PySem.W.Frag) : List V → Hp → VK → Prop := fun xs H Q => ∃ p ys, xs = [.ref p] ∧ (SqL K H p ys ∨ SqT K H p ys) ∧ ∀ l, H l = none → Q (.ref l) (upd H l (.lst ys))
theorem call_list_ofK (h : X.K = K := by rfl) : CallR X (.type "list") (rListOf K) := by subst h; exact call_list_of
def rTupleOf (K : PySem.W.Frag) : List V → Hp → VK → Prop := fun xs H Q => ∃ p ys, xs = [.ref p] ∧ ((SqL K H p ys ∧ ∀ l, H l = none → Q (.ref l) (upd H l (.tup ys))) ∨ (SqT K H p ys ∧ Q (.ref p) H))
theorem call_tuple_ofK (h : X.K = K := by rfl) : CallR X (.type "tuple") (rTupleOf K) := by subst h; exact call_tuple_of
theorem call_isinstK (h : X.K = K := by rfl) : CallR X (.builtin "isinstance") (rIsi K) := by subst h; exact call_isi
theorem cr_sortedK (h : X.K = K := by rfl) : CallR X (.builtin "sorted") (rSorted K) := by subst h; exact cr_sorted
theorem call_sumK (hc : X.calm = true := by rfl) (h : X.K = K := by rfl) : CallR X (.builtin "sum") (rSum K) := by subst h; exact cr_sum hc
end
section
variable {σ : L2.St} {H : Hp} {ta tb tc : TE} {x y z : V}
theorem val_I0 {g : Int → Int → V} {i j : Int} (ha : Val ta σ H (.int i)) (hb : Val tb σ H (.int j)) : Val (tOp (rI0 g) ta tb) σ H (g i j) := fun _ q => ha _ (hb _ ⟨i, j, rfl, rfl, q⟩)
theorem val_I {C : Int → Int → Prop} {g : Int → Int → V} {i j : Int} (ha : Val ta σ H (.int i)) (hb : Val tb σ H (.int j)) (hc : C i j) : Val (tOp (rI C g) ta tb) σ H (g i j) := fun _ q => ha _ (hb _ ⟨i, j, rfl, rfl, hc, q⟩)
theorem val_eq (ha : Val ta σ H x) (hb : Val tb σ H y) (hs : scal x y = true) : Val (tOp rEq ta tb) σ H (.bl (decide (x = y))) := fun _ q => ha _ (hb _ ⟨hs, q⟩)
theorem val_ne (ha : Val ta σ H x) (hb : Val tb σ H y) (hs : scal x y = true) : Val (tOp rNe ta tb) σ H (.bl (!decide (x = y))) := fun _ q => ha _ (hb _ ⟨hs, q⟩)
theorem val_chain {g : Int → Int → Bool} {g' : Int → Int → Bool} {i j k : Int} (ha : Val ta σ H (.int i)) (hb : Val tb σ H (.int j)) (hc : Val tc σ H (.int k)) :
    Val (tChain (rI0 fun i j => .bl (g i j)) (rI0 fun i j => .bl (g' i j)) ta tb tc) σ H (.bl (g i j && g' j k)) := fun Q q => ha _ (hb _ ⟨i, j, rfl, rfl, _, rfl, by
  cases e : g i j with
  | true =>
    refine iteT (hc _ ⟨j, k, rfl, rfl, ?_⟩)
    rw [e] at q
    exact q
  | false =>
    rw [e] at q
    exact iteF q⟩)
theorem val_ixL {K : PySem.W.Frag} {p : Addr} {xs : List V} {i : Int} (ha : Val ta σ H (.ref p)) (hb : Val tb σ H (.int i)) (h : SqL K H p xs) (h2 : atI xs i = Option.some x) : Val (tOp (rIxL K) ta tb) σ H x := fun _ q => ha _ (hb _ ⟨p, xs, i, x, rfl, rfl, h, h2, q⟩)
theorem val_ixT {K : PySem.W.Frag} {p : Addr} {xs : List V} {i : Int} (ha : Val ta σ H (.ref p)) (hb : Val tb σ H (.int i)) (h : SqT K H p xs) (h2 : atI xs i = Option.some x) : Val (tOp (rIxT K) ta tb) σ H x := fun _ q => ha _ (hb _ ⟨p, xs, i, x, rfl, rfl, h, h2, q⟩)
theorem val_andV {a b : Bool} (ha : Val ta σ H (.bl a)) (hb : a = true → Val tb σ H (.bl b)) : Val (tAndV ta tb) σ H (.bl (a && b)) := fun Q q => ha _ ⟨a, rfl, by
  cases a with
  | true => exact iteT (hb rfl _ q)
  | false => exact iteF q⟩
theorem val_orV {a b : Bool} (ha : Val ta σ H (.bl a)) (hb : a = false → Val tb σ H (.bl b)) : Val (tOrV ta tb) σ H (.bl (a || b)) := fun Q q => ha _ ⟨a, rfl, by
  cases a with
  | true => exact iteT q
  | false => exact iteF (hb rfl _ q)⟩
theorem val_notV {a : Bool} (ha : Val ta σ H (.bl a)) : Val (tNotV ta) σ H (.bl (!a)) := fun _ q => ha _ ⟨a, rfl, q⟩
def ValA (ta : TA) (σ : L2.St) (H : Hp) (vs : List V) : Prop := ∀ Q : List V → Hp → Prop, Q vs H → ta σ H Q
theorem valA_nil : ValA tNil σ H [] := fun _ q => q
theorem valA_cons {tr : TA} {vs : List V} (h : Val ta σ H x) (hr : ValA tr σ H vs) : ValA (tCons ta tr) σ H (x :: vs) := fun _ q => h _ (hr _ q)
theorem go_lst {tr : TA} {vs : List V} {Q : VK} (h : ValA tr σ H vs) (hz : vs.length ≤ 100000) (q : ∀ p, H p = none → Q (.ref p) (upd H p (.lst vs))) : tLst tr σ H Q := h _ ⟨Nat.le_trans hz (by decide), q⟩
theorem go_tup {tr : TA} {vs : List V} {Q : VK} (h : ValA tr σ H vs) (hz : vs.length ≤ 100000) (q : ∀ p, H p = none → Q (.ref p) (upd H p (.tup vs))) : tTup tr σ H Q := h _ ⟨Nat.le_trans hz (by decide), q⟩
theorem val_call {tr : TA} {vs : List V} {sp : Sp} {dvs : List V} {E : XK} (h : ValA tr σ H vs) (hs : ∀ Q : VK, Q x H → sp (vs ++ dvs) H Q E) : Val (tCall sp dvs E tr) σ H x := fun _ q => h _ (hs _ q)
theorem val_cb {tr : TA} {vs : List V} {r : List V → Hp → VK → Prop} (h : ValA tr σ H vs) (hs : ∀ Q : VK, Q x H → r vs H Q) : Val (tCB r tr) σ H x := fun _ q => h _ (hs _ q)
variable {D : Ends} {tz tu tw : TS} {i : Nat} {tt tv : TT}
theorem o_asg (h : ta σ H fun v H' => tz D (σ.set i (some v)) H') : tSeq (tAsg ta (gName i)) tz D σ H := h
theorem o_ret (h : ta σ H D.rt) : tRet ta D σ H := h
theorem o_drop (h : ta σ H fun _ H' => tz D σ H') : tSeq (tDrop ta) tz D σ H := h
theorem v_asg (h : Val ta σ H x) (k : tz D (σ.set i (some x)) H) : tSeq (tAsg ta (gName i)) tz D σ H := h _ k
theorem v_asg1 (h : Val ta σ H x) (k : D.nx (σ.set i (some x)) H) : tAsg ta (gName i) D σ H := h _ k
theorem lc_yes {A B : Hp → Prop} (h : A H) : tYes σ H (fun b H3 => if b = true then A H3 else B H3) := by show (if true = true then A H else B H); exact iteT h
theorem g_name {v : V} {Q : L2.St → Hp → Prop} (h : Q (σ.set i (some v)) H) : gName i v σ H Q := h
theorem v_ret (h : Val ta σ H x) (k : D.rt x H) : tRet ta D σ H := h _ k
theorem v_if {b : Bool} (h : Ans tt σ H b) (h1 : b = true → tu { D with nx := tz D } σ H) (h2 : b = false → tw { D with nx := tz D } σ H) : tSeq (tIfS tt tu tw) tz D σ H := h _ (by
  cases b with
  | true => exact iteT (h1 rfl)
  | false => exact iteF (h2 rfl))
theorem v_if1 {b : Bool} (h : Ans tt σ H b) (h1 : b = true → tu D σ H) (h2 : b = false → tw D σ H) : tIfS tt tu tw D σ H := h _ (by
  cases b with
  | true => exact iteT (h1 rfl)
  | false => exact iteF (h2 rfl))
/-- an if without else: the rest once more where the test says no -/
theorem v_when {b : Bool} (h : Ans tt σ H b) (h1 : b = true → tu { D with nx := tz D } σ H) (h2 : b = false → tz D σ H) : tSeq (tIfS tt tu tNext) tz D σ H := v_if h h1 h2
theorem ans_t {b : Bool} (h : Val ta σ H (.bl b)) : Ans (tTest ta) σ H b := fun _ q => h _ ⟨b, rfl, q⟩
theorem ans_b {b : Bool} (h : Val ta σ H (.bl b)) : Ans (tB ta) σ H b := fun _ q => h _ ⟨b, rfl, q⟩
theorem ans_a {a b : Bool} (h : Ans tt σ H a) (h2 : a = true → Ans tv σ H b) : Ans (tAnd tt tv) σ H (a && b) := fun _ q => h _ (by
  cases a with
  | true => exact iteT (h2 rfl _ q)
  | false => exact iteF q)
theorem ans_o {a b : Bool} (h : Ans tt σ H a) (h2 : a = false → Ans tv σ H b) : Ans (tOr tt tv) σ H (a || b) := fun _ q => h _ (by
  cases a with
  | true => exact iteT q
  | false => exact iteF (h2 rfl _ q))
theorem ans_n {a : Bool} (h : Ans tt σ H a) : Ans (tNot tt) σ H (!a) := fun _ q => h _ q
theorem Val.to (h : Val ta σ H x) (e : x = y) : Val ta σ H y := e ▸ h
theorem Val.go {Q : VK} (h : Val ta σ H x) (q : Q x H) : ta σ H Q := h Q q
end
local macro_rules | `(tactic| walk_at "sql") => `(tactic| first
  | with_reducible assumption
  | exact SqL.of (by assumption)
  | exact SqL.of upd_same)
local macro_rules | `(tactic| walk_at "sqt") => `(tactic| first
  | with_reducible assumption
  | exact SqT.of (by assumption)
  | exact SqT.of upd_same)
local macro_rules | `(tactic| walk_at "at") => `(tactic| first
  | with_reducible assumption
  | exact at_getD (by omega)
  | exact at_ints (by assumption)
  | rfl)
local macro_rules | `(tactic| walk_at "val") => `(tactic| first
  | with_reducible assumption
  | with_reducible exact val_c
  | ((with_reducible apply val_var); rfl)
  | ((with_reducible apply val_I0); (· walk_at "val"); (· walk_at "val"))
  | ((with_reducible apply val_I); (· walk_at "val"); (· walk_at "val"); (· walk_at "side"))
  | ((with_reducible apply val_eq); (· walk_at "val"); (· walk_at "val"); (· rfl))
  | ((with_reducible apply val_ne); (· walk_at "val"); (· walk_at "val"); (· rfl))
  | ((with_reducible apply val_chain); (· walk_at "val"); (· walk_at "val"); (· walk_at "val"))
  | ((with_reducible apply val_andV); (· walk_at "val"); (· intro _; walk_at "val"))
  | ((with_reducible apply val_orV); (· walk_at "val"); (· intro _; walk_at "val"))
  | ((with_reducible apply val_notV); (· walk_at "val"))
  | ((with_reducible apply val_ixL); (· walk_at "val"); (· walk_at "val"); (· walk_at "sql"); (· walk_at "at"))
  | ((with_reducible apply val_ixT); (· walk_at "val"); (· walk_at "val"); (· walk_at "sqt"); (· walk_at "at"))
  | with_reducible exact valA_nil
  | ((with_reducible apply valA_cons); (· walk_at "val"); (· walk_at "val"))
  | ((with_reducible apply val_cb); (· walk_at "val"); (· intro _ q; exact Or.inl ⟨_, rfl, q⟩))
  | ((with_reducible apply val_call); (· walk_at "val"); (· intro _ q; walk_at "sp")))
local macro_rules | `(tactic| walk_at "ans") => `(tactic| first
  | ((with_reducible apply ans_t); (· walk_at "val"))
  | ((with_reducible apply ans_b); (· walk_at "val"))
  | ((with_reducible apply ans_a); (· walk_at "ans"); (· intro _; walk_at "ans"))
  | ((with_reducible apply ans_o); (· walk_at "ans"); (· intro _; walk_at "ans"))
  | ((with_reducible apply ans_n); (· walk_at "ans")))
local macro_rules | `(tactic| walk_at "len") => `(tactic| first
  | (simp only [List.length_cons, List.length_nil, List.length_map, List.length_append]; omega)
  | assumption)
theorem Same.fresh {H H' : Hp} {p : Addr} {o : HO} (e : Same H H') (h : H p = Option.none) : Same H (upd H' p o) := fun a u ha => by
  rw [upd_ne (ne_of_none ha h)]
  exact e a u ha
theorem take_map_succ {xs : List Int} {j : Nat} {x : Int} (h : xs[j]? = Option.some x) : ((xs.take j).map V.int) ++ [.int x] = (xs.take (j + 1)).map V.int := by
  rw [List.take_add_one, h, List.map_append]
  rfl
theorem lenL {n : Nat} (h : n ≤ 100000) : n ≤ sizeLine := Nat.le_trans h (by decide)
theorem dec_int (i j : Int) : decide (V.int i = V.int j) = decide (i = j) := decide_eq_decide.mpr ⟨V.int.inj, congrArg V.int⟩
local macro_rules | `(tactic| walk_at "nf") => `(tactic| ((try refine g_name ?_); dsimp only [List.set_cons_zero, List.set_cons_succ]))
theorem lk0 {a : Str} {v : V} {r : List (Str × V)} : ((a, v) :: r).lookup a = Option.some v := by rw [List.lookup_cons_self]
theorem lk1 {a b : Str} {v : V} {r : List (Str × V)} (h : (a == b) = false) : ((b, v) :: r).lookup a = r.lookup a := by rw [List.lookup_cons, h]
theorem pf0 {a : Str} {v u : V} {r : List (Str × V)} : putF a v ((a, u) :: r) = (a, v) :: r := by
  unfold putF
  rw [if_pos rfl]
theorem pf1 {a b : Str} {v u : V} {r : List (Str × V)} (h : ¬ b = a) : putF a v ((b, u) :: r) = (b, u) :: putF a v r := by
  rw [putF, if_neg h]
theorem pfN {a : Str} {v : V} : putF a v [] = [(a, v)] := rfl
local macro_rules | `(tactic| walk_at "lk") => `(tactic| (repeat (rw [lk1 (by decide +kernel)])); first | exact lk0 | rfl)
local macro_rules | `(tactic| walk_at "pf") => `(tactic| repeat (first | rw [pfN] | rw [pf0] | rw [pf1 (by decide +kernel)]))
/-! ### sorted(xs, key=f), min(xs, key=f, default=None), f a lambda of the def: rules (see NOTES) -/
namespace KJ
open PySem PySem.W PySem.Calls PyProof.Rows
/-- two objects may have changed, all else stands -/
def KeepsTwo (a k : Addr) (h h' : Heap) : Prop := ∀ b o, b ≠ a → b ≠ k → h.get? b = some o → h'.get? b = some o
theorem ints_reads {h : Heap} : ∀ {vs : List Value} {ks : List Int}, IntsAre vs ks → EachIs (fun v d => ∃ as, Reads h v d as) vs (ks.map PyData.int)
  | _, _, .nil => .nil
  | _, _, .cons n t r => .cons ⟨[], .int n t⟩ (ints_reads r)
theorem ints_alike (ks : List Int) : AllAlike (ks.map PyData.int) := AllAlike.of fun _ _ => by simp [alike]
theorem ints_sortable (ks : List Int) : Sortable (ks.map PyData.int) := Sortable.others fun _ => ⟨by simp, by simp⟩
theorem ints_take {vs : List Value} {ks : List Int} (h : IntsAre vs ks) : vs.length = ks.length := by
  induction h with
  | nil => rfl
  | cons n t r ih => simp [ih]
section
variable {prog : Program} {w : World} {A : Around} {E : Value → Shared → Prop} {s : Shared} {a kS : Addr} {b : Bool} {vs : List Value} {e1 : Nat} {P : PySem.Fin → Shared → Prop} {kz : List Int} {J : Shared → Prop} {f : Value}
theorem keyJ_rest (hJ : J s) (nk : s.heap.get? kS = some (seqObj "list" #[] 0)) (na : s.heap.get? a = some (seqObj "list" #[] e1)) (hka : kS ≠ a)
    (hlen : kz.length = vs.length) (hZ : vs.length ≤ sizeLine) (hu : A.units < cLine)
    (mt : ∀ s' h' tk, J s' → KeepsTwo a kS s'.heap h' → J { s' with heap := h', toks := tk })
    (turn : ∀ (i : Nat) (v : Value) (k : Int), vs[i]? = some v → kz[i]? = some k → ∀ (s' : Shared) (kA : Array Value) (e : Nat), J s' → s'.heap.get? kS = some (seqObj "list" kA e) → s'.heap.get? a = some (seqObj "list" #[] e1) →
      wpAny (model prog w) A (call f [v]) (fun u s'' => (∃ t, u = .int k t) ∧ J s'' ∧ s''.heap.get? kS = some (seqObj "list" kA e) ∧ s''.heap.get? a = some (seqObj "list" #[] e1)) (fun _ _ => False) s')
    (h : ∀ s' out c, J s' → s'.heap.get? a = some (seqObj "list" (List.toArray out) c) → KeyedOut b (kz.map PyData.int) vs out → P (.done (.ret .none)) s') :
    wpAny (model prog w) A (ksk_rest a f b vs.toArray e1 (.ref kS)) P E s := by
  unfold ksk_rest
  refine wpAny_bind (wpAny_rule ?_)
  first
    | rw [List.forIn_toArray]
    | (rw [← Array.forIn_toList]; simp only [List.toList_toArray])
    | rw [← Array.forIn_toList]
  refine wpAny_bind (ksk_fold (fun i s' => ∃ kA e, J s' ∧ s'.heap.get? kS = some (seqObj "list" kA e) ∧ s'.heap.get? a = some (seqObj "list" #[] e1) ∧ IntsAre kA.toList (kz.take i)) vs 0 s
    ⟨#[], 0, hJ, nk, na, by rw [List.take_zero]; exact .nil⟩ ?step ?done)
  case step =>
    rintro j x s' hx ⟨kA, e, J', nk', na', hk⟩
    simp only [Nat.zero_add] at hk ⊢
    have hj : j < vs.length := (List.getElem?_eq_some_iff.mp hx).1
    obtain ⟨k, hkj⟩ : ∃ k, kz[j]? = some k := ⟨_, List.getElem?_eq_getElem (by omega)⟩
    have hz : kA.size ≤ vs.length := by
      have h1 := ints_take hk
      rw [Array.length_toList, List.length_take] at h1
      omega
    refine wpAny_bind (wpAny_attempt (wpAny_mono (turn j x k hx hkj s' kA e J' nk' na') (fun v s'' he => ?_) fun _ _ hF => hF.elim))
    obtain ⟨⟨t, rfl⟩, J2, nk2, na2⟩ := he
    try dsimp only
    have s1 := Heap.SameBut.update s''.heap kS (Obj.mapSeq (·.push (Value.int k t)))
    obtain ⟨c2, hc2⟩ : ∃ c2, (s''.heap.update kS (Obj.mapSeq (·.push (Value.int k t)))).get? kS = some (seqObj "list" (kA.push (Value.int k t)) c2) := ⟨_, get?_update_seq nk2 (·.push (Value.int k t))⟩
    have ek : kz.take (j + 1) = kz.take j ++ [k] := by rw [List.take_add_one, hkj]; simp
    have ea : (kA.push (Value.int k t)).toList = kA.toList ++ [Value.int k t] := by simp
    refine wpAny_bind (listUpdate_at nk2 rfl ?_ (Nat.le_trans hz hZ) (Nat.le_trans (Nat.le_of_eq (Array.size_push ..)) (Nat.succ_le_succ (Nat.le_trans hz hZ))))
    refine wpAny_pure ⟨rfl, kA.push (Value.int k t), c2, mt s'' _ _ J2 (fun b o _ hb q => (s1.2 b hb).trans q), hc2, (s1.2 a hka.symm).trans na2, ?_⟩
    rw [ea, ek]
    exact ksk_snoc hk
  case done =>
    rintro s' ⟨kA, e, J', nk', na', hk⟩
    have hk' : IntsAre kA.toList kz := by
      have e3 : kz.take (0 + vs.length) = kz := List.take_of_length_le (by omega)
      rw [e3] at hk
      exact hk
    have hsz : kA.size = vs.length := by
      have h1 := ints_take hk'
      rw [Array.length_toList] at h1
      omega
    have hr : EachIs (fun v k => ∃ as, Reads s'.heap v k as) kA.toList (kz.map PyData.int) := ints_reads hk'
    try dsimp only
    refine wpAny_bind (listItems_at nk' rfl ?_)
    have kp : KeepsBut a (s'.heap.hide kS) s'.heap := fun b o _ q => Heap.of_hide q
    refine keyH_end (κ := dataKind s'.heap (kz.map PyData.int)) (h₁ := s'.heap.hide kS) kp (Heap.hide_self _ _) nk' na' hka (SortsAt.data (s := s') hr (ints_alike _) (ints_sortable _) fun d hd => ?_) hsz hZ fun h3 tk3 c k3 n3 => ?_
    · obtain ⟨k, _, rfl⟩ := List.mem_map.mp hd
      exact hu
    · refine h _ _ c (mt s' h3 tk3 J' fun b o h1 h2 q => k3 b o h1 ?_) n3 ⟨s'.heap, kA.toList, ints_alike _, rfl, hr⟩
      rw [Heap.hide_ne _ h2]
      exact q
/-- xs.sort(key=f) on the list at a: kS and the tuple that holds the items are new -/
theorem keyJ_tree {n : Nat} (ho : s.heap.get? a = some (seqObj "list" vs.toArray n)) (hlen : kz.length = vs.length) (hZ : vs.length ≤ sizeLine) (hu : A.units < cLine)
    (hJ : ∀ h' tk, (∀ b o, b ≠ a → s.heap.get? b = some o → h'.get? b = some o) → J { s with heap := h', toks := tk })
    (mt : ∀ s' h' tk, J s' → KeepsTwo a (s.heap.objs.size + 1) s'.heap h' → J { s' with heap := h', toks := tk })
    (turn : ∀ (i : Nat) (v : Value) (k : Int), vs[i]? = some v → kz[i]? = some k → ∀ (s' : Shared) (kA : Array Value) (e e1 : Nat), J s' → s'.heap.get? (s.heap.objs.size + 1) = some (seqObj "list" kA e) → s'.heap.get? a = some (seqObj "list" #[] e1) →
      wpAny (model prog w) A (call f [v]) (fun u s'' => (∃ t, u = .int k t) ∧ J s'' ∧ s''.heap.get? (s.heap.objs.size + 1) = some (seqObj "list" kA e) ∧ s''.heap.get? a = some (seqObj "list" #[] e1)) (fun _ _ => False) s')
    (h : ∀ s' out c, J s' → s'.heap.get? a = some (seqObj "list" (List.toArray out) c) → KeyedOut b (kz.map PyData.int) vs out → P (.done (.ret .none)) s') :
    wpAny (model prog w) A (ksk_tree a f b) P E s := by
  have ha : a < s.heap.objs.size := Heap.lt_size ho
  obtain ⟨e1, ho1⟩ : ∃ e1, (s.heap.update a (Obj.mapSeq fun _ => (#[] : Array Value))).get? a = some (seqObj "list" #[] e1) := ⟨_, get?_update_seq ho fun _ => #[]⟩
  have hkS : ((s.heap.update a (Obj.mapSeq fun _ => (#[] : Array Value))).push (seqObj "tuple" vs.toArray 0)).objs.size = s.heap.objs.size + 1 := by rw [size_push', Heap.size_update]
  unfold ksk_tree
  refine wpAny_bind (listItems_at ho rfl ?_)
  refine wpAny_bind (listUpdate_at ho rfl ?_ (by rw [List.size_toArray]; exact hZ) (Nat.zero_le _))
  refine wpAny_bind (seqEpoch_at ho1 rfl ?_)
  refine wpAny_bind (wpAny_newTuple ?_ (by show vs.length ≤ _; exact hZ))
  refine wpAny_bind (wpAny_newList ?_ (Nat.zero_le _))
  refine wpAny_holding ?_
  have kp : KeepsBut a s.heap (sortingHeap s.heap a vs) := fun b o hb q => sortingHeap_old hb q
  rw [hkS]
  refine keyJ_rest (J := J) (s := { s with heap := ((s.heap.update a (Obj.mapSeq fun _ => (#[] : Array Value))).push (seqObj "tuple" vs.toArray 0)).push (seqObj "list" #[] 0) }) (kS := s.heap.objs.size + 1)
    (hJ _ s.toks kp) (by rw [← hkS]; exact Heap.get?_push_size _ rfl) (Heap.get?_push_of_some _ (Heap.get?_push_of_some _ ho1)) (Nat.ne_of_gt (Nat.lt_succ_of_lt ha)) hlen hZ hu mt (fun i v k h1 h2 s' kA e j1 j2 j3 => turn i v k h1 h2 s' kA e e1 j1 j2 j3) h
end
section
variable {prog : Program} {w : World} {A : Around} {E : Value → Shared → Prop} {s : Shared} {vs : List Value} {kz : List Int} {J : Shared → Prop}
/-- sorted(xs, key=f), keys whole numbers: J is what the key's calls keep, whatever stands at the two new lists -/
theorem sortedJ {l f : Addr} {Q : Value → Shared → Prop} (hl : s.heap.IsList l vs.toArray) (hlen : kz.length = vs.length) (hZ : vs.length ≤ sizeLine) (hu : A.units + 2 < cLine)
    (hJ : ∀ h' tk, (∀ b o, s.heap.get? b = some o → h'.get? b = some o) → J { s with heap := h', toks := tk })
    (mt : ∀ s' h' tk, J s' → KeepsTwo (s.heap.objs.size + 1) (s.heap.objs.size + 3) s'.heap h' → J { s' with heap := h', toks := tk })
    (turn : ∀ (i : Nat) (v : Value) (k : Int), vs[i]? = some v → kz[i]? = some k → ∀ (s' : Shared) (kA : Array Value) (e e1 : Nat), J s' → s'.heap.get? (s.heap.objs.size + 3) = some (seqObj "list" kA e) → s'.heap.get? (s.heap.objs.size + 1) = some (seqObj "list" #[] e1) →
      wpAny (model prog w) A.in1.in1 (call (.ref f) [v]) (fun u s'' => (∃ t, u = .int k t) ∧ J s'' ∧ s''.heap.get? (s.heap.objs.size + 3) = some (seqObj "list" kA e) ∧ s''.heap.get? (s.heap.objs.size + 1) = some (seqObj "list" #[] e1)) (fun _ _ => False) s')
    (h : ∀ s' out c, J s' → s'.heap.get? (s.heap.objs.size + 1) = some (seqObj "list" (List.toArray out) c) → KeyedOut false (kz.map PyData.int) vs out → Q (.ref (s.heap.objs.size + 1)) s') :
    wpAny (model prog w) A (call (.builtin "sorted") [.ref l] [(Str.ofString "key", .ref f)]) Q E s := by
  have hs2 : (copyHeap s.heap vs).objs.size = s.heap.objs.size + 2 := by
    unfold copyHeap
    rw [size_push', Heap.size_update, size_push']
  refine sorted_of_sort hl hZ (ksk_s1 _ _) (fun _ => ksk_l1 _ _) fun E' => ?_
  rw [ksk_t1]
  refine keyJ_tree (J := J) (s := { s with heap := copyHeap s.heap vs }) (copyHeap_at s.heap vs) hlen hZ hu (fun h' tk kp => ?_) (fun s' h' tk j kp => ?_) (fun i v k h1 h2 s' kA e e1 j1 j2 j3 => ?_) fun s' out c j1 j2 j3 => ⟨rfl, h s' out c j1 j2 j3⟩
  · exact hJ h' tk fun b o q => kp b o (Nat.ne_of_lt (Nat.lt_succ_of_lt (Heap.lt_size q))) (copyHeap_old q)
  · refine mt s' h' tk j ?_
    have kp : KeepsTwo (s.heap.objs.size + 1) ((copyHeap s.heap vs).objs.size + 1) s'.heap h' := kp
    rw [hs2] at kp
    exact kp
  · have j2 : s'.heap.get? ((copyHeap s.heap vs).objs.size + 1) = some (seqObj "list" kA e) := j2
    rw [hs2] at j2
    show wpAny (model prog w) A.in1.in1 (call (.ref f) [v]) (fun u s'' => (∃ t, u = .int k t) ∧ J s'' ∧ s''.heap.get? ((copyHeap s.heap vs).objs.size + 1) = some (seqObj "list" kA e) ∧ s''.heap.get? (s.heap.objs.size + 1) = some (seqObj "list" #[] e1)) (fun _ _ => False) s'
    rw [hs2]
    exact turn i v k h1 h2 s' kA e e1 j1 j2 j3
end
end KJ
section
open NdefX LamX
variable {X : Cx} {pins : List (Addr × Obj)} {σ : L2.St} {H : Hp} {s : Shared}
/-- an untracked object of ours: what is asked of one that may be written or tracked later -/
structure Own (X : Cx) (pins : List (Addr × Obj)) (H : Hp) (a : Addr) : Prop where
  no : H a = Option.none
  s0 : X.s_0.heap.objs.size ≤ a
  ne : a ≠ X.env.locals
  fs : a ∉ X.fs
  cell : ∀ x c, X.env.cells.lookup x = some c → c ≠ a
  pin : ∀ p ∈ X.pn ++ pins, p.1 ≠ a
theorem own_fresh {a : Addr} (I : Inv X pins σ H s) (h : s.heap.objs.size ≤ a) : Own X pins H a :=
  ⟨I.hok.fresh h, Nat.le_trans I.sz h, fun e => Nat.lt_irrefl _ (Nat.lt_of_lt_of_le (e ▸ I.lt) h), I.nofs h, fun x c e z => by
    obtain ⟨v, o, ho, _⟩ := I.cell x c e
    exact Nat.lt_irrefl _ (Nat.lt_of_lt_of_le (z ▸ Heap.lt_size ho) h), fun p hp z => Nat.lt_irrefl _ (Nat.lt_of_lt_of_le (z ▸ Heap.lt_size (I.pin p hp).1) h)⟩
/-- two objects of ours have changed -/
theorem inv_two {a c : Addr} {h' : Heap} {t' : Nat} (I : Inv X pins σ H s) (oa : Own X pins H a) (oc : Own X pins H c) (k : KJ.KeepsTwo a c s.heap h') : Inv X pins σ H { s with heap := h', toks := t' } := by
  have nH : ∀ {b}, Own X pins H b → ∀ d u, H d = some u → d ≠ b := fun ob d u e z => by rw [z, ob.no] at e; cases e
  have nc : ∀ b, b ∉ [a, c] → b ≠ a ∧ b ≠ c := fun b hb => ⟨fun z => hb (by simp [z]), fun z => hb (by simp [z])⟩
  refine I.step (g' := s.gens) (d' := s.drawn) (ch := [a, c]) (fun b hb => ?_) (fun b o _ _ hc e _ => k b o (nc b hc).1 (nc b hc).2 e) (fun b o _ _ hc e _ => ⟨o.slots, k b o (nc b hc).1 (nc b hc).2 e⟩) (fun _ _ _ _ n => n)
    (fun b o hc e => ⟨o, k b o (nc b hc).1 (nc b hc).2 e⟩) (fun _ _ e => e) (fun _ _ _ e => e) (fun b ps e => ⟨#[], by rw [e]; simp⟩) (fun m hm => ?_) (fun b u e => ?_) I.bare
  · rcases List.mem_cons.mp hb with e | e
    · subst e
      exact ⟨.inr oa.s0, oa.ne, oa.cell, oa.pin⟩
    · have e : b = c := by simpa using e
      subst e
      exact ⟨.inr oc.s0, oc.ne, oc.cell, oc.pin⟩
  · obtain ⟨o, es, ep, ho, r⟩ := hm
    exact ⟨o, es, ep, k _ o (Ne.symm oa.ne) (Ne.symm oc.ne) ho, r⟩
  · refine (I.hok b u e).stay (fun d v hd q => k d v ?_ ?_ q) (fun _ q => q) fun _ _ q => q
    · rcases hd with z | z
      · rw [z]; exact nH oa b u e
      · exact nH oa d _ z
    · rcases hd with z | z
      · rw [z]; exact nH oc b u e
      · exact nH oc d _ z
/-- an object of ours is tracked from now on -/
theorem inv_adopt {a : Addr} {o : HO} (I : Inv X pins σ H s) (oa : Own X pins H a) (new : ObjOk X.prog X.w (upd H a o) s.heap a o) : Inv X pins σ (upd H a o) s := by
  have nH : ∀ d u, H d = some u → d ≠ a := fun d u e z => by rw [z, oa.no] at e; cases e
  have up : ∀ d u, H d = some u → upd H a o d = some u := fun d u e => (upd_ne (nH d u e)).trans e
  have I2 := I.step (h' := s.heap) (H' := upd H a o) (g' := s.gens) (t' := s.toks) (d' := s.drawn) (ch := [a]) (fun b hb => by
      have e : b = a := by simpa using hb
      subst e
      exact ⟨.inr oa.s0, oa.ne, oa.cell, oa.pin⟩) (fun b o _ _ hc e _ => e) (fun b o _ _ hc e _ => ⟨o.slots, e⟩) (fun b _ hc _ n => (upd_ne (fun z => hc (by simp [z]))).trans n)
    (fun b o hc e => ⟨o, e⟩) (fun b xs e => up b _ e) (fun b o xs e => up b _ e) (fun b ps e => ⟨#[], by rw [up b _ e]; simp⟩) (fun m hm => hm) (fun b u e => ?_) I.bare
  · exact I2
  · by_cases hb : b = a
    · subst hb
      rw [upd_same] at e
      cases e
      exact new
    · rw [upd_ne hb] at e
      exact (I.hok b u e).stay (fun d v hd q => q) (fun d q => up d _ q) fun d xs q => up d _ q
/-- a pin more -/
theorem inv_pin {b : Addr} {o : Obj} (I : Inv X pins σ H s) (e : s.heap.get? b = some o) (n : H b = Option.none) (hl : b ≠ X.env.locals) (hf : b ∉ X.fs) (hc : ∀ v, o.data ≠ .cell v) : Inv X (pins ++ [(b, o)]) σ H s :=
  I.pins_of fun p hp => by
    rcases List.mem_append.mp hp with z | z
    · exact I.pin p (List.mem_append_right _ z)
    · have e2 : p = (b, o) := by simpa using z
      subst e2
      exact ⟨e, n, hl, hf, hc⟩
/-- a lambda's call -/
theorem lam_run {P : Program} {w : World} {K : PySem.W.Frag} {mg : Str → Option Value} {base : Heap} {k : Nat} {N ps fr : List Str} {F : NF} {f : Addr} {bd : Expr} {A : Around} {outer : List Env} {H : Hp} {us : List Value} {vs : List V} {ws : List (Option V)} {Q : VK} {E : XK} {pm ctv : Value} {t : TE}
    (S : NScope N ps fr F.scope) (ho : s.heap.get? f = some (PySem.W.kla_obj "<lambda>" F.qual F.params bd F.scope F.cl pm F.c ctv)) (hc : H F.c = some (CodeO F.c F.qual))
    (hb : bindArgs (PySem.W.kla_fn "<lambda>" F.qual F.params bd F.scope F.cl pm (.ref F.c) ctv) ⟨us, []⟩ = pure (ps.zip us))
    (hr : Room (k + 1) A) (e0 : Env0 P w K mg base A outer s H) (C : CellsAt F.cl fr ws s.heap H) (r : Vals vs us) (hl : vs.length = ps.length)
    (hbody : Room k (A.deeper (envF F f s.heap.objs.size)) → PE (ncx CX0 P w K mg base N F f A outer s H E) bd t) (h : t (startF N vs ws) H Q) :
    codeAny (model P w) A (.call (.ref f) ⟨us, []⟩) (CR CX0 outer P w H s Q E) s := by
  have lim : s.heap.NoLimit := e0.mod.nolimit.keeps fun b o e => (e0.bs b o e).1
  refine PySem.W.kla_callFunE hr.depth ho rfl S.co S.gen rfl (codeO_at e0.hok hc) ?_
  rw [hb]
  refine wpAny_pure (wpAny_newFunctionEnv S.nocell (fun ⟨n, _⟩ hy => S.par n (List.of_mem_zip hy).1) (fun h₁ hns hsb => ⟨lim.fresh _ hsb, ?_⟩) S.kind)
  show codeAny _ _ (.expr bd (envF F f s.heap.objs.size)) _ _
  have kp : ∀ b o, s.heap.get? b = some o → h₁.get? b = some o := fun b o e => hsb.extBut b o (Nat.ne_of_lt (Heap.lt_size e)) (Heap.get?_push_of_some _ e)
  have I : Inv (ncx CX0 P w K mg base N F f A outer s H E) [] (startF N vs ws) H { s with heap := h₁, toks := s.toks + (ps.zip us).length } := inv_startN S hr.hd e0 hl r C hns kp
  refine PySem.W.kla_codeExpr (wpAny_mono ((hbody (hr.deeper _)).run [] _ _ H Q I h) (fun v s' hq => ?_) fun e s' hq => hq)
  obtain ⟨w', H', J', rv, q⟩ := hq
  exact ⟨w', H', J'.os, J'.bare, J'.base, J'.hok, rv, q⟩
/-- the object at f is the lambda F with the body bd, known from now on -/
def LamO (f : Addr) (F : NF) (bd : Expr) : HO := .ext fun h => ∃ (pm ctv : Value), h.get? f = some (PySem.W.kla_obj "<lambda>" F.qual F.params bd F.scope F.cl pm F.c ctv)
theorem lamO_at {P : Program} {w : World} {H : Hp} {h : Heap} {f : Addr} {F : NF} {bd : Expr} (hok : HOk P w H h) (e : H f = some (LamO f F bd)) : ∃ (pm ctv : Value), h.get? f = some (PySem.W.kla_obj "<lambda>" F.qual F.params bd F.scope F.cl pm F.c ctv) := by
  obtain ⟨z, _, _⟩ := hok f _ e
  exact z
theorem lamO_ne {f : Addr} {F : NF} {bd : Expr} (ps : Array Value) : LamO f F bd ≠ .tbl ps := fun z => by
  unfold LamO at z
  cases z
/-- the words of a lambda in the def of X, its code object at c -/
abbrev lamF (X : Cx) (params : Arguments) (scope : Scope) (c : Addr) : NF := ⟨"<lambda>", X.env.qual ++ "<lambda>", params, [], scope, cloFrom X.env.cells scope.names [], c⟩
theorem lam_known {F : NF} {bd : Expr} {o : Obj} {t' : Nat} {pm ctv : Value} (I : Inv X pins σ H s) (ho : o = PySem.W.kla_obj "<lambda>" F.qual F.params bd F.scope F.cl pm F.c ctv) :
    Inv X pins σ (upd H s.heap.objs.size (LamO s.heap.objs.size F bd)) { s with heap := s.heap.push o, toks := t' } := by
  subst ho
  refine I.laid (a := s.heap.objs.size) (fun b u e => Heap.get?_push_of_some _ e) (Nat.le_refl _) ?_
  have e : (s.heap.push (PySem.W.kla_obj "<lambda>" F.qual F.params bd F.scope F.cl pm F.c ctv)).get? s.heap.objs.size = some (PySem.W.kla_obj "<lambda>" F.qual F.params bd F.scope F.cl pm F.c ctv) := Heap.get?_push_size _ rfl
  exact ⟨⟨pm, ctv, e⟩, ⟨_, e⟩, fun h1 h2 ⟨p, t, z⟩ st => ⟨p, t, st _ z⟩⟩
/-- a lambda is made: its code object is new, or found in the table -/
theorem lam_makeO {T : List (Addr × Str)} {c P : Addr} {params : Arguments} {bd : Expr} {scope : Scope} {pos : Pos} {E : Value → Shared → Prop} {Q : Value → Shared → Prop} (I : Inv X pins σ H s) (TB : TabB X.base X.mg c P) (hcode : X.env.code = .ref c)
    (hm : (P, X.env.qual ++ "<lambda>") ∈ T) (hu : ∀ p ∈ T, p.1 = P → p.2 = X.env.qual ++ "<lambda>") (hT : Tabs T H) (hdef : defaultsOf params X.env = ([], [])) (hfree : ∀ y ∈ scope.names, y.2 = .free → ∃ c, X.env.cells.lookup y.1 = some c)
    (h : ∀ (f c' : Addr) (H1 : Hp) (s' : Shared), Inv X pins σ H1 s' → ExtN H H1 → Tabs T H1 → H1 f = some (LamO f (lamF X params scope c') bd) → H1 c' = some (CodeO c' (X.env.qual ++ "<lambda>")) → Q (.ref f) s') :
    wpAny (model X.prog X.w) X.A (eval (.Lambda params bd scope pos) X.env) Q E s := by
  obtain ⟨ps, hP, ht, ha⟩ := hT _ hm
  refine PySem.W.kla_eval hdef ?_
  have bP : s.heap.BuiltinsAt X.mg P := TB.bm.keeps I.bk
  have hP' : s.heap.get? P = some { cls := .none, data := .fields ps } := I.hok P _ hP
  -- behind the code object: the function's own object
  have fin : ∀ {h' : Heap} {tk tk2 : Nat} {c' : Addr} {ctv : Value} {H1 : Hp}, Inv X pins σ H1 { s with heap := h', toks := tk } → ExtN H H1 → Tabs T H1 → H1 c' = some (CodeO c' (X.env.qual ++ "<lambda>")) →
      Q (.ref h'.objs.size) { s with heap := h'.push (PySem.W.kla_obj "<lambda>" (X.env.qual ++ "<lambda>") params bd scope (cloFrom X.env.cells scope.names []) ((X.mg "__name__").getD .none) c' ctv), toks := tk2 } := by
    intro h' tk tk2 c' ctv H1 I1 eN T1 hco
    have nF : H1 h'.objs.size = none := I1.hok.fresh (Nat.le_refl _)
    refine h h'.objs.size c' _ _ (lam_known (F := lamF X params scope c') (bd := bd) (t' := tk2) I1 rfl) (fun b o e n => ?_) (Tabs.ext T1 fun b o e => ?_) upd_same ?_
    · exact (upd_ne (ne_of_none (eN b o e n) nF)).trans (eN b o e n)
    · exact (upd_ne (ne_of_none e nF)).trans e
    · exact (upd_ne (ne_of_none hco nF)).trans hco
  cases hc : codeAmong pos ps.toList with
  | none =>
    refine PySem.W.kla_makeFunction (mg := X.mg) (c := c) (P := P) (ps := ps) (closure_ok hfree) I.ok.glob (I.mod.glob.keeps I.bk) hcode (TB.code.keeps I.bk) hP' ht hc TB.gP bP fun c' ctv h' tk hx hge hlt hrec htb => ?_
    obtain ⟨c2, oc, vs, t, e2, hoc, hd, hv⟩ := hrec
    cases e2
    have nC : H c' = none := I.hok.fresh hge
    have I1 := inv_table (t' := tk) (more := #[rawInt pos.line, rawInt pos.col, .ref c']) (h' := h') I hP (fun b o hb e => hx b o hb e) htb hge ⟨oc, vs, t, hoc, hd, hv⟩
    have hE : ExtN H (upd (upd H P (.tbl (ps ++ #[rawInt pos.line, rawInt pos.col, .ref c']))) c' (CodeO c' (X.env.qual ++ "<lambda>"))) := fun b o e n => by
      rw [upd_ne (ne_of_none e nC), upd_ne (fun z => n ps (Option.some.inj (e.symm.trans (by rw [z]; exact hP))))]
      exact e
    have eL : (ps ++ #[rawInt pos.line, rawInt pos.col, .ref c']).toList = ps.toList ++ [rawInt pos.line, rawInt pos.col, .ref c'] := by simp
    refine fin I1 hE (fun p hp => ?_) upd_same
    by_cases hb : p.1 = P
    · rw [hu p hp hb, hb]
      refine ⟨_, by rw [upd_ne (ne_of_none hP nC), upd_same], by rw [eL]; exact PySem.TriplesOk_snoc _ _ _ _ ht, fun p' cv hcv => ?_⟩
      rw [eL] at hcv
      rcases among_app _ ht hcv with z | z
      · obtain ⟨c0, e1, e2⟩ := ha p' cv z
        exact ⟨c0, e1, hE _ _ e2 codeO_ne⟩
      · exact ⟨c', z, upd_same⟩
    · obtain ⟨ps', a1, a2, a3⟩ := hT p hp
      refine ⟨ps', by rw [upd_ne (ne_of_none a1 nC), upd_ne hb]; exact a1, a2, fun p' cv hcv => ?_⟩
      obtain ⟨c0, e1, e2⟩ := a3 p' cv hcv
      exact ⟨c0, e1, hE _ _ e2 codeO_ne⟩
  | some cv =>
    obtain ⟨c', e, hco⟩ := ha pos cv hc
    subst e
    refine PySem.W.kla_makeFunctionHit (mg := X.mg) (c := c) (P := P) (ps := ps) (closure_ok hfree) I.ok.glob (I.mod.glob.keeps I.bk) hcode (TB.code.keeps I.bk) hP' ht hc bP fun ctv h' tk hx hsz => ?_
    exact fin (tk := tk) (I.kept hx) (ExtN.refl H) hT hco
/-- the reading of a lambda: a new function object, known; tables may have grown -/
def tLamO (X : Cx) (T : List (Addr × Str)) (params : Arguments) (bd : Expr) (scope : Scope) : TE := fun _ H Q => Tabs T H ∧ ∀ (f c' : Addr) (H1 : Hp), ExtN H H1 → Tabs T H1 → H1 f = some (LamO f (lamF X params scope c') bd) → H1 c' = some (CodeO c' (X.env.qual ++ "<lambda>")) → Q (.ref f) H1
theorem pe_lamO {T : List (Addr × Str)} {c P : Addr} {params : Arguments} {bd : Expr} {scope : Scope} {pos : Pos} (TB : TabB X.base X.mg c P) (hcode : X.env.code = .ref c)
    (hm : (P, X.env.qual ++ "<lambda>") ∈ T) (hu : ∀ p ∈ T, p.1 = P → p.2 = X.env.qual ++ "<lambda>") (hdef : defaultsOf params X.env = ([], []))
    (hfree : ∀ y ∈ scope.names, y.2 = .free → X.env.scope.names.lookup y.1 = some .cell ∨ X.env.scope.names.lookup y.1 = some .free) : PE X (.Lambda params bd scope pos) (tLamO X T params bd scope) := by
  refine ⟨fun pins s σ H Q I h => ?_⟩
  obtain ⟨hT, h⟩ := h
  refine lam_makeO I TB hcode hm hu hT hdef (fun y hy e => (hfree y hy e).elim (fun z => I.ok.has _ (.inl z)) fun z => I.ok.has _ (.inr z)) fun f c' H1 s' I1 eN T1 f1 c1 => ?_
  exact ⟨.ref f, H1, I1, rfl, h f c' H1 eN T1 f1 c1⟩
/-- the promise of a lambda made by X's def: its key for what it is given -/
structure LamOk (X : Cx) (k : Nat) (N ps fr : List Str) (F : NF) (bd : Expr) (t : TE) : Prop where
  sc : NScope N ps fr F.scope
  bind : ∀ (pm ctv : Value) (us : List Value), us.length = ps.length → bindArgs (PySem.W.kla_fn "<lambda>" F.qual F.params bd F.scope F.cl pm (.ref F.c) ctv) ⟨us, []⟩ = pure (ps.zip us)
  body : ∀ (f : Addr) (A : Around) (outer : List Env) (s : Shared) (H : Hp) (E : XK), Room k (A.deeper (envF F f s.heap.objs.size)) → PE (ncx CX0 X.prog X.w X.K X.mg X.base N F f A outer s H E) bd t
/-- f(x) inside built-ins: whatever the pins are, they stay -/
theorem lam_call {k : Nat} {N ps fr : List Str} {F : NF} {bd : Expr} {t : TE} {f : Addr} {us : List Value} {vs : List V} {js : List Nat} {Q : VK} {A : Around} (O : LamOk X k N ps fr F bd t) (hr : Room (k + 1) A) (ha : Env0 X.prog X.w X.K X.mg X.base A X.stack s H)
    (I : Inv X pins σ H s) (L : H f = some (LamO f F bd)) (hc : H F.c = some (CodeO F.c F.qual)) (cp : Caps X F.cl fr js) (r : Vals vs us) (hl : vs.length = ps.length) (h : t (startF N vs (js.map (slotAt σ))) H Q) :
    wpAny (model X.prog X.w) A (call (.ref f) us) (fun u s' => EP X pins σ Q u s' ∧ ∀ b o, s.heap.get? b = some o → H b = Option.none → b ≠ X.env.locals → b ∉ X.fs → s'.heap.get? b = some o) (fun _ _ => False) s := by
  obtain ⟨pm, ctv, ho⟩ := lamO_at I.hok L
  refine wpAny_call (codeAny_mono (lam_run (E := fun _ _ _ => False) O.sc ho hc (O.bind _ _ us (by rw [← r.length]; exact hl)) hr ha (cells_of I cp) r hl (fun hr' => O.body f A X.stack s H _ hr') h) fun r s' hq => ?_)
  cases r with
  | error e => exact (show False from hq)
  | ok fl =>
    cases fl with
    | ret u => exact ⟨I.after hq, fun b o e n h1 h2 => by
        obtain ⟨v, H', _, _, un, _⟩ := hq
        exact un.keep b o e n (fun z => (List.mem_cons.mp (I.stkSub b z)).elim h1 h2) (by simp)⟩
    | next => exact False.elim hq
    | brk => exact False.elim hq
    | cont => exact False.elim hq
/-! ### a built-in function called with keywords; what it does may look at the names -/
def CallRS (X : Cx) (f : Value) (ks : List Str) (r : L2.St → List V → List V → Hp → VK → Prop) : Prop :=
  ∀ (pins : List (Addr × Obj)) (s : Shared) (σ : L2.St) (H : Hp) (xs zs : List V) (us ws : List Value) (Q : VK), Inv X pins σ H s → Vals xs us → Vals zs ws → r σ xs zs H Q → wpAny (model X.prog X.w) X.A (call f us (ks.zip ws)) (EP X pins σ Q) X.xe s
def tCKs (r : L2.St → List V → List V → Hp → VK → Prop) (t tk : TA) : TE := fun σ H Q => t σ H fun vs H1 => tk σ H1 fun zs H2 => r σ vs zs H2 Q
theorem pe_callBKS {x : Str} {p pos : Pos} {e : Expr} {es : List Expr} {kws : List Keyword} {t tk : TA} {id : String} {ks : List Str} {r : L2.St → List V → List V → Hp → VK → Prop} (hc : CallRS X (.builtin id) ks r) (hg : Gl X x) (hm : X.mg x = none) (hv : bootBuiltins x = some (.builtin id)) (ha : PA X (e :: es) t) (hk : PK X kws tk) (hn : x ≠ "__name__" := by decide) (hdb : (x == ("__debug__" : Str)) = false := by decide)
    (he : backTo pos (starEach (e :: es) X.env) = (false, eval e X.env) :: backTo pos (starEach es X.env) := by rfl) (hpl : (backTo pos (starEach (e :: es) X.env)).any (·.1) = false := by rfl)
    (hall : (backToKw pos (keywordEach kws X.env)).all (·.1.isSome) = true := by rfl) (hnone : (backToKw pos (keywordEach kws X.env)).any (·.1.isNone) = false := by rfl) (hks : (backToKw pos (keywordEach kws X.env)).filterMap (·.1) = ks := by rfl) :
    PE X (.Call (.Name x p) (e :: es) kws pos) (tCKs r t tk) := by
  refine ⟨fun pins s σ H Q I h => ?_⟩
  refine wpAny_Call_Name_kw (ld_blt I hg hm hv ?_ hn hdb)
  refine PyProof.Rows.callWith_kw (thn (ha.run pos pins s σ H _ I h) fun us s1 ⟨vs, H1, I1, r1, q1⟩ => thn (hk.run pos pins s1 σ H1 _ I1 q1) fun ws s2 ⟨zs, H2, I2, r2, q2⟩ => ?_) he hpl hall hnone
  rw [hks]
  exact hc pins s2 σ H2 vs zs us ws Q I2 r1 r2 q2
end
section
open NdefX LamX
variable {X : Cx}
theorem vals_get {xs : List V} {vs : List Value} (r : Vals xs vs) {i : Nat} {v : Value} (h : vs[i]? = some v) : ∃ x, xs[i]? = some x ∧ L2.RelV x v := by
  induction r generalizing i with
  | nil => simp at h
  | cons r1 _ ih =>
    cases i with
    | zero => simp at h; subst h; exact ⟨_, rfl, r1⟩
    | succ i => exact ih (by simpa using h)
theorem vals_each {xs : List V} {vs : List Value} {ks : List Int} (r : Vals xs vs) (hl : ks.length = xs.length) : PySem.W.EachIs (fun v (b : V × Int) => L2.RelV b.1 v) vs (xs.zip ks) := by
  induction r generalizing ks with
  | nil => exact .nil
  | cons r1 _ ih =>
    cases ks with
    | nil => simp at hl
    | cons k ks => exact .cons r1 (ih (by simpa using hl))
theorem each_vals {bs : List (V × Int)} {vs : List Value} (r : PySem.W.EachIs (fun v (b : V × Int) => L2.RelV b.1 v) vs bs) : Vals (bs.map (·.1)) vs := by
  induction r with
  | nil => exact .nil
  | cons r1 _ ih => exact .cons r1 ih
theorem zip_snd {xs : List V} {ks : List Int} (hl : ks.length = xs.length) : (xs.zip ks).map (fun b => PyData.int b.2) = ks.map PyData.int := by
  have e : (xs.zip ks).map (fun b => PyData.int b.2) = ((xs.zip ks).map Prod.snd).map PyData.int := by rw [List.map_map]; rfl
  rw [e, List.map_snd_zip (by omega)]
/-- the items by their keys, upwards -/
def byKey (xs : List V) (ks : List Int) : List V := ((xs.zip ks).mergeSort fun a b => decide (a.2 ≤ b.2)).map (·.1)
theorem byKey_len {xs : List V} {ks : List Int} (hl : ks.length = xs.length) : (byKey xs ks).length = xs.length := by
  unfold byKey
  rw [List.length_map, List.length_mergeSort, List.length_zip, hl, Nat.min_self]
def rSortL (K : PySem.W.Frag) (mk : Addr → NF) (bd : Expr) (N : List Str) (js : List Nat) (tb : TE) : L2.St → List V → List V → Hp → VK → Prop := fun σ vs zs H Q => ∃ (a f c' : Addr) (xs : List V) (ks : List Int), vs = [V.ref a] ∧ zs = [V.ref f] ∧ H f = some (LamO f (mk c') bd) ∧ H (mk c').c = some (CodeO (mk c').c (mk c').qual) ∧
  SqL K H a xs ∧ ks.length = xs.length ∧ (∀ (i : Nat) x k, xs[i]? = some x → ks[i]? = some k → tb (startF N [x] (js.map (slotAt σ))) H (fun v H' => v = .int k ∧ H' = H)) ∧ ∀ p : Addr, H p = Option.none → Q (.ref p) (upd H p (.lst (byKey xs ks)))
theorem cr_sortL {mk : Addr → NF} {bd : Expr} {N ps fr : List Str} {js : List Nat} {tb : TE} {k : Nat} (hp : ps.length = 1) (O : ∀ c', LamOk X k N ps fr (mk c') bd tb) (cp : ∀ c', X.Ok → Caps X (mk c').cl fr js) (hr : Room (k + 3) X.A) :
    CallRS X (.builtin "sorted") [Str.ofString "key"] (rSortL X.K mk bd N js tb) := by
  intro pins s σ H vs0 zs us ws Q I r rz h
  obtain ⟨a, f, c', xs, ks, rfl, rfl, hf, hc, ha, hl, hk, q⟩ := h
  obtain rfl := Vals.ref1 r
  obtain rfl := Vals.ref1 rz
  obtain ⟨its, rv, hL, hz⟩ := I.list ha
  have oa : Own X pins H (s.heap.objs.size + 1) := own_fresh I (Nat.le_succ _)
  have oc : Own X pins H (s.heap.objs.size + 3) := own_fresh I (by omega)
  have hu : X.A.units + 2 < cLine := by have := hr.units; omega
  refine KJ.sortedJ (J := fun s' => Inv X pins σ H s') (kz := ks) hL.isList (by rw [hl]; exact rv.length) (by rw [← rv.length]; exact hz) hu (fun h' tk kp => I.kept kp) (fun s' h' tk j kp => inv_two j oa oc kp) (fun i v n hv hki s' kA e e1 j j2 j3 => ?_) fun s' out c j e ko => ?_
  · obtain ⟨x, hx, rx⟩ := vals_get rv hv
    refine wpAny_mono (lam_call (O c') (Room.in1 (Room.in1 hr)) (Env0.in1 (Env0.in1 j.env0)) j hf hc (cp c' I.ok) (.cons rx .nil) (by rw [hp]; rfl) (hk i x n hx hki)) (fun u s'' he => ?_) (fun _ _ z => z)
    obtain ⟨⟨v', H', J', rv', e1', e2'⟩, kp⟩ := he
    subst e1' e2'
    obtain ⟨t, rfl⟩ : ∃ t, u = Value.int n t := rv'
    exact ⟨⟨t, rfl⟩, J', kp _ _ j2 oc.no oc.ne oc.fs, kp _ _ j3 oa.no oa.ne oa.fs⟩
  · rw [← zip_snd hl] at ko
    have eo := PySem.W.keyedOut_each (β := V × Int) (fun b => PyData.int b.2) ko (vals_each rv hl)
    rw [PySem.W.dataLe_int] at eo
    have ev : Vals (byKey xs ks) out := each_vals eo
    exact ⟨.ref (s.heap.objs.size + 1), _, inv_adopt j oa (o := .lst (byKey xs ks)) ⟨by rw [byKey_len hl]; exact hz, out, c, ev, e⟩, rfl, q _ oa.no⟩
/-! ### min(xs, key=f, default=None) -/
/-- the place of the first of the least keys -/
def argMin (ks : List Int) : Nat := argBest (fun i j => decide (ks.getD i 0 < ks.getD j 0)) (ks.length - 1)
def rMinL (K : PySem.W.Frag) (mk : Addr → NF) (bd : Expr) (N : List Str) (js : List Nat) (tb : TE) : L2.St → List V → List V → Hp → VK → Prop := fun σ vs zs H Q => ∃ (a f c' : Addr) (xs : List V) (ks : List Int), vs = [V.ref a] ∧ zs = [V.ref f, V.non] ∧ H f = some (LamO f (mk c') bd) ∧ H (mk c').c = some (CodeO (mk c').c (mk c').qual) ∧
  SqL K H a xs ∧ ks.length = xs.length ∧ (∀ (i : Nat) x k, xs[i]? = some x → ks[i]? = some k → tb (startF N [x] (js.map (slotAt σ))) H (fun v H' => v = .int k ∧ H' = H)) ∧ (xs = [] → Q .non H) ∧ ∀ x, xs[argMin ks]? = some x → Q x H
/-- a list walked: its items as the abstract heap tells them, whatever their own objects -/
theorem walkV {prog : Program} {w : World} {A : Around} {it l : Addr} {xs : List V} (hh : A.handled = Option.none) (hne : l ≠ it) :
    WalksS prog w A it [it, l] [it] (fun a b => b = a) xs.length (fun i v => ∃ x, xs[i]? = some x ∧ L2.RelV x v) (fun i s => ∃ its : Array Value, Vals xs its.toList ∧ (s.heap.IsListIter it l i ∧ s.heap.IsList l its)) where
  sub := fun b hb => by simp at hb; simp [hb]
  grefl := fun _ => rfl
  gtrans := fun _ _ _ h1 h2 => h2.trans h1
  frame := fun i s h' _ st _ hk => by
    obtain ⟨its, rv, st⟩ := st
    exact ⟨its, rv, (Walks.list (prog := prog) (w := w) hh it l hne its).frame i s.heap h' st hk⟩
  item := fun i s Q E hi st hQ => by
    obtain ⟨its, rv, st⟩ := st
    have hl : xs.length = its.size := by rw [rv.length, Array.length_toList]
    refine (Walks.list (prog := prog) (w := w) hh it l hne its).toS.item i s Q E (by omega) st fun v s' hP st' m => ?_
    have hP : its[i]? = some v := hP
    exact hQ v s' (vals_get rv (by rw [Array.getElem?_toList]; exact hP)) ⟨its, rv, st'⟩ m
  done := fun s Q E st hQ => by
    obtain ⟨its, rv, st⟩ := st
    have hl : xs.length = its.size := by rw [rv.length, Array.length_toList]
    rw [hl] at st
    exact (Walks.list (prog := prog) (w := w) hh it l hne its).toS.done s Q E st hQ
  self := fun i s Q E st hQ => by
    obtain ⟨its, rv, st⟩ := st
    exact (Walks.list (prog := prog) (w := w) hh it l hne its).toS.self i s Q E st hQ
theorem cr_minL {mk : Addr → NF} {bd : Expr} {N ps fr : List Str} {js : List Nat} {tb : TE} {k : Nat} (hcalm : X.calm = true) (hp : ps.length = 1) (O : ∀ c', LamOk X k N ps fr (mk c') bd tb) (cp : ∀ c', X.Ok → Caps X (mk c').cl fr js) (hr : Room (k + 3) X.A) :
    CallRS X (.builtin "min") [Str.ofString "key", Str.ofString "default"] (rMinL X.K mk bd N js tb) := by
  intro pins s σ H vs0 zs us ws Q I r rz h
  obtain ⟨a, f, c', xs, ks, rfl, rfl, hf, hc, ha, hl, hk, q0, q1⟩ := h
  obtain rfl := Vals.ref1 r
  obtain ⟨w1, w2, rfl, e1, e2⟩ := vals2 rz
  obtain rfl : w1 = Value.ref f := e1
  obtain rfl : w2 = Value.none := e2
  obtain ⟨its, rv, hL, hz⟩ := I.list ha
  have oI : Own X pins H s.heap.objs.size := own_fresh I (Nat.le_refl _)
  have oS : Own X pins H (s.heap.objs.size + 1) := own_fresh I (Nat.le_succ _)
  show wpAny _ _ (call (.builtin "min") [.ref a] [(Str.ofString "key", .ref f), (Str.ofString "default", .none)]) _ _ _
  refine call_min_walkKD (iter_anyList hL.isList fun s2 e st hfp hlI => ?_)
  have hh : X.A.in1.handled = Option.none := hr.hd
  have hsz : s2.heap.objs.size = s.heap.objs.size + 1 := by rw [e]; exact size_push' _ _
  have J2 : Inv X pins σ H s2 := by rw [e]; exact I.kept (t' := s.toks) fun b u q => Heap.get?_push_of_some _ q
  refine ⟨s.heap.objs.size, [s.heap.objs.size, a], [s.heap.objs.size], _, xs.length, _, _, fun s' => Inv X pins σ H s', fun i u _ => ∃ t, u = Value.int (ks.getD i 0) t, fun i j => decide (ks.getD i 0 < ks.getD j 0), rfl, walkV hh hlI, ⟨its.toArray, rv, st⟩, hfp,
    ⟨fun s1 s1' j m => ?_, fun _ _ _ _ h _ => h, fun i v s1 o Q1 E1 hi hP j hst hS hQ => ?_, fun i j ki kj s1 Q1 E1 _ hi hj hq => ?_⟩, J2, fun h0 s' j => ?_, fun h0 v s' hP j => ?_⟩
  · rw [hsz] at m
    obtain ⟨hh1, g1, d1, t1, o1⟩ := s1'
    obtain ⟨m1, m2, m3, m4, _⟩ := m
    obtain rfl : g1 = s1.gens := m2
    obtain rfl : d1 = s1.drawn := m3
    obtain rfl : o1 = s1.os := m4
    exact inv_two j oS oI fun b o h1 h2 q => m1 b o (by simp; exact ⟨h1, h2⟩) q
  · rw [hsz] at hS hQ
    obtain ⟨x, hx, rx⟩ := hP
    obtain ⟨n, hn⟩ : ∃ n, ks[i]? = some n := ⟨_, List.getElem?_eq_getElem (by omega)⟩
    obtain ⟨its1, rv1, hit, hli⟩ := hst
    obtain ⟨oi, h1, h2, h3⟩ := hit
    refine wpAny_mono (lam_call (O c') (Room.in1 (hr.mono (by omega))) (Env0.in1 j.env0) j hf hc (cp c' I.ok) (.cons rx .nil) (by rw [hp]; rfl) (hk i x n hx hn)) (fun u s'' he => ?_) (fun _ _ z => z.elim)
    obtain ⟨⟨v', H', J', rv', e1', e2'⟩, kp⟩ := he
    subst e1' e2'
    obtain ⟨t, rfl⟩ : ∃ t, u = Value.int n t := rv'
    obtain ⟨its2, rv2, hL2, _⟩ := J'.list ha
    exact hQ _ s'' J' ⟨its2.toArray, rv2, ⟨oi, kp _ _ h1 oI.no oI.ne oI.fs, h2, h3⟩, hL2.isList⟩ (kp _ _ hS oS.no oS.ne oS.fs) ⟨t, by rw [List.getD_eq_getElem?_getD, hn]; rfl⟩ fun _ _ z => z
  · obtain ⟨t, rfl⟩ := hi
    obtain ⟨t', rfl⟩ := hj
    exact (show wpAny _ _ (compareOp .Lt (.int (ks.getD i 0) t) (.int (ks.getD j 0) t')) Q1 E1 s1 from wpAny_lt_int hq)
  · have hx : xs = [] := List.length_eq_zero_iff.mp h0
    exact ⟨.non, H, j, rfl, q0 hx⟩
  · obtain ⟨x, hx, rx⟩ := hP
    have e0 : xs.length = ks.length := hl.symm
    rw [e0] at hx
    exact ⟨x, H, j, rx, q1 x hx⟩
end
section
open NdefX LamX
variable {X : Cx} {T : List (Addr × Str)} {c P : Addr} {params : Arguments} {bd : Expr} {y : Str} {yp : Pos} {scope : Scope} {lpos kpos dpos dkpos p pos : Pos} {N ps fr : List Str} {js : List Nat} {t1 tb : TE} {k j : Nat}
/-- the def's names, the lambda's names -/
theorem lam_caps {fr : List Str} {js : List Nat} (hb : ndefB X.env.scope scope fr = true) (hjs : js.map (fun j => X.N[j]?) = fr.map some) (c : Addr) (ok : X.Ok) : Caps X (lamF X params scope c).cl fr js :=
  Caps.made ok (ndef_free hb) (ndef_fr hb) hjs
theorem pe_sortLam (hb : ndefB X.env.scope scope fr = true) (hjs : js.map (fun j => X.N[j]?) = fr.map some) (hp : ps.length = 1) (hr : Room (k + 3) X.A) (hg : Gl X "sorted") (hm : X.mg "sorted" = Option.none) (he : PE X (.Name y yp) t1)
    (TB : TabB X.base X.mg c P) (hcode : X.env.code = .ref c) (hmT : (P, X.env.qual ++ "<lambda>") ∈ T) (hu : ∀ p ∈ T, p.1 = P → p.2 = X.env.qual ++ "<lambda>") (hdef : defaultsOf params X.env = ([], [])) (hns : nscB N ps fr scope = true) (hbind : ∀ (c : Addr) (pm ctv : Value) (us : List Value), us.length = ps.length → bindArgs (PySem.W.kla_fn "<lambda>" (X.env.qual ++ "<lambda>") params bd scope (cloFrom X.env.cells scope.names []) pm (.ref c) ctv) ⟨us, []⟩ = pure (ps.zip us))
    (hbody : ∀ (c f : Addr) (A : Around) (outer : List Env) (s : Shared) (H : Hp) (E : XK), Room k (A.deeper (envF (lamF X params scope c) f s.heap.objs.size)) → PE (ncx CX0 X.prog X.w X.K X.mg X.base N (lamF X params scope c) f A outer s H E) bd tb) :
    PE X (.Call (.Name "sorted" p) [.Name y yp] [⟨some "key", .Lambda params bd scope lpos, kpos⟩] pos) (tCKs (rSortL X.K (lamF X params scope) bd N js tb) (tCons t1 tNil) (tCons (tLamO X T params bd scope) tNil)) :=
  pe_callBKS (cr_sortL hp (fun c => ⟨nscope_by hns, hbind c, hbody c⟩) (lam_caps hb hjs) hr) hg hm (by decide +kernel) (pa_cons he pa_nil) (pk_cons (pe_lamO TB hcode hmT hu hdef (ndef_free hb)) pk_nil)
theorem pe_minLam (hcalm : X.calm = true) (hb : ndefB X.env.scope scope fr = true) (hjs : js.map (fun j => X.N[j]?) = fr.map some) (hp : ps.length = 1) (hr : Room (k + 3) X.A) (hg : Gl X "min") (hm : X.mg "min" = Option.none) (he : PE X (.Name y yp) t1)
    (TB : TabB X.base X.mg c P) (hcode : X.env.code = .ref c) (hmT : (P, X.env.qual ++ "<lambda>") ∈ T) (hu : ∀ p ∈ T, p.1 = P → p.2 = X.env.qual ++ "<lambda>") (hdef : defaultsOf params X.env = ([], [])) (hns : nscB N ps fr scope = true) (hbind : ∀ (c : Addr) (pm ctv : Value) (us : List Value), us.length = ps.length → bindArgs (PySem.W.kla_fn "<lambda>" (X.env.qual ++ "<lambda>") params bd scope (cloFrom X.env.cells scope.names []) pm (.ref c) ctv) ⟨us, []⟩ = pure (ps.zip us))
    (hbody : ∀ (c f : Addr) (A : Around) (outer : List Env) (s : Shared) (H : Hp) (E : XK), Room k (A.deeper (envF (lamF X params scope c) f s.heap.objs.size)) → PE (ncx CX0 X.prog X.w X.K X.mg X.base N (lamF X params scope c) f A outer s H E) bd tb) :
    PE X (.Call (.Name "min" p) [.Name y yp] [⟨some "key", .Lambda params bd scope lpos, kpos⟩, ⟨some "default", .Constant .none j dpos, dkpos⟩] pos) (tCKs (rMinL X.K (lamF X params scope) bd N js tb) (tCons t1 tNil) (tCons (tLamO X T params bd scope) (tCons (tC .non) tNil))) :=
  pe_callBKS (cr_minL hcalm hp (fun c => ⟨nscope_by hns, hbind c, hbody c⟩) (lam_caps hb hjs) hr) hg hm (by decide +kernel) (pa_cons he pa_nil) (pk_cons (pe_lamO TB hcode hmT hu hdef (ndef_free hb)) (pk_cons pe_non pk_nil))
end
/-- a def by its body, where its code object is asked for -/
theorem fun_okC {P : Program} {w : World} {K : PySem.W.Frag} {mg : Str → Option Value} {base : Heap} {x qual : Str} {st : Stmt} {f : Addr} {fd : FuncData} {N ps : List Str} {k : Nat} {sp : Sp} (F : Fun K x qual st f fd) (S : FnScope N ps (defScope st)) (len : ∀ vs H Q E, sp vs H Q E → vs.length = ps.length)
    (hbody : ∀ (cdv : Value) (A : Around) (outer : List Env) (s : Shared) (H : Hp) (vs : List V) (Q : VK) (E : XK), cdv = fd.code → Room k (A.deeper (envOfC qual (defScope st) s.heap.objs.size f cdv)) → sp vs H Q E →
      ∃ t, PSs (cxOf CX0 P w K mg base N qual (defScope st) f cdv A outer s H E).nox (defBody st) t ∧ t { nx := fun _ H' => Q .non H', rt := Q } (L2.start N vs) H) : FnOk P w K mg base CX0 (k + 1) f fd ps sp := by
  obtain ⟨oc, od, kV, doc, pm, an, cdv, ct, osl, rfl, lk, hcd⟩ := F.ex
  refine fn_of lk hcd S len fun A outer s H vs Q E hr hsp => ?_
  obtain ⟨t, h, q⟩ := hbody cdv A outer s H vs Q E rfl hr hsp
  exact ⟨t, h.nox, q⟩
--CUT
/-! ### list(zip(t, u)) of two tuples: each pair is held by the list, so each one is new -/
section
open Sem (wp)
variable {prog : Program} {wd : World} {AA : Around} {EE : Value → Shared → Prop} {sh : Shared}
/-- the zip at z stands ahead of its i-th pair; L: the list that holds the pairs -/
structure ZSt (h : Heap) (L z TI TO i1 i2 l1 l2 : Addr) (xs ys : Array Value) (i : Nat) : Prop where
  pr : IsPair h TI (.ref i1) (.ref i2)
  ia : h.IsTupleIter i1 l1 i
  ib : h.IsTupleIter i2 l2 i
  ta : h.IsTuple l1 xs
  tb : h.IsTuple l2 ys
  out : (IsZip h z TI TO .none ∧ IsPair h TO .none .none) ∨ ∃ (U : Addr) (f : Bool) (oU : Obj), IsZipHeld h z TI TO U f ∧ h.get? U = some oU ∧ U ≠ L ∧ U ≠ z ∧ U ≠ i1 ∧ U ≠ i2
/-- the next pair while the last one is held -/
theorem zheld_item {z TI TO U i1 i2 l1 l2 : Addr} {f : Bool} {oU : Obj} {k : Nat} {xs ys : Array Value} {x y : Value} {W : Value → Shared → Prop} (D : ZipApart z TI TO i1 i2 l1 l2) (gz : IsZipHeld sh.heap z TI TO U f)
    (gU : sh.heap.get? U = some oU) (gp : IsPair sh.heap TI (.ref i1) (.ref i2)) (ga : sh.heap.IsTupleIter i1 l1 k) (gb : sh.heap.IsTupleIter i2 l2 k) (gx : sh.heap.IsTuple l1 xs) (gy : sh.heap.IsTuple l2 ys)
    (ex : xs[k]? = some x) (ey : ys[k]? = some y)
    (fin : ∀ g, IsZipHeld g z TI TO U true → g.IsTupleIter i1 l1 (k + 1) → g.IsTupleIter i2 l2 (k + 1) → IsPair g sh.heap.objs.size x y → g.objs.size = sh.heap.objs.size + 1 →
      (∀ q o, q ≠ z → q ≠ i1 → q ≠ i2 → sh.heap.get? q = some o → g.get? q = some o) → W (.ref sh.heap.objs.size) { sh with heap := g }) :
    wpAny (model prog wd) AA (Builtin.«zip.__next__» ⟨[.ref z], []⟩) (fun r s' => ∃ v, r = .done (.ret v) ∧ W v s') EE sh := by
  show wpAny _ _ (field (.ref z) 2 >>= _) _ EE sh
  refine wpAny_bind (wpAny_field gz rfl (x := .bool false) rfl ?_)
  show wpAny _ _ (field (.ref z) 3 >>= _) _ EE sh
  refine wpAny_bind (wpAny_field gz rfl (x := .ref TI) rfl (wpAny_bind (wpAny_seqItems gp rfl ?_)))
  show wpAny _ _ (Builtin.SmallTypes.ownedTupleIsFree (.ref z) >>= _) _ EE sh
  refine wpAny_bind (wpAny_tupleHeld_zip gz gU fun g1 z1 d1 => ?_)
  simp only [Bool.false_eq_true, if_false]; refine wpAny_bind ?_
  rw [← Array.forIn_toList]; simp only [List.forIn_cons, List.forIn_nil]; refine wpAny_bind (wpAny_bind (wpAny_holding ?_))
  show wpAny _ _ (Builtin.SmallTypes.nextOf (.ref i1) >>= _) _ EE _
  refine wpAny_bind (RZ.nextOf_tuple_item (s := { sh with heap := g1 }) (ga.extBut d1.extBut D.i1z) (gx.extBut d1.extBut D.l1z) ex fun g2 a2 d2 => wpAny_pure (wpAny_pure ?_))
  refine wpAny_bind (wpAny_bind (wpAny_holding ?_)); show wpAny _ _ (Builtin.SmallTypes.nextOf (.ref i2) >>= _) _ EE _
  refine wpAny_bind (RZ.nextOf_tuple_item (s := { sh with heap := g2 }) ((gb.extBut d1.extBut D.i2z).extBut d2.extBut D.i12.symm) ((gy.extBut d1.extBut D.l2z).extBut d2.extBut D.l2i1) ey fun g3 b3 d3 => wpAny_pure (wpAny_pure (wpAny_pure ?_)))
  show wpAny _ _ (newTuple [x, y] >>= _) _ EE _
  refine wpAny_bind (wpAny_newTuple (wpAny_pure ⟨_, rfl, ?_⟩))
  have size3 : g3.objs.size = sh.heap.objs.size := by rw [d3.1, d2.1, d1.1]
  have z3 : IsZipHeld g3 z TI TO U true := d3.extBut _ _ D.i2z.symm (d2.extBut _ _ D.i1z.symm z1)
  have stay : ∀ q o, q ≠ z → q ≠ i1 → q ≠ i2 → sh.heap.get? q = some o → g3.get? q = some o := fun q o q1 q2 q3 e => d3.extBut _ _ q3 (d2.extBut _ _ q2 (d1.extBut _ _ q1 e))
  have a3 : g3.IsTupleIter i1 l1 (k + 1) := a2.extBut d3.extBut D.i12
  have pn : IsPair (g3.push { cls := .type "tuple", data := .seq #[x, y] }) g3.objs.size x y := Heap.get?_push_size _ rfl
  have pz : (g3.push { cls := .type "tuple", data := .seq #[x, y] }).objs.size = g3.objs.size + 1 := Heap.size_push ..
  show W (.ref g3.objs.size) _
  rw [size3] at pn pz ⊢
  exact fin _ (Heap.get?_push_of_some _ z3) (a3.at fun o e => Heap.get?_push_of_some _ e) (b3.at fun o e => Heap.get?_push_of_some _ e) pn pz fun q o q1 q2 q3 e => Heap.get?_push_of_some _ (stay q o q1 q2 q3 e)
/-- no pair is left, the last one is held -/
theorem zheld_end {z TI TO U i1 i2 l1 l2 : Addr} {f : Bool} {oU : Obj} {k : Nat} {xs ys : Array Value} {W : Fin → Shared → Prop} (hh : AA.handled = none) (D : ZipApart z TI TO i1 i2 l1 l2) (gz : IsZipHeld sh.heap z TI TO U f)
    (gU : sh.heap.get? U = some oU) (gp : IsPair sh.heap TI (.ref i1) (.ref i2)) (ga : sh.heap.IsTupleIter i1 l1 k) (gb : sh.heap.IsTupleIter i2 l2 k) (gx : sh.heap.IsTuple l1 xs) (gy : sh.heap.IsTuple l2 ys)
    (ends : xs[k]? = none ∨ ys[k]? = none)
    (fin : ∀ g e, (∀ q o, q ≠ z → q ≠ i1 → q ≠ i2 → sh.heap.get? q = some o → g.get? q = some o) → (∃ o, g.get? e = some o ∧ o.cls = .type "StopIteration") → EE (.ref e) { sh with heap := g }) :
    wpAny (model prog wd) AA (Builtin.«zip.__next__» ⟨[.ref z], []⟩) W EE sh := by
  show wpAny _ _ (field (.ref z) 2 >>= _) W EE sh
  refine wpAny_bind (wpAny_field gz rfl (x := .bool false) rfl ?_)
  show wpAny _ _ (field (.ref z) 3 >>= _) W EE sh
  refine wpAny_bind (wpAny_field gz rfl (x := .ref TI) rfl (wpAny_bind (wpAny_seqItems gp rfl ?_)))
  show wpAny _ _ (Builtin.SmallTypes.ownedTupleIsFree (.ref z) >>= _) W EE sh
  refine wpAny_bind (wpAny_tupleHeld_zip gz gU fun g1 z1 d1 => ?_)
  simp only [Bool.false_eq_true, if_false]; refine wpAny_bind ?_
  rw [← Array.forIn_toList]; simp only [List.forIn_cons, List.forIn_nil]; refine wpAny_bind (wpAny_bind (wpAny_holding ?_))
  show wpAny _ _ (Builtin.SmallTypes.nextOf (.ref i1) >>= _) _ EE _
  cases ex : xs[k]? with
  | none =>
    refine wpAny_bind (RZ.nextOf_tuple_end (s := { sh with heap := g1 }) hh (ga.extBut d1.extBut D.i1z) (gx.extBut d1.extBut D.l1z) ex fun g2 e d2 he => ?_)
    exact fin g2 e (fun q o q1 q2 _ u => d2 _ _ q2 (d1.extBut _ _ q1 u)) he
  | some x =>
    have ey : ys[k]? = none := ends.resolve_left (by rw [ex]; exact fun u => nomatch u)
    refine wpAny_bind (RZ.nextOf_tuple_item (s := { sh with heap := g1 }) (ga.extBut d1.extBut D.i1z) (gx.extBut d1.extBut D.l1z) ex fun g2 a2 d2 => wpAny_pure (wpAny_pure ?_))
    refine wpAny_bind (wpAny_bind (wpAny_holding ?_)); show wpAny _ _ (Builtin.SmallTypes.nextOf (.ref i2) >>= _) _ EE _
    refine wpAny_bind (RZ.nextOf_tuple_end (s := { sh with heap := g2 }) hh ((gb.extBut d1.extBut D.i2z).extBut d2.extBut D.i12.symm) ((gy.extBut d1.extBut D.l2z).extBut d2.extBut D.l2i1) ey fun g3 e d3 he => ?_)
    exact fin g3 e (fun q o q1 q2 q3 u => d3 _ _ q3 (d2.extBut _ _ q2 (d1.extBut _ _ q1 u))) he
/-- one turn of the zip, held or not -/
theorem zst_item {L z TI TO i1 i2 l1 l2 : Addr} {k : Nat} {xs ys : Array Value} {x y : Value} {W : Option Value → Shared → Prop} (D : ZipApart z TI TO i1 i2 l1 l2) (Z : ZSt sh.heap L z TI TO i1 i2 l1 l2 xs ys k) (hL : L < sh.heap.objs.size)
    (ex : xs[k]? = some x) (ey : ys[k]? = some y)
    (fin : ∀ g, ZSt g L z TI TO i1 i2 l1 l2 xs ys (k + 1) → IsPair g sh.heap.objs.size x y → g.objs.size = sh.heap.objs.size + 1 → (∀ q o, q ≠ z → q ≠ TO → q ≠ i1 → q ≠ i2 → sh.heap.get? q = some o → g.get? q = some o) →
      W (some (.ref sh.heap.objs.size)) { sh with heap := g }) : wpAny (model prog wd) AA (pyNext (.ref z)) W EE sh := by
  have lt : ∀ {q : Addr} {o : Obj}, sh.heap.get? q = some o → sh.heap.objs.size ≠ q := fun e => Nat.ne_of_gt (Heap.lt_size e)
  have ni : ∀ {q l : Addr} {j : Nat}, sh.heap.IsTupleIter q l j → sh.heap.objs.size ≠ q := fun ⟨_, e, _⟩ => lt e
  rcases Z.out with ⟨gz, gt⟩ | ⟨U, f, oU, gz, gU, u0, u1, u2, u3⟩
  · refine RZ.pyNext_zipT_item D gz Z.pr gt Z.ia Z.ib Z.ta Z.tb ex ey fun g c1 c2 c3 c4 c5 c6 c7 => ?_
    refine fin g ⟨c7 _ _ D.TIz D.TITO D.TIi1 D.TIi2 Z.pr, c3, c4, ?_, ?_, .inr ⟨sh.heap.objs.size, false, _, c1, c5, Nat.ne_of_gt hL, lt gz, ni Z.ia, ni Z.ib⟩⟩ c5 c6 c7
    · obtain ⟨o, e, r⟩ := Z.ta; exact ⟨o, c7 _ _ D.l1z D.l1TO D.l1i1 D.l1i2 e, r⟩
    · obtain ⟨o, e, r⟩ := Z.tb; exact ⟨o, c7 _ _ D.l2z D.l2TO D.l2i1 D.l2i2 e, r⟩
  · have ty : sh.TypeIs (.ref z) "zip" := ⟨_, gz, rfl⟩
    unfold pyNext
    refine wpAny_bind (wpAny_attempt (wpAny_callSpecial?_slot (name := Str.ofString "__next__") ty F.slot_zip_next (wpAny_call_entry F.slot_zip_next ty F.entry_zip_next
      (zheld_item D gz gU Z.pr Z.ia Z.ib Z.ta Z.tb ex ey fun g c1 c3 c4 c5 c6 c7 => wpAny_pure ?_) (F.args_zip_next_1 _))))
    refine fin g ⟨c7 _ _ D.TIz D.TIi1 D.TIi2 Z.pr, c3, c4, ?_, ?_, .inr ⟨U, true, oU, c1, c7 _ _ u1 u2 u3 gU, u0, u1, u2, u3⟩⟩ c5 c6 fun q o q1 _ q2 q3 e => c7 q o q1 q2 q3 e
    · obtain ⟨o, e, r⟩ := Z.ta; exact ⟨o, c7 _ _ D.l1z D.l1i1 D.l1i2 e, r⟩
    · obtain ⟨o, e, r⟩ := Z.tb; exact ⟨o, c7 _ _ D.l2z D.l2i1 D.l2i2 e, r⟩
theorem zst_end {L z TI TO i1 i2 l1 l2 : Addr} {k : Nat} {xs ys : Array Value} {W : Option Value → Shared → Prop} (hh : AA.handled = none) (D : ZipApart z TI TO i1 i2 l1 l2) (Z : ZSt sh.heap L z TI TO i1 i2 l1 l2 xs ys k)
    (ends : xs[k]? = none ∨ ys[k]? = none) (fin : ∀ g, (∀ q o, q ≠ z → q ≠ TO → q ≠ i1 → q ≠ i2 → sh.heap.get? q = some o → g.get? q = some o) → W none { sh with heap := g }) : wpAny (model prog wd) AA (pyNext (.ref z)) W EE sh := by
  rcases Z.out with ⟨gz, gt⟩ | ⟨U, f, oU, gz, gU, u0, u1, u2, u3⟩
  · exact RZ.pyNext_zipT_end hh D gz Z.pr gt Z.ia Z.ib Z.ta Z.tb ends fin
  · have ty : sh.TypeIs (.ref z) "zip" := ⟨_, gz, rfl⟩
    unfold pyNext
    refine wpAny_bind (wpAny_attempt (wpAny_callSpecial?_slot (name := Str.ofString "__next__") ty F.slot_zip_next (wpAny_call_entry F.slot_zip_next ty F.entry_zip_next
      (zheld_end hh D gz gU Z.pr Z.ia Z.ib Z.ta Z.tb ends fun g e c he => ?_) (F.args_zip_next_1 _))))
    refine wpAny_bind (wpAny_isInstance (T := "StopIteration") (b := true) (let ⟨o, h1, h2⟩ := he; ⟨o, h1, h2⟩) isSubtype_stop (wpAny_pure (fin _ fun q o q1 _ q2 q3 u => c q o q1 q2 q3 u)))
/-- the list lies apart from the zip's own objects -/
structure LOff (L z TI TO i1 i2 l1 l2 : Addr) : Prop where
  a : z ≠ L
  b : TI ≠ L
  c : TO ≠ L
  d : i1 ≠ L
  e : i2 ≠ L
  f : l1 ≠ L
  g : l2 ≠ L
theorem ZSt.keep {h h' : Heap} {L z TI TO i1 i2 l1 l2 : Addr} {xs ys : Array Value} {i : Nat} (Z : ZSt h L z TI TO i1 i2 l1 l2 xs ys i) (A : LOff L z TI TO i1 i2 l1 l2) (k : ∀ q o, q ≠ L → h.get? q = some o → h'.get? q = some o) : ZSt h' L z TI TO i1 i2 l1 l2 xs ys i where
  pr := k _ _ A.b Z.pr
  ia := Z.ia.at fun o u => k _ o A.d u
  ib := Z.ib.at fun o u => k _ o A.e u
  ta := let ⟨o, u, r⟩ := Z.ta; ⟨o, k _ o A.f u, r⟩
  tb := let ⟨o, u, r⟩ := Z.tb; ⟨o, k _ o A.g u, r⟩
  out := by
    rcases Z.out with ⟨u, v⟩ | ⟨U, f, oU, u1, u2, u3, u4⟩
    · exact .inl ⟨k _ _ A.a u, k _ _ A.c v⟩
    · exact .inr ⟨U, f, oU, k _ _ A.a u1, k _ _ u3 u2, u3, u4⟩
/-- the pairs that the list holds -/
structure ZPrs (xs ys : Array Value) (lo : Addr) (h : Heap) (as : List Addr) : Prop where
  up : as.Pairwise (· < ·)
  from_ : ∀ a ∈ as, lo ≤ a
  at_ : ∀ (j : Nat) (a : Addr), as[j]? = some a → ∃ x y, xs[j]? = some x ∧ ys[j]? = some y ∧ IsPair h a x y
theorem ZPrs.lt {xs ys : Array Value} {lo : Addr} {h : Heap} {as : List Addr} (p : ZPrs xs ys lo h as) {a : Addr} (ha : a ∈ as) : a < h.objs.size := by
  obtain ⟨j, hj⟩ := List.mem_iff_getElem?.mp ha
  obtain ⟨x, y, _, _, e⟩ := p.at_ j a hj
  exact Heap.lt_size e
theorem ne_lo {a z lo : Addr} (h : z < lo) (b : lo ≤ a) : a ≠ z := Nat.ne_of_gt (Nat.lt_of_lt_of_le h b)
abbrev IsLs (h : Heap) (L : Addr) (acc : Array Value) (c : Nat) : Prop := h.get? L = some { cls := .type "list", dict := none, data := .seq acc c, slots := #[] }
theorem zl_loop {L z TI TO i1 i2 l1 l2 : Addr} {xs ys : Array Value} {n : Nat} {Rs : Result → Shared → Prop} (hh : AA.handled = none) (D : ZipApart z TI TO i1 i2 l1 l2) (A : LOff L z TI TO i1 i2 l1 l2) (res : Value) (lo : Addr) (h₀ : Heap)
    (below : z < lo ∧ TO < lo ∧ i1 < lo ∧ i2 < lo ∧ L < lo) (hn : n ≤ sizeLine) (ins : ∀ j, j < n → (∃ x, xs[j]? = some x) ∧ ∃ y, ys[j]? = some y) (ends : xs[n]? = none ∨ ys[n]? = none)
    (fin : ∀ h' tk acc c as, (∀ q o, q ≠ L → q ≠ z → q ≠ TO → q ≠ i1 → q ≠ i2 → h₀.get? q = some o → h'.get? q = some o) → IsLs h' L acc c → as.length = n → ZPrs xs ys lo h' as → acc.toList = as.map Value.ref → Rs (.ok (.ret res)) { sh with heap := h', toks := tk }) :
    ∀ (m k : Nat) (h : Heap) (tk c : Nat) (acc : Array Value) (as : List Addr), n - k = m → k ≤ n → ZSt h L z TI TO i1 i2 l1 l2 xs ys k → (∀ q o, q ≠ L → q ≠ z → q ≠ TO → q ≠ i1 → q ≠ i2 → h₀.get? q = some o → h.get? q = some o) → IsLs h L acc c → acc.toList = as.map Value.ref → as.length = k →
      ZPrs xs ys lo h as → lo ≤ h.objs.size → codeAny (model prog wd) AA (.builtin "list.extend.loop" ⟨[.ref L, .ref z, res], []⟩) Rs { sh with heap := h, toks := tk } := by
  intro m
  induction m with
  | zero =>
    intro k h tk c acc as em hk Z keep hL hacc hal hP hlo
    obtain rfl : k = n := by omega
    refine codeAny_builtin PySem.F.entry_extend_loop ?_; rw [Around.under_plainId PySem.F.plain_extend_loop _]
    show wpAny _ AA.in1 (pyNext (.ref z) >>= _) _ _ _
    refine wpAny_bind (zst_end (sh := { sh with heap := h, toks := tk }) (AA := AA.in1) hh D Z ends fun g kg => wpAny_pure (fin g tk acc c as (fun q o q0 q1 q2 q3 q4 u => kg q o q1 q2 q3 q4 (keep q o q0 q1 q2 q3 q4 u)) (kg _ _ A.a.symm A.c.symm A.d.symm A.e.symm hL) hal ⟨hP.up, hP.from_, fun j a hj => ?_⟩ hacc))
    obtain ⟨x, y, e1, e2, e3⟩ := hP.at_ j a hj
    have b := hP.from_ a (List.mem_of_getElem? hj)
    exact ⟨x, y, e1, e2, kg _ _ (ne_lo below.1 b) (ne_lo below.2.1 b) (ne_lo below.2.2.1 b) (ne_lo below.2.2.2.1 b) e3⟩
  | succ m ih =>
    intro k h tk c acc as em hk Z keep hL hacc hal hP hlo
    obtain ⟨⟨x, ex⟩, ⟨y, ey⟩⟩ := ins k (by omega)
    have hsz : acc.size = k := by rw [← Array.length_toList, hacc, List.length_map, hal]
    refine codeAny_builtin PySem.F.entry_extend_loop ?_; rw [Around.under_plainId PySem.F.plain_extend_loop _]
    show wpAny _ AA.in1 (pyNext (.ref z) >>= _) _ _ _
    refine wpAny_bind (zst_item (sh := { sh with heap := h, toks := tk }) D Z (Heap.lt_size hL) ex ey fun g Zg pg sg kg => ?_)
    dsimp only at pg sg kg ⊢
    have gL := kg _ _ A.a.symm A.c.symm A.d.symm A.e.symm hL
    have oth : ∀ q o, q ≠ L → g.get? q = some o → (g.update L (Obj.mapSeq (·.push (Value.ref h.objs.size)))).get? q = some o := fun q o hq u => (Heap.get?_update_other _ _ (Ne.symm hq)).trans u
    have nL : h.objs.size ≠ L := Nat.ne_of_gt (Heap.lt_size hL)
    show wpAny _ AA.in1 (updateSeq L (·.push (Value.ref h.objs.size)) >>= _) _ _ _
    refine wpAny_bind (wpAny_updateSeq gL rfl (wpAny_pure ⟨plainId_quiet PySem.F.plain_extend_loop _, ih (k + 1) _ tk _ (acc.push (Value.ref h.objs.size)) (as ++ [h.objs.size]) (by omega) (by omega) (Zg.keep A oth) (fun q o q0 q1 q2 q3 q4 u => oth q o q0 (kg q o q1 q2 q3 q4 (keep q o q0 q1 q2 q3 q4 u)))
      (Heap.get?_update_self _ gL rfl) (by rw [Array.toList_push, hacc, List.map_append] <;> rfl) (by rw [List.length_append, hal] <;> rfl) ⟨?_, ?_, ?_⟩ ?_⟩) (by rw [hsz]; omega) (by show (acc.push (Value.ref h.objs.size)).size ≤ sizeLine + 1; rw [Array.size_push, hsz]; omega))
    · exact List.pairwise_append.mpr ⟨hP.up, List.pairwise_singleton _ _, fun a ha b hb => by rw [List.mem_singleton.mp hb]; exact hP.lt ha⟩
    · intro a ha
      rcases List.mem_append.mp ha with ha | ha
      · exact hP.from_ a ha
      · rw [List.mem_singleton.mp ha]; exact hlo
    · intro j a hj
      rcases Nat.lt_or_ge j as.length with jl | jl
      · rw [List.getElem?_append_left jl] at hj
        obtain ⟨x', y', e1, e2, e3⟩ := hP.at_ j a hj
        have b := hP.from_ a (List.mem_of_getElem? hj)
        exact ⟨x', y', e1, e2, oth _ _ (ne_lo below.2.2.2.2 b) (kg _ _ (ne_lo below.1 b) (ne_lo below.2.1 b) (ne_lo below.2.2.1 b) (ne_lo below.2.2.2.1 b) e3)⟩
      · rw [List.getElem?_append_right jl] at hj
        have j0 : j - as.length = 0 := by
          rcases Nat.eq_zero_or_pos (j - as.length) with u | u
          · exact u
          · rw [List.getElem?_eq_none (by simp only [List.length_singleton]; omega)] at hj
            cases hj
        rw [j0] at hj
        cases hj
        rw [show j = k by omega]
        exact ⟨x, y, ex, ey, oth _ _ nL pg⟩
    · have e : (g.update L (Obj.mapSeq (·.push (Value.ref h.objs.size)))).get? h.objs.size = _ := oth _ _ nL pg
      exact Nat.le_trans hlo (Nat.le_of_lt (Heap.lt_size e))
theorem zip_len : typeLookup (.type "zip") "__len__" = pure none := am_miss_of_fast (by decide +kernel)
theorem zip_hint : typeLookup (.type "zip") "__length_hint__" = pure none := am_miss_of_fast (by decide +kernel)
/-- list(z), z a new zip of two tuples -/
theorem zl_call {z TI TO i1 i2 l1 l2 : Addr} {xs ys : Array Value} {n : Nat} {W : Value → Shared → Prop} (hh : AA.handled = none) (D : ZipApart z TI TO i1 i2 l1 l2) (ty : sh.TypeIs (.ref z) "zip") (gz : IsZip sh.heap z TI TO .none) (gt : IsPair sh.heap TO .none .none) (pr : IsPair sh.heap TI (.ref i1) (.ref i2))
    (ia : sh.heap.IsTupleIter i1 l1 0) (ib : sh.heap.IsTupleIter i2 l2 0) (ta : sh.heap.IsTuple l1 xs) (tb : sh.heap.IsTuple l2 ys) (hn : n ≤ sizeLine) (ins : ∀ j, j < n → (∃ x, xs[j]? = some x) ∧ ∃ y, ys[j]? = some y) (ends : xs[n]? = none ∨ ys[n]? = none)
    (fin : ∀ h' tk acc c as, (∀ q o, q ≠ z → q ≠ TO → q ≠ i1 → q ≠ i2 → sh.heap.get? q = some o → h'.get? q = some o) → IsLs h' sh.heap.objs.size acc c → as.length = n → ZPrs xs ys sh.heap.objs.size h' as → (∀ a ∈ as, a ≠ sh.heap.objs.size) → acc.toList = as.map Value.ref → W (.ref sh.heap.objs.size) { sh with heap := h', toks := tk }) :
    wpAny (model prog wd) AA (call (.type "list") [.ref z]) W EE sh := by
  have lt : ∀ {q : Addr} {o : Obj}, sh.heap.get? q = some o → q < sh.heap.objs.size := fun e => Heap.lt_size e
  have z1 := lt gz
  have z2 := lt gt
  have z3 := lt pr
  have z4 : i1 < sh.heap.objs.size := let ⟨_, e, _⟩ := ia; lt e
  have z5 : i2 < sh.heap.objs.size := let ⟨_, e, _⟩ := ib; lt e
  have z6 : l1 < sh.heap.objs.size := let ⟨_, e, _⟩ := ta; lt e
  have z7 : l2 < sh.heap.objs.size := let ⟨_, e, _⟩ := tb; lt e
  have A : LOff sh.heap.objs.size z TI TO i1 i2 l1 l2 := ⟨Nat.ne_of_lt z1, Nat.ne_of_lt z3, Nat.ne_of_lt z2, Nat.ne_of_lt z4, Nat.ne_of_lt z5, Nat.ne_of_lt z6, Nat.ne_of_lt z7⟩
  have Z0 : ∀ g, (∀ q o, q ≠ sh.heap.objs.size → sh.heap.get? q = some o → g.get? q = some o) → ZSt g sh.heap.objs.size z TI TO i1 i2 l1 l2 xs ys 0 := fun g k =>
    ⟨k _ _ A.b pr, ia.at fun o u => k _ o A.d u, ib.at fun o u => k _ o A.e u, (let ⟨o, u, r⟩ := ta; ⟨o, k _ o A.f u, r⟩), (let ⟨o, u, r⟩ := tb; ⟨o, k _ o A.g u, r⟩), .inl ⟨k _ _ A.a gz, k _ _ A.c gt⟩⟩
  refine callType_codes (Q₁ := fun obj s₁ => obj = .ref sh.heap.objs.size ∧ s₁ = { sh with heap := sh.heap.push { cls := .type "list", data := .seq #[] } }) PySem.F.called_list (PySem.F.typeCall_list_1 _) PySem.F.entry_list_init (PySem.code_list_new _ ⟨rfl, rfl⟩) fun obj s₁ h₁ => ?_
  obtain ⟨rfl, rfl⟩ := h₁
  have gL : (sh.heap.push { cls := .type "list", data := .seq #[] }).get? sh.heap.objs.size = some { cls := .type "list", data := .seq #[] } := Heap.get?_push_size _ rfl
  refine ⟨⟨_, gL, rfl⟩, PySem.F.args_list_init_2 _ _, ?_⟩
  show wpAny _ _ (do let old ← Builtin.List.listItems (.ref sh.heap.objs.size); Builtin.List.listUpdate (.ref sh.heap.objs.size) (fun _ => #[]); letGo old.toList.reverse; Builtin.List.listExtendWith (.ref sh.heap.objs.size) (.ref z) .none) _ _ _
  refine wpAny_bind ?_
  unfold Builtin.List.listItems
  refine wpAny_bind (wpAny_seqItems gL rfl (wpAny_pure ?_))
  show wpAny _ _ (updateSeq sh.heap.objs.size (fun _ => #[]) >>= fun _ => letGo (#[] : Array Value).toList.reverse >>= fun _ => Builtin.List.listExtendWith (.ref sh.heap.objs.size) (.ref z) .none) _ _ _
  refine wpAny_bind (wpAny_updateSeq gL rfl ?_)
  have g2 := Heap.get?_update_self (Obj.mapSeq (fun _ => (#[] : Array Value))) gL rfl
  have o1 : ∀ q o, q ≠ sh.heap.objs.size → sh.heap.get? q = some o → (sh.heap.push { cls := .type "list", data := .seq #[] }).get? q = some o := fun q o _ e => Heap.get?_push_of_some _ e
  have o2 : ∀ q o, q ≠ sh.heap.objs.size → sh.heap.get? q = some o → ((sh.heap.push { cls := .type "list", data := .seq #[] }).update sh.heap.objs.size (Obj.mapSeq (fun _ => (#[] : Array Value)))).get? q = some o :=
    fun q o hq e => (Heap.get?_update_other _ _ (Ne.symm hq)).trans (o1 q o hq e)
  refine wpAny_bind (wpAny_letGo ?_)
  have gz2 := o2 _ _ A.a gz
  have ty2 : Shared.TypeIs { sh with heap := (sh.heap.push { cls := .type "list", data := .seq #[] }).update sh.heap.objs.size (Obj.mapSeq (fun _ => (#[] : Array Value))) } (.ref z) "zip" := ⟨_, gz2, rfl⟩
  unfold Builtin.List.listExtendWith
  refine wpAny_bind (wpAny_typeOf ty2 ?_)
  have h1 : Builtin.List.listSameRef (.ref sh.heap.objs.size) (.ref z) = false := by simp [Builtin.List.listSameRef, (Ne.symm A.a)]
  have h2 : (Value.type "zip" == Value.type "list") = false := by decide
  have h3 : (Value.type "zip" == Value.type "tuple") = false := by decide
  simp only [h1, h2, h3, Bool.or_false, Bool.false_eq_true, if_false]
  refine wpAny_bind (wpAny_pyIter_zip gz2 ?_)
  refine wpAny_bind (wpAny_holding ?_)
  unfold Builtin.List.listLengthHint
  refine wpAny_bind (wpAny_specialOf ty2 zip_len ?_)
  show wpAny _ _ (specialOf (Value.ref z) (Str.ofString "__length_hint__") >>= _) _ _ _
  refine wpAny_bind (wpAny_specialOf ty2 zip_hint ?_)
  refine wpAny_pure ?_
  show wpAny _ _ (rule "list.extend.makes-room" >>= fun _ => Builtin.List.listTouch (.ref sh.heap.objs.size) >>= fun _ =>
    again (.builtin "list.extend.loop" ⟨[.ref sh.heap.objs.size, .ref z, .none], []⟩)) _ _ _
  refine wpAny_bind (wpAny_rule ?_)
  refine wpAny_bind ?_
  show wpAny _ _ (updateSeq sh.heap.objs.size (·.push .none) >>= fun _ => updateSeq sh.heap.objs.size (·.pop)) _ _ _
  refine wpAny_bind (wpAny_updateSeq g2 rfl ?_)
  have g3 := Heap.get?_update_self (Obj.mapSeq (·.push Value.none)) g2 rfl
  refine wpAny_updateSeq (hz := by seq_fits) g3 rfl ?_
  have g4 := Heap.get?_update_self (Obj.mapSeq (·.pop)) g3 rfl
  have o4 : ∀ q o, q ≠ sh.heap.objs.size → sh.heap.get? q = some o → ((((sh.heap.push { cls := .type "list", data := .seq #[] }).update sh.heap.objs.size (Obj.mapSeq (fun _ => (#[] : Array Value)))).update sh.heap.objs.size (Obj.mapSeq (·.push Value.none))).update sh.heap.objs.size (Obj.mapSeq (·.pop))).get? q = some o :=
    fun q o hq e => (Heap.get?_update_other _ _ (Ne.symm hq)).trans ((Heap.get?_update_other _ _ (Ne.symm hq)).trans (o2 q o hq e))
  refine wpAny_pure ⟨plainId_quiet PySem.F.plain_extend_loop _, zl_loop (AA := AA.in1) (sh := sh) hh D A .none (sh.heap.objs.size + 1) _ ⟨Nat.lt_succ_of_lt z1, Nat.lt_succ_of_lt z2, Nat.lt_succ_of_lt z4, Nat.lt_succ_of_lt z5, Nat.lt_succ_self _⟩ hn ins ends
    (fun h' tk acc c as hk hL hl hP hacc => ?_) n 0 _ _ _ #[] [] (Nat.sub_zero _) (Nat.zero_le _) (Z0 _ o4) (fun q o _ _ _ _ _ e => e) g4 rfl rfl ⟨List.Pairwise.nil, (fun _ ha => nomatch ha), (fun j a hj => by simp at hj)⟩ ?_⟩
  · exact ⟨rfl, fin h' tk acc c as (fun q o q1 q2 q3 q4 e => hk q o (Nat.ne_of_lt (Heap.lt_size e)) q1 q2 q3 q4 (o4 q o (Nat.ne_of_lt (Heap.lt_size e)) e)) hL hl ⟨hP.up, (fun a ha => Nat.le_of_succ_le (hP.from_ a ha)), hP.at_⟩ (fun a ha => Nat.ne_of_gt (hP.from_ a ha)) hacc⟩
  · exact Heap.lt_size g4
end
section
variable {prog : Program} {wd : World}
def putP : Hp → List Addr → List (V × V) → Hp
  | H, a :: as, p :: ps => putP (upd H a (.tup [p.1, p.2])) as ps
  | H, _, _ => H
theorem putP_off {b : Addr} : ∀ (as : List Addr) (ps : List (V × V)) (H : Hp), b ∉ as → putP H as ps b = H b
  | [], _, _, _ => rfl
  | _ :: _, [], _, _ => rfl
  | a :: as, p :: ps, H, h => by
    show putP (upd H a (.tup [p.1, p.2])) as ps b = H b
    rw [putP_off as ps _ (fun z => h (List.mem_cons_of_mem _ z)), upd_ne (fun z => h (by rw [z]; exact List.mem_cons_self))]
theorem putP_at : ∀ (as : List Addr) (ps : List (V × V)) (H : Hp), as.length = ps.length → as.Nodup → ∀ (j : Nat) (t : Addr), as[j]? = some t → ∃ p, ps[j]? = some p ∧ putP H as ps t = some (.tup [p.1, p.2])
  | [], _, _, _, _, j, t, h => by simp at h
  | _ :: _, [], _, h, _, _, _, _ => by cases h
  | a :: as, p :: ps, H, h, hn, 0, t, ht => by
    have hn' := List.nodup_cons.mp hn
    have e : a = t := by simpa using ht
    subst e
    refine ⟨p, rfl, ?_⟩
    show putP (upd H a (.tup [p.1, p.2])) as ps a = _
    rw [putP_off as ps _ hn'.1, upd_same]
  | a :: as, p :: ps, H, h, hn, j + 1, t, ht => by
    have hn' := List.nodup_cons.mp hn
    obtain ⟨r, e1, e2⟩ := putP_at as ps (upd H a (.tup [p.1, p.2])) (Nat.succ.inj h) hn'.2 j t (by simpa using ht)
    exact ⟨r, by simpa using e1, e2⟩
/-- what list(zip(t, u)) leaves -/
def rZipL (K : PySem.W.Frag) : List V → Hp → VK → Prop := fun vs H Q => ∃ (a b : Addr) (xs ys : List V), vs = [.ref a, .ref b] ∧ SqT K H a xs ∧ SqT K H b ys ∧
  ∀ (H' : Hp) (p : Addr) (ts : List Addr), (∀ b o, H b = some o → H' b = some o) → H p = none → (∀ t ∈ ts, H t = none) → p ∉ ts → H' p = some (.lst (ts.map V.ref)) → ts.length = (xs.zip ys).length →
    (∀ (j : Nat) (t : Addr), ts[j]? = some t → ∃ q, (xs.zip ys)[j]? = some q ∧ H' t = some (.tup [q.1, q.2])) → Q (.ref p) H'
def tZipL (K : PySem.W.Frag) (ta : TA) : TE := fun σ H Q => ta σ H fun vs H1 => rZipL K vs H1 Q
variable {X : Cx}
theorem zip_laid {pins : List (Addr × Obj)} {σ : L2.St} {H : Hp} {s : Shared} {h' : Heap} {tk : Nat} {xs ys : List V} {its its2 : List Value} {acc : Array Value} {c : Nat} {as : List Addr} {S : Addr} (I : Inv X pins σ H s) (rx : Vals xs its) (ry : Vals ys its2) (hz : (xs.zip ys).length ≤ sizeLine)
    (hk : ∀ b o, s.heap.get? b = some o → h'.get? b = some o) (hS0 : s.heap.objs.size ≤ S) (hS : IsLs h' S acc c) (hl : as.length = (xs.zip ys).length) (hP : ZPrs its.toArray its2.toArray s.heap.objs.size h' as) (hne : ∀ a ∈ as, a ≠ S) (hacc : acc.toList = as.map Value.ref) :
    ∃ H' : Hp, (∀ b o, H b = some o → H' b = some o) ∧ H S = none ∧ (∀ t ∈ as, H t = none) ∧ S ∉ as ∧ H' S = some (.lst (as.map V.ref)) ∧ (∀ (j : Nat) (t : Addr), as[j]? = some t → ∃ q, (xs.zip ys)[j]? = some q ∧ H' t = some (.tup [q.1, q.2])) ∧ Inv X pins σ H' { s with heap := h', toks := tk } := by
  have hSn : S ∉ as := fun z => hne _ z rfl
  have nd : as.Nodup := List.Pairwise.imp (fun {a b} (h : a < b) => Nat.ne_of_lt h) hP.up
  have new : ∀ t ∈ as, H t = none := fun t ht => I.hok.fresh (hP.from_ t ht)
  have newS : H S = none := I.hok.fresh hS0
  have atP := putP_at as (xs.zip ys) (upd H S (.lst (as.map V.ref))) hl nd
  have off : ∀ b, b ∉ as → b ≠ S → putP (upd H S (.lst (as.map V.ref))) as (xs.zip ys) b = H b := fun b h1 h2 => by rw [putP_off as _ _ h1, upd_ne h2]
  have low : ∀ b o, s.heap.get? b = some o → b ∉ as ∧ b ≠ S := fun b o e => ⟨fun z => absurd (Heap.lt_size e) (Nat.not_lt.mpr (hP.from_ b z)), Nat.ne_of_lt (Nat.lt_of_lt_of_le (Heap.lt_size e) hS0)⟩
  have kp : ∀ b u, H b = some u → (putP (upd H S (.lst (as.map V.ref))) as (xs.zip ys)) b = some u := fun b u e => by
    rw [off b (fun z => by rw [new b z] at e; cases e) (fun z => by rw [z, newS] at e; cases e)]
    exact e
  have eS : putP (upd H S (.lst (as.map V.ref))) as (xs.zip ys) S = some (.lst (as.map V.ref)) := by rw [putP_off as _ _ hSn, upd_same]
  refine ⟨putP (upd H S (.lst (as.map V.ref))) as (xs.zip ys), kp, newS, new, hSn, eS, atP, ?_⟩
  refine I.call' (ch := []) rfl ⟨fun b o q _ _ _ => hk b o q, fun b o q _ _ _ => ⟨o.slots, hk b o q⟩, fun b o q n _ => ?_, fun b o q _ => ⟨o, hk b o q⟩, fun b xs q => kp b _ q, fun b o u q => kp b _ q, fun b ps q => ⟨#[], by rw [kp b _ q]; simp⟩⟩ (fun b u q => ?_) I.bare fun b z => by simp at z
  · obtain ⟨z1, z2⟩ := low b o q
    rw [off b z1 z2]
    exact n
  · by_cases hb : b ∈ as
    · obtain ⟨j, hj⟩ := List.mem_iff_getElem?.mp hb
      obtain ⟨p, e2, e3⟩ := atP j b hj
      rw [e3] at q
      cases q
      obtain ⟨x, y, f1, f2, f3⟩ := hP.at_ j b hj
      obtain ⟨g1, g2⟩ := List.getElem?_zip_eq_some.mp e2
      obtain ⟨u1, k1, r1⟩ := rx.get g1
      obtain ⟨u2, k2, r2⟩ := ry.get g2
      rw [List.getElem?_toArray, k1] at f1
      rw [List.getElem?_toArray, k2] at f2
      cases f1
      cases f2
      exact ⟨by show 2 ≤ sizeLine; decide, [x, y], .cons r1 (.cons r2 .nil), ⟨_, f3, rfl, _, rfl⟩⟩
    · by_cases hb2 : b = S
      · rw [hb2] at q ⊢
        rw [eS] at q
        cases q
        refine ⟨by rw [List.length_map]; omega, acc.toList, c, by rw [hacc]; exact LiI.vals_refs as, ?_⟩
        rw [Array.toArray_toList]
        exact hS
      · rw [off b hb hb2] at q
        exact (I.hok b u q).stay (fun d v _ y => hk d v y) (fun d y => kp d _ y) fun d xs y => kp d _ y
/-- list(zip(e, e2)) of two tuples -/
theorem pe_listZip {e e2 : Expr} {ta : TA} {p zp zpos pos : Pos} (hgl : Gl X "list") (hml : X.mg "list" = none) (hv : bootBuiltins "list" = some (.type "list")) (hg : Gl X "zip") (hm : X.mg "zip" = none) (ha : PA X [e, e2] ta) (hc : X.calm = true := by rfl)
    (hs1 : starEach [.Call (.Name "zip" zp) [e, e2] [] zpos] X.env = (false, eval (.Call (.Name "zip" zp) [e, e2] [] zpos) X.env) :: starEach [] X.env := by rfl)
    (hs : starEach [e, e2] X.env = (false, eval e X.env) :: starEach [e2] X.env := by rfl) (hpl : (backTo zpos (starEach [e2] X.env)).any (·.1) = false := by rfl) :
    PE X (.Call (.Name "list" p) [.Call (.Name "zip" zp) [e, e2] [] zpos] [] pos) (tZipL X.K ta) := by
  refine ⟨fun pins s σ H Q I h => ?_⟩
  refine wpAny_Call_Name_kw (ld_blt I hgl hml hv ?_)
  refine PyProof.Rows.callWith_type1 ?_ hs1 rfl
  rw [hs1]
  show wpAny _ _ (spliced ((false, eval (.Call (.Name "zip" zp) [e, e2] [] zpos) X.env) :: backTo pos (starEach [] X.env))) _ _ s
  refine Calls.spliced_cons ?_
  refine Call_ (ld_blt I hg hm PyProof.Rows.boot_zip (PyProof.Rows.callWith_type1 (thn (ha.run zpos pins s σ H _ I h) fun us s1 ⟨vs, H1, I1, r1, q1⟩ => ?_) hs hpl))
  obtain ⟨a, b, xs, ys, ex, sx, sy, q1⟩ := q1
  subst ex
  cases r1 with
  | cons r rr =>
    cases rr with
    | cons r' rr =>
      cases rr
      cases r
      cases r'
      obtain ⟨its, rv, p1, z1⟩ := I1.tuple sx
      obtain ⟨its2, rv2, p2, z2⟩ := I1.tuple sy
      obtain ⟨o1, ho1, _⟩ := id p1
      obtain ⟨o2, ho2, _⟩ := id p2
      refine RZ.call_zipT (show s1.heap.IsTuple a its.toArray from p1) (show s1.heap.IsTuple b its2.toArray from p2) fun h' hz hTI hTO h1 h2 hsz hk => ?_
      refine Calls.spliced_nil ?_
      have len : (xs.zip ys).length = min xs.length ys.length := List.length_zip
      have l1 := rv.length
      have l2 := rv2.length
      refine zl_call (n := (xs.zip ys).length) (xs := its.toArray) (ys := its2.toArray) (sh := { s1 with heap := h' }) (I1.ok.hd hc) (PySem.W.ktu_apart s1.heap.objs.size a b (Heap.lt_size ho1) (Heap.lt_size ho2)) ⟨_, hz, rfl⟩ hz hTO hTI h1 h2 (let ⟨o, q, r⟩ := p1; ⟨o, hk _ o q, r⟩) (let ⟨o, q, r⟩ := p2; ⟨o, hk _ o q, r⟩) (by omega) (fun j hj => ⟨⟨its[j]'(by omega), ?_⟩, its2[j]'(by omega), ?_⟩) ?_ fun h2' tk acc c as kk hL hl hP hne hacc => ?_
      · rw [List.getElem?_toArray, List.getElem?_eq_getElem (by omega)]
      · rw [List.getElem?_toArray, List.getElem?_eq_getElem (by omega)]
      · rw [List.getElem?_toArray, List.getElem?_toArray]
        rcases Nat.le_total xs.length ys.length with u | u
        · exact .inl (List.getElem?_eq_none (by omega))
        · exact .inr (List.getElem?_eq_none (by omega))
      · have sz : h'.objs.size = s1.heap.objs.size + 5 := hsz
        have lt5 : ∀ {q : Addr} {o : Obj} {n : Nat}, s1.heap.get? q = some o → q ≠ s1.heap.objs.size + n := fun e => Nat.ne_of_lt (Nat.lt_of_lt_of_le (Heap.lt_size e) (Nat.le_add_right _ _))
        have up : s1.heap.objs.size ≤ h'.objs.size := by rw [sz]; exact Nat.le_add_right _ _
        obtain ⟨H', k1, k2, k3, k4, k5, k6, J⟩ := zip_laid (tk := tk) I1 rv rv2 (by omega) (fun q o e => kk q o (lt5 e) (lt5 e) (Nat.ne_of_lt (Heap.lt_size e)) (lt5 e) (hk q o e)) up hL hl ⟨hP.up, fun a ha => Nat.le_trans up (hP.from_ a ha), hP.at_⟩ hne hacc
        exact ⟨.ref _, H', J, rfl, q1 H' _ as k1 k2 k3 k4 k5 hl k6⟩
end
/-! ### the tape of drawn numbers -/
/-- all that was tracked stays, but what stands at t -/
def Kp (t : Addr) (H H' : Hp) : Prop := ∀ b o, b ≠ t → H b = some o → H' b = some o
theorem Kp.refl (t : Addr) (H : Hp) : Kp t H H := fun _ _ _ h => h
theorem Kp.trans {t : Addr} {H H1 H2 : Hp} (a : Kp t H H1) (b : Kp t H1 H2) : Kp t H H2 := fun c o n h => b c o n (a c o n h)
theorem Kp.of_same {t : Addr} {H H' : Hp} (a : Same H H') : Kp t H H' := fun c o _ h => a c o h
theorem Kp.put {t : Addr} {H : Hp} {o : HO} : Kp t H (upd H t o) := fun b u n h => by rw [upd_ne n]; exact h
theorem same_upd {H : Hp} {p : Addr} {o : HO} (h : H p = none) : Same H (upd H p o) := fun b x e => by
  rw [upd_ne (ne_of_none e h)]
  exact e
theorem Kp.new {t : Addr} {H H' : Hp} {p : Addr} {o : HO} (a : Kp t H H') (h : H' p = none) : Kp t H (upd H' p o) := a.trans (.of_same (same_upd h))
def Tape (H : Hp) (t c : Addr) : Prop := ∃ (cs : List Int) (a : Nat) (b k r : Int), H t = some (.lst [.ref c, .int a, .int b, .int k, .int r]) ∧ H c = some (.lst (cs.map V.int)) ∧ c ≠ t ∧ a < cs.length
theorem Tape.same {H H' : Hp} {t c : Addr} (h : Tape H t c) (s : Same H H') : Tape H' t c := by
  obtain ⟨cs, a, b, k, r, h1, h2, h3, h4⟩ := h
  exact ⟨cs, a, b, k, r, s _ _ h1, s _ _ h2, h3, h4⟩
theorem Tape.off {H : Hp} {t c m : Addr} (h : Tape H t c) (n : H m = none) : m ≠ t ∧ m ≠ c := by
  obtain ⟨cs, a, b, k, r, h1, h2, h3, h4⟩ := h
  exact ⟨fun e => ne_of_none h1 n e.symm, fun e => ne_of_none h2 n e.symm⟩
theorem Tape.put {H : Hp} {t c m : Addr} {o : HO} (h : Tape H t c) (n : m ≠ t ∧ m ≠ c) : Tape (upd H m o) t c := by
  obtain ⟨cs, a, b, k, r, h1, h2, h3, h4⟩ := h
  exact ⟨cs, a, b, k, r, by rw [upd_ne n.1.symm]; exact h1, by rw [upd_ne n.2.symm]; exact h2, h3, h4⟩
theorem Tape.set {H : Hp} {t c : Addr} {cs : List Int} {a : Nat} {b k r : Int} (h2 : H c = Option.some (.lst (cs.map V.int))) (h3 : c ≠ t) (h4 : a < cs.length) : Tape (upd H t (.lst [.ref c, .int a, .int b, .int k, .int r])) t c :=
  ⟨cs, a, b, k, r, upd_same, by rw [upd_ne h3]; exact h2, h3, h4⟩
theorem ix5 (a b c d e : V) : ixN [a, b, c, d, e].length 0 = Option.some 0 ∧ ixN [a, b, c, d, e].length 1 = Option.some 1 ∧ ixN [a, b, c, d, e].length 2 = Option.some 2 ∧ ixN [a, b, c, d, e].length 3 = Option.some 3 ∧ ixN [a, b, c, d, e].length 4 = Option.some 4 := ⟨rfl, rfl, rfl, rfl, rfl⟩
theorem sz5 (a b c d e : V) : [a, b, c, d, e].length ≤ sizeLine := by show 5 ≤ sizeLine; decide
section
variable {P : Program} {w : World} {K : PySem.W.Frag} {mg : Str → Option Value} {base : Heap} [LamT K mg base]
def sp__law_tape (K : PySem.W.Frag) : Sp := fun vs H Q _ => ∃ (a : Addr) (ns : List Int), vs = [.ref a] ∧ SqL K H a (ns.map V.int) ∧ ns.length ≤ 1000 ∧ ∀ H' t c, Same H H' → H t = none → Tape H' t c → Q (.ref t) H'
theorem T0.ok__law_tape (T : T0 K mg) : FnOk P w K mg base CX0 1 T.a__law_tape T.fd__law_tape ["script"] (sp__law_tape K) := by
  refine T.F__law_tape.ok sc__law_tape (fun vs H Q E h => ?_) (fun cdv A outer s H vs Q E hr h => ?_)
  · obtain ⟨a, ns, rfl, _⟩ := h
    rfl
  · obtain ⟨a, ns, rfl, hS, hlen, q⟩ := h
    refine ⟨_, (pss_cons (ps_setLc (i := 1) (own := [("cell", 2)]) (g := gName 2) (by rfl) sc__law_tape.nd rfl rfl (sw_true rfl rfl rfl (by decide +kernel)) (pi_list (pv 0)) (blkOk_by (own := [("cell", 2)]) (N := ["script", "cells", "cell"]) (sc := defScope s__law_tape) (by decide +kernel)) (fun _ _ _ _ _ => pg_name (i := 2) sc__law_tape.nd rfl (Or.inl rfl)) (fun _ _ _ _ _ => pts_nil) (fun _ _ _ _ _ => (pe_callB call_abs (by rfl) T.m_abs (by decide +kernel) (pa_cons (pe_callTy call_int1 (by rfl) T.m_int (by decide +kernel) (pa_cons (pv 2) pa_nil)) pa_nil))))
        (C8.pss_cut (ps_if (pt_cmpR op_eq (pe_callB (call_lenK (K := K)) (by rfl) T.m_len PySem.boot_len (pa_cons (pv 1) pa_nil)) pe_int (nomark _)) (pss_one (ps_set (i := 1) sc__law_tape.nd rfl (Or.inl rfl) (pe_lst (pa_cons pe_int pa_nil)))) pss_nil)
        (pss_one (ps_ret (pe_lst (pa_cons (pv 1) (pa_cons pe_int (pa_cons (pe_ix (ix_listK (K := K)) (pv 1) pe_int (fun _ _ => rfl)) (pa_cons pe_int (pa_cons pe_int pa_nil)))))))))), ?_⟩
    -- cells = [..]
    refine ⟨.ref a, rfl, a, rfl, ⟨_, hS⟩, fun D hD => lc_list (K := K) (a := a) (xs := ns.map V.int) (fun i H' => Same H H' ∧ ∃ ms : List Int, ms.length = i ∧ H' D = some (.lst (ms.map V.int))) ⟨same_upd hD, [], rfl, upd_same⟩ (fun i H' _ p => p.1.seq hS) (fun i x H' hx p => ?_) (fun H1 p => ?_)⟩
    · obtain ⟨sm, ms, e1, e2⟩ := p
      rw [List.getElem?_map] at hx
      obtain ⟨n, hn, rfl⟩ := Option.map_eq_some_iff.mp hx
      refine ⟨rfl, ?_⟩
      refine ⟨_, rfl, .inl ⟨_, rfl, _, rfl, ms.map V.int, e2, ?_, ?_⟩⟩
      · have hi : i < ns.length := (List.getElem?_eq_some_iff.mp hn).1
        rw [List.length_map]
        exact small1000' (by omega)
      · refine ⟨fun b o h => ?_, ms ++ [if n < 0 then -n else n], ?_, ?_⟩
        · rw [upd_ne (ne_of_none h hD)]
          exact sm b o h
        · rw [List.length_append, e1]
          rfl
        · rw [upd_same, List.map_append]
          rfl
    · obtain ⟨sm, ms, e1, e2⟩ := p
      rw [List.length_map] at e1
      -- if len(cells) == 0
      refine ⟨fun σ' H' => ∃ (c : Addr) (cs : List Int) (x2 : Option V), σ' = [some (.ref a), some (.ref c), x2] ∧ Same H H' ∧ H c = none ∧ H' c = some (.lst (cs.map V.int)) ∧ 0 < cs.length, ?_, fun σ' H' hM => ?_⟩
      · refine ⟨.ref D, rfl, D, ms.map V.int, rfl, .inl (SqL.of e2), rfl, _, rfl, ite2 (fun e => ?_) (fun e => ?_)⟩
        · refine ⟨by decide, fun p np => ?_⟩
          refine ⟨p, [0], none, rfl, ?_, ?_, upd_same, by decide⟩
          · exact sm.trans (same_upd np)
          · exact sm.free np
        · have h0 : ((ms.map V.int).length : Int) ≠ 0 := fun z => e (decide_eq_true (congrArg V.int z))
          rw [List.length_map] at h0
          exact ⟨D, ms, none, rfl, sm, hD, e2, by omega⟩
      · obtain ⟨c, cs, x2, rfl, sm2, nc, e3, hp⟩ := hM
        refine ⟨.ref c, rfl, .ref c, rfl, c, cs.map V.int, 0, .int (cs[0]), rfl, rfl, SqL.of e3, at_ints hp, sz5 _ _ _ _ _, fun t nt => ?_⟩
        refine q _ t c (sm2.trans (same_upd nt)) (sm2.free nt) (Tape.set (a := 0) e3 (ne_of_none e3 nt) hp)
def sp__law_pick (K : PySem.W.Frag) : Sp := fun vs H Q _ => ∃ (t c : Addr) (n : Int), vs = [.ref t, .int n] ∧ Tape H t c ∧ 0 < n ∧ n ≤ 4000000000 ∧ ∀ x H', 0 ≤ x → x < n → Kp t H H' → Tape H' t c → Q (.int x) H'
theorem T0.ok__law_pick (T : T0 K mg) : FnOk P w K mg base CX0 1 T.a__law_pick T.fd__law_pick ["tape", "size"] (sp__law_pick K) := by
  refine T.F__law_pick.ok sc__law_pick (fun vs H Q E h => ?_) (fun cdv A outer s H vs Q E hr h => ?_)
  · obtain ⟨t, c, n, rfl, _⟩ := h
    rfl
  · obtain ⟨t, c, n, rfl, ⟨cs, a, b, k, r, hT, hC, nct, ha⟩, hn0, hn1, q⟩ := h
    refine ⟨_, (pss_cons (ps_set (i := 2) sc__law_pick.nd rfl (Or.inl rfl) (pe_ix (ix_listK (K := K)) (pv 0) pe_int (fun _ _ => rfl)))
        (pss_cons (ps_set (i := 3) sc__law_pick.nd rfl (Or.inl rfl) (pe_ix (ix_listK (K := K)) (pv 2) (pe_ix (ix_listK (K := K)) (pv 0) pe_int (fun _ _ => rfl)) (fun _ _ => rfl)))
        (pss_cons (ps_set (i := 4) sc__law_pick.nd rfl (Or.inl rfl) (pe_op op_add (pe_ix (ix_listK (K := K)) (pv 0) pe_int (fun _ _ => rfl)) (pe_op op_mul pe_int (pe_ix (ix_listK (K := K)) (pv 0) pe_int (fun _ _ => rfl)))))
        (C8.pss_cut (ps_if (PW.pt (pw_and (pt_cmpR op_ge (pv 3) (pe_op op_pow pe_int pe_int) (nomark _)) (pw_and1 (pt_cmpR op_eq (pe_ix (ix_listK (K := K)) (pv 0) pe_int (fun _ _ => rfl)) pe_int (nomark _))))) (pss_cons (ps_set (i := 5) sc__law_pick.nd rfl (Or.inl rfl) (pe_op op_modN (pe_callTy call_int1 (by rfl) T.m_int (by decide +kernel) (pa_cons (pe_ix (ix_listK (K := K)) (pv 0) pe_int (fun _ _ => rfl)) pa_nil)) (pv 1)))
        (pss_cons (ps_asg ((pe_op op_fdivW (pe_ix (ix_listK (K := K)) (pv 0) pe_int (fun _ _ => rfl)) (pv 1))) (pg_sub (pv 0) pe_int set_list))
        (pss_one (ps_set (i := 6) sc__law_pick.nd rfl (Or.inl rfl) (pe_cmpR op_eq (pe_ix (ix_listK (K := K)) (pv 0) pe_int (fun _ _ => rfl)) pe_int (nomark _)))))) (pss_cons (ps_set (i := 7) sc__law_pick.nd rfl (Or.inl rfl) (pe_op op_modN (pe_callTy call_int1 (by rfl) T.m_int (by decide +kernel) (pa_cons (pe_op op_add (pe_op op_add (pv 3) (pe_op op_mul pe_int (pv 4))) pe_int) pa_nil)) pe_int))
        (pss_cons (ps_set (i := 7) sc__law_pick.nd rfl (Or.inl rfl) (pe_op op_modN (pe_callTy call_int1 (by rfl) T.m_int (by decide +kernel) (pa_cons (pe_op op_mul (pv 7) (pe_op op_add (pv 7) pe_int)) pa_nil)) pe_int))
        (pss_cons (ps_set (i := 7) sc__law_pick.nd rfl (Or.inl rfl) (pe_op op_modN (pe_callTy call_int1 (by rfl) T.m_int (by decide +kernel) (pa_cons (pe_op op_add (pe_op op_mul (pv 7) (pe_op op_add (pv 7) pe_int)) (pe_op op_mul pe_int (pv 4))) pa_nil)) pe_int))
        (pss_cons (ps_set (i := 5) sc__law_pick.nd rfl (Or.inl rfl) (pe_op op_modN (pe_callTy call_int1 (by rfl) T.m_int (by decide +kernel) (pa_cons (pe_op op_fdivN (pv 7) pe_int) pa_nil)) (pv 1)))
        (pss_one (ps_set (i := 6) sc__law_pick.nd rfl (Or.inl rfl) (pe_cmpR op_eq (pe_op op_modN (pe_callTy call_int1 (by rfl) T.m_int (by decide +kernel) (pa_cons (pv 4) pa_nil)) pe_int) pe_int (nomark _)))))))))
        (pss_cons (ps_asg (pe_op op_add (pe_ix (ix_listK (K := K)) (pv 0) pe_int (fun _ _ => rfl)) pe_int) (pg_sub (pv 0) pe_int set_list))
        (C8.pss_cut (ps_if (pt_val (pv 6)) (pss_cons (ps_asg pe_int (pg_sub (pv 0) pe_int set_list))
        (pss_cons (ps_asg (pe_op op_add (pe_ix (ix_listK (K := K)) (pv 0) pe_int (fun _ _ => rfl)) pe_int) (pg_sub (pv 0) pe_int set_list))
        (C8.pss_cut (ps_if (pt_cmpR op_eq (pe_ix (ix_listK (K := K)) (pv 0) pe_int (fun _ _ => rfl)) (pe_callB (call_lenK (K := K)) (by rfl) T.m_len PySem.boot_len (pa_cons (pv 2) pa_nil)) (nomark _)) (pss_cons (ps_asg pe_int (pg_sub (pv 0) pe_int set_list))
        (pss_one (ps_asg (pe_op op_add (pe_ix (ix_listK (K := K)) (pv 0) pe_int (fun _ _ => rfl)) pe_int) (pg_sub (pv 0) pe_int set_list)))) pss_nil)
        (pss_one (ps_asg (pe_ix (ix_listK (K := K)) (pv 2) (pe_ix (ix_listK (K := K)) (pv 0) pe_int (fun _ _ => rfl)) (fun _ _ => rfl)) (pg_sub (pv 0) pe_int set_list)))))) pss_nil)
        (pss_one (ps_ret (pv 5))))))))), ?_⟩
    have st : SqL K H t [.ref c, .int a, .int b, .int k, .int r] := SqL.of hT
    have sc : SqL K H c (cs.map V.int) := SqL.of hC
    -- cells = tape[0]; cell = cells[tape[1]]
    refine ⟨.ref t, rfl, t, _, 0, .ref c, rfl, rfl, st, rfl, ?_⟩
    refine ⟨.ref c, rfl, .ref t, rfl, t, _, 1, .int a, rfl, rfl, st, rfl, c, _, a, .int (cs[a]), rfl, rfl, sc, at_ints ha, ?_⟩
    -- k = tape[3] + 61 * tape[4]
    refine ⟨.ref t, rfl, t, _, 3, .int k, rfl, rfl, st, rfl, .ref t, rfl, t, _, 4, .int r, rfl, rfl, st, rfl, 61, r, rfl, rfl, .inl (by decide), _, _, rfl, rfl, ?_⟩
    refine ⟨fun σ' H' => ∃ (x : Int) (u : Bool) (b' : Int) (y : Option V), σ' = [some (.ref t), some (.int n), some (.ref c), some (.int cs[a]), some (.int (k + 61 * r)), some (.int x), some (.bl u), y] ∧ 0 ≤ x ∧ x < n ∧ H' = upd H t (.lst [.ref c, .int a, .int b', .int k, .int r]), ?_, fun σ' H' hM => ?_⟩
    · -- if cell >= 10 ** 18 and tape[4] == 0
      have hn : n ≠ 0 := by omega
      have fm : ∀ x : Int, 0 ≤ x.fmod n ∧ x.fmod n < n := fun x => fmod_range x hn0
      refine ⟨.int cs[a], rfl, 10, 18, rfl, rfl, ⟨by decide, by decide, by decide⟩, _, _, rfl, rfl, _, rfl, ite2 (fun _ => ?A) (fun _ => ?no1)⟩
      case' A => refine ⟨.ref t, rfl, t, _, 4, .int r, rfl, rfl, st, rfl, rfl, _, rfl, ite2 (fun _ => ?yes) (fun _ => ?no2)⟩
      case yes =>
        walk_at "go"
        exact ⟨_, _, _, none, rfl, (fm _).1, (fm _).2, rfl⟩
      case no1 | no2 =>
        walk_at "go"
        exact ⟨_, _, b, _, rfl, (fm _).1, (fm _).2, upd_self hT⟩
    · obtain ⟨x, u, b', y, rfl, hx0, hx1, rfl⟩ := hM
      have sc' : ∀ xs, SqL K (upd H t (.lst xs)) c (cs.map V.int) := fun xs => SqL.of ((upd_ne nct).trans hC)
      -- tape[3] = tape[3] + 1
      walk_at "go"
      rw [upd_upd]
      refine ⟨fun σ' H' => ∃ (a' : Nat) (b2 k2 r2 : Int), a' < cs.length ∧ σ' = [some (.ref t), some (.int n), some (.ref c), some (.int cs[a]), some (.int (k + 61 * r)), some (.int x), some (.bl u), y] ∧ H' = upd H t (.lst [.ref c, .int a', .int b2, .int k2, .int r2]), ?_, fun σ' H' hM => ?_⟩
      · refine ⟨_, rfl, _, rfl, ?_⟩
        cases u with
        | false => exact iteF ⟨a, b', k + 1, r, ha, rfl, rfl⟩
        | true =>
          refine iteT ?_
          -- tape[3] = 0; tape[1] = tape[1] + 1
          walk_at "go"
          rw [upd_upd]
          walk_at "go"
          rw [upd_upd]
          refine ⟨fun σ' H' => ∃ (a' : Nat) (r2 : Int), a' < cs.length ∧ σ' = [some (.ref t), some (.int n), some (.ref c), some (.int cs[a]), some (.int (k + 61 * r)), some (.int x), some (.bl true), y] ∧ H' = upd H t (.lst [.ref c, .int a', .int b', .int 0, .int r2]), ?_, fun σ' H' hM => ?_⟩
          · -- if tape[1] == len(cells)
            refine ⟨_, rfl, t, _, 1, .int (a + 1), rfl, rfl, SqL.of upd_same, rfl, ?_⟩
            refine ⟨_, rfl, c, _, rfl, .inl (sc' _), rfl, _, rfl, ite2 (fun e => ?_) (fun e => ?_)⟩
            · walk_at "go"
              rw [upd_upd]
              walk_at "go"
              rw [upd_upd]
              exact ⟨0, r + 1, by omega, rfl, rfl⟩
            · rw [List.length_map] at e
              refine ⟨a + 1, r, ?_, rfl, rfl⟩
              have h0 : ((a : Int) + 1) ≠ (cs.length : Int) := fun z => e (decide_eq_true (congrArg V.int z))
              omega
          · obtain ⟨a', r2, ha2, rfl, rfl⟩ := hM
            -- tape[2] = cells[tape[1]]
            refine ⟨_, rfl, _, rfl, t, _, 1, .int a', rfl, rfl, SqL.of upd_same, rfl, c, _, a', .int cs[a'], rfl, rfl, sc' _, at_ints ha2, ?_⟩
            walk_at "go"
            exact ⟨a', _, _, _, ha2, rfl, upd_upd⟩
      · obtain ⟨a', b2, k2, r2, ha2, rfl, rfl⟩ := hM
        exact ⟨_, rfl, q _ _ hx0 hx1 .put (Tape.set hC nct ha2)⟩
local macro_rules | `(tactic| walk_at "kp") => `(tactic| first
  | exact Kp.refl _ _
  | assumption
  | (refine Kp.trans ?_ (by assumption); walk_at "kp"))
local macro_rules | `(tactic| walk_at "pick") => `(tactic|
  refine ⟨_, _, _, rfl, (by assumption), (by first | decide | omega), (by first | decide | omega), fun x H' h0 h1 kp hT => ?_⟩)
def sp__law_size (K : PySem.W.Frag) : Sp := fun vs H Q _ => ∃ (t c : Addr) (n : Int), vs = [.ref t, .int n] ∧ Tape H t c ∧ n ≤ 100 ∧ ∀ x H', 1 ≤ x → n ≤ x → x ≤ 1000000000 → Kp t H H' → Tape H' t c → Q (.int x) H'
theorem T0.ok__law_size (T : T0 K mg) : FnOk P w K mg base CX0 2 T.a__law_size T.fd__law_size ["tape", "count"] (sp__law_size K) := by
  refine T.F__law_size.ok sc__law_size (fun vs H Q E h => ?_) (fun cdv A outer s H vs Q E hr h => ?_)
  · obtain ⟨t, c, n, rfl, _⟩ := h
    rfl
  · obtain ⟨t, c, n, rfl, hT, hn, q⟩ := h
    refine ⟨_, (pss_cons (ps_set (i := 2) sc__law_size.nd rfl (Or.inl rfl) (pe_call T.ok__law_pick hr (by rfl) T.g__law_pick T.k__law_pick T.b__law_pick .nil pass0 (pa_cons (pv 0) (pa_cons pe_int pa_nil))))
        (pss_cons (ps_set (i := 3) sc__law_size.nd rfl (Or.inl rfl) (pe_callB (call_max2 rfl) (by rfl) T.m_max (by decide +kernel) (pa_cons pe_int (pa_cons (pv 1) pa_nil))))
        (pss_cons (ps_if (pt_cmpR op_eq (pv 2) pe_int (nomark _)) (pss_one (ps_ret (pv 3))) pss_nil)
        (pss_cons (ps_if (pt_cmpR op_eq (pv 2) pe_int (nomark _)) (pss_one (ps_ret (pe_op op_add (pv 3) (pe_call T.ok__law_pick hr (by rfl) T.g__law_pick T.k__law_pick T.b__law_pick .nil pass0 (pa_cons (pv 0) (pa_cons pe_int pa_nil)))))) pss_nil)
        (pss_cons (ps_if (pt_cmpR op_eq (pv 2) pe_int (nomark _)) (pss_one (ps_ret (pe_op op_add (pv 3) (pe_call T.ok__law_pick hr (by rfl) T.g__law_pick T.k__law_pick T.b__law_pick .nil pass0 (pa_cons (pv 0) (pa_cons pe_int pa_nil)))))) pss_nil)
        (pss_one (ps_ret (pe_op op_add (pe_op op_add (pv 3) pe_int) (pe_call T.ok__law_pick hr (by rfl) T.g__law_pick T.k__law_pick T.b__law_pick .nil pass0 (pa_cons (pv 0) (pa_cons pe_int pa_nil))))))))))), ?_⟩
    refine ⟨_, rfl, ?_⟩
    walk_at "pick"
    rename_i x H1 h0 h1 kp hT1
    refine ⟨.int n, rfl, 1, n, rfl, ?_⟩
    have l1 : 1 ≤ (if n > 1 then n else (1 : Int)) ∧ n ≤ (if n > 1 then n else (1 : Int)) ∧ (if n > 1 then n else (1 : Int)) ≤ 100 := by split <;> omega
    revert l1
    generalize (if n > 1 then n else (1 : Int)) = l
    intro l1
    refine ⟨_, rfl, rfl, _, rfl, ite2 (fun _ => ?_) (fun _ => ?_)⟩
    · exact ⟨_, rfl, q _ _ (by omega) (by omega) (by omega) (by walk_at "kp") hT1⟩
    refine ⟨_, rfl, rfl, _, rfl, ite2 (fun _ => ?_) (fun _ => ?_)⟩
    · refine ⟨_, rfl, _, rfl, ?_⟩
      walk_at "pick"
      exact ⟨_, _, rfl, rfl, q _ _ (by omega) (by omega) (by omega) (by walk_at "kp") (by assumption)⟩
    refine ⟨_, rfl, rfl, _, rfl, ite2 (fun _ => ?_) (fun _ => ?_)⟩
    · refine ⟨_, rfl, _, rfl, ?_⟩
      walk_at "pick"
      exact ⟨_, _, rfl, rfl, q _ _ (by omega) (by omega) (by omega) (by walk_at "kp") (by assumption)⟩
    · refine ⟨_, rfl, _, _, rfl, rfl, _, rfl, ?_⟩
      walk_at "pick"
      exact ⟨_, _, rfl, rfl, q _ _ (by omega) (by omega) (by omega) (by walk_at "kp") (by assumption)⟩
def sp__law_wide (K : PySem.W.Frag) : Sp := fun vs H Q _ => ∃ (t c : Addr) (n : Int), vs = [.ref t, .int n] ∧ Tape H t c ∧ 0 < n ∧ ∀ x H', 0 ≤ x → x < n → Kp t H H' → Tape H' t c → Q (.int x) H'
theorem T0.ok__law_wide (T : T0 K mg) : FnOk P w K mg base CX0 2 T.a__law_wide T.fd__law_wide ["tape", "size"] (sp__law_wide K) := by
  refine T.F__law_wide.ok sc__law_wide (fun vs H Q E h => ?_) (fun cdv A outer s H vs Q E hr h => ?_)
  · obtain ⟨t, c, n, rfl, _⟩ := h
    rfl
  · obtain ⟨t, c, n, rfl, hT, hn, q⟩ := h
    refine ⟨_, (pss_one (ps_ret (pe_op op_modN (pe_callTy call_int1 (by rfl) T.m_int (by decide +kernel) (pa_cons (pe_op op_add (pe_op op_mul (pe_call T.ok__law_pick hr (by rfl) T.g__law_pick T.k__law_pick T.b__law_pick .nil pass0 (pa_cons (pv 0) (pa_cons pe_int pa_nil))) pe_int) (pe_call T.ok__law_pick hr (by rfl) T.g__law_pick T.k__law_pick T.b__law_pick .nil pass0 (pa_cons (pv 0) (pa_cons pe_int pa_nil)))) pa_nil)) (pv 1)))), ?_⟩
    refine ⟨_, rfl, ?_⟩
    walk_at "pick"
    rename_i x H1 h0 h1 kp hT1
    refine ⟨_, _, rfl, rfl, .inr ⟨by decide, by decide⟩, _, rfl, ?_⟩
    walk_at "pick"
    refine ⟨_, _, rfl, rfl, .inl ⟨_, rfl, _, rfl, _, _, rfl, rfl, by omega, ?_⟩⟩
    exact q _ _ (fmod_range _ hn).1 (fmod_range _ hn).2 (by walk_at "kp") (by assumption)
def sp__law_circle (K : PySem.W.Frag) : Sp := fun vs H Q _ => ∃ (t c : Addr) (n : Int), vs = [.ref t, .int n] ∧ Tape H t c ∧ n ≤ 100 ∧ ∀ x H', 1 ≤ x → n ≤ x → x ≤ 1000000000 → Kp t H H' → Tape H' t c → Q (.int x) H'
theorem T0.ok__law_circle (T : T0 K mg) : FnOk P w K mg base CX0 3 T.a__law_circle T.fd__law_circle ["tape", "count"] (sp__law_circle K) := by
  refine T.F__law_circle.ok sc__law_circle (fun vs H Q E h => ?_) (fun cdv A outer s H vs Q E hr h => ?_)
  · obtain ⟨t, c, n, rfl, _⟩ := h
    rfl
  · obtain ⟨t, c, n, rfl, hT, hn, q⟩ := h
    refine ⟨_, (pss_cons (ps_set (i := 2) sc__law_circle.nd rfl (Or.inl rfl) (pe_callB (call_max2 rfl) (by rfl) T.m_max (by decide +kernel) (pa_cons pe_int (pa_cons (pv 1) pa_nil))))
        (pss_cons (ps_set (i := 3) sc__law_circle.nd rfl (Or.inl rfl) (pe_call T.ok__law_pick (hr.mono (by decide)) (by rfl) T.g__law_pick T.k__law_pick T.b__law_pick .nil pass0 (pa_cons (pv 0) (pa_cons pe_int pa_nil))))
        (pss_cons (ps_if (pt_cmpR op_eq (pv 3) pe_int (nomark _)) (pss_one (ps_ret (pe_op op_sub pe_int (pe_call T.ok__law_pick (hr.mono (by decide)) (by rfl) T.g__law_pick T.k__law_pick T.b__law_pick .nil pass0 (pa_cons (pv 0) (pa_cons pe_int pa_nil)))))) pss_nil)
        (pss_cons (ps_if (pt_cmpR op_eq (pv 3) pe_int (nomark _)) (pss_one (ps_ret (pe_op op_add (pv 2) (pe_call T.ok__law_wide hr (by rfl) T.g__law_wide T.k__law_wide T.b__law_wide .nil pass0 (pa_cons (pv 0) (pa_cons (pe_op op_sub pe_int (pv 2)) pa_nil)))))) pss_nil)
        (pss_one (ps_ret (pe_call T.ok__law_size hr (by rfl) T.g__law_size T.k__law_size T.b__law_size .nil pass0 (pa_cons (pv 0) (pa_cons (pv 1) pa_nil))))))))), ?_⟩
    refine ⟨.int n, rfl, 1, n, rfl, ?_⟩
    have l1 : 1 ≤ (if n > 1 then n else (1 : Int)) ∧ n ≤ (if n > 1 then n else (1 : Int)) ∧ (if n > 1 then n else (1 : Int)) ≤ 100 := by split <;> omega
    revert l1
    generalize (if n > 1 then n else (1 : Int)) = l
    intro l1
    refine ⟨_, rfl, ?_⟩
    walk_at "pick"
    refine ⟨_, rfl, rfl, _, rfl, ite2 (fun _ => ?_) (fun _ => ?_)⟩
    · refine ⟨_, rfl, ?_⟩
      walk_at "pick"
      exact ⟨_, _, rfl, rfl, q _ _ (by omega) (by omega) (by omega) (by walk_at "kp") (by assumption)⟩
    refine ⟨_, rfl, rfl, _, rfl, ite2 (fun _ => ?_) (fun _ => ?_)⟩
    · refine ⟨_, rfl, _, rfl, _, rfl, _, _, rfl, rfl, ?_⟩
      refine ⟨_, _, _, rfl, by assumption, by omega, fun x H' h0 h1 kp hT => ?_⟩
      exact ⟨_, _, rfl, rfl, q _ _ (by omega) (by omega) (by omega) (by walk_at "kp") (by assumption)⟩
    · refine ⟨_, rfl, _, rfl, _, _, _, rfl, by assumption, hn, fun x H' h0 h1 h2 kp hT => ?_⟩
      exact q _ _ h0 h1 h2 (by walk_at "kp") hT
/-! ### _law_same -/
theorem op_isB {X : Cx} : OpR X (compareOp .Is) (fun x y H Q => ∃ b, y = .bl b ∧ Q (.bl (decide (x = .bl b))) H) := by
  intro pins s σ H x y v u Q I rx ry h
  obtain ⟨b, rfl, q⟩ := h
  cases (show u = Value.bool b from ry)
  cases x with
  | bl c =>
    cases (show v = Value.bool c from rx)
    refine is_bool (fin_bl I q ?_)
    cases b <;> cases c <;> rfl
  | non => cases rx; exact wpAny_is_plain rfl (fin_bl I q rfl)
  | int _ => obtain ⟨t, rfl⟩ := rx; exact wpAny_is_plain rfl (fin_bl I q rfl)
  | str _ => obtain ⟨t, rfl⟩ := rx; exact wpAny_is_plain rfl (fin_bl I q rfl)
  | byt _ => obtain ⟨t, rfl⟩ := rx; exact wpAny_is_plain rfl (fin_bl I q rfl)
  | flt _ => obtain ⟨t, rfl⟩ := rx; exact wpAny_is_plain rfl (fin_bl I q rfl)
  | ref _ => cases rx; exact wpAny_is_plain rfl (fin_bl I q rfl)
  | ty _ => cases rx; exact wpAny_is_plain rfl (fin_bl I q rfl)
def atomV : V → Bool
  | .non => true
  | .bl _ => true
  | .int _ => true
  | .str _ => true
  | _ => false
/-- the same data, of at most this depth -/
inductive Sm (K : PySem.W.Frag) : Nat → Hp → V → V → Prop
  | atom {d : Nat} {H : Hp} {x : V} : atomV x = true → Sm K (d + 1) H x x
  | lst {d : Nat} {H : Hp} {a b : Addr} {xs ys : List V} : SqL K H a xs → SqL K H b ys → xs.length = ys.length → ys.length ≤ 100000 → (∀ (i : Nat) x y, xs[i]? = some x → ys[i]? = some y → Sm K d H x y) → Sm K (d + 1) H (.ref a) (.ref b)
  | tup {d : Nat} {H : Hp} {a b : Addr} {xs ys : List V} : SqT K H a xs → SqT K H b ys → xs.length = ys.length → ys.length ≤ 100000 → (∀ (i : Nat) x y, xs[i]? = some x → ys[i]? = some y → Sm K d H x y) → Sm K (d + 1) H (.ref a) (.ref b)
  | dic {d : Nat} {H : Hp} {a b : Addr} {xs ys : List (Key × V)} : H a = some (.dK xs) → H b = some (.dK ys) → xs.length = ys.length → ys.length ≤ 100000 → (∀ (i : Nat) x y, xs[i]? = some x → ys[i]? = some y → x.1 = y.1) →
      (∀ (i : Nat) x y, xs[i]? = some x → ys[i]? = some y → Sm K (d + 1) H x.2 y.2) → Sm K (d + 4) H (.ref a) (.ref b)
theorem same_t {K : PySem.W.Frag} {H H' : Hp} {a : Addr} {xs : List V} (e : Same H H') (h : SqT K H a xs) : SqT K H' a xs := by
  rcases h with (h | ⟨o, h⟩) | h
  · exact .inl (.inl (e _ _ h))
  · exact .inl (.inr ⟨o, e _ _ h⟩)
  · exact .inr h
theorem Sm.same {K : PySem.W.Frag} {d : Nat} {H : Hp} {x y : V} (h : Sm K d H x y) : ∀ {H' : Hp}, Same H H' → Sm K d H' x y := by
  induction h with
  | atom h => exact fun _ => .atom h
  | lst h1 h2 h3 h4 _ ih => exact fun s => .lst (s.seq h1) (s.seq h2) h3 h4 fun i x y e1 e2 => ih i x y e1 e2 s
  | tup h1 h2 h3 h4 _ ih => exact fun s => .tup (same_t s h1) (same_t s h2) h3 h4 fun i x y e1 e2 => ih i x y e1 e2 s
  | dic h1 h2 h3 h4 h5 _ ih => exact fun s => .dic (s _ _ h1) (s _ _ h2) h3 h4 h5 fun i x y e1 e2 => ih i x y e1 e2 s
theorem Sm.succ {K : PySem.W.Frag} {d : Nat} {H : Hp} {x y : V} (h : Sm K d H x y) : Sm K (d + 1) H x y := by
  induction h with
  | atom h => exact .atom h
  | lst h1 h2 h3 h4 _ ih => exact .lst h1 h2 h3 h4 ih
  | tup h1 h2 h3 h4 _ ih => exact .tup h1 h2 h3 h4 ih
  | dic h1 h2 h3 h4 h5 _ ih => exact .dic h1 h2 h3 h4 h5 ih
theorem Sm.int {K : PySem.W.Frag} {d : Nat} {H : Hp} {i j : Int} (h : i = j) : Sm K (d + 1) H (.int i) (.int j) := by subst h; exact .atom rfl
theorem Sm.bl {K : PySem.W.Frag} {d : Nat} {H : Hp} {i j : Bool} (h : i = j) : Sm K (d + 1) H (.bl i) (.bl j) := by subst h; exact .atom rfl
theorem tyx_l {K : PySem.W.Frag} {H : Hp} {a : Addr} {xs : List V} (h : SqL K H a xs) : TyX K H (.ref a) (.type "list") := by
  rcases h with (h | ⟨o, h⟩) | ⟨o, its, n, h1, h2, _⟩
  · exact .base (.lst h)
  · exact .base (.frz h)
  · exact .kList h1 h2
theorem tyx_t {K : PySem.W.Frag} {H : Hp} {a : Addr} {xs : List V} (h : SqT K H a xs) : TyX K H (.ref a) (.type "tuple") := by
  rcases h with (h | ⟨o, h⟩) | ⟨o, its, n, h1, h2, _⟩
  · exact .base (.tup h)
  · exact .fTuple h
  · exact .kTuple h1 h2
theorem pair_ix {R : V → V → Prop} : ∀ {xs ys : List V}, Paired R xs ys → ∀ (i : Nat) x y, xs[i]? = some x → ys[i]? = some y → R x y
  | _, _, .nil, i, x, y, h, _ => by simp at h
  | _, _, .cons r _, 0, x, y, h, g => by
    cases h
    cases g
    exact r
  | _, _, .cons _ t, i + 1, x, y, h, g => pair_ix t i x y h g
theorem Sm.lstP {K : PySem.W.Frag} {d : Nat} {H : Hp} {a b : Addr} {xs ys : List V} (h1 : SqL K H a xs) (h2 : SqL K H b ys) (h3 : ys.length ≤ 100000) (p : Paired (Sm K d H) xs ys) : Sm K (d + 1) H (.ref a) (.ref b) :=
  .lst h1 h2 p.length h3 (pair_ix p)
theorem Sm.tupP {K : PySem.W.Frag} {d : Nat} {H : Hp} {a b : Addr} {xs ys : List V} (h1 : SqT K H a xs) (h2 : SqT K H b ys) (h3 : ys.length ≤ 100000) (p : Paired (Sm K d H) xs ys) : Sm K (d + 1) H (.ref a) (.ref b) :=
  .tup h1 h2 p.length h3 (pair_ix p)
def sp__law_same (d : Nat) (K : PySem.W.Frag) : Sp := fun vs H Q _ => ∃ x y, vs = [x, y] ∧ Sm K d H x y ∧ ∀ H', Same H H' → Q (.bl true) H'
theorem fnok_never {CX : CXT} {k : Nat} {f : Addr} {fd : FuncData} {ps : List Str} {sp : Sp} (h : ∀ vs H Q E, ¬ sp vs H Q E) : FnOk P w K mg base CX k f fd ps sp where
  len := fun vs H Q E z => (h vs H Q E z).elim
  run := fun A outer s H args us vs Q E hr h0 hb hv z => (h vs H Q E z).elim
theorem T0.ok__law_same_succ (T : T0 K mg) {d : Nat} (G : FnOk P w K mg base CX0 d T.a__law_same T.fd__law_same ["actual", "due"] (sp__law_same d K)) : FnOk P w K mg base CX0 (d + 1) T.a__law_same T.fd__law_same ["actual", "due"] (sp__law_same (d + 1) K) := by
  refine T.F__law_same.ok sc__law_same (fun vs H Q E h => ?_) (fun cdv A outer s H vs Q E hr h => ?_)
  · obtain ⟨x, y, rfl, _⟩ := h
    rfl
  · obtain ⟨x, y, rfl, hS, q⟩ := h
    refine ⟨_, (pss_cons (ps_if (pt_cmpR op_isN (pv 1) pe_non (nomark _)) (pss_one (ps_ret (pe_cmpR op_isN (pv 0) pe_non (nomark _)))) pss_nil)
        (pss_cons (ps_if (pt_cmpR op_isB (pv 1) pe_bl (nomark _)) (pss_one (ps_ret (pe_cmpR op_isB (pv 0) pe_bl (nomark _)))) pss_nil)
        (pss_cons (ps_if (pt_cmpR op_isB (pv 1) pe_bl (nomark _)) (pss_one (ps_ret (pe_cmpR op_isB (pv 0) pe_bl (nomark _)))) pss_nil)
        (pss_cons (ps_if (pt_val (pe_callB (call_isinstK (K := K)) (by rfl) T.m_isinstance (by decide +kernel) (pa_cons (pv 1) (pa_cons (pe_bltn (v := .ty "int") (by rfl) T.m_int (by decide +kernel) rfl) pa_nil)))) (pss_one (ps_ret (pe_and (pe_callB (call_isinstK (K := K)) (by rfl) T.m_isinstance (by decide +kernel) (pa_cons (pv 0) (pa_cons (pe_bltn (v := .ty "int") (by rfl) T.m_int (by decide +kernel) rfl) pa_nil))) (pe_and (pe_not (pe_callB (call_isinstK (K := K)) (by rfl) T.m_isinstance (by decide +kernel) (pa_cons (pv 0) (pa_cons (pe_bltn (v := .ty "bool") (by rfl) T.m_bool (by decide +kernel) rfl) pa_nil)))) (pe_one (pe_cmpR op_eq (pv 0) (pv 1) (nomark _))))))) pss_nil)
        (pss_cons (ps_if (pt_val (pe_callB (call_isinstK (K := K)) (by rfl) T.m_isinstance (by decide +kernel) (pa_cons (pv 1) (pa_cons (pe_bltn (v := .ty "str") (by rfl) T.m_str (by decide +kernel) rfl) pa_nil)))) (pss_one (ps_ret (pe_and (pe_callB (call_isinstK (K := K)) (by rfl) T.m_isinstance (by decide +kernel) (pa_cons (pv 0) (pa_cons (pe_bltn (v := .ty "str") (by rfl) T.m_str (by decide +kernel) rfl) pa_nil))) (pe_one (pe_cmpR op_eq (pv 0) (pv 1) (nomark _)))))) pss_nil)
        (pss_cons (ps_if (pt_val (pe_callB (call_isinstK (K := K)) (by rfl) T.m_isinstance (by decide +kernel) (pa_cons (pv 1) (pa_cons (pe_bltn (v := .ty "dict") (by rfl) T.m_dict (by decide +kernel) rfl) pa_nil)))) (pss_one (ps_ret (pe_and (pe_callB (call_isinstK (K := K)) (by rfl) T.m_isinstance (by decide +kernel) (pa_cons (pv 0) (pa_cons (pe_bltn (v := .ty "dict") (by rfl) T.m_dict (by decide +kernel) rfl) pa_nil))) (pe_one (pe_call G hr (by rfl) T.g__law_same T.k__law_same T.b__law_same .nil pass0 (pa_cons (LiI.pe_listItems rfl (pv 0) (by rfl) T.m_list (by decide +kernel)) (pa_cons (LiI.pe_listItems rfl (pv 1) (by rfl) T.m_list (by decide +kernel)) pa_nil))))))) pss_nil)
        (C8.pss_cut (ps_if (PW.pt (pw_and (pt_val (pe_callB (call_isinstK (K := K)) (by rfl) T.m_isinstance (by decide +kernel) (pa_cons (pv 1) (pa_cons (pe_bltn (v := .ty "tuple") (by rfl) T.m_tuple (by decide +kernel) rfl) pa_nil)))) (pw_and1 (pt_not (pt_val (pe_callB (call_isinstK (K := K)) (by rfl) T.m_isinstance (by decide +kernel) (pa_cons (pv 0) (pa_cons (pe_bltn (v := .ty "tuple") (by rfl) T.m_tuple (by decide +kernel) rfl) pa_nil)))))))) (pss_one (ps_ret pe_bl)) pss_nil)
        (C8.pss_cut (ps_if (PW.pt (pw_and (pt_val (pe_callB (call_isinstK (K := K)) (by rfl) T.m_isinstance (by decide +kernel) (pa_cons (pv 1) (pa_cons (pe_bltn (v := .ty "list") (by rfl) T.m_list (by decide +kernel) rfl) pa_nil)))) (pw_and1 (pt_not (pt_val (pe_callB (call_isinstK (K := K)) (by rfl) T.m_isinstance (by decide +kernel) (pa_cons (pv 0) (pa_cons (pe_bltn (v := .ty "list") (by rfl) T.m_list (by decide +kernel) rfl) pa_nil)))))))) (pss_one (ps_ret pe_bl)) pss_nil)
        (pss_cons (ps_if (pt_cmpR op_ne (pe_callB (call_lenK (K := K)) (by rfl) T.m_len PySem.boot_len (pa_cons (pv 0) pa_nil)) (pe_callB (call_lenK (K := K)) (by rfl) T.m_len PySem.boot_len (pa_cons (pv 1) pa_nil)) (nomark _)) (pss_one (ps_ret pe_bl)) pss_nil)
        (pss_cons (ps_for PassesOwn.never rfl (pi_range1 (by rfl) T.m_range (pa_cons (pe_callB (call_lenK (K := K)) (by rfl) T.m_len PySem.boot_len (pa_cons (pv 1) pa_nil)) pa_nil)) (pg_name (i := 2) sc__law_same.nd rfl (Or.inl rfl)) (pss_one (ps_if (pt_not (pt_val (pe_call G hr (by rfl) T.g__law_same T.k__law_same T.b__law_same .nil pass0 (pa_cons (pe_ix ix_seq (pv 0) (pv 2) (fun _ _ => rfl)) (pa_cons (pe_ix ix_seq (pv 1) (pv 2) (fun _ _ => rfl)) pa_nil))))) (pss_one (ps_ret pe_bl)) pss_nil)))
        (pss_one (ps_ret pe_bl)))))))))))), ?_⟩
    refine ⟨_, rfl, rfl, _, rfl, ite2 (fun e => ?_) (fun e => ?_)⟩
    · have e := of_decide_eq_true e
      subst e
      cases hS with
      | atom _ => exact ⟨_, rfl, rfl, q _ (.refl _)⟩
    refine ⟨_, rfl, _, rfl, _, rfl, ite2 (fun e => ?_) (fun e => ?_)⟩
    · have e := of_decide_eq_true e
      subst e
      cases hS with
      | atom _ => exact ⟨_, rfl, _, rfl, q _ (.refl _)⟩
    refine ⟨_, rfl, _, rfl, _, rfl, ite2 (fun e => ?_) (fun e => ?_)⟩
    · have e := of_decide_eq_true e
      subst e
      cases hS with
      | atom _ => exact ⟨_, rfl, _, rfl, q _ (.refl _)⟩
    rename_i hn ht
    have hS' : (x = y ∧ atomV x = true) ∨ (∃ (T : String) (a b : Addr) (xs ys : List V), x = .ref a ∧ y = .ref b ∧ (T = "list" ∧ SqL K H a xs ∧ SqL K H b ys ∨ T = "tuple" ∧ SqT K H a xs ∧ SqT K H b ys) ∧ xs.length = ys.length ∧ ys.length ≤ 100000 ∧ ∀ (i : Nat) x y, xs[i]? = some x → ys[i]? = some y → Sm K d H x y) ∨
        (∃ (e : Nat) (a b : Addr) (xs ys : List (Key × V)), d = e + 3 ∧ x = .ref a ∧ y = .ref b ∧ H a = some (.dK xs) ∧ H b = some (.dK ys) ∧ xs.length = ys.length ∧ ys.length ≤ 100000 ∧ (∀ (i : Nat) x y, xs[i]? = some x → ys[i]? = some y → x.1 = y.1) ∧
          ∀ (i : Nat) x y, xs[i]? = some x → ys[i]? = some y → Sm K (e + 1) H x.2 y.2) := by
      cases hS with
      | atom h => exact .inl ⟨rfl, h⟩
      | lst h1 h2 h3 h4 h5 => exact .inr (.inl ⟨"list", _, _, _, _, rfl, rfl, .inl ⟨rfl, h1, h2⟩, h3, h4, h5⟩)
      | tup h1 h2 h3 h4 h5 => exact .inr (.inl ⟨"tuple", _, _, _, _, rfl, rfl, .inr ⟨rfl, h1, h2⟩, h3, h4, h5⟩)
      | dic h1 h2 h3 h4 h5 h6 => exact .inr (.inr ⟨_, _, _, _, _, rfl, rfl, rfl, h1, h2, h3, h4, h5, h6⟩)
    rcases hS' with ⟨rfl, hx⟩ | ⟨t, a, b, xs, ys, rfl, rfl, hk, hl, hz, hi⟩ | ⟨c, a, b, xs, ys, rfl, rfl, rfl, h1, h2, hl, hz, hk, hi⟩
    · cases x with
      | non => exact absurd (decide_eq_true rfl) hn
      | bl b => cases b with
        | true => exact absurd (decide_eq_true rfl) ht
        | false => exact absurd (decide_eq_true rfl) e
      | int i =>
        refine ⟨_, rfl, _, _, _, _, true, rfl, .ty "int", .base (.int _), kit_ty (by decide +kernel), _, rfl, iteT ?_⟩
        refine ⟨_, rfl, _, _, _, _, true, rfl, .ty "int", .base (.int _), kit_ty (by decide +kernel), _, rfl, iteT ?_⟩
        refine ⟨_, rfl, _, _, _, _, false, rfl, .ty "bool", .base (.int _), kit_ty (by decide +kernel), _, rfl, _, rfl, iteT ?_⟩
        refine ⟨_, rfl, _, rfl, rfl, ?_⟩
        rw [decide_eq_true rfl]
        exact q _ (.refl _)
      | str i =>
        refine ⟨_, rfl, _, _, _, _, false, rfl, .ty "int", .base (.str _), kit_ty (by decide +kernel), _, rfl, iteF ?_⟩
        refine ⟨_, rfl, _, _, _, _, true, rfl, .ty "str", .base (.str _), kit_ty (by decide +kernel), _, rfl, iteT ?_⟩
        refine ⟨_, rfl, _, _, _, _, true, rfl, .ty "str", .base (.str _), kit_ty (by decide +kernel), _, rfl, iteT ?_⟩
        refine ⟨_, rfl, _, rfl, rfl, ?_⟩
        rw [decide_eq_true rfl]
        exact q _ (.refl _)
      | _ => cases hx
    · have tb : TyX K H (.ref b) (.type t) := by
        rcases hk with ⟨rfl, _, h⟩ | ⟨rfl, _, h⟩
        · exact tyx_l h
        · exact tyx_t h
      have ta : TyX K H (.ref a) (.type t) := by
        rcases hk with ⟨rfl, h, _⟩ | ⟨rfl, h, _⟩
        · exact tyx_l h
        · exact tyx_t h
      have tt : t = "list" ∨ t = "tuple" := hk.imp (fun h => h.1) (fun h => h.1)
      refine ⟨_, rfl, _, _, _, _, false, rfl, .ty "int", tb, kit_ty (by rcases tt with rfl | rfl <;> decide +kernel), _, rfl, iteF ?_⟩
      refine ⟨_, rfl, _, _, _, _, false, rfl, .ty "str", tb, kit_ty (by rcases tt with rfl | rfl <;> decide +kernel), _, rfl, iteF ?_⟩
      refine ⟨_, rfl, _, _, _, _, false, rfl, .ty "dict", tb, kit_ty (by rcases tt with rfl | rfl <;> decide +kernel), _, rfl, iteF ?_⟩
      refine ⟨fun σ' H' => σ' = [some (.ref a), some (.ref b), none] ∧ H = H', ?_, ?_⟩
      · rcases tt with rfl | rfl
        · refine ⟨_, rfl, _, _, _, _, false, rfl, .ty "tuple", tb, kit_ty (by decide +kernel), _, rfl, iteF (iteF ⟨rfl, rfl⟩)⟩
        · refine ⟨_, rfl, _, _, _, _, true, rfl, .ty "tuple", tb, kit_ty (by decide +kernel), _, rfl, iteT ?_⟩
          refine ⟨_, rfl, _, _, _, _, true, rfl, .ty "tuple", ta, kit_ty (by decide +kernel), _, rfl, iteF ⟨rfl, rfl⟩⟩
      rintro _ _ ⟨rfl, rfl⟩
      refine ⟨fun σ' H' => σ' = [some (.ref a), some (.ref b), none] ∧ H = H', ?_, ?_⟩
      · rcases tt with rfl | rfl
        · refine ⟨_, rfl, _, _, _, _, true, rfl, .ty "list", tb, kit_ty (by decide +kernel), _, rfl, iteT ?_⟩
          refine ⟨_, rfl, _, _, _, _, true, rfl, .ty "list", ta, kit_ty (by decide +kernel), _, rfl, iteF ⟨rfl, rfl⟩⟩
        · refine ⟨_, rfl, _, _, _, _, false, rfl, .ty "list", tb, kit_ty (by decide +kernel), _, rfl, iteF (iteF ⟨rfl, rfl⟩)⟩
      rintro _ _ ⟨rfl, rfl⟩
      have la : SqL K H a xs ∨ SqT K H a xs := hk.imp (fun h => h.2.1) (fun h => h.2.1)
      have lb : SqL K H b ys ∨ SqT K H b ys := hk.imp (fun h => h.2.2) (fun h => h.2.2)
      refine ⟨_, rfl, a, xs, rfl, la, _, rfl, b, ys, rfl, lb, rfl, _, rfl, ?_⟩
      rw [hl, decide_eq_true rfl]
      refine iteF ?_
      -- for k in range(len(due))
      refine ⟨_, rfl, b, ys, rfl, lb, (ys.length : Int), rfl, by omega, by omega, ?_⟩
      rw [Int.toNat_natCast]
      refine for_range (lo := 0) (n := ys.length) (fun _ σ' H' => (∃ o, σ' = [some (.ref a), some (.ref b), o]) ∧ Same H H') ⟨⟨none, rfl⟩, .refl _⟩ (fun i σ' H' hlt p => ?_) (fun σ' H' p => ?_)
      · obtain ⟨⟨o, rfl⟩, sm⟩ := p
        obtain ⟨u, hu⟩ : ∃ u, xs[i]? = some u := ⟨_, List.getElem?_eq_getElem (by omega)⟩
        obtain ⟨v, hv⟩ : ∃ v, ys[i]? = some v := ⟨_, List.getElem?_eq_getElem (by omega)⟩
        rw [Int.zero_add]
        have sa : ∀ Q : VK, Q u H' → rIx K (.ref a) (.int (i : Int)) H' Q := fun Q h => by
          rcases la with l | l
          · exact .inl ⟨a, xs, i, u, rfl, rfl, sm.seq l, atI_nat hu, h⟩
          · exact .inr (.inl ⟨a, xs, i, u, rfl, rfl, same_t sm l, atI_nat hu, h⟩)
        have sb : ∀ Q : VK, Q v H' → rIx K (.ref b) (.int (i : Int)) H' Q := fun Q h => by
          rcases lb with l | l
          · exact .inl ⟨b, ys, i, v, rfl, rfl, sm.seq l, atI_nat hv, h⟩
          · exact .inr (.inl ⟨b, ys, i, v, rfl, rfl, same_t sm l, atI_nat hv, h⟩)
        refine ⟨_, rfl, _, rfl, sa _ ⟨_, rfl, _, rfl, sb _ ⟨u, v, rfl, (hi i u v hu hv).same sm, fun H2 s2 => ⟨true, rfl, iteF ?_⟩⟩⟩⟩
        exact ⟨⟨_, rfl⟩, sm.trans s2⟩
      · obtain ⟨⟨o, rfl⟩, sm⟩ := p
        exact q _ sm
    · have tb : TyX K H (.ref b) (.type "dict") := .base (.dK h2)
      have ta : TyX K H (.ref a) (.type "dict") := .base (.dK h1)
      refine ⟨_, rfl, _, _, _, _, false, rfl, .ty "int", tb, kit_ty (by decide +kernel), _, rfl, iteF ?_⟩
      refine ⟨_, rfl, _, _, _, _, false, rfl, .ty "str", tb, kit_ty (by decide +kernel), _, rfl, iteF ?_⟩
      refine ⟨_, rfl, _, _, _, _, true, rfl, .ty "dict", tb, kit_ty (by decide +kernel), _, rfl, iteT ?_⟩
      refine ⟨_, rfl, _, _, _, _, true, rfl, .ty "dict", ta, kit_ty (by decide +kernel), _, rfl, iteT ?_⟩
      refine ⟨_, rfl, a, xs, rfl, h1, fun H2 p1 t1 s2 n1 nt1 np1 e1 pr1 => ?_⟩
      refine ⟨_, rfl, b, ys, rfl, s2 _ _ h2, fun H3 p2 t2 s3 n2 nt2 np2 e2 pr2 => ?_⟩
      have l1 : t1.length = xs.length := pr1.length
      have l2 : t2.length = ys.length := pr2.length
      refine ⟨_, _, rfl, .lst (SqL.of (s3 _ _ e1)) (SqL.of e2) (by rw [List.length_map, List.length_map]; omega) (by rw [List.length_map]; omega) (fun i u v hu hv => ?_), fun H4 s4 => q _ (Same.trans (Same.trans s2 s3) s4)⟩
      rw [List.getElem?_map] at hu hv
      obtain ⟨u1, hu1, rfl⟩ := Option.map_eq_some_iff.mp hu
      obtain ⟨v1, hv1, rfl⟩ := Option.map_eq_some_iff.mp hv
      obtain ⟨x1, hx1, r1⟩ := paired_get pr1 hu1
      obtain ⟨x2, hx2, r2⟩ := paired_get pr2 hv1
      refine .tup (SqT.of (s3 _ _ r1)) (SqT.of r2) rfl (by show 2 ≤ 100000; decide) (fun j y z hy hz => ?_)
      have e12 := hk i x1 x2 hx1 hx2
      match j with
      | 0 =>
        cases hy
        cases hz
        rw [e12]
        exact .atom (by cases x2.1 <;> rfl)
      | 1 =>
        cases hy
        cases hz
        exact (hi i x1 x2 hx1 hx2).same (Same.trans s2 s3)
      | j + 2 => cases hy
theorem T0.ok__law_same (T : T0 K mg) : ∀ d : Nat, FnOk P w K mg base CX0 d T.a__law_same T.fd__law_same ["actual", "due"] (sp__law_same d K)
  | 0 => fnok_never fun vs H Q E h => by
    obtain ⟨x, y, _, h, _⟩ := h
    cases h
  | d + 1 => T.ok__law_same_succ (T.ok__law_same d)
/-! ### far -/
def farL (n a b : Int) : Int := (b - a - 1).fmod n + 1
def sp_far (K : PySem.W.Frag) : Sp := fun vs H Q _ => ∃ n a b : Int, vs = [.int n, .int a, .int b] ∧ 0 < n ∧ Q (.int (farL n a b)) H
theorem T0.ok_far (T : T0 K mg) : FnOk P w K mg base CX0 1 T.a_far T.fd_far ["size", "start", "end"] (sp_far K) := by
  refine T.F_far.ok sc_far (fun vs H Q E h => ?_) (fun cdv A outer s H vs Q E hr h => ?_)
  · obtain ⟨n, a, b, rfl, _⟩ := h
    rfl
  · obtain ⟨n, a, b, rfl, hn, q⟩ := h
    refine ⟨_, (pss_one (ps_ret (pe_op op_add (pe_op op_modN (pe_op op_sub (pe_op op_sub (pv 2) (pv 1)) pe_int) (pv 0)) pe_int))), ?_⟩
    exact ⟨_, rfl, _, rfl, _, _, rfl, rfl, _, _, rfl, rfl, _, rfl, _, _, rfl, rfl, by omega, _, _, rfl, rfl, q⟩
theorem far_range (a b : Int) {n : Int} (h : 0 < n) : 1 ≤ farL n a b ∧ farL n a b ≤ n := by
  have := fmod_range (b - a - 1) h
  unfold farL
  omega
theorem far_emod (a b : Int) {n : Int} (h : 0 < n) : farL n a b = (b - a - 1) % n + 1 := by
  unfold farL
  rw [Int.fmod_eq_emod_of_nonneg _ (by omega)]
theorem far_eq (a b : Int) {n : Int} (h : 0 < n) : farL n a b = if (b - a).fmod n = 0 then n else (b - a).fmod n := by
  rw [far_emod a b h, Int.fmod_eq_emod_of_nonneg _ (by omega)]
  have e := Int.emod_add_mul_ediv (b - a) n
  have h0 := Int.emod_nonneg (b - a) (by omega : n ≠ 0)
  have h1 := Int.emod_lt_of_pos (b - a) h
  by_cases z : (b - a) % n = 0
  · rw [if_pos z]
    rw [z] at e
    rw [show b - a - 1 = (n - 1) + n * ((b - a) / n - 1) by rw [Int.mul_sub]; omega, Int.add_mul_emod_self_left, Int.emod_eq_of_lt (by omega) (by omega)]
    omega
  · rw [if_neg z]
    rw [show b - a - 1 = ((b - a) % n - 1) + n * ((b - a) / n) by omega, Int.add_mul_emod_self_left, Int.emod_eq_of_lt (by omega) (by omega)]
    omega
def sp_between (K : PySem.W.Frag) : Sp := fun vs H Q _ => ∃ n a p b : Int, vs = [.int n, .int a, .int p, .int b] ∧ 0 < n ∧ Q (.bl (decide (farL n a p < farL n a b))) H
theorem T0.ok_between (T : T0 K mg) : FnOk P w K mg base CX0 2 T.a_between T.fd_between ["size", "start", "place", "end"] (sp_between K) := by
  refine T.F_between.ok sc_between (fun vs H Q E h => ?_) (fun cdv A outer s H vs Q E hr h => ?_)
  · obtain ⟨n, a, p, b, rfl, _⟩ := h
    rfl
  · obtain ⟨n, a, p, b, rfl, hn, q⟩ := h
    refine ⟨_, (pss_one (ps_ret (pe_cmpR op_lt (pe_call T.ok_far hr (by rfl) T.g_far T.k_far T.b_far .nil pass0 (pa_cons (pv 0) (pa_cons (pv 1) (pa_cons (pv 2) pa_nil)))) (pe_call T.ok_far hr (by rfl) T.g_far T.k_far T.b_far .nil pass0 (pa_cons (pv 0) (pa_cons (pv 1) (pa_cons (pv 3) pa_nil)))) (nomark _)))), ?_⟩
    exact ⟨_, rfl, _, rfl, _, rfl, _, _, _, rfl, hn, _, rfl, _, rfl, _, rfl, _, _, _, rfl, hn, _, _, rfl, rfl, q⟩
def sp__law_far (K : PySem.W.Frag) : Sp := fun vs H Q _ => ∃ n a b : Int, vs = [.int n, .int a, .int b] ∧ 0 < n ∧ Q (.int (farL n a b)) H
theorem T0.ok__law_far (T : T0 K mg) : FnOk P w K mg base CX0 1 T.a__law_far T.fd__law_far ["size", "start", "end"] (sp__law_far K) := by
  refine T.F__law_far.ok sc__law_far (fun vs H Q E h => ?_) (fun cdv A outer s H vs Q E hr h => ?_)
  · obtain ⟨n, a, b, rfl, _⟩ := h
    rfl
  · obtain ⟨n, a, b, rfl, hn, q⟩ := h
    refine ⟨_, (pss_cons (ps_set (i := 3) sc__law_far.nd rfl (Or.inl rfl) (pe_op op_modN (pe_callTy call_int1 (by rfl) T.m_int (by decide +kernel) (pa_cons (pe_op op_sub (pv 2) (pv 1)) pa_nil)) (pv 0)))
        (pss_cons (ps_if (pt_cmpR op_eq (pv 3) pe_int (nomark _)) (pss_one (ps_ret (pv 0))) pss_nil)
        (pss_one (ps_ret (pv 3))))), ?_⟩
    rw [far_eq a b hn] at q
    refine ⟨_, rfl, _, rfl, _, _, rfl, rfl, .inl ⟨_, rfl, _, rfl, _, _, rfl, rfl, by omega, ?_⟩⟩
    refine ⟨_, rfl, rfl, _, rfl, ite2 (fun e => ?_) (fun e => ?_)⟩
    · rw [if_pos (V.int.inj (of_decide_eq_true e))] at q
      exact ⟨_, rfl, q⟩
    · rw [if_neg (fun z => e (decide_eq_true (congrArg V.int z)))] at q
      exact ⟨_, rfl, q⟩
def sp__law_between (K : PySem.W.Frag) : Sp := fun vs H Q _ => ∃ n a p b : Int, vs = [.int n, .int a, .int p, .int b] ∧ 0 < n ∧ Q (.bl (decide (farL n a p < farL n a b))) H
theorem T0.ok__law_between (T : T0 K mg) : FnOk P w K mg base CX0 2 T.a__law_between T.fd__law_between ["size", "start", "place", "end"] (sp__law_between K) := by
  refine T.F__law_between.ok sc__law_between (fun vs H Q E h => ?_) (fun cdv A outer s H vs Q E hr h => ?_)
  · obtain ⟨n, a, p, b, rfl, _⟩ := h
    rfl
  · obtain ⟨n, a, p, b, rfl, hn, q⟩ := h
    refine ⟨_, (pss_cons (ps_if (PW.pt (pw_or (pt_cmpR op_eq (pv 2) (pv 1) (nomark _)) (pw_or1 (pt_cmpR op_eq (pv 2) (pv 3) (nomark _))))) (pss_one (ps_ret pe_bl)) pss_nil)
        (pss_one (ps_ret (pe_cmpR op_lt (pe_call T.ok__law_far hr (by rfl) T.g__law_far T.k__law_far T.b__law_far .nil pass0 (pa_cons (pv 0) (pa_cons (pv 1) (pa_cons (pv 2) pa_nil)))) (pe_call T.ok__law_far hr (by rfl) T.g__law_far T.k__law_far T.b__law_far .nil pass0 (pa_cons (pv 0) (pa_cons (pv 1) (pa_cons (pv 3) pa_nil)))) (nomark _))))), ?_⟩
    refine v_when (by walk_at "ans") (fun e => ?_) (fun e => ?_)
    · rw [dec_int, dec_int] at e
      have e : p = a ∨ p = b := by simpa using e
      have f : ¬ (farL n a p < farL n a b) := by
        rcases e with rfl | rfl
        · have h1 := far_range p b hn
          rw [far_eq p p hn, Int.sub_self, Int.zero_fmod, if_pos rfl]
          omega
        · omega
      rw [decide_eq_false f] at q
      exact q
    · exact ⟨_, rfl, _, rfl, _, rfl, n, a, p, rfl, hn, _, rfl, _, rfl, _, rfl, n, a, b, rfl, hn, _, _, rfl, rfl, q⟩
/-! ### the law's own defs -/
def BI (x : Int) (ys : List Int) (j : Nat) (y : Int) : Prop := x ≤ y ∧ y ≤ x + j ∧ ((∀ e ∈ ys.take j, e < y) ∨ ∃ e ∈ ys.take j, y < e ∧ ∀ f ∈ ys.take j, f ≠ y)
theorem BI.zero {x : Int} {ys : List Int} : BI x ys 0 x := ⟨Int.le_refl _, by omega, .inl fun e h => by rw [List.take_zero] at h; cases h⟩
theorem mem_take_le {ys : List Int} (pw : ys.Pairwise (· ≤ ·)) {j : Nat} {z e : Int} (hz : ys[j]? = some z) (he : e ∈ ys.take j) : e ≤ z := by
  obtain ⟨i, hi⟩ := List.mem_iff_getElem?.mp he
  rw [List.getElem?_take] at hi
  split at hi
  · rename_i lt
    obtain ⟨h1, rfl⟩ := List.getElem?_eq_some_iff.mp hi
    obtain ⟨h2, rfl⟩ := List.getElem?_eq_some_iff.mp hz
    exact List.pairwise_iff_getElem.mp pw i j h1 h2 lt
  · cases hi
theorem BI.step {x : Int} {ys : List Int} {j : Nat} {y z : Int} (pw : ys.Pairwise (· ≤ ·)) (hz : ys[j]? = some z) (h : BI x ys j y) : BI x ys (j + 1) (if z ≤ y then y + 1 else y) := by
  obtain ⟨a, b, c⟩ := h
  have mt : ∀ f, f ∈ ys.take (j + 1) ↔ f ∈ ys.take j ∨ f = z := fun f => by rw [List.take_add_one, hz, Option.toList_some, List.mem_append, List.mem_singleton]
  by_cases e : z ≤ y
  · rw [if_pos e]
    refine ⟨by omega, by omega, ?_⟩
    rcases c with c | ⟨f, hf, hy, _⟩
    · refine .inl fun g hg => ?_
      rcases (mt g).mp hg with hg | rfl
      · have := c g hg
        omega
      · omega
    · have := mem_take_le pw hz hf
      omega
  · rw [if_neg e]
    refine ⟨a, by omega, .inr ?_⟩
    rcases c with c | ⟨f, hf, hy, hn⟩
    · refine ⟨z, (mt z).mpr (.inr rfl), by omega, fun g hg => ?_⟩
      rcases (mt g).mp hg with hg | rfl
      · have := c g hg
        omega
      · omega
    · refine ⟨f, (mt f).mpr (.inl hf), hy, fun g hg => ?_⟩
      rcases (mt g).mp hg with hg | rfl
      · exact hn g hg
      · omega
theorem BI.done {x : Int} {ys : List Int} {y : Int} (h : BI x ys ys.length y) : y ∉ ys := by
  obtain ⟨_, _, c⟩ := h
  rw [List.take_length] at c
  intro m
  rcases c with c | ⟨f, hf, hy, hn⟩
  · have := c y m
    omega
  · exact hn y m rfl
theorem Kp.free {t c l : Addr} {H H' : Hp} (k : Kp t H H') (T : Tape H' t c) (nl : H' l = none) : H l = none := by
  cases e : H l with
  | none => rfl
  | some o =>
    by_cases z : l = t
    · obtain ⟨_, _, _, _, _, e1, _⟩ := T
      rw [z, e1] at nl
      cases nl
    · rw [k _ _ z e] at nl
      cases nl
def sp__law_places (K : PySem.W.Frag) : Sp := fun vs H Q _ => ∃ (t c : Addr) (n m : Int), vs = [.ref t, .int n, .int m] ∧ Tape H t c ∧ 0 ≤ m ∧ m ≤ n ∧ m ≤ 60 ∧ n ≤ 1000000000 ∧ ∀ p (ms : List Int) H', H p = none → H' p = some (.lst (ms.map V.int)) → (ms.length : Int) = m → ms.Nodup → (∀ k ∈ ms, 0 ≤ k ∧ k < n) → Kp t H H' → Tape H' t c → Q (.ref p) H'
theorem T0.ok__law_places (T : T0 K mg) : FnOk P w K mg base CX0 2 T.a__law_places T.fd__law_places ["tape", "size", "count"] (sp__law_places K) := by
  refine T.F__law_places.ok sc__law_places (fun vs H Q E h => ?_) (fun cdv A outer s H vs Q E hr h => ?_)
  · obtain ⟨t, c, n, m, rfl, _⟩ := h
    rfl
  · obtain ⟨t, c, n, m, rfl, hT, hm0, hmn, hm6, hn9, q⟩ := h
    refine ⟨_, (pss_cons (ps_set (i := 3) sc__law_places.nd rfl (Or.inl rfl) (pe_lst pa_nil))
        (pss_cons (ps_for PassesOwn.never rfl (pi_range1 (by rfl) T.m_range (pa_cons (pv 2) pa_nil)) (pg_name (i := 4) sc__law_places.nd rfl (Or.inl rfl)) (pss_cons (ps_set (i := 5) sc__law_places.nd rfl (Or.inl rfl) (pe_call T.ok__law_pick hr (by rfl) T.g__law_pick T.k__law_pick T.b__law_pick .nil pass0 (pa_cons (pv 0) (pa_cons (pe_op op_sub (pv 1) (pv 4)) pa_nil))))
        (pss_cons (ps_for PassesOwn.never rfl (pi_list (pe_callB (cr_sortedK (K := K)) (by rfl) T.m_sorted (by decide +kernel) (pa_cons (pv 3) pa_nil))) (pg_name (i := 6) sc__law_places.nd rfl (Or.inl rfl)) (pss_one (ps_if (pt_cmpR op_le (pv 6) (pv 5) (nomark _)) (pss_one (ps_set (i := 5) sc__law_places.nd rfl (Or.inl rfl) (pe_op op_add (pv 5) pe_int))) pss_nil)))
        (pss_one (ps_expr (pe_bm PySem.F.plainAttrs_list PySem.F.slot_list_append PySem.F.type_list_append mt_append (pv 3) (pa_cons (pv 5) pa_nil)))))))
        (pss_one (ps_ret (pv 3))))), ?_⟩
    refine ⟨Nat.zero_le _, fun p np => ?_⟩
    have off := hT.off np
    refine ⟨_, rfl, m, rfl, by omega, by omega, ?_⟩
    refine for_range (lo := 0) (n := m.toNat) (fun i σ' H' => ∃ (o1 o2 o3 : Option V) (ms : List Int), σ' = [some (.ref t), some (.int n), some (.int m), some (.ref p), o1, o2, o3] ∧ ms.length = i ∧ ms.Nodup ∧ (∀ k ∈ ms, 0 ≤ k ∧ k < n) ∧ H' p = some (.lst (ms.map V.int)) ∧ Kp t H H' ∧ Tape H' t c)
      ⟨none, none, none, [], rfl, rfl, List.nodup_nil, fun _ h => (nomatch h), upd_same, Kp.of_same (same_upd np), hT.put off⟩ (fun i σ' H' hi pv => ?_) (fun σ' H' pv => ?_)
    · obtain ⟨o1, o2, o3, ms, rfl, hl, hnd, hrg, hp, kp, hT1⟩ := pv
      rw [Int.zero_add]
      refine ⟨_, rfl, _, rfl, _, rfl, _, _, rfl, rfl, ?_⟩
      refine ⟨t, c, n - i, rfl, hT1, by omega, by omega, fun x H2 x0 x1 kp2 hT2 => ?_⟩
      have hp2 := kp2 _ _ off.1 hp
      refine ⟨_, rfl, p, ms, rfl, SqL.of hp2, by omega, fun ss l perm pw nl => ?_⟩
      have hp3 : upd H2 l (.lst (ss.map V.int)) p = some (.lst (ms.map V.int)) := by rw [upd_ne (ne_of_none hp2 nl)]; exact hp2
      have kp3 : Kp t H (upd H2 l (.lst (ss.map V.int))) := (kp.trans kp2).new nl
      have hT3 : Tape (upd H2 l (.lst (ss.map V.int))) t c := hT2.put (hT2.off nl)
      have hl3 : upd H2 l (.lst (ss.map V.int)) l = some (.lst (ss.map V.int)) := upd_same
      generalize upd H2 l (.lst (ss.map V.int)) = H3 at hp3 kp3 hT3 hl3
      refine ⟨l, rfl, ⟨_, SqL.of hl3⟩, for_list (K := K) (a := l) (xs := ss.map V.int) (fun j σ2 H4 => ∃ (o3 : Option V) (y : Int), σ2 = [some (.ref t), some (.int n), some (.int m), some (.ref p), some (.int i), some (.int y), o3] ∧ H3 = H4 ∧ BI x ss j y) ⟨_, x, rfl, rfl, BI.zero⟩ (fun j σ2 H4 _ pv => by obtain ⟨_, _, _, rfl, _⟩ := pv; exact SqL.of hl3) (fun j v σ2 H4 hv pv => ?_) (fun σ2 H4 pv => ?_)⟩
      · obtain ⟨o3, y, rfl, rfl, bi⟩ := pv
        rw [List.getElem?_map] at hv
        obtain ⟨z, hz, rfl⟩ := Option.map_eq_some_iff.mp hv
        have st := bi.step pw hz
        refine ⟨_, rfl, _, rfl, _, _, rfl, rfl, _, rfl, ite2 (fun e => ?_) (fun e => ?_)⟩
        · rw [if_pos (of_decide_eq_true e)] at st
          exact ⟨_, rfl, _, _, rfl, rfl, _, _, rfl, rfl, st⟩
        · rw [if_neg (fun g => e (decide_eq_true g))] at st
          exact ⟨_, _, rfl, rfl, st⟩
      · obtain ⟨o3, y, rfl, rfl, bi⟩ := pv
        have sl := perm.length_eq
        rw [List.length_map] at bi
        have ny : y ∉ ms := fun g => bi.done (perm.mem_iff.mpr g)
        have yb := bi.2.1
        have ya := bi.1
        refine ⟨_, rfl, .inl ⟨rfl, _, SqL.of hp3⟩, _, rfl, p, _, _, rfl, rfl, hp3, small1000' (by rw [List.length_map]; omega), _, _, _, ms ++ [y], rfl, by rw [List.length_append, hl]; rfl, ?_, fun k hk => ?_, ?_, ?_, hT3.put off⟩
        · exact List.nodup_append.mpr ⟨hnd, List.pairwise_singleton _ _, fun a ha b hb z => by rw [List.mem_singleton.mp hb] at z; rw [z] at ha; exact ny ha⟩
        · rcases List.mem_append.mp hk with hk | hk
          · exact hrg k hk
          · rw [List.mem_singleton.mp hk]
            omega
        · rw [upd_same, List.map_append]
          rfl
        · intro b o nb e
          have nbp : b ≠ p := ne_of_none e np
          rw [upd_ne nbp]
          exact kp3 b o nb e
    · obtain ⟨o1, o2, o3, ms, rfl, hl, hnd, hrg, hp, kp, hT1⟩ := pv
      exact ⟨_, rfl, q p ms _ np hp (by omega) hnd hrg kp hT1⟩
--CUT
/-! ### places met going up -/
theorem ExtN.of_same {H H' : Hp} (s : Same H H') : LamX.ExtN H H' := fun b o e _ => s b o e
theorem sqL_extN {K : PySem.W.Frag} {H H' : Hp} {a : Addr} {xs : List V} (e : LamX.ExtN H H') (h : SqL K H a xs) : SqL K H' a xs := by
  rcases h with (h | ⟨o, h⟩) | h
  · exact .inl (.inl (e _ _ h fun ps z => nomatch z))
  · exact .inl (.inr ⟨o, e _ _ h fun ps z => nomatch z⟩)
  · exact .inr h
theorem extN_lst {H H' : Hp} {a : Addr} {xs : List V} (e : LamX.ExtN H H') (h : H a = some (.lst xs)) : H' a = some (.lst xs) := e _ _ h fun ps z => nomatch z
/-- a list is written: the tables stand -/
theorem tabs_off {T : List (Addr × Str)} {t : Addr} {xs : List V} {H H' : Hp} (h : LamX.Tabs T H) (ht : H t = some (.lst xs)) (k : Kp t H H') : LamX.Tabs T H' := fun p hp => by
  obtain ⟨ps, h1, h2, h3⟩ := h p hp
  refine ⟨ps, k _ _ (fun z => ?_) h1, h2, fun pos cv hc => ?_⟩
  · rw [z, ht] at h1
    cases h1
  · obtain ⟨c, e1, e2⟩ := h3 pos cv hc
    refine ⟨c, e1, k _ _ (fun z => ?_) e2⟩
    rw [z, ht] at e2
    unfold LamX.CodeO at e2
    cases e2
def keyF (n s x : Int) : Int := (x - s).fmod n
/-- the places as they are met going up from s -/
def metL (n s : Int) (xs : List Int) : List Int := xs.mergeSort fun a b => decide (keyF n s a ≤ keyF n s b)
theorem metL_perm (n s : Int) (xs : List Int) : (metL n s xs).Perm xs := List.mergeSort_perm _ _
theorem metL_sorted (n s : Int) (xs : List Int) : (metL n s xs).Pairwise fun a b => keyF n s a ≤ keyF n s b := by
  have h := List.pairwise_mergeSort (le := fun a b => decide (keyF n s a ≤ keyF n s b)) (fun a b c h1 h2 => by simp only [decide_eq_true_eq] at *; omega) (fun a b => by simp only [Bool.or_eq_true, decide_eq_true_eq]; omega) xs
  exact h.imp fun h => of_decide_eq_true h
theorem byKey_met (n s : Int) (xs : List Int) : byKey (xs.map V.int) (xs.map (keyF n s)) = (metL n s xs).map V.int := by
  have e : (xs.map V.int).zip (xs.map (keyF n s)) = xs.map fun x => (V.int x, keyF n s x) := by
    rw [List.zip_map']
  unfold byKey metL
  rw [e, ← List.map_mergeSort (r := fun a b => decide (keyF n s a ≤ keyF n s b)) (fun a _ b _ => rfl), List.map_map]
  rfl
theorem keyF_inj {n s x y : Int} (hx : 0 ≤ x ∧ x < n) (hy : 0 ≤ y ∧ y < n) (e : keyF n s x = keyF n s y) : x = y := by
  unfold keyF at e
  rw [Int.fmod_eq_emod_of_nonneg _ (by omega), Int.fmod_eq_emod_of_nonneg _ (by omega)] at e
  have e1 := Int.emod_add_mul_ediv (x - s) n
  have e2 := Int.emod_add_mul_ediv (y - s) n
  rw [e] at e1
  have d : x - y = n * ((x - s) / n - (y - s) / n) := by rw [Int.mul_sub]; omega
  have hd : (x - s) / n - (y - s) / n = 0 := by
    rcases Int.lt_trichotomy ((x - s) / n - (y - s) / n) 0 with h | h | h
    · have : n * ((x - s) / n - (y - s) / n) ≤ n * (-1) := Int.mul_le_mul_of_nonneg_left (by omega) (by omega)
      omega
    · exact h
    · have : n * 1 ≤ n * ((x - s) / n - (y - s) / n) := Int.mul_le_mul_of_nonneg_left (by omega) (by omega)
      omega
  rw [hd, Int.mul_zero] at d
  omega
theorem far_inj {n s x y : Int} (hn : 0 < n) (hx : 0 ≤ x ∧ x < n) (hy : 0 ≤ y ∧ y < n) (e : farL n s x = farL n s y) : x = y := by
  refine keyF_inj (n := n) (s := s + 1) hx hy ?_
  unfold farL at e
  unfold keyF
  rw [show x - (s + 1) = x - s - 1 by omega, show y - (s + 1) = y - s - 1 by omega]
  omega
theorem farB_inj {n s x y : Int} (hn : 0 < n) (hx : 0 ≤ x ∧ x < n) (hy : 0 ≤ y ∧ y < n) (e : farL n x s = farL n y s) : x = y := by
  unfold farL at e
  have e : (s - x - 1).fmod n = (s - y - 1).fmod n := by omega
  have h := keyF_inj (n := n) (s := 0) (x := n - 1 - x) (y := n - 1 - y) (by omega) (by omega) ?_
  · omega
  · unfold keyF
    rw [Int.fmod_eq_emod_of_nonneg _ (by omega), Int.fmod_eq_emod_of_nonneg _ (by omega)] at e ⊢
    have a1 : n - 1 - x - 0 = (s - x - 1) + (n - s) := by omega
    have a2 : n - 1 - y - 0 = (s - y - 1) + (n - s) := by omega
    rw [a1, a2, Int.add_emod, e, ← Int.add_emod]
/-- a list sorted by a key without two alike: there is but one -/
theorem sorted_one {f : Int → Int} : ∀ {xs ys : List Int}, xs.Perm ys → (∀ a ∈ xs, ∀ b ∈ xs, f a = f b → a = b) → xs.Pairwise (fun a b => f a ≤ f b) → ys.Pairwise (fun a b => f a ≤ f b) → xs = ys
  | [], ys, p, _, _, _ => by rw [List.nil_perm.mp p]
  | a :: r, [], p, _, _, _ => by have := p.length_eq; cases this
  | a :: r, b :: s, p, hi, h1, h2 => by
    have ha : a ∈ b :: s := p.mem_iff.mp List.mem_cons_self
    have hb : b ∈ a :: r := p.mem_iff.mpr List.mem_cons_self
    obtain ⟨h3, h4⟩ := List.pairwise_cons.mp h1
    obtain ⟨h5, h6⟩ := List.pairwise_cons.mp h2
    have e : a = b := by
      rcases List.mem_cons.mp ha with e | e
      · exact e
      · rcases List.mem_cons.mp hb with g | g
        · exact g.symm
        · have q1 := h5 a e
          have q2 := h3 b g
          exact hi a List.mem_cons_self b hb (by omega)
    subst e
    rw [sorted_one (List.Perm.cons_inv p) (fun x hx y hy => hi x (List.mem_cons_of_mem _ hx) y (List.mem_cons_of_mem _ hy)) h4 h6]
/-- the least by a key -/
def LeastBy (f : Int → Int) (xs : List Int) (v : V) : Prop := (xs = [] ∧ v = .non) ∨ ∃ x ∈ xs, v = .int x ∧ ∀ y ∈ xs, f x ≤ f y
theorem LeastBy.one {f : Int → Int} {xs : List Int} {u v : V} (hi : ∀ a ∈ xs, ∀ b ∈ xs, f a = f b → a = b) (h1 : LeastBy f xs u) (h2 : LeastBy f xs v) : u = v := by
  rcases h1 with ⟨e, rfl⟩ | ⟨x, hx, rfl, h1⟩
  · rcases h2 with ⟨_, rfl⟩ | ⟨y, hy, _, _⟩
    · rfl
    · rw [e] at hy; cases hy
  · rcases h2 with ⟨e, _⟩ | ⟨y, hy, rfl, h2⟩
    · rw [e] at hx; cases hx
    · have a := h1 y hy
      have b := h2 x hx
      rw [hi x hx y hy (by omega)]
theorem argMin_ok {f : Int → Int} {xs : List Int} (h : xs ≠ []) : ∃ x, xs[argMin (xs.map f)]? = some x ∧ x ∈ xs ∧ ∀ y ∈ xs, f x ≤ f y := by
  have hl : 0 < xs.length := List.length_pos_iff.mpr h
  have k := argBest_lt (fun i => (xs.map f).getD i 0) ((xs.map f).length - 1)
  unfold argMin
  generalize argBest (fun i j => decide ((xs.map f).getD i 0 < (xs.map f).getD j 0)) ((xs.map f).length - 1) = m at k ⊢
  obtain ⟨k1, k2⟩ := k
  rw [List.length_map] at k1 k2
  have hm : m < xs.length := by omega
  refine ⟨xs[m], List.getElem?_eq_getElem hm, List.getElem_mem hm, fun y hy => ?_⟩
  obtain ⟨j, hj, rfl⟩ := List.mem_iff_getElem.mp hy
  have e : ∀ i (hi : i < xs.length), (xs.map f).getD i 0 = f xs[i] := fun i hi => by
    rw [List.getD_eq_getElem?_getD, List.getElem?_map, List.getElem?_eq_getElem hi]
    rfl
  have q := k2 j (by omega)
  rw [e m hm, e j hj] at q
  exact q
theorem draw {t c l : Addr} {ms : List Int} {H1 : Hp} (nl : l ≠ t) (e : H1 l = some (.lst (ms.map V.int))) (h0 : 0 < ms.length) (h1 : ms.length ≤ 1000) (t1 : Tape H1 t c) {Q' : VK} (k : ∀ (z : Int) H2, z ∈ ms → Kp t H1 H2 → Tape H2 t c → Q' (.int z) H2) :
    (sp__law_pick K) ([.ref t, .int ((ms.map V.int).length : Int)] ++ []) H1 (fun y H2 => rIxL K (.ref l) y H2 Q') E0 := by
  refine ⟨t, c, _, rfl, t1, by rw [List.length_map]; omega, by rw [List.length_map]; omega, fun z H2 z0 z1 k2 t2 => ?_⟩
  rw [List.length_map] at z1
  have hz : z.toNat < ms.length := by omega
  have az : atI (ms.map V.int) z = some (.int ms[z.toNat]) := by
    rw [← at_ints hz, Int.toNat_of_nonneg z0]
  exact ⟨l, _, z, _, rfl, rfl, SqL.of (k2 _ _ nl e), az, k _ H2 (List.getElem_mem hz) k2 t2⟩
--CUT
def sp_places_from (K : PySem.W.Frag) : Sp := fun vs H Q _ => ∃ (n s : Int) (a : Addr) (xs : List Int), vs = [.int n, .int s, .ref a] ∧ 0 < n ∧ n ≤ 1000000000 ∧ SqL K H a (xs.map V.int) ∧ LamX.Tabs (LT K) H ∧
  ∀ p H', LamX.ExtN H H' → LamX.Tabs (LT K) H' → (∀ b o, H b = some o → (∀ ps, o ≠ .tbl ps) → b ≠ p) → H' p = some (.lst ((metL n s xs).map V.int)) → Q (.ref p) H'
theorem T0.ok_places_from (T : T0 K mg) : FnOk P w K mg base CX0 6 T.a_places_from T.fd_places_from ["size", "start", "places"] (sp_places_from K) := by
  refine fun_okC T.F_places_from sc_places_from (fun vs H Q E h => ?_) (fun cdv A outer s H vs Q E hcd hr h => ?_)
  · obtain ⟨n, s, a, xs, rfl, _⟩ := h
    rfl
  · obtain ⟨n, st, a, xs, rfl, hn, hn2, ha, hT, q⟩ := h
    refine ⟨_, (pss_one (ps_ret (pe_sortLam (N := ["place", "size", "start"]) (ps := ["place"]) (fr := ["size", "start"]) (js := [0, 1]) (k := 2) (T := LT K)  (show NdefX.ndefB (defScope s_places_from) _ ["size", "start"] = true from by decide +kernel) rfl rfl hr (by rfl) T.m_sorted (pv 2) (LamT.tb_places_from (K := K) (mg := mg)) (hcd.trans T.cd_places_from) (.head _) T.lt_places_from rfl (show NdefX.nscB ["place", "size", "start"] ["place"] ["size", "start"] _ = true from by decide +kernel) (fun _ _ _ us hl => match us, hl with | [_], _ => rfl) (fun _ _ _ _ _ _ _ hr => (pe_op op_modN (pe_op op_sub (pv 0) (pv 2)) (pv 1)))))), ?_⟩
    refine ⟨_, rfl, hT, fun f c' H1 e1 t1 f1 c1 => ⟨a, f, c', xs.map V.int, xs.map (keyF n st), rfl, rfl, f1, c1, sqL_extN e1 ha, by rw [List.length_map, List.length_map], fun i x k hx hk => ?_, fun p hp => ?_⟩⟩
    · rw [List.getElem?_map] at hx hk
      cases hi : xs[i]? with
      | none => rw [hi] at hx; cases hx
      | some y =>
        rw [hi] at hx hk
        cases hx
        cases hk
        exact ⟨_, rfl, _, rfl, _, _, rfl, rfl, _, rfl, _, _, rfl, rfl, by omega, rfl, rfl⟩
    · rw [byKey_met]
      exact q p _ (e1.trans (ExtN.of_same (same_upd hp))) (LamX.Tabs.ext t1 fun b o e => (upd_ne (ne_of_none e hp)).trans e) (fun b o e n => ne_of_none (e1 b o e n) hp) upd_same
def sp_nearest (K : PySem.W.Frag) (f : Int → Int → Int → Int) : Sp := fun vs H Q _ => ∃ (n s : Int) (a : Addr) (xs : List Int), vs = [.int n, .int s, .ref a] ∧ 0 < n ∧ SqL K H a (xs.map V.int) ∧ LamX.Tabs (LT K) H ∧
  ∀ v H', LamX.ExtN H H' → LamX.Tabs (LT K) H' → LeastBy (f n s) xs v → Q v H'
theorem near_end {f : Int → Int} {xs : List Int} {Q : VK} {H : Hp} (q : ∀ v, LeastBy f xs v → Q v H) : (xs.map V.int = [] → Q .non H) ∧ ∀ x, (xs.map V.int)[argMin (xs.map f)]? = some x → Q x H := by
  refine ⟨fun e => q _ (.inl ⟨List.map_eq_nil_iff.mp e, rfl⟩), fun x hx => ?_⟩
  have hne : xs ≠ [] := fun z => by rw [z] at hx; simp at hx
  obtain ⟨y, h1, h2, h3⟩ := argMin_ok (f := f) hne
  rw [List.getElem?_map, h1] at hx
  cases hx
  exact q _ (.inr ⟨y, h2, rfl, h3⟩)
theorem T0.ok_nearest_ahead (T : T0 K mg) : FnOk P w K mg base CX0 6 T.a_nearest_ahead T.fd_nearest_ahead ["size", "start", "places"] (sp_nearest K fun n s x => farL n s x) := by
  refine fun_okC T.F_nearest_ahead sc_nearest_ahead (fun vs H Q E h => ?_) (fun cdv A outer s H vs Q E hcd hr h => ?_)
  · obtain ⟨n, s, a, xs, rfl, _⟩ := h
    rfl
  · obtain ⟨n, st, a, xs, rfl, hn, ha, hT, q⟩ := h
    refine ⟨_, (pss_one (ps_ret (pe_minLam (N := ["place", "size", "start"]) (ps := ["place"]) (fr := ["size", "start"]) (js := [0, 1]) (k := 2) (T := LT K) rfl (show NdefX.ndefB (defScope s_nearest_ahead) _ ["size", "start"] = true from by decide +kernel) rfl rfl hr (by rfl) T.m_min (pv 2) (LamT.tb_nearest_ahead (K := K) (mg := mg)) (hcd.trans T.cd_nearest_ahead) (.tail _ (.head _)) T.lt_nearest_ahead rfl (show NdefX.nscB ["place", "size", "start"] ["place"] ["size", "start"] _ = true from by decide +kernel) (fun _ _ _ us hl => match us, hl with | [_], _ => rfl) (fun _ _ _ _ _ _ _ hr => (pe_call T.ok_far (hr.mono (by decide)) (by rfl) T.g_far T.k_far T.b_far .nil pass0 (pa_cons (pv 1) (pa_cons (pv 2) (pa_cons (pv 0) pa_nil)))))))), ?_⟩
    refine ⟨_, rfl, hT, fun f c' H1 e1 t1 f1 c1 => ⟨a, f, c', xs.map V.int, xs.map fun x => farL n st x, rfl, rfl, f1, c1, sqL_extN e1 ha, by rw [List.length_map, List.length_map], fun i x k hx hk => ?_, near_end fun v l => q v H1 e1 t1 l⟩⟩
    rw [List.getElem?_map] at hx hk
    cases hi : xs[i]? with
    | none => rw [hi] at hx; cases hx
    | some y =>
      rw [hi] at hx hk
      cases hx
      cases hk
      exact ⟨_, rfl, _, rfl, _, rfl, n, st, y, rfl, hn, rfl, rfl⟩
theorem T0.ok_nearest_behind (T : T0 K mg) : FnOk P w K mg base CX0 6 T.a_nearest_behind T.fd_nearest_behind ["size", "end", "places"] (sp_nearest K fun n s x => farL n x s) := by
  refine fun_okC T.F_nearest_behind sc_nearest_behind (fun vs H Q E h => ?_) (fun cdv A outer s H vs Q E hcd hr h => ?_)
  · obtain ⟨n, s, a, xs, rfl, _⟩ := h
    rfl
  · obtain ⟨n, st, a, xs, rfl, hn, ha, hT, q⟩ := h
    refine ⟨_, (pss_one (ps_ret (pe_minLam (N := ["place", "end", "size"]) (ps := ["place"]) (fr := ["end", "size"]) (js := [1, 0]) (k := 2) (T := LT K) rfl (show NdefX.ndefB (defScope s_nearest_behind) _ ["end", "size"] = true from by decide +kernel) rfl rfl hr (by rfl) T.m_min (pv 2) (LamT.tb_nearest_behind (K := K) (mg := mg)) (hcd.trans T.cd_nearest_behind) (.tail _ (.tail _ (.head _))) T.lt_nearest_behind rfl (show NdefX.nscB ["place", "end", "size"] ["place"] ["end", "size"] _ = true from by decide +kernel) (fun _ _ _ us hl => match us, hl with | [_], _ => rfl) (fun _ _ _ _ _ _ _ hr => (pe_call T.ok_far (hr.mono (by decide)) (by rfl) T.g_far T.k_far T.b_far .nil pass0 (pa_cons (pv 2) (pa_cons (pv 0) (pa_cons (pv 1) pa_nil)))))))), ?_⟩
    refine ⟨_, rfl, hT, fun f c' H1 e1 t1 f1 c1 => ⟨a, f, c', xs.map V.int, xs.map fun x => farL n x st, rfl, rfl, f1, c1, sqL_extN e1 ha, by rw [List.length_map, List.length_map], fun i x k hx hk => ?_, near_end fun v l => q v H1 e1 t1 l⟩⟩
    rw [List.getElem?_map] at hx hk
    cases hi : xs[i]? with
    | none => rw [hi] at hx; cases hx
    | some y =>
      rw [hi] at hx hk
      cases hx
      cases hk
      exact ⟨_, rfl, _, rfl, _, rfl, n, y, st, rfl, hn, rfl, rfl⟩
def inL (n s e : Int) (xs : List Int) : List Int := xs.filter fun y => decide (farL n s y < farL n s e)
def sp_inside (K : PySem.W.Frag) : Sp := fun vs H Q _ => ∃ (n s e : Int) (a : Addr) (xs : List Int), vs = [.int n, .int s, .int e, .ref a] ∧ 0 < n ∧ n ≤ 1000000000 ∧ xs.length ≤ 60 ∧ SqL K H a (xs.map V.int) ∧ LamX.Tabs (LT K) H ∧
  ∀ p H', LamX.ExtN H H' → LamX.Tabs (LT K) H' → (∀ b o, H b = some o → (∀ ps, o ≠ .tbl ps) → b ≠ p) → H' p = some (.lst ((inL n s e (metL n s xs)).map V.int)) → Q (.ref p) H'
theorem T0.ok_inside (T : T0 K mg) : FnOk P w K mg base CX0 7 T.a_inside T.fd_inside ["size", "start", "end", "places"] (sp_inside K) := by
  refine T.F_inside.ok sc_inside (fun vs H Q E h => ?_) (fun cdv A outer s H vs Q E hr h => ?_)
  · obtain ⟨n, s, e, a, xs, rfl, _⟩ := h
    rfl
  · obtain ⟨n, st, en, a, xs, rfl, hn, hn2, hl, ha, hT, q⟩ := h
    refine ⟨_, (pss_one (ps_ret (pe_lc (own := [("place", 4)]) (g := gName 4) (by rfl) sc_inside.nd (pi_list (pe_call T.ok_places_from hr (by rfl) T.g_places_from T.k_places_from T.b_places_from .nil pass0 (pa_cons (pv 0) (pa_cons (pv 1) (pa_cons (pv 3) pa_nil))))) (blkOk_by (own := [("place", 4)]) (N := ["size", "start", "end", "places", "place"]) (sc := defScope s_inside) (by decide +kernel)) (fun _ _ _ _ _ => pg_name (i := 4) sc_inside.nd rfl (Or.inl rfl)) (fun _ _ _ _ _ => pts_one (pt_val (pe_call T.ok_between (hr.mono (by decide)) (by rfl) T.g_between T.k_between T.b_between .nil pass0 (pa_cons (pv 0) (pa_cons (pv 1) (pa_cons (pv 4) (pa_cons (pv 2) pa_nil))))))) (fun _ _ _ _ _ => (pv 4))))), ?_⟩
    refine ⟨_, rfl, _, rfl, _, rfl, n, st, a, xs, rfl, hn, hn2, ha, hT, fun l H1 e1 t1 d1 hl1 => ?_⟩
    have hlen : (metL n st xs).length ≤ 60 := by rw [(metL_perm n st xs).length_eq]; exact hl
    refine ⟨l, rfl, ⟨_, SqL.of hl1⟩, fun D hD => ?_⟩
    refine lc_list (K := K) (a := l) (xs := (metL n st xs).map V.int) (fun i H' => Same H1 H' ∧ H' D = some (.lst ((inL n st en ((metL n st xs).take i)).map V.int))) ⟨same_upd hD, upd_same⟩ (fun i H' _ p => SqL.of (p.1 _ _ hl1)) (fun i x H3 hx pv => ?_) (fun H3 pv => ?_)
    · obtain ⟨s3, e3⟩ := pv
      rw [List.getElem?_map] at hx
      obtain ⟨y, hyi, rfl⟩ := Option.map_eq_some_iff.mp hx
      have lf : (inL n st en ((metL n st xs).take i)).length ≤ 60 := by
        have := List.length_filter_le (fun y => decide (farL n st y < farL n st en)) ((metL n st xs).take i)
        rw [List.length_take] at this
        unfold inL
        omega
      have tk : (metL n st xs).take (i + 1) = (metL n st xs).take i ++ [y] := by rw [List.take_add_one, hyi]; rfl
      refine ⟨rfl, ?_⟩
      refine ⟨_, rfl, _, rfl, _, rfl, _, rfl, n, st, y, en, rfl, hn, _, rfl, ?_⟩
      by_cases e : farL n st y < farL n st en
      · refine iteT' (decide_eq_true e) ⟨_, rfl, _, e3, small1000' (by rw [List.length_map]; omega), fun b o eo => (upd_ne (ne_of_none eo hD)).trans (s3 _ _ eo), ?_⟩
        rw [upd_same, tk]
        unfold inL
        rw [List.filter_append, List.filter_cons_of_pos (p := fun y => decide (farL n st y < farL n st en)) (by simpa using e), List.map_append]
        rfl
      · refine iteF' (decide_eq_false e) ⟨s3, ?_⟩
        rw [tk]
        unfold inL at e3 ⊢
        rw [List.filter_append, List.filter_cons_of_neg (by simpa using e), List.filter_nil, List.append_nil]
        exact e3
    · obtain ⟨s3, e3⟩ := pv
      rw [List.length_map, List.take_of_length_le (Nat.le_refl _)] at e3
      exact q D H3 (e1.trans (ExtN.of_same s3)) (LamX.Tabs.ext t1 s3) (fun b o e nt => ne_of_none (e1 b o e nt) hD) e3
/-! ### sorted, min of a list of tuples of two whole numbers -/
section
open PySem.W
abbrev PII := Addr × Int × Int
def encII (b : PII) : PyData := .tuple [.int b.2.1, .int b.2.2]
def leII (p q : PII) : Bool := decide (p.2.1 < q.2.1 ∨ (p.2.1 = q.2.1 ∧ p.2.2 ≤ q.2.2))
section
variable {X : Cx} {pins : List (Addr × Obj)} {σ : L2.St} {H : Hp} {s : Shared}
theorem reads_ii {b : PII} (I : Inv X pins σ H s) (h : H b.1 = some (.tup [.int b.2.1, .int b.2.2])) : Reads s.heap (.ref b.1) (encII b) [] := by
  obtain ⟨its, rv, hT, _⟩ := I.tuple (.inl (.inl h))
  obtain ⟨u1, u2, e, r1, r2⟩ := vals2 rv
  obtain ⟨t1, rfl⟩ := r1
  obtain ⟨t2, rfl⟩ := r2
  subst e
  obtain ⟨o, h1, h2, n, h3⟩ := hT
  exact .tuple h1 h2 h3 (.cons (.int _ _) (.cons (.int _ _) .nil))
theorem each_ii (I : Inv X pins σ H s) : ∀ {bs : List PII} {its : List Value}, (∀ b ∈ bs, H b.1 = some (.tup [.int b.2.1, .int b.2.2])) → Vals (bs.map fun b => V.ref b.1) its → PySem.W.EachIs (fun v b => ∃ as, Reads s.heap v (encII b) as) its bs ∧ PySem.W.EachIs (fun v (b : PII) => v = .ref b.1) its bs
  | [], its, _, r => by cases r; exact ⟨.nil, .nil⟩
  | b :: bs, its, h, r => by
    cases r with
    | cons r1 r2 =>
      obtain ⟨i1, i2⟩ := each_ii I (fun c hc => h c (List.mem_cons_of_mem _ hc)) r2
      have e : _ = Value.ref b.1 := r1
      subst e
      exact ⟨.cons ⟨[], reads_ii I (h b List.mem_cons_self)⟩ i1, .cons rfl i2⟩
theorem vals_ii : ∀ {bs : List PII} {its : List Value}, PySem.W.EachIs (fun v (b : PII) => v = .ref b.1) its bs → Vals (bs.map fun b => V.ref b.1) its
  | [], _, .nil => .nil
  | _ :: _, _, .cons h t => .cons h (vals_ii t)
end
def rSortedII (K : PySem.W.Frag) : List V → Hp → VK → Prop := fun vs H Q => ∃ (a : Addr) (bs : List PII), vs = [V.ref a] ∧ SqL K H a (bs.map fun b => V.ref b.1) ∧ (∀ b ∈ bs, H b.1 = some (.tup [.int b.2.1, .int b.2.2])) ∧
  ∀ p : Addr, H p = Option.none → Q (.ref p) (upd H p (.lst ((bs.mergeSort leII).map fun b => V.ref b.1)))
theorem cr_sortedII0 {X : Cx} {k : Nat} (hr : Room k X.A) : CallR X (.builtin "sorted") (rSortedII X.K) := by
  intro pins s σ H vs us Q I r h
  obtain ⟨a, bs, rfl, ha, hb, q⟩ := h
  obtain rfl := Vals.ref1 r
  obtain ⟨its, rv, hl, hz⟩ := I.list ha
  obtain ⟨er, e⟩ := each_ii I hb rv
  rw [List.length_map] at hz
  refine PySem.W.sorted_data (enc := encII) hl.isList e er (PySem.W.AllAlike.of fun _ _ => by simp [alike, alikeAll, encII]) (PySem.W.Sortable.tuples fun _ => ⟨_, _, rfl⟩) hz (fun b _ => ?_) fun out lo eo => ?_
  · have hd : (encII b).depth = 1 := by simp [encII, PyData.depth, PyData.depthAll]
    have := hr.units
    omega
  · have el : PySem.W.dataLe false encII = leII := by
      rw [show encII = fun b : PII => PyData.tuple [.int b.2.1, .int b.2.2] from rfl, PySem.W.dataLe_ii (fun b : PII => b.2.1) (fun b => b.2.2)]
      rfl
    rw [el] at eo
    obtain ⟨ep, he'⟩ := PyProof.Rows.sortedAll_at s.heap its out.toArray
    exact ⟨.ref (s.heap.objs.size + 1), upd H (s.heap.objs.size + 1) (.lst ((bs.mergeSort leII).map fun b => V.ref b.1)), I.laid (t' := s.toks) (fun _ _ => PyProof.Rows.sortedAll_old) (Nat.le_succ _) ⟨by rw [List.length_map, List.length_mergeSort]; exact hz, out, ep, vals_ii eo, he'⟩, rfl, q _ (I.hok.fresh (Nat.le_succ _))⟩
theorem cr_sortedII {X : Cx} {K : PySem.W.Frag} {k : Nat} (hr : Room k X.A) (h : X.K = K := by rfl) : CallR X (.builtin "sorted") (rSortedII K) := by subst h; exact cr_sortedII0 hr
def rMinII (K : PySem.W.Frag) : List V → Hp → VK → Prop := fun vs H Q => ∃ (a : Addr) (bs : List PII), vs = [V.ref a] ∧ SqL K H a (bs.map fun b => V.ref b.1) ∧ (∀ b ∈ bs, H b.1 = some (.tup [.int b.2.1, .int b.2.2])) ∧ bs ≠ [] ∧
  ∀ b ∈ bs, (∀ c ∈ bs, leII b c = true) → Q (.ref b.1) H
theorem dlt_ii (b c : PII) : dataLt (encII b) (encII c) = !leII c b := by
  have e := congrFun (congrFun (PySem.W.dataLe_ii (fun b : PII => b.2.1) (fun b => b.2.2)) c) b
  rw [PySem.W.dataLe_eq] at e
  have e : (!dataLt (encII b) (encII c)) = leII c b := e
  rw [← e, Bool.not_not]
theorem leII_total (b c : PII) : leII b c = true ∨ leII c b = true := by
  unfold leII
  simp only [decide_eq_true_eq]
  omega
theorem leII_trans {b c d : PII} (h1 : leII b c = true) (h2 : leII c d = true) : leII b d = true := by
  unfold leII at *
  simp only [decide_eq_true_eq] at *
  omega
theorem best_ii (bs : List PII) (d : PII) : ∀ k, argBest (fun i j => dataLt (encII (bs.getD i d)) (encII (bs.getD j d))) k ≤ k ∧ ∀ j, j ≤ k → leII (bs.getD (argBest (fun i j => dataLt (encII (bs.getD i d)) (encII (bs.getD j d))) k) d) (bs.getD j d) = true
  | 0 => ⟨Nat.le_refl _, fun j hj => by
    have e : j = 0 := by omega
    subst e
    rcases leII_total (bs.getD 0 d) (bs.getD 0 d) with h | h <;> exact h⟩
  | k + 1 => by
    obtain ⟨h1, h2⟩ := best_ii bs d k
    by_cases hb : dataLt (encII (bs.getD (k + 1) d)) (encII (bs.getD (argBest (fun i j => dataLt (encII (bs.getD i d)) (encII (bs.getD j d))) k) d)) = true
    · have ea : argBest (fun i j => dataLt (encII (bs.getD i d)) (encII (bs.getD j d))) (k + 1) = k + 1 := if_pos hb
      rw [ea]
      rw [dlt_ii] at hb
      refine ⟨Nat.le_refl _, fun j hj => ?_⟩
      rcases Nat.lt_or_ge j (k + 1) with hlt | hge
      · refine leII_trans ?_ (h2 j (by omega))
        rcases leII_total (bs.getD (k + 1) d) (bs.getD (argBest (fun i j => dataLt (encII (bs.getD i d)) (encII (bs.getD j d))) k) d) with h | h
        · exact h
        · rw [h] at hb; cases hb
      · have e : j = k + 1 := by omega
        subst e
        rcases leII_total (bs.getD (k + 1) d) (bs.getD (k + 1) d) with h | h <;> exact h
    · have ea : argBest (fun i j => dataLt (encII (bs.getD i d)) (encII (bs.getD j d))) (k + 1) = argBest (fun i j => dataLt (encII (bs.getD i d)) (encII (bs.getD j d))) k := if_neg hb
      rw [ea]
      refine ⟨by omega, fun j hj => ?_⟩
      rcases Nat.lt_or_ge j (k + 1) with hlt | hge
      · exact h2 j (by omega)
      · have e : j = k + 1 := by omega
        subst e
        rw [dlt_ii] at hb
        cases q : leII (bs.getD (argBest (fun i j => dataLt (encII (bs.getD i d)) (encII (bs.getD j d))) k) d) (bs.getD (k + 1) d) with
        | true => rfl
        | false => exact absurd (by rw [q]; rfl) hb
theorem cr_minII0 {X : Cx} {k : Nat} (hr : Room k X.A) : CallR X (.builtin "min") (rMinII X.K) := by
  intro pins s σ H vs us Q I r h
  obtain ⟨a, bs, rfl, ha, hb, hne, q⟩ := h
  obtain rfl := Vals.ref1 r
  obtain ⟨its, rv, hl, hz⟩ := I.list ha
  obtain ⟨er, e⟩ := each_ii I hb rv
  rw [List.length_map] at hz
  obtain ⟨d, hd⟩ := List.exists_mem_of_ne_nil bs hne
  have ln : its.length = bs.length := e.length
  have l0 : 0 < bs.length := List.length_pos_iff.mpr hne
  refine call_min_walkH (iter_listW (A := X.A.in1) hr.hd hl.isList fun s2 es W st hfp hw hk => ?_)
  have get : ∀ (i : Nat) v, its.toArray[i]? = some v → ∃ b, bs[i]? = some b ∧ v = .ref b.1 ∧ Reads s.heap v (encII b) [] := fun i v hv => by
    rw [List.getElem?_toArray] at hv
    have hi : i < bs.length := by rw [← ln]; exact (List.getElem?_eq_some_iff.mp hv).1
    have hz : (v, bs[i]) ∈ its.zip bs := List.mem_of_getElem? (i := i) (by rw [List.getElem?_zip_eq_some]; exact ⟨hv, List.getElem?_eq_getElem hi⟩)
    have e1 := e.zip _ hz
    have e1 : v = .ref bs[i].1 := e1
    exact ⟨bs[i], List.getElem?_eq_getElem hi, e1, by rw [e1]; exact reads_ii I (hb _ (List.getElem_mem hi))⟩
  refine ⟨_, _, _, _, _, _, _, s.heap, fun i j => dataLt (encII (bs.getD i d)) (encII (bs.getD j d)), rfl, W, st, hfp, by rw [List.size_toArray, ln]; exact l0, hw, hk, fun i j vi vj s' Q1 E1 hk' hi hj hq => ?_, fun v s' hP m => ?_⟩
  · obtain ⟨bi, gi, _, ri⟩ := get i vi hi
    obtain ⟨bj, gj, _, rj⟩ := get j vj hj
    have hq : Q1 (.bool (dataLt (encII (bs.getD i d)) (encII (bs.getD j d)))) s' := hq
    rw [List.getD_eq_getElem?_getD, List.getD_eq_getElem?_getD, gi, gj] at hq
    refine rcLt_alike _ _ X.A.in1 s' vi vj _ _ (reads_keeps hk' ri) (reads_keeps hk' rj) (by simp [alike, alikeAll, encII]) (by simp [encII]) ?_ X.prog X.w E1 Q1 hq
    have hd : ∀ b, (encII b).depth = 1 := fun b => by simp [encII, PyData.depth, PyData.depthAll]
    rw [hd, hd]
    have := hr.units
    show X.A.units + 1 + _ < _
    omega
  · obtain ⟨h', tk, rfl, hk'⟩ := moved_old es rfl m
    have hP : its.toArray[argBest (fun i j => dataLt (encII (bs.getD i d)) (encII (bs.getD j d))) (its.toArray.size - 1)]? = some v := hP
    have hs : its.toArray.size = bs.length := by rw [List.size_toArray, ln]
    rw [hs] at hP
    obtain ⟨bm, gm, rfl, _⟩ := get _ v hP
    obtain ⟨_, k2⟩ := best_ii bs d (bs.length - 1)
    refine ⟨.ref bm.1, H, I.kept hk', rfl, q bm (List.mem_of_getElem? gm) fun c hc => ?_⟩
    obtain ⟨j, hj, rfl⟩ := List.mem_iff_getElem.mp hc
    have z := k2 j (by omega)
    rw [List.getD_eq_getElem?_getD, List.getD_eq_getElem?_getD, gm, List.getElem?_eq_getElem hj] at z
    exact z
theorem cr_minII {X : Cx} {K : PySem.W.Frag} {k : Nat} (hr : Room k X.A) (h : X.K = K := by rfl) : CallR X (.builtin "min") (rMinII K) := by subst h; exact cr_minII0 hr
end
--CUT
theorem nb03 {H H' : Hp} {p : Addr} (s : Same H H') (h : H' p = none) : H p = none := by
  cases e : H p with
  | none => rfl
  | some o => rw [s _ _ e] at h; cases h
def InR (n : Int) (xs : List Int) : Prop := ∀ x ∈ xs, 0 ≤ x ∧ x < n
theorem met_pairs {n s : Int} {xs : List Int} {bs : List PII} (hi : InR n xs) (h : bs.map (·.2) = xs.map fun x => (keyF n s x, x)) : (bs.mergeSort leII).map (fun b => b.2.2) = metL n s xs := by
  have h2 : bs.map (fun b => b.2.2) = xs := by
    have e := congrArg (List.map Prod.snd) h
    rw [List.map_map, List.map_map] at e
    rw [show (fun b : PII => b.2.2) = Prod.snd ∘ (fun b : PII => b.2) from rfl, e]
    exact List.map_id' xs
  have h1 : ∀ b ∈ bs, b.2.1 = keyF n s b.2.2 := fun b hb => by
    have m : b.2 ∈ xs.map fun x => (keyF n s x, x) := by rw [← h]; exact List.mem_map_of_mem hb
    obtain ⟨x, _, e⟩ := List.mem_map.mp m
    rw [← e]
  have p1 : ((bs.mergeSort leII).map fun b => b.2.2).Perm xs := by
    have p := (List.mergeSort_perm bs leII).map (fun b => b.2.2)
    rw [h2] at p
    exact p
  refine sorted_one (f := keyF n s) (p1.trans (metL_perm n s xs).symm) (fun a ha b hb e => keyF_inj (hi a (p1.mem_iff.mp ha)) (hi b (p1.mem_iff.mp hb)) e) ?_ (metL_sorted n s xs)
  rw [List.pairwise_map]
  have pw := List.pairwise_mergeSort (le := leII) (fun a b c => leII_trans) (fun a b => by rcases leII_total a b with h | h <;> simp [h]) bs
  refine pw.imp_of_mem fun {a b} ha hb hab => ?_
  rw [← h1 a ((List.mergeSort_perm bs leII).mem_iff.mp ha), ← h1 b ((List.mergeSort_perm bs leII).mem_iff.mp hb)]
  unfold leII at hab
  have hab := of_decide_eq_true hab
  omega
def sp__law_spot (K : PySem.W.Frag) : Sp := fun vs H Q _ => ∃ (t c a : Addr) (n : Int) (xs : List Int), vs = [.ref t, .int n, .ref a] ∧ Tape H t c ∧ a ≠ t ∧ H a = some (.lst (xs.map V.int)) ∧ 0 < n ∧ InR n xs ∧ xs.length ≤ 60 ∧ ∀ x H', 0 ≤ x → x < n → Kp t H H' → Tape H' t c → Q (.int x) H'
theorem T0.ok__law_spot (T : T0 K mg) : FnOk P w K mg base CX0 3 T.a__law_spot T.fd__law_spot ["tape", "size", "places"] (sp__law_spot K) := by
  refine T.F__law_spot.ok sc__law_spot (fun vs H Q E h => ?_) (fun cdv A outer s H vs Q E hr h => ?_)
  · obtain ⟨t, c, a, n, xs, rfl, _⟩ := h
    rfl
  · obtain ⟨t, c, a, n, xs, rfl, hT, nt, ha, hn, hi, hl, q⟩ := h
    refine ⟨_, (pss_cons (ps_if (PW.pt (pw_and (pt_cmpR op_gt (pe_callB (call_lenK (K := K)) (by rfl) T.m_len PySem.boot_len (pa_cons (pv 2) pa_nil)) pe_int (nomark _)) (pw_and1 (pt_cmpR op_eq (pe_call T.ok__law_pick (hr.mono (by decide)) (by rfl) T.g__law_pick T.k__law_pick T.b__law_pick .nil pass0 (pa_cons (pv 0) (pa_cons pe_int pa_nil))) pe_int (nomark _))))) (pss_one (ps_ret (pe_ix (ix_listK (K := K)) (pv 2) (pe_call T.ok__law_pick (hr.mono (by decide)) (by rfl) T.g__law_pick T.k__law_pick T.b__law_pick .nil pass0 (pa_cons (pv 0) (pa_cons (pe_callB (call_lenK (K := K)) (by rfl) T.m_len PySem.boot_len (pa_cons (pv 2) pa_nil)) pa_nil))) (fun _ _ => rfl)))) pss_nil)
        (pss_one (ps_ret (pe_call T.ok__law_wide hr (by rfl) T.g__law_wide T.k__law_wide T.b__law_wide .nil pass0 (pa_cons (pv 0) (pa_cons (pv 1) pa_nil)))))), ?_⟩
    have wide : ∀ (H2 : Hp), Kp t H H2 → Tape H2 t c → (sp__law_wide K) ([.ref t, .int n] ++ []) H2 Q E0 := fun H2 k2 T2 => ⟨t, c, n, rfl, T2, hn, fun x H3 x0 x1 k3 T3 => q x H3 x0 x1 (k2.trans k3) T3⟩
    refine ⟨_, rfl, a, _, rfl, .inl (SqL.of ha), _, _, rfl, rfl, _, rfl, ite2 (fun e => ?_) (fun _ => iteF' rfl ⟨_, rfl, _, rfl, wide H (Kp.refl _ _) hT⟩)⟩
    have e := of_decide_eq_true e
    rw [List.length_map] at e
    refine ⟨_, rfl, t, c, 2, rfl, hT, by decide, by decide, fun x H2 _ _ k2 T2 => ⟨rfl, _, rfl, ite2 (fun _ => ?_) (fun _ => ⟨_, rfl, _, rfl, wide H2 k2 T2⟩)⟩⟩
    have ha2 := k2 _ _ nt ha
    exact ⟨_, rfl, _, rfl, _, rfl, a, _, rfl, .inl (SqL.of ha2), draw nt ha2 (by omega) (by omega) T2 fun z H3 mz k3 T3 => q z H3 (hi z mz).1 (hi z mz).2 (k2.trans k3) T3⟩
def sp__law_met (K : PySem.W.Frag) : Sp := fun vs H Q _ => ∃ (n s : Int) (a : Addr) (xs : List Int), vs = [.int n, .int s, .ref a] ∧ 0 < n ∧ n ≤ 1000000000 ∧ InR n xs ∧ xs.length ≤ 60 ∧ H a = some (.lst (xs.map V.int)) ∧
  ∀ p H', Same H H' → H p = none → H' p = some (.lst ((metL n s xs).map V.int)) → Q (.ref p) H'
/-- the rows (f x, x) of the places so far -/
def Rows (f : Int → Int) (H0 H : Hp) (D : Addr) (xs : List Int) : Prop := Same H0 H ∧ ∃ bs : List PII, H D = some (.lst (bs.map fun b => V.ref b.1)) ∧ bs.map (·.2) = xs.map (fun x => (f x, x)) ∧ ∀ b ∈ bs, H b.1 = some (.tup [.int b.2.1, .int b.2.2])
theorem Rows.len {f : Int → Int} {H0 H : Hp} {D : Addr} {xs : List Int} {bs : List PII} (h : bs.map (·.2) = xs.map (fun x => (f x, x))) : bs.length = xs.length := by
  have e := congrArg List.length h
  rw [List.length_map, List.length_map] at e
  exact e
theorem Rows.nil {f : Int → Int} {H : Hp} {D : Addr} (hD : H D = none) : Rows f H (upd H D (.lst [])) D [] := ⟨same_upd hD, [], upd_same, rfl, fun _ h => nomatch h⟩
theorem Rows.step {f : Int → Int} {H0 H : Hp} {D p : Addr} {xs : List Int} {y : Int} (hD : H0 D = none) (r : Rows f H0 H D xs) (hp : H p = none) (hl : xs.length ≤ 60) : ∃ acc, upd H p (.tup [.int (f y), .int y]) D = some (.lst acc) ∧ acc.length < sizeLine ∧
    Rows f H0 (upd (upd H p (.tup [.int (f y), .int y])) D (.lst (acc ++ [.ref p]))) D (xs ++ [y]) := by
  obtain ⟨s, bs, e, h, hb⟩ := r
  have lb := Rows.len (H0 := H0) (H := H) (D := D) h
  have nD := ne_of_none e hp
  refine ⟨_, (upd_ne nD).trans e, small1000' (by rw [List.length_map]; omega), fun b o eo => (upd_ne (ne_of_none eo hD)).trans ((upd_ne (ne_of_none (s _ _ eo) hp)).trans (s _ _ eo)), bs ++ [(p, f y, y)], ?_, ?_, fun b hb2 => ?_⟩
  · rw [upd_same, List.map_append]
    rfl
  · rw [List.map_append, List.map_append, h]
    rfl
  · rcases List.mem_append.mp hb2 with m | m
    · have e1 := hb b m
      have n1 : b.1 ≠ D := fun z => by rw [z, e] at e1; cases e1
      rw [upd_ne n1, upd_ne (ne_of_none e1 hp)]
      exact e1
    · have e2 : b = (p, f y, y) := by simpa using m
      subst e2
      exact (upd_ne (Ne.symm nD)).trans upd_same
theorem T0.ok__law_met (T : T0 K mg) : FnOk P w K mg base CX0 2 T.a__law_met T.fd__law_met ["size", "start", "places"] (sp__law_met K) := by
  refine T.F__law_met.ok sc__law_met (fun vs H Q E h => ?_) (fun cdv A outer s H vs Q E hr h => ?_)
  · obtain ⟨n, s, a, xs, rfl, _⟩ := h
    rfl
  · obtain ⟨n, st, a, xs, rfl, hn, hn2, hi, hl, ha, q⟩ := h
    refine ⟨_, (pss_cons (ps_set (i := 3) sc__law_met.nd rfl (Or.inl rfl) (pe_callB (cr_sortedII (K := K) hr) (by rfl) T.m_sorted (by decide +kernel) (pa_cons (pe_lc (own := [("place", 5)]) (g := gName 5) (by rfl) sc__law_met.nd (pi_list (pv 2)) (blkOk_by (own := [("place", 5)]) (N := ["size", "start", "places", "pairs", "pair", "place"]) (sc := defScope s__law_met) (by decide +kernel)) (fun _ _ _ _ _ => pg_name (i := 5) sc__law_met.nd rfl (Or.inl rfl)) (fun _ _ _ _ _ => pts_nil) (fun _ _ _ _ _ => (pe_tup (pa_cons (pe_op op_modN (pe_callTy call_int1 (by rfl) T.m_int (by decide +kernel) (pa_cons (pe_op op_sub (pv 5) (pv 1)) pa_nil)) (pv 0)) (pa_cons (pv 5) pa_nil))))) pa_nil)))
        (pss_one (ps_ret (pe_lc (own := [("pair", 4)]) (g := gName 4) (by rfl) sc__law_met.nd (pi_list (pv 3)) (blkOk_by (own := [("pair", 4)]) (N := ["size", "start", "places", "pairs", "pair", "place"]) (sc := defScope s__law_met) (by decide +kernel)) (fun _ _ _ _ _ => pg_name (i := 4) sc__law_met.nd rfl (Or.inl rfl)) (fun _ _ _ _ _ => pts_nil) (fun _ _ _ _ _ => (pe_ix (ix_tupK (K := K)) (pv 4) pe_int (fun _ _ => rfl))))))), ?_⟩
    refine ⟨_, rfl, a, rfl, ⟨_, SqL.of ha⟩, fun D hD => ?_⟩
    refine lc_list (K := K) (a := a) (xs := xs.map V.int) (fun i H' => Rows (keyF n st) H H' D (xs.take i)) (by rw [List.take_zero]; exact Rows.nil hD) (fun i H' _ p => SqL.of (p.1 _ _ ha)) (fun i x H3 hx pv => ?_) (fun H3 pv => ?_)
    · rw [List.getElem?_map] at hx
      obtain ⟨y, hyi, rfl⟩ := Option.map_eq_some_iff.mp hx
      have tk : xs.take (i + 1) = xs.take i ++ [y] := by rw [List.take_add_one, hyi]; rfl
      refine ⟨rfl, ⟨_, rfl, _, rfl, _, _, rfl, rfl, .inl ⟨_, rfl, _, rfl, _, _, rfl, rfl, by omega, _, rfl, lenL (by show 2 ≤ 100000; decide), fun p hp => ?_⟩⟩⟩
      rw [tk]
      exact Rows.step hD pv hp (by rw [List.length_take]; omega)
    · rw [List.length_map, List.take_of_length_le (Nat.le_refl _)] at pv
      obtain ⟨s3, bs, e3, h3, hb⟩ := pv
      refine ⟨D, bs, rfl, SqL.of e3, hb, fun p hp => ?_⟩
      have s4 := same_upd (o := .lst ((bs.mergeSort leII).map fun b => V.ref b.1)) hp
      have e4 : upd H3 p (.lst ((bs.mergeSort leII).map fun b => V.ref b.1)) p = some (.lst ((bs.mergeSort leII).map fun b => V.ref b.1)) := upd_same
      generalize upd H3 p (.lst ((bs.mergeSort leII).map fun b => V.ref b.1)) = H4 at s4 e4
      have em := met_pairs hi h3
      have hb4 : ∀ b ∈ bs.mergeSort leII, H4 b.1 = some (.tup [.int b.2.1, .int b.2.2]) := fun b hb' => s4 _ _ (hb b ((List.mergeSort_perm bs leII).mem_iff.mp hb'))
      have lb : (bs.mergeSort leII).length ≤ 60 := by rw [List.length_mergeSort, Rows.len (f := keyF n st) (H0 := H) (H := H3) (D := D) h3]; exact hl
      generalize bs.mergeSort leII = cs at e4 em hb4 lb
      refine ⟨_, rfl, p, rfl, ⟨_, SqL.of e4⟩, fun D2 hD2 => ?_⟩
      refine lc_list (K := K) (a := p) (xs := cs.map fun b => V.ref b.1) (fun i H' => Same H4 H' ∧ H' D2 = some (.lst (((cs.take i).map fun b => b.2.2).map V.int))) ⟨same_upd hD2, upd_same⟩ (fun i H' _ p => SqL.of (p.1 _ _ e4)) (fun i x H5 hx pv => ?_) (fun H5 pv => ?_)
      · obtain ⟨s5, e5⟩ := pv
        rw [List.getElem?_map] at hx
        obtain ⟨b, hbi, rfl⟩ := Option.map_eq_some_iff.mp hx
        have tk : cs.take (i + 1) = cs.take i ++ [b] := by rw [List.take_add_one, hbi]; rfl
        refine ⟨rfl, ⟨_, rfl, b.1, _, 1, _, rfl, rfl, .inl (.inl (s5 _ _ (hb4 b (List.mem_of_getElem? hbi)))), rfl, _, e5, small1000' (by rw [List.length_map, List.length_map, List.length_take]; omega), fun d o eo => (upd_ne (ne_of_none eo hD2)).trans (s5 _ _ eo), ?_⟩⟩
        rw [upd_same, tk, List.map_append, List.map_append]
        rfl
      · obtain ⟨s5, e5⟩ := pv
        rw [List.length_map, List.take_of_length_le (Nat.le_refl _), em] at e5
        exact q D2 H5 (Same.trans s3 (Same.trans s4 s5)) (nb03 (Same.trans s3 s4) hD2) e5
def NearOf (bs : List PII) (v : V) : Prop := (bs = [] ∧ v = .non) ∨ ∃ b ∈ bs, v = .int b.2.2 ∧ ∀ c ∈ bs, leII b c = true
def sp__law_nearest (K : PySem.W.Frag) : Sp := fun vs H Q _ => ∃ (a : Addr) (bs : List PII), vs = [V.ref a] ∧ H a = some (.lst (bs.map fun b => V.ref b.1)) ∧ (∀ b ∈ bs, H b.1 = some (.tup [.int b.2.1, .int b.2.2])) ∧
  ∀ v, NearOf bs v → Q v H
theorem T0.ok__law_nearest (T : T0 K mg) : FnOk P w K mg base CX0 2 T.a__law_nearest T.fd__law_nearest ["pairs"] (sp__law_nearest K) := by
  refine T.F__law_nearest.ok sc__law_nearest (fun vs H Q E h => ?_) (fun cdv A outer s H vs Q E hr h => ?_)
  · obtain ⟨a, bs, rfl, _⟩ := h
    rfl
  · obtain ⟨a, bs, rfl, ha, hb, q⟩ := h
    refine ⟨_, (pss_cons (ps_if (pt_cmpR op_eq (pe_callB (call_lenK (K := K)) (by rfl) T.m_len PySem.boot_len (pa_cons (pv 0) pa_nil)) pe_int (nomark _)) (pss_one (ps_ret pe_non)) pss_nil)
        (pss_one (ps_ret (pe_ix (ix_tupK (K := K)) (pe_callB (cr_minII (K := K) hr) (by rfl) T.m_min (by decide +kernel) (pa_cons (pv 0) pa_nil)) pe_int (fun _ _ => rfl))))), ?_⟩
    refine ⟨_, rfl, a, _, rfl, .inl (SqL.of ha), rfl, _, rfl, ite2 (fun e => q _ (.inl ⟨?_, rfl⟩)) (fun e => ?_)⟩
    · have e := V.int.inj (of_decide_eq_true e)
      rw [List.length_map] at e
      exact List.length_eq_zero_iff.mp (by omega)
    · have hne : bs ≠ [] := fun z => by
        refine e (decide_eq_true ?_)
        rw [z]
        rfl
      exact ⟨_, rfl, a, bs, rfl, SqL.of ha, hb, hne, fun b hb' hm => ⟨b.1, _, 1, _, rfl, rfl, .inl (.inl (hb b hb')), rfl, q _ (.inr ⟨b, hb', rfl, hm⟩)⟩⟩
/-- .. of the rows of some places: the least by f -/
theorem nearest_rows {f : Int → Int} {xs : List Int} {bs : List PII} (h : bs.map (·.2) = xs.map (fun x => (f x, x))) {v : V} (hv : NearOf bs v) : LeastBy f xs v := by
  have key : ∀ b ∈ bs, b.2.1 = f b.2.2 ∧ b.2.2 ∈ xs := fun b hb => by
    have m : b.2 ∈ xs.map fun x => (f x, x) := by rw [← h]; exact List.mem_map_of_mem hb
    obtain ⟨x, hx, e⟩ := List.mem_map.mp m
    rw [← e]
    exact ⟨rfl, hx⟩
  rcases hv with ⟨z, rfl⟩ | ⟨b, hb', rfl, hm⟩
  · rw [z] at h
    exact .inl ⟨List.map_eq_nil_iff.mp h.symm, rfl⟩
  · refine .inr ⟨b.2.2, (key b hb').2, rfl, fun y hy => ?_⟩
    have m : (f y, y) ∈ bs.map (·.2) := by rw [h]; exact List.mem_map_of_mem hy
    obtain ⟨c, hc, e2⟩ := List.mem_map.mp m
    have l := of_decide_eq_true (hm c hc)
    rw [e2, (key b hb').1] at l
    dsimp only at l
    omega
--CUT
theorem shaped_is (ns : List Int) : SeqAt.shaped (.list (ns.map PyData.int)) = true := PySem.W.ke_shaped_ints ns
theorem dpAll_ints {K : PySem.W.Frag} {H : Hp} : ∀ ns : List Int, DpAll K H (ns.map V.int) (ns.map PyData.int)
  | [] => .nil
  | n :: ns => .cons (.int n) (dpAll_ints ns)
theorem eqvAll_ints : ∀ ns ms : List Int, PyData.eqvAll (ns.map PyData.int) (ms.map PyData.int) = decide (ns = ms)
  | [], [] => by rw [List.map_nil, PyData.eqvAll]; rfl
  | [], m :: ms => by rw [List.map_nil, List.map_cons, PyData.eqvAll]; rfl
  | n :: ns, [] => by rw [List.map_nil, List.map_cons, PyData.eqvAll]; rfl
  | n :: ns, m :: ms => by
    rw [List.map_cons, List.map_cons, PyData.eqvAll, eqvAll_ints ns ms, PyData.eqv]
    by_cases h1 : n = m <;> by_cases h2 : ns = ms <;> simp [h1, h2]
theorem eqv_list_self (ns : List Int) : PyData.eqv (.list (ns.map PyData.int)) (.list (ns.map PyData.int)) = true := by
  rw [PyData.eqv, eqvAll_ints]
  exact decide_eq_true rfl
/-- what the law holds on to -/
structure LS (n st en : Int) (xs : List Int) (p h pm pi pd : Addr) (v1 v2 : V) (H : Hp) : Prop where
  hp : H p = some (.lst (xs.map V.int))
  hh : H h = some (.lst (xs.map V.int))
  hm : H pm = some (.lst ((metL n st xs).map V.int))
  hi : H pi = some (.lst ((inL n st en (metL n st xs)).map V.int))
  hd : H pd = some (.lst [.ref pm, .ref pi, v1, v2])
section
variable {n st en : Int} {xs : List Int} {p h pm pi pd : Addr} {v1 v2 : V} {H H' H0 : Hp}
theorem LS.ext (L : LS n st en xs p h pm pi pd v1 v2 H) (e : LamX.ExtN H H') : LS n st en xs p h pm pi pd v1 v2 H' := ⟨extN_lst e L.hp, extN_lst e L.hh, extN_lst e L.hm, extN_lst e L.hi, extN_lst e L.hd⟩
/-- an address that nothing known stands at -/
def Off (H : Hp) (q : Addr) : Prop := ∀ b o, H b = some o → (∀ ps, o ≠ .tbl ps) → b ≠ q
theorem Off.of_none {q : Addr} (h : H q = none) : Off H q := fun b o e _ => ne_of_none e h
theorem Off.back {q : Addr} (e : LamX.ExtN H H') (h : Off H' q) : Off H q := fun b o g n => h b o (e b o g n) n
theorem Off.lst {q a : Addr} {ys : List V} (h : Off H q) (e : H a = some (.lst ys)) : a ≠ q := h _ _ e fun ps z => nomatch z
theorem LS.put {q : Addr} {o : HO} (L0 : LS n st en xs p h pm pi pd v1 v2 H0) (f : Off H0 q) (L : LS n st en xs p h pm pi pd v1 v2 H) : LS n st en xs p h pm pi pd v1 v2 (upd H q o) :=
  ⟨(upd_ne (f.lst L0.hp)).trans L.hp, (upd_ne (f.lst L0.hh)).trans L.hh, (upd_ne (f.lst L0.hm)).trans L.hm, (upd_ne (f.lst L0.hi)).trans L.hi, (upd_ne (f.lst L0.hd)).trans L.hd⟩
theorem sm_ints {K : PySem.W.Frag} {a b : Addr} {ys : List Int} (h1 : H a = some (.lst (ys.map V.int))) (h2 : H b = some (.lst (ys.map V.int))) (hl : ys.length ≤ 60) : Sm K 2 H (.ref a) (.ref b) :=
  .lst (SqL.of h1) (SqL.of h2) rfl (by rw [List.length_map]; omega) fun i x y hx hy => by
    rw [hx] at hy
    cases hy
    rw [List.getElem?_map] at hx
    obtain ⟨z, _, rfl⟩ := Option.map_eq_some_iff.mp hx
    exact .atom rfl
theorem sm_told {K : PySem.W.Frag} {q a1 a2 : Addr} (L : LS n st en xs p h pm pi pd v1 v2 H) (hl : xs.length ≤ 60) (hv1 : atomV v1 = true) (hv2 : atomV v2 = true) (hq : H q = some (.lst [.ref a1, .ref a2, v1, v2])) (h1 : H a1 = some (.lst ((metL n st xs).map V.int)))
    (h2 : H a2 = some (.lst ((inL n st en (metL n st xs)).map V.int))) : Sm K 3 H (.ref q) (.ref pd) := by
  have l1 : (metL n st xs).length ≤ 60 := by rw [(metL_perm n st xs).length_eq]; exact hl
  have l2 : (inL n st en (metL n st xs)).length ≤ 60 := by
    have := List.length_filter_le (fun y => decide (farL n st y < farL n st en)) (metL n st xs)
    unfold inL
    omega
  refine .lst (SqL.of hq) (SqL.of L.hd) rfl (by show 4 ≤ 100000; decide) fun i x y hx hy => ?_
  match i, hx, hy with
  | 0, hx, hy => cases hx; cases hy; exact sm_ints h1 L.hm l1
  | 1, hx, hy => cases hx; cases hy; exact sm_ints h2 L.hi l2
  | 2, hx, hy => cases hx; cases hy; exact .atom hv1
  | 3, hx, hy => cases hx; cases hy; exact .atom hv2
  | i + 4, hx, _ => simp at hx
theorem LeastBy.atom {f : Int → Int} {v : V} (h : LeastBy f xs v) : atomV v = true := by
  rcases h with ⟨_, rfl⟩ | ⟨x, _, rfl, _⟩ <;> rfl
end
def sp_law (K : PySem.W.Frag) : Sp := fun vs H Q _ => ∃ (a : Addr) (ns : List Int), vs = [.ref a] ∧ SqL K H a (ns.map V.int) ∧ ns.length ≤ 63 ∧ LamX.Tabs (LT K) H ∧ ∀ H', Q (.bl true) H'
theorem tabs_tape {K : PySem.W.Frag} {H H' : Hp} {t c : Addr} (T1 : Tape H t c) (k : Kp t H H') (h : LamX.Tabs (LT K) H) : LamX.Tabs (LT K) H' := by
  obtain ⟨_, _, _, _, _, e, _⟩ := T1
  exact tabs_off h e k
theorem T0.ok_law (T : T0 K mg) : FnOk P w K mg base CX0 9 T.a_law T.fd_law ["script"] (sp_law K) := by
  refine T.F_law.ok sc_law (fun vs H Q E h => ?_) (fun cdv A outer s H vs Q E hr h => ?_)
  · obtain ⟨a, ns, rfl, _⟩ := h
    rfl
  · obtain ⟨a, ns, rfl, hS, hlen, hT, q⟩ := h
    refine ⟨_, (pss_cons (ps_set (i := 1) sc_law.nd rfl (Or.inl rfl) (pe_call T.ok__law_tape (hr.mono (by decide)) (by rfl) T.g__law_tape T.k__law_tape T.b__law_tape .nil pass0 (pa_cons (pv 0) pa_nil)))
        (pss_cons (ps_set (i := 2) sc_law.nd rfl (Or.inl rfl) (pe_call T.ok__law_pick (hr.mono (by decide)) (by rfl) T.g__law_pick T.k__law_pick T.b__law_pick .nil pass0 (pa_cons (pv 1) (pa_cons pe_int pa_nil))))
        (C8.pss_cut (ps_if (pt_cmpR op_eq (pe_call T.ok__law_pick (hr.mono (by decide)) (by rfl) T.g__law_pick T.k__law_pick T.b__law_pick .nil pass0 (pa_cons (pv 1) (pa_cons pe_int pa_nil))) pe_int (nomark _)) (pss_one (ps_set (i := 2) sc_law.nd rfl (Or.inl rfl) (pe_call T.ok__law_pick (hr.mono (by decide)) (by rfl) T.g__law_pick T.k__law_pick T.b__law_pick .nil pass0 (pa_cons (pv 1) (pa_cons pe_int pa_nil))))) pss_nil)
        (pss_cons (ps_set (i := 3) sc_law.nd rfl (Or.inr rfl) (pe_call T.ok__law_circle (hr.mono (by decide)) (by rfl) T.g__law_circle T.k__law_circle T.b__law_circle .nil pass0 (pa_cons (pv 1) (pa_cons (pv 2) pa_nil))))
        (pss_cons (ps_set (i := 4) sc_law.nd rfl (Or.inl rfl) (pe_call T.ok__law_places (hr.mono (by decide)) (by rfl) T.g__law_places T.k__law_places T.b__law_places .nil pass0 (pa_cons (pv 1) (pa_cons (pv 3) (pa_cons (pv 2) pa_nil)))))
        (C8.pss_cut (ps_if (pt_cmpR op_eq (pe_call T.ok__law_pick (hr.mono (by decide)) (by rfl) T.g__law_pick T.k__law_pick T.b__law_pick .nil pass0 (pa_cons (pv 1) (pa_cons pe_int pa_nil))) pe_int (nomark _)) (pss_one (ps_setLc (i := 4) (own := [("place", 12)]) (g := gName 12) (by rfl) sc_law.nd rfl rfl (sw_true rfl rfl rfl (by decide +kernel)) (pi_list (pv 4)) (blkOk_by (own := [("place", 12)]) (N := ["script", "tape", "count", "size", "places", "start", "end", "met", "due", "handed", "k", "told", "place"]) (sc := defScope s_law) (by decide +kernel)) (fun _ _ _ _ _ => pg_name (i := 12) sc_law.nd rfl (Or.inl rfl)) (fun _ _ _ _ _ => pts_nil) (fun _ _ _ _ _ => (pe_op op_sub (pe_op op_sub (pv 3) pe_int) (pv 12))))) pss_nil)
        (pss_cons (ps_set (i := 5) sc_law.nd rfl (Or.inr rfl) (pe_call T.ok__law_spot (hr.mono (by decide)) (by rfl) T.g__law_spot T.k__law_spot T.b__law_spot .nil pass0 (pa_cons (pv 1) (pa_cons (pv 3) (pa_cons (pv 4) pa_nil)))))
        (pss_cons (ps_set (i := 6) sc_law.nd rfl (Or.inr rfl) (pe_call T.ok__law_spot (hr.mono (by decide)) (by rfl) T.g__law_spot T.k__law_spot T.b__law_spot .nil pass0 (pa_cons (pv 1) (pa_cons (pv 3) (pa_cons (pv 4) pa_nil)))))
        (C8.pss_cut (ps_if (pt_cmpR op_eq (pe_call T.ok__law_pick (hr.mono (by decide)) (by rfl) T.g__law_pick T.k__law_pick T.b__law_pick .nil pass0 (pa_cons (pv 1) (pa_cons pe_int pa_nil))) pe_int (nomark _)) (pss_one (ps_set (i := 6) sc_law.nd rfl (Or.inr rfl) (pv 5))) pss_nil)
        (pss_cons (ps_set (i := 7) sc_law.nd rfl (Or.inl rfl) (pe_call T.ok__law_met (hr.mono (by decide)) (by rfl) T.g__law_met T.k__law_met T.b__law_met .nil pass0 (pa_cons (pv 3) (pa_cons (pv 5) (pa_cons (pv 4) pa_nil)))))
        (pss_cons (ps_set (i := 8) sc_law.nd rfl (Or.inl rfl) (pe_lst (pa_cons (pv 7) (pa_cons (pe_lc (own := [("place", 12)]) (g := gName 12) (by rfl) sc_law.nd (pi_list (pv 7)) (blkOk_by (own := [("place", 12)]) (N := ["script", "tape", "count", "size", "places", "start", "end", "met", "due", "handed", "k", "told", "place"]) (sc := defScope s_law) (by decide +kernel)) (fun _ _ _ _ _ => pg_name (i := 12) sc_law.nd rfl (Or.inl rfl)) (fun _ _ _ _ _ => pts_one (pt_val (pe_call T.ok__law_between (hr.mono (by decide)) (by rfl) T.g__law_between T.k__law_between T.b__law_between .nil pass0 (pa_cons (pv 3) (pa_cons (pv 5) (pa_cons (pv 12) (pa_cons (pv 6) pa_nil))))))) (fun _ _ _ _ _ => (pv 12))) pa_nil))))
        (pss_cons (ps_expr (pe_bm PySem.F.plainAttrs_list PySem.F.slot_list_append PySem.F.type_list_append mt_append (pv 8) (pa_cons (pe_call T.ok__law_nearest (hr.mono (by decide)) (by rfl) T.g__law_nearest T.k__law_nearest T.b__law_nearest .nil pass0 (pa_cons (pe_lc (own := [("place", 12)]) (g := gName 12) (by rfl) sc_law.nd (pi_list (pv 4)) (blkOk_by (own := [("place", 12)]) (N := ["script", "tape", "count", "size", "places", "start", "end", "met", "due", "handed", "k", "told", "place"]) (sc := defScope s_law) (by decide +kernel)) (fun _ _ _ _ _ => pg_name (i := 12) sc_law.nd rfl (Or.inl rfl)) (fun _ _ _ _ _ => pts_nil) (fun _ _ _ _ _ => (pe_tup (pa_cons (pe_call T.ok__law_far (hr.mono (by decide)) (by rfl) T.g__law_far T.k__law_far T.b__law_far .nil pass0 (pa_cons (pv 3) (pa_cons (pv 5) (pa_cons (pv 12) pa_nil)))) (pa_cons (pv 12) pa_nil))))) pa_nil)) pa_nil)))
        (pss_cons (ps_expr (pe_bm PySem.F.plainAttrs_list PySem.F.slot_list_append PySem.F.type_list_append mt_append (pv 8) (pa_cons (pe_call T.ok__law_nearest (hr.mono (by decide)) (by rfl) T.g__law_nearest T.k__law_nearest T.b__law_nearest .nil pass0 (pa_cons (pe_lc (own := [("place", 12)]) (g := gName 12) (by rfl) sc_law.nd (pi_list (pv 4)) (blkOk_by (own := [("place", 12)]) (N := ["script", "tape", "count", "size", "places", "start", "end", "met", "due", "handed", "k", "told", "place"]) (sc := defScope s_law) (by decide +kernel)) (fun _ _ _ _ _ => pg_name (i := 12) sc_law.nd rfl (Or.inl rfl)) (fun _ _ _ _ _ => pts_nil) (fun _ _ _ _ _ => (pe_tup (pa_cons (pe_call T.ok__law_far (hr.mono (by decide)) (by rfl) T.g__law_far T.k__law_far T.b__law_far .nil pass0 (pa_cons (pv 3) (pa_cons (pv 12) (pa_cons (pv 6) pa_nil)))) (pa_cons (pv 12) pa_nil))))) pa_nil)) pa_nil)))
        (pss_cons (ps_set (i := 9) sc_law.nd rfl (Or.inl rfl) (pe_callTy (call_list_ofK (K := K)) (by rfl) T.m_list (by decide +kernel) (pa_cons (pv 4) pa_nil)))
        (pss_cons (ps_for PassesOwn.never rfl (pi_range1 (by rfl) T.m_range (pa_cons pe_int pa_nil)) (pg_name (i := 10) sc_law.nd rfl (Or.inl rfl)) (pss_cons (ps_set (i := 11) sc_law.nd rfl (Or.inl rfl) (pe_lst (pa_cons (pe_call T.ok_places_from (hr.mono (by decide)) (by rfl) T.g_places_from T.k_places_from T.b_places_from .nil pass0 (pa_cons (pv 3) (pa_cons (pv 5) (pa_cons (pv 9) pa_nil)))) (pa_cons (pe_call T.ok_inside (hr.mono (by decide)) (by rfl) T.g_inside T.k_inside T.b_inside .nil pass0 (pa_cons (pv 3) (pa_cons (pv 5) (pa_cons (pv 6) (pa_cons (pv 9) pa_nil))))) pa_nil))))
        (pss_cons (ps_expr (pe_bm PySem.F.plainAttrs_list PySem.F.slot_list_append PySem.F.type_list_append mt_append (pv 11) (pa_cons (pe_call T.ok_nearest_ahead (hr.mono (by decide)) (by rfl) T.g_nearest_ahead T.k_nearest_ahead T.b_nearest_ahead .nil pass0 (pa_cons (pv 3) (pa_cons (pv 5) (pa_cons (pv 9) pa_nil)))) pa_nil)))
        (pss_cons (ps_expr (pe_bm PySem.F.plainAttrs_list PySem.F.slot_list_append PySem.F.type_list_append mt_append (pv 11) (pa_cons (pe_call T.ok_nearest_behind (hr.mono (by decide)) (by rfl) T.g_nearest_behind T.k_nearest_behind T.b_nearest_behind .nil pass0 (pa_cons (pv 3) (pa_cons (pv 6) (pa_cons (pv 9) pa_nil)))) pa_nil)))
        (pss_cons (ps_if (PW.pt (pw_or (pt_not (pt_val (pe_call (T.ok__law_same 3) (hr.mono (by decide)) (by rfl) T.g__law_same T.k__law_same T.b__law_same .nil pass0 (pa_cons (pv 11) (pa_cons (pv 8) pa_nil))))) (pw_or1 (pt_cmpR (op_neD hr.units) (pv 9) (pv 4) (nomark _))))) (pss_one (ps_ret pe_bl)) pss_nil)
        (pss_cons (ps_expr (pe_bm PySem.F.plainAttrs_list PySem.F.slot_list_append PySem.F.type_list_append mt_append (pe_ix (ix_listK (K := K)) (pv 11) pe_int (fun _ _ => rfl)) (pa_cons (pv 3) pa_nil)))
        (pss_one (ps_expr (pe_bm PySem.F.plainAttrs_list PySem.F.slot_list_append PySem.F.type_list_append mt_append (pe_ix (ix_listK (K := K)) (pv 11) pe_int (fun _ _ => rfl)) (pa_cons (pv 3) pa_nil))))))))))
        (pss_one (ps_ret (pe_cmpR (op_eqD hr.units) (pv 9) (pv 4) (nomark _))))))))))))))))))), ?_⟩
    refine ⟨_, rfl, a, ns, rfl, hS, by omega, fun H1 t c s1 nt T1 => ?_⟩
    have t1 := hT.ext s1
    refine ⟨_, rfl, t, c, 9, rfl, T1, by decide, by decide, fun m0 H2 m00 m01 k2 T2 => ?_⟩
    have t2 := tabs_tape T1 k2 t1
    refine ⟨fun σ' H' => ∃ m : Int, σ' = [some (.ref a), some (.ref t), some (.int m), none, none, none, none, none, none, none, none, none, none] ∧ 0 ≤ m ∧ m ≤ 60 ∧ Tape H' t c ∧ LamX.Tabs (LT K) H', ?_, ?_⟩
    · refine ⟨_, rfl, t, c, 8, rfl, T2, by decide, by decide, fun x H3 _ _ k3 T3 => ⟨rfl, _, rfl, ite2 (fun _ => ?_) (fun _ => ?_)⟩⟩
      · exact ⟨_, rfl, t, c, 61, rfl, T3, by decide, by decide, fun m H4 m1 m2 k4 T4 => ⟨m, rfl, m1, by omega, T4, tabs_tape T3 k4 (tabs_tape T2 k3 t2)⟩⟩
      · exact ⟨m0, rfl, m00, by omega, T3, tabs_tape T2 k3 t2⟩
    rintro σ' H3 ⟨m, rfl, m1, m2, T3, t3⟩
    refine ⟨_, rfl, _, rfl, t, c, m, rfl, T3, by omega, fun n H4 n1 nm n9 k4 T4 => ?_⟩
    have t4 := tabs_tape T3 k4 t3
    refine ⟨_, rfl, _, rfl, _, rfl, t, c, n, m, rfl, T4, m1, nm, m2, n9, fun p0 ms H5 np0 ep0 lms nd hms k5 T5 => ?_⟩
    have t5 := tabs_tape T4 k5 t4
    have np : p0 ≠ t := fun z => by
      obtain ⟨_, _, _, _, _, e, _⟩ := T4
      rw [← z, np0] at e
      cases e
    refine ⟨fun σ' H' => ∃ (p : Addr) (xs : List Int), σ' = [some (.ref a), some (.ref t), some (.int m), some (.int n), some (.ref p), none, none, none, none, none, none, none, none] ∧ p ≠ t ∧ H' p = some (.lst (xs.map V.int)) ∧ InR n xs ∧ xs.length ≤ 60 ∧ Tape H' t c ∧ LamX.Tabs (LT K) H', ?_, ?_⟩
    · refine ⟨_, rfl, t, c, 2, rfl, T5, by decide, by decide, fun x H6 _ _ k6 T6 => ⟨rfl, _, rfl, ite2 (fun _ => ?_) (fun _ => ?_)⟩⟩
      · have e6 := k6 _ _ np ep0
        refine ⟨_, rfl, p0, rfl, ⟨_, SqL.of e6⟩, fun D hD => ?_⟩
        refine lc_list (K := K) (a := p0) (xs := ms.map V.int) (fun i H' => Same H6 H' ∧ H' D = some (.lst (((ms.take i).map fun x => n - 1 - x).map V.int))) ⟨same_upd hD, upd_same⟩ (fun i H' _ p => SqL.of (p.1 _ _ e6)) (fun i x H7 hx pv => ?_) (fun H7 pv => ?_)
        · obtain ⟨s7, e7⟩ := pv
          rw [List.getElem?_map] at hx
          obtain ⟨y, hyi, rfl⟩ := Option.map_eq_some_iff.mp hx
          have tk : ms.take (i + 1) = ms.take i ++ [y] := by rw [List.take_add_one, hyi]; rfl
          refine ⟨rfl, ⟨_, rfl, _, _, rfl, rfl, _, rfl, _, _, rfl, rfl, _, e7, small1000' (by rw [List.length_map, List.length_map, List.length_take]; omega), fun b o eo => (upd_ne (ne_of_none eo hD)).trans (s7 _ _ eo), ?_⟩⟩
          rw [upd_same, tk, List.map_append, List.map_append]
          rfl
        · obtain ⟨s7, e7⟩ := pv
          rw [List.length_map, List.take_of_length_le (Nat.le_refl _)] at e7
          refine ⟨D, ms.map fun x => n - 1 - x, rfl, (T6.off hD).1, e7, fun z hz => ?_, by rw [List.length_map]; omega, T6.same s7, (tabs_tape T5 k6 t5).ext s7⟩
          obtain ⟨x, hx, rfl⟩ := List.mem_map.mp hz
          have := hms x hx
          omega
      · exact ⟨p0, ms, rfl, np, k6 _ _ np ep0, hms, by omega, T6, tabs_tape T5 k6 t5⟩
    rintro σ' H6 ⟨p, xs, rfl, pt, ep, hin, lx, T6, t6⟩
    have n0 : 0 < n := by omega
    refine ⟨_, rfl, _, rfl, _, rfl, t, c, p, n, xs, rfl, T6, pt, ep, n0, hin, lx, fun st H7 _ _ k7 T7 => ?_⟩
    have ep7 := k7 _ _ pt ep
    refine ⟨_, rfl, _, rfl, _, rfl, t, c, p, n, xs, rfl, T7, pt, ep7, n0, hin, lx, fun en0 H8 _ _ k8 T8 => ?_⟩
    have ep8 := k8 _ _ pt ep7
    have t8 := tabs_tape T7 k8 (tabs_tape T6 k7 t6)
    refine ⟨fun σ' H' => ∃ en : Int, σ' = [some (.ref a), some (.ref t), some (.int m), some (.int n), some (.ref p), some (.int st), some (.int en), none, none, none, none, none, none] ∧ H' p = some (.lst (xs.map V.int)) ∧ LamX.Tabs (LT K) H', ?_, ?_⟩
    · refine ⟨_, rfl, t, c, 4, rfl, T8, by decide, by decide, fun x H9 _ _ k9 T9 => ⟨rfl, _, rfl, ite2 (fun _ => ?_) (fun _ => ?_)⟩⟩
      · exact ⟨_, rfl, st, rfl, k9 _ _ pt ep8, tabs_tape T8 k9 t8⟩
      · exact ⟨en0, rfl, k9 _ _ pt ep8, tabs_tape T8 k9 t8⟩
    rintro σ' H9 ⟨en, rfl, ep9, t9⟩
    refine ⟨_, rfl, _, rfl, _, rfl, n, st, p, xs, rfl, n0, n9, hin, lx, ep9, fun pm H10 s10 npm em => ?_⟩
    have ep10 := s10 _ _ ep9
    have l1 : (metL n st xs).length ≤ 60 := by rw [(metL_perm n st xs).length_eq]; exact lx
    refine ⟨_, rfl, _, rfl, pm, rfl, ⟨_, SqL.of em⟩, fun D hD => ?_⟩
    refine lc_list (K := K) (a := pm) (xs := (metL n st xs).map V.int) (fun i H' => Same H10 H' ∧ H' D = some (.lst ((inL n st en ((metL n st xs).take i)).map V.int))) ⟨same_upd hD, upd_same⟩ (fun i H' _ p => SqL.of (p.1 _ _ em)) (fun i x H3 hx pv => ?_) (fun H11 pv => ?_)
    · obtain ⟨s3, e3⟩ := pv
      rw [List.getElem?_map] at hx
      obtain ⟨y, hyi, rfl⟩ := Option.map_eq_some_iff.mp hx
      have lf : (inL n st en ((metL n st xs).take i)).length ≤ 60 := by
        have := List.length_filter_le (fun y => decide (farL n st y < farL n st en)) ((metL n st xs).take i)
        rw [List.length_take] at this
        unfold inL
        omega
      have tk : (metL n st xs).take (i + 1) = (metL n st xs).take i ++ [y] := by rw [List.take_add_one, hyi]; rfl
      refine ⟨rfl, ?_⟩
      refine ⟨_, rfl, _, rfl, _, rfl, _, rfl, n, st, y, en, rfl, n0, _, rfl, ?_⟩
      by_cases e : farL n st y < farL n st en
      · refine iteT' (decide_eq_true e) ⟨_, rfl, _, e3, small1000' (by rw [List.length_map]; omega), fun b o eo => (upd_ne (ne_of_none eo hD)).trans (s3 _ _ eo), ?_⟩
        rw [upd_same, tk]
        unfold inL
        rw [List.filter_append, List.filter_cons_of_pos (p := fun y => decide (farL n st y < farL n st en)) (by simpa using e), List.map_append]
        rfl
      · refine iteF' (decide_eq_false e) ⟨s3, ?_⟩
        rw [tk]
        unfold inL at e3 ⊢
        rw [List.filter_append, List.filter_cons_of_neg (by simpa using e), List.filter_nil, List.append_nil]
        exact e3
    obtain ⟨s11, e11⟩ := pv
    rw [List.length_map, List.take_of_length_le (Nat.le_refl _)] at e11
    refine ⟨lenL (by show 2 ≤ 100000; decide), fun pd npd => ?_⟩
    have s12 := same_upd (o := .lst [.ref pm, .ref D]) npd
    have e12 : upd H11 pd (.lst [.ref pm, .ref D]) pd = some (.lst [.ref pm, .ref D]) := upd_same
    generalize upd H11 pd (.lst [.ref pm, .ref D]) = H12 at s12 e12
    have ep12 := s12 _ _ (s11 _ _ ep10)
    have t12 : LamX.Tabs (LT K) H12 := ((t9.ext s10).ext s11).ext s12
    have em12 := s12 _ _ (s11 _ _ em)
    have ei12 := s12 _ _ e11
    -- due.append(..), twice
    refine ⟨_, rfl, .inl ⟨rfl, _, SqL.of e12⟩, _, rfl, p, rfl, ⟨_, SqL.of ep12⟩, fun D1 hD1 => ?_⟩
    refine lc_list (K := K) (a := p) (xs := xs.map V.int) (fun i H' => Rows (fun x => farL n st x) H12 H' D1 (xs.take i)) (by rw [List.take_zero]; exact Rows.nil hD1) (fun i H' _ p => SqL.of (p.1 _ _ ep12)) (fun i x H3 hx pv => ?_) (fun H13 pv => ?_)
    · rw [List.getElem?_map] at hx
      obtain ⟨y, hyi, rfl⟩ := Option.map_eq_some_iff.mp hx
      have tk : xs.take (i + 1) = xs.take i ++ [y] := by rw [List.take_add_one, hyi]; rfl
      refine ⟨rfl, ⟨_, rfl, _, rfl, _, rfl, n, st, y, rfl, n0, _, rfl, lenL (by show 2 ≤ 100000; decide), fun p hp => ?_⟩⟩
      rw [tk]
      exact Rows.step hD1 pv hp (by rw [List.length_take]; omega)
    rw [List.length_map, List.take_of_length_le (Nat.le_refl _)] at pv
    obtain ⟨s13, bs1, eb1, hb1, ht1⟩ := pv
    refine ⟨D1, bs1, rfl, eb1, ht1, fun v1 lv1 => ?_⟩
    have lv1 := nearest_rows hb1 lv1
    refine ⟨pd, _, _, rfl, rfl, s13 _ _ e12, small1000' (by show 2 ≤ 100000; decide), ?_⟩
    have e13 := s13 _ _ e12
    have k13 : ∀ {b : Addr} {zs : List V}, b ≠ pd → H12 b = some (.lst zs) → upd H13 pd (.lst [.ref pm, .ref D, v1]) b = some (.lst zs) := fun nb e => (upd_ne nb).trans (s13 _ _ e)
    have npp : p ≠ pd := ne_of_none (s11 _ _ ep10) npd
    have npm2 : pm ≠ pd := ne_of_none (s11 _ _ em) npd
    have npi : D ≠ pd := ne_of_none e11 npd
    have ep14 := k13 npp ep12
    have em14 := k13 npm2 em12
    have ei14 := k13 npi ei12
    have e14 : upd H13 pd (.lst [.ref pm, .ref D, v1]) pd = some (.lst [.ref pm, .ref D, v1]) := upd_same
    have t14 : LamX.Tabs (LT K) (upd H13 pd (.lst [.ref pm, .ref D, v1])) := tabs_off (t12.ext s13) e13 Kp.put
    show tSeq _ _ _ _ (upd H13 pd (.lst [.ref pm, .ref D, v1]))
    generalize upd H13 pd (.lst [.ref pm, .ref D, v1]) = H14 at ep14 em14 ei14 e14 t14
    refine ⟨_, rfl, .inl ⟨rfl, _, SqL.of e14⟩, _, rfl, p, rfl, ⟨_, SqL.of ep14⟩, fun D2 hD2 => ?_⟩
    refine lc_list (K := K) (a := p) (xs := xs.map V.int) (fun i H' => Rows (fun x => farL n x en) H14 H' D2 (xs.take i)) (by rw [List.take_zero]; exact Rows.nil hD2) (fun i H' _ p => SqL.of (p.1 _ _ ep14)) (fun i x H3 hx pv => ?_) (fun H15 pv => ?_)
    · rw [List.getElem?_map] at hx
      obtain ⟨y, hyi, rfl⟩ := Option.map_eq_some_iff.mp hx
      have tk : xs.take (i + 1) = xs.take i ++ [y] := by rw [List.take_add_one, hyi]; rfl
      refine ⟨rfl, ⟨_, rfl, _, rfl, _, rfl, n, y, en, rfl, n0, _, rfl, lenL (by show 2 ≤ 100000; decide), fun p hp => ?_⟩⟩
      rw [tk]
      exact Rows.step hD2 pv hp (by rw [List.length_take]; omega)
    rw [List.length_map, List.take_of_length_le (Nat.le_refl _)] at pv
    obtain ⟨s15, bs2, eb2, hb2, ht2⟩ := pv
    refine ⟨D2, bs2, rfl, eb2, ht2, fun v2 lv2 => ?_⟩
    have lv2 := nearest_rows hb2 lv2
    have e15 := s15 _ _ e14
    refine ⟨pd, _, _, rfl, rfl, e15, small1000' (by show 3 ≤ 100000; decide), ?_⟩
    have ep16 : upd H15 pd (.lst [.ref pm, .ref D, v1, v2]) p = _ := (upd_ne npp).trans (s15 _ _ ep14)
    have em16 : upd H15 pd (.lst [.ref pm, .ref D, v1, v2]) pm = _ := (upd_ne npm2).trans (s15 _ _ em14)
    have ei16 : upd H15 pd (.lst [.ref pm, .ref D, v1, v2]) D = _ := (upd_ne npi).trans (s15 _ _ ei14)
    have e16 : upd H15 pd (.lst [.ref pm, .ref D, v1, v2]) pd = some (.lst [.ref pm, .ref D, v1, v2]) := upd_same
    have t16 : LamX.Tabs (LT K) (upd H15 pd (.lst [.ref pm, .ref D, v1, v2])) := tabs_off (t14.ext s15) e15 Kp.put
    show tSeq _ _ _ _ (upd H15 pd (.lst [.ref pm, .ref D, v1, v2]))
    generalize upd H15 pd (.lst [.ref pm, .ref D, v1, v2]) = H16 at ep16 em16 ei16 e16 t16
    -- handed = list(places)
    refine ⟨_, rfl, p, _, rfl, .inl (SqL.of ep16), fun hd nhd => ?_⟩
    have s17 := same_upd (o := .lst (xs.map V.int)) nhd
    have L17 : LS n st en xs p hd pm D pd v1 v2 (upd H16 hd (.lst (xs.map V.int))) := ⟨s17 _ _ ep16, upd_same, s17 _ _ em16, s17 _ _ ei16, s17 _ _ e16⟩
    have t17 := t16.ext s17
    generalize upd H16 hd (.lst (xs.map V.int)) = H17 at L17 t17 s17
    refine ⟨2, rfl, by decide, by decide, for_range (lo := 0) (n := 2) (fun i σ' H' => ∃ (o1 o2 : Option V), σ' = [some (.ref a), some (.ref t), some (.int m), some (.int n), some (.ref p), some (.int st), some (.int en), some (.ref pm), some (.ref pd), some (.ref hd), o1, o2, none] ∧ LS n st en xs p hd pm D pd v1 v2 H' ∧ LamX.Tabs (LT K) H')
      ⟨none, none, rfl, L17, t17⟩ (fun i σ' H' hi p => ?_) (fun σ' H' p => ?_)⟩
    · obtain ⟨o1, o2, rfl, L, tb⟩ := p
      refine ⟨_, rfl, _, rfl, _, rfl, n, st, hd, xs, rfl, n0, n9, SqL.of L.hh, tb, fun q1 G1 x1 tb1 d1 f1 => ?_⟩
      have L1 := L.ext x1
      refine ⟨_, rfl, _, rfl, _, rfl, _, rfl, n, st, en, hd, xs, rfl, n0, n9, lx, SqL.of L1.hh, tb1, fun q2 G2 x2 tb2 d2 f2 => ?_⟩
      have L2 := L1.ext x2
      have f12 := extN_lst x2 f1
      have n12 : q1 ≠ q2 := Off.lst d2 f1
      refine ⟨lenL (by show 2 ≤ 100000; decide), fun q3 nq3 => ?_⟩
      have n13 := ne_of_none f12 nq3
      have n23 := ne_of_none f2 nq3
      have d3 : Off G2 q3 := Off.of_none nq3
      have s3 := same_upd (o := .lst [.ref q1, .ref q2]) nq3
      have L3 := L2.ext (ExtN.of_same s3)
      have tb3 := tb2.ext s3
      have f13 := s3 _ _ f12
      have f23 := s3 _ _ f2
      have e3 : upd G2 q3 (.lst [.ref q1, .ref q2]) q3 = some (.lst [.ref q1, .ref q2]) := upd_same
      generalize upd G2 q3 (.lst [.ref q1, .ref q2]) = G3 at L3 tb3 f13 f23 e3
      refine ⟨_, rfl, .inl ⟨rfl, _, SqL.of e3⟩, _, rfl, _, rfl, _, rfl, n, st, hd, xs, rfl, n0, SqL.of L3.hh, tb3, fun u1 G4 x4 tb4 lu1 => ?_⟩
      obtain rfl : u1 = v1 := LeastBy.one (fun a ha b hb e => far_inj n0 (hin a ha) (hin b hb) e) lu1 lv1
      have e4 := extN_lst x4 e3
      refine ⟨q3, _, _, rfl, rfl, e4, small1000' (by show 2 ≤ 100000; decide), ?_⟩
      have L5 : LS n st en xs p hd pm D pd u1 v2 (upd G4 q3 (.lst [.ref q1, .ref q2, u1])) := LS.put L2 d3 (L3.ext x4)
      have tb5 : LamX.Tabs (LT K) (upd G4 q3 (.lst [.ref q1, .ref q2, u1])) := tabs_off tb4 e4 Kp.put
      have f15 : upd G4 q3 (.lst [.ref q1, .ref q2, u1]) q1 = _ := (upd_ne n13).trans (extN_lst x4 f13)
      have f25 : upd G4 q3 (.lst [.ref q1, .ref q2, u1]) q2 = _ := (upd_ne n23).trans (extN_lst x4 f23)
      have e5 : upd G4 q3 (.lst [.ref q1, .ref q2, u1]) q3 = some (.lst [.ref q1, .ref q2, u1]) := upd_same
      show tSeq _ _ _ _ (upd G4 q3 (.lst [.ref q1, .ref q2, u1]))
      generalize upd G4 q3 (.lst [.ref q1, .ref q2, u1]) = G5 at L5 tb5 f15 f25 e5
      refine ⟨_, rfl, .inl ⟨rfl, _, SqL.of e5⟩, _, rfl, _, rfl, _, rfl, n, en, hd, xs, rfl, n0, SqL.of L5.hh, tb5, fun u2 G6 x6 tb6 lu2 => ?_⟩
      obtain rfl : u2 = v2 := LeastBy.one (fun a ha b hb e => farB_inj n0 (hin a ha) (hin b hb) e) lu2 lv2
      have e6 := extN_lst x6 e5
      refine ⟨q3, _, _, rfl, rfl, e6, small1000' (by show 3 ≤ 100000; decide), ?_⟩
      have L7 : LS n st en xs p hd pm D pd u1 u2 (upd G6 q3 (.lst [.ref q1, .ref q2, u1, u2])) := LS.put L2 d3 (L5.ext x6)
      have tb7 : LamX.Tabs (LT K) (upd G6 q3 (.lst [.ref q1, .ref q2, u1, u2])) := tabs_off tb6 e6 Kp.put
      have f17 : upd G6 q3 (.lst [.ref q1, .ref q2, u1, u2]) q1 = _ := (upd_ne n13).trans (extN_lst x6 f15)
      have f27 : upd G6 q3 (.lst [.ref q1, .ref q2, u1, u2]) q2 = _ := (upd_ne n23).trans (extN_lst x6 f25)
      have e7 : upd G6 q3 (.lst [.ref q1, .ref q2, u1, u2]) q3 = some (.lst [.ref q1, .ref q2, u1, u2]) := upd_same
      show tSeq _ _ _ _ (upd G6 q3 (.lst [.ref q1, .ref q2, u1, u2]))
      generalize upd G6 q3 (.lst [.ref q1, .ref q2, u1, u2]) = G7 at L7 tb7 f17 f27 e7
      refine ⟨_, rfl, _, rfl, .ref q3, .ref pd, rfl, sm_told L7 lx lv1.atom lv2.atom e7 f17 f27, fun G8 s8 => ⟨true, rfl, iteF' rfl ?_⟩⟩
      have L8 := L7.ext (ExtN.of_same s8)
      have tb8 := tb7.ext s8
      have f18 := s8 _ _ f17
      have f28 := s8 _ _ f27
      have e8 := s8 _ _ e7
      refine ⟨_, rfl, _, rfl, _, _, .lst (SqL.of L8.hh) (dpAll_ints _), .lst (SqL.of L8.hp) (dpAll_ints _), shaped_is _, shaped_is _, _, rfl, iteF' (by rw [eqv_list_self]; rfl) ?_⟩
      refine ⟨_, rfl, q3, _, 0, _, rfl, rfl, SqL.of e8, rfl, .inl ⟨rfl, _, SqL.of f18⟩, _, rfl, q1, _, _, rfl, rfl, f18, small1000' (by rw [List.length_map]; omega), ?_⟩
      have L9 : LS n st en xs p hd pm D pd u1 u2 (upd G8 q1 (.lst ((metL n st xs).map V.int ++ [V.int n]))) := LS.put L d1 L8
      have tb9 : LamX.Tabs (LT K) (upd G8 q1 (.lst ((metL n st xs).map V.int ++ [V.int n]))) := tabs_off tb8 f18 Kp.put
      have f29 : upd G8 q1 (.lst ((metL n st xs).map V.int ++ [V.int n])) q2 = _ := (upd_ne (Ne.symm n12)).trans f28
      have e9 : upd G8 q1 (.lst ((metL n st xs).map V.int ++ [V.int n])) q3 = _ := (upd_ne (Ne.symm n13)).trans e8
      generalize upd G8 q1 (.lst ((metL n st xs).map V.int ++ [V.int n])) = G9 at L9 tb9 f29 e9
      have lf : (inL n st en (metL n st xs)).length ≤ 60 := by
        have := List.length_filter_le (fun y => decide (farL n st y < farL n st en)) (metL n st xs)
        unfold inL
        omega
      refine ⟨_, rfl, q3, _, 1, _, rfl, rfl, SqL.of e9, rfl, .inl ⟨rfl, _, SqL.of f29⟩, _, rfl, q2, _, _, rfl, rfl, f29, small1000' (by rw [List.length_map]; omega), ?_⟩
      exact ⟨_, _, rfl, LS.put L1 d2 L9, tabs_off tb9 f29 Kp.put⟩
    · obtain ⟨o1, o2, rfl, L, tb⟩ := p
      refine ⟨_, rfl, _, rfl, _, _, .lst (SqL.of L.hh) (dpAll_ints _), .lst (SqL.of L.hp) (dpAll_ints _), shaped_is _, shaped_is _, ?_⟩
      rw [eqv_list_self]
      exact q _
end
set_option maxHeartbeats 0 in
theorem heFacts {P : Program} {w : World} {K : PySem.W.Frag} {h : Heap} {mg : Str → Option Value} {f : Addr} (X : K.In h) (G : h.Ns mainGlobals mg) (hfa : mg ("law" : Str) = some (.ref f)) (c : HeSays heFa heFn heEx K) :
    ∃ fd : FuncData, (∀ (s : Shared) (v : Value), BindsTo s fd ⟨[v], []⟩ [("script", v)]) ∧ ∀ base : Heap, K.In base → base.Ns mainGlobals mg → (∀ p ∈ lamTf.map (He.cT K), LamX.TabB base mg p.1 p.2) → FnOk P w K mg base CX0 9 f fd ["script"] (sp_law K) := by
  obtain ⟨fd0, FD0⟩ := c.d.def_ 0 (d := hd_far) rfl
  have F0 : Fun K "far" "far" s_far (He.fAd K ("far", none)) fd0 := fun_of (st := s_far) FD0
  obtain ⟨fd1, FD1⟩ := c.d.def_ 1 (d := hd_between) rfl
  have F1 : Fun K "between" "between" s_between (He.fAd K ("between", none)) fd1 := fun_of (st := s_between) FD1
  obtain ⟨fd2, FD2⟩ := c.d.def_ 2 (d := hd_places_from) rfl
  have F2 : Fun K "places_from" "places_from" s_places_from (He.fAd K ("places_from", none)) fd2 := fun_of (st := s_places_from) FD2
  obtain ⟨fd3, FD3⟩ := c.d.def_ 3 (d := hd_inside) rfl
  have F3 : Fun K "inside" "inside" s_inside (He.fAd K ("inside", none)) fd3 := fun_of (st := s_inside) FD3
  obtain ⟨fd4, FD4⟩ := c.d.def_ 4 (d := hd_nearest_ahead) rfl
  have F4 : Fun K "nearest_ahead" "nearest_ahead" s_nearest_ahead (He.fAd K ("nearest_ahead", none)) fd4 := fun_of (st := s_nearest_ahead) FD4
  obtain ⟨fd5, FD5⟩ := c.d.def_ 5 (d := hd_nearest_behind) rfl
  have F5 : Fun K "nearest_behind" "nearest_behind" s_nearest_behind (He.fAd K ("nearest_behind", none)) fd5 := fun_of (st := s_nearest_behind) FD5
  obtain ⟨fd6, FD6⟩ := c.d.def_ 6 (d := hd__law_size) rfl
  have F6 : Fun K "_law_size" "_law_size" s__law_size (He.fAd K ("_law_size", none)) fd6 := fun_of (st := s__law_size) FD6
  obtain ⟨fd7, FD7⟩ := c.d.def_ 7 (d := hd__law_places) rfl
  have F7 : Fun K "_law_places" "_law_places" s__law_places (He.fAd K ("_law_places", none)) fd7 := fun_of (st := s__law_places) FD7
  obtain ⟨fd8, FD8⟩ := c.d.def_ 8 (d := hd__law_far) rfl
  have F8 : Fun K "_law_far" "_law_far" s__law_far (He.fAd K ("_law_far", none)) fd8 := fun_of (st := s__law_far) FD8
  obtain ⟨fd9, FD9⟩ := c.d.def_ 9 (d := hd__law_between) rfl
  have F9 : Fun K "_law_between" "_law_between" s__law_between (He.fAd K ("_law_between", none)) fd9 := fun_of (st := s__law_between) FD9
  obtain ⟨fd10, FD10⟩ := c.d.def_ 10 (d := hd__law_wide) rfl
  have F10 : Fun K "_law_wide" "_law_wide" s__law_wide (He.fAd K ("_law_wide", none)) fd10 := fun_of (st := s__law_wide) FD10
  obtain ⟨fd11, FD11⟩ := c.d.def_ 11 (d := hd__law_circle) rfl
  have F11 : Fun K "_law_circle" "_law_circle" s__law_circle (He.fAd K ("_law_circle", none)) fd11 := fun_of (st := s__law_circle) FD11
  obtain ⟨fd12, FD12⟩ := c.d.def_ 12 (d := hd__law_spot) rfl
  have F12 : Fun K "_law_spot" "_law_spot" s__law_spot (He.fAd K ("_law_spot", none)) fd12 := fun_of (st := s__law_spot) FD12
  obtain ⟨fd13, FD13⟩ := c.d.def_ 13 (d := hd__law_met) rfl
  have F13 : Fun K "_law_met" "_law_met" s__law_met (He.fAd K ("_law_met", none)) fd13 := fun_of (st := s__law_met) FD13
  obtain ⟨fd14, FD14⟩ := c.d.def_ 14 (d := hd__law_nearest) rfl
  have F14 : Fun K "_law_nearest" "_law_nearest" s__law_nearest (He.fAd K ("_law_nearest", none)) fd14 := fun_of (st := s__law_nearest) FD14
  obtain ⟨fd15, FD15⟩ := c.d.def_ 15 (d := hd_law) rfl
  have F15 : Fun K "law" "law" s_law (He.fAd K ("law", none)) fd15 := fun_of (st := s_law) FD15
  obtain ⟨fd16, FD16⟩ := c.d.def_ 16 (d := hd__law_tape) rfl
  have F16 : Fun K "_law_tape" "_law_tape" s__law_tape (He.fAd K ("_law_tape", none)) fd16 := fun_of (st := s__law_tape) FD16
  obtain ⟨fd17, FD17⟩ := c.d.def_ 17 (d := hd__law_pick) rfl
  have F17 : Fun K "_law_pick" "_law_pick" s__law_pick (He.fAd K ("_law_pick", none)) fd17 := fun_of (st := s__law_pick) FD17
  obtain ⟨fd18, FD18⟩ := c.d.def_ 18 (d := hd__law_same) rfl
  have F18 : Fun K "_law_same" "_law_same" s__law_same (He.fAd K ("_law_same", none)) fd18 := fun_of (st := s__law_same) FD18
  have e := hfa.symm.trans (He.glo_ok X G (c.d.fact 28 rfl))
  cases e
  have b := FunD.bindsA (ps := ["script"]) FD15 fun _ _ _ _ _ _ us hl => match us, hl with | [_], _ => rfl
  let T : T0 K mg := {
    m_abs := He.free_ok X G (c.d.fact 0 rfl),
    m_bool := He.free_ok X G (c.d.fact 1 rfl),
    m_dict := He.free_ok X G (c.d.fact 2 rfl),
    m_int := He.free_ok X G (c.d.fact 3 rfl),
    m_isinstance := He.free_ok X G (c.d.fact 4 rfl),
    m_len := He.free_ok X G (c.d.fact 5 rfl),
    m_list := He.free_ok X G (c.d.fact 6 rfl),
    m_max := He.free_ok X G (c.d.fact 7 rfl),
    m_min := He.free_ok X G (c.d.fact 8 rfl),
    m_range := He.free_ok X G (c.d.fact 9 rfl),
    m_sorted := He.free_ok X G (c.d.fact 10 rfl),
    m_str := He.free_ok X G (c.d.fact 11 rfl),
    m_tuple := He.free_ok X G (c.d.fact 12 rfl),
    a_far := He.fAd K ("far", none),
    fd_far := fd0,
    g_far := He.glo_ok X G (c.d.fact 13 rfl),
    F_far := F0,
    b_far := F0.binds (ps := ["size", "start", "end"]) fun _ _ _ _ _ _ us hl => match us, hl with | [_, _, _], _ => rfl,
    a_between := He.fAd K ("between", none),
    fd_between := fd1,
    g_between := He.glo_ok X G (c.d.fact 14 rfl),
    F_between := F1,
    b_between := F1.binds (ps := ["size", "start", "place", "end"]) fun _ _ _ _ _ _ us hl => match us, hl with | [_, _, _, _], _ => rfl,
    a_places_from := He.fAd K ("places_from", none),
    fd_places_from := fd2,
    g_places_from := He.glo_ok X G (c.d.fact 15 rfl),
    F_places_from := F2,
    b_places_from := F2.binds (ps := ["size", "start", "places"]) fun _ _ _ _ _ _ us hl => match us, hl with | [_, _, _], _ => rfl,
    a_inside := He.fAd K ("inside", none),
    fd_inside := fd3,
    g_inside := He.glo_ok X G (c.d.fact 16 rfl),
    F_inside := F3,
    b_inside := F3.binds (ps := ["size", "start", "end", "places"]) fun _ _ _ _ _ _ us hl => match us, hl with | [_, _, _, _], _ => rfl,
    a_nearest_ahead := He.fAd K ("nearest_ahead", none),
    fd_nearest_ahead := fd4,
    g_nearest_ahead := He.glo_ok X G (c.d.fact 17 rfl),
    F_nearest_ahead := F4,
    b_nearest_ahead := F4.binds (ps := ["size", "start", "places"]) fun _ _ _ _ _ _ us hl => match us, hl with | [_, _, _], _ => rfl,
    a_nearest_behind := He.fAd K ("nearest_behind", none),
    fd_nearest_behind := fd5,
    g_nearest_behind := He.glo_ok X G (c.d.fact 18 rfl),
    F_nearest_behind := F5,
    b_nearest_behind := F5.binds (ps := ["size", "end", "places"]) fun _ _ _ _ _ _ us hl => match us, hl with | [_, _, _], _ => rfl,
    a__law_size := He.fAd K ("_law_size", none),
    fd__law_size := fd6,
    g__law_size := He.glo_ok X G (c.d.fact 19 rfl),
    F__law_size := F6,
    b__law_size := F6.binds (ps := ["tape", "count"]) fun _ _ _ _ _ _ us hl => match us, hl with | [_, _], _ => rfl,
    a__law_places := He.fAd K ("_law_places", none),
    fd__law_places := fd7,
    g__law_places := He.glo_ok X G (c.d.fact 20 rfl),
    F__law_places := F7,
    b__law_places := F7.binds (ps := ["tape", "size", "count"]) fun _ _ _ _ _ _ us hl => match us, hl with | [_, _, _], _ => rfl,
    a__law_far := He.fAd K ("_law_far", none),
    fd__law_far := fd8,
    g__law_far := He.glo_ok X G (c.d.fact 21 rfl),
    F__law_far := F8,
    b__law_far := F8.binds (ps := ["size", "start", "end"]) fun _ _ _ _ _ _ us hl => match us, hl with | [_, _, _], _ => rfl,
    a__law_between := He.fAd K ("_law_between", none),
    fd__law_between := fd9,
    g__law_between := He.glo_ok X G (c.d.fact 22 rfl),
    F__law_between := F9,
    b__law_between := F9.binds (ps := ["size", "start", "place", "end"]) fun _ _ _ _ _ _ us hl => match us, hl with | [_, _, _, _], _ => rfl,
    a__law_wide := He.fAd K ("_law_wide", none),
    fd__law_wide := fd10,
    g__law_wide := He.glo_ok X G (c.d.fact 23 rfl),
    F__law_wide := F10,
    b__law_wide := F10.binds (ps := ["tape", "size"]) fun _ _ _ _ _ _ us hl => match us, hl with | [_, _], _ => rfl,
    a__law_circle := He.fAd K ("_law_circle", none),
    fd__law_circle := fd11,
    g__law_circle := He.glo_ok X G (c.d.fact 24 rfl),
    F__law_circle := F11,
    b__law_circle := F11.binds (ps := ["tape", "count"]) fun _ _ _ _ _ _ us hl => match us, hl with | [_, _], _ => rfl,
    a__law_spot := He.fAd K ("_law_spot", none),
    fd__law_spot := fd12,
    g__law_spot := He.glo_ok X G (c.d.fact 25 rfl),
    F__law_spot := F12,
    b__law_spot := F12.binds (ps := ["tape", "size", "places"]) fun _ _ _ _ _ _ us hl => match us, hl with | [_, _, _], _ => rfl,
    a__law_met := He.fAd K ("_law_met", none),
    fd__law_met := fd13,
    g__law_met := He.glo_ok X G (c.d.fact 26 rfl),
    F__law_met := F13,
    b__law_met := F13.binds (ps := ["size", "start", "places"]) fun _ _ _ _ _ _ us hl => match us, hl with | [_, _, _], _ => rfl,
    a__law_nearest := He.fAd K ("_law_nearest", none),
    fd__law_nearest := fd14,
    g__law_nearest := He.glo_ok X G (c.d.fact 27 rfl),
    F__law_nearest := F14,
    b__law_nearest := F14.binds (ps := ["pairs"]) fun _ _ _ _ _ _ us hl => match us, hl with | [_], _ => rfl,
    a_law := He.fAd K ("law", none),
    fd_law := fd15,
    g_law := He.glo_ok X G (c.d.fact 28 rfl),
    F_law := F15,
    b_law := F15.binds (ps := ["script"]) fun _ _ _ _ _ _ us hl => match us, hl with | [_], _ => rfl,
    a__law_tape := He.fAd K ("_law_tape", none),
    fd__law_tape := fd16,
    g__law_tape := He.glo_ok X G (c.d.fact 29 rfl),
    F__law_tape := F16,
    b__law_tape := F16.binds (ps := ["script"]) fun _ _ _ _ _ _ us hl => match us, hl with | [_], _ => rfl,
    a__law_pick := He.fAd K ("_law_pick", none),
    fd__law_pick := fd17,
    g__law_pick := He.glo_ok X G (c.d.fact 30 rfl),
    F__law_pick := F17,
    b__law_pick := F17.binds (ps := ["tape", "size"]) fun _ _ _ _ _ _ us hl => match us, hl with | [_, _], _ => rfl,
    a__law_same := He.fAd K ("_law_same", none),
    fd__law_same := fd18,
    g__law_same := He.glo_ok X G (c.d.fact 31 rfl),
    F__law_same := F18,
    b__law_same := F18.binds (ps := ["actual", "due"]) fun _ _ _ _ _ _ us hl => match us, hl with | [_, _], _ => rfl,
    cd_places_from := code_of (p := ("places_from", none)) F2,
    lt_places_from := lt_of (c.exf 0 rfl),
    cd_nearest_ahead := code_of (p := ("nearest_ahead", none)) F4,
    lt_nearest_ahead := lt_of (c.exf 1 rfl),
    cd_nearest_behind := code_of (p := ("nearest_behind", none)) F5,
    lt_nearest_behind := lt_of (c.exf 2 rfl) }
  refine ⟨fd15, fun s v => b s [v] rfl, fun base _ _ TB => ?_⟩
  haveI : LamT K mg base := ⟨TB (He.cT K ("places_from", none)) (by simp [lamTf]), TB (He.cT K ("nearest_ahead", none)) (by simp [lamTf]), TB (He.cT K ("nearest_behind", none)) (by simp [lamTf])⟩
  exact T.ok_law
theorem lt_nil {K : PySem.W.Frag} {H : Hp} (h : ∀ p ∈ lamTf.map (He.cT K), H p.2 = some (.tbl #[])) : LamX.Tabs (LT K) H := by
  intro p hp
  unfold LT at hp
  simp only [List.mem_cons, List.not_mem_nil, or_false] at hp
  rcases hp with rfl | rfl | rfl
  · exact LamX.TabS.nil (h (He.cT K ("places_from", none)) (by simp [lamTf]))
  · exact LamX.TabS.nil (h (He.cT K ("nearest_ahead", none)) (by simp [lamTf]))
  · exact LamX.TabS.nil (h (He.cT K ("nearest_behind", none)) (by simp [lamTf]))
end Z
open PySem PySem.W PySem.Calls PyProof.Rows
set_option maxHeartbeats 0 in
theorem PySem.Challenge.cw_ringlaps_k03_places_in_order_holds : PySem.Challenge.rw_ringlaps_k03_places_in_order.Holds := by
  w_on; o_law
  refine HandSHeadRun.head_any (r := OpenLaw.row PySem.Challenge.rw_ringlaps_k03_places_in_order) (q := view (OpenLaw.row PySem.Challenge.rw_ringlaps_k03_places_in_order).prog [20]) (H := Z.heK) (ob := Z.heOb) (M := 30000) (loose := Z.heLoose) (d := HandSHeadRun.topDef (OpenLaw.row PySem.Challenge.rw_ringlaps_k03_places_in_order).prog 20) (kwd := []) Z.heOb_eq
    (by kernel_rfl) (fun s => by kernel_rfl) Z.heRun (by kernel_rfl) (by kernel_rfl) (by kernel_rfl) (by rfl) (by first | assumption | decide +kernel) (by decide +kernel) ⟨rfl, rfl, rfl, rfl, rfl, by decide +kernel⟩ ?hw ?hc
  case hw => w_witness2
  case hc =>
    refine LamX.walk_ofTsE (l := PySem.Challenge.rw_ringlaps_k03_places_in_order) (n := 63) (k := 9) (x := "script") (CX := fun _ => L2.CX0) rfl (by decide) (by kernel_rfl) ⟨rfl, by decide, by decide⟩ ?F (fun _ _ _ _ _ z => z)
    intro w mg fa h Y G hmg0
    obtain ⟨K, KX, c⟩ := Y
    have hmg : mg ("law" : PySem.Str) = some (.ref fa) := by
      have e : (HandSHeadRun.topDef (OpenLaw.row PySem.Challenge.rw_ringlaps_k03_places_in_order).prog 20).name = ("law" : PySem.Str) := by kernel_rfl
      rw [← e]
      exact hmg0
    obtain ⟨fd, hb, hF⟩ := Z.heFacts (P := (PySem.Challenge.rw_ringlaps_k03_places_in_order).prog) (w := w) KX G hmg c.s
    refine ⟨K, KX, fd, Z.lamTf.map (He.cT K), Z.sp_law K, fun p hp => ?_, fun p hp => ?_, fun p hp => ?_, hb, fun H a ns hl _ hT hS => ⟨a, ns, rfl, hS, hl, Z.lt_nil hT, fun _ => rfl⟩, hF⟩
    · obtain ⟨d, hd, rfl⟩ := List.mem_map.mp hp
      exact c.empty d hd
    · obtain ⟨d, hd, rfl⟩ := List.mem_map.mp hp
      exact c.out d hd
    · obtain ⟨d, hd, rfl⟩ := List.mem_map.mp hp
      exact PySem.W.codeHd_of_K KX (c.hd d hd)
#print axioms PySem.Challenge.cw_ringlaps_k03_places_in_order_holds
