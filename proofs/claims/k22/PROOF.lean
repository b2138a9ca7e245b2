import PyProof.Rows.All
import Wide.All
import OpenK.AllK
import Wide.FinOn
import PySem.Challenge.RW_ringlaps_k22_errors_stand_apart
import HandS.ForMost
import HandS.Star
import HandS.Defaults
import HandS.MakeKw
import HandS.Style
import HandS.Zip0
import HandS.Zip
import KE.KDictZip
import HandS.Steps
import HandS.ListItems
import HandS.Codes
import HandS.Conv
import HandS.Dict
import HandS.DictComp
import HandS.More
import HandS.Small
import HandS.MakeKwOnly
import HandS.ForDict
import HandS.Walk
import HandS.Wide
import HandS.Flow
import HandS.IsInst
import HandS.Sort
import HandS.SortKw
import HandS.Iter
import KE.KEqSeq
import KE.KUnpackStar
import KE.KDictSum
import HandS.ExcInit
import HandS.ExcInitHot
import HandS.ExcCtx
import HandS.HotCalls
import HandS.ExcOwn
import HandS.SetFor
import HandS.ExcValue
import KE.KExcIs
import HandS.SetKeys
set_option Elab.async false
set_option linter.all false
set_option maxRecDepth 100000
set_option maxHeartbeats 4000000
namespace Z
open PySem PySem.Spec PyProof.Rows L2
def topS (i : Nat) : Stmt := PySem.Challenge.pw_ringlaps_k22_errors_stand_apart.main.body.getD i (.Pass ⟨0, 0, 0, 0⟩)
abbrev s__law_tape : Stmt := topS 21
theorem sc__law_tape : FnScope ["script", "cells", "cell"] ["script"] (defScope s__law_tape) := ⟨rfl, rfl, rfl, by decide +kernel, rfl, by decide +kernel, by decide +kernel⟩
abbrev s__law_pick : Stmt := topS 22
theorem sc__law_pick : FnScope ["tape", "size", "cells", "cell", "k", "number", "used", "mixed"] ["tape", "size"] (defScope s__law_pick) := ⟨rfl, rfl, rfl, by decide +kernel, rfl, by decide +kernel, by decide +kernel⟩
abbrev s__law_same : Stmt := topS 23
theorem sc__law_same : FnScope ["actual", "due", "k"] ["actual", "due"] (defScope s__law_same) := ⟨rfl, rfl, rfl, by decide +kernel, rfl, by decide +kernel, by decide +kernel⟩
abbrev s_OffCircle__init : Stmt := inClass (topS 2) 0
theorem sc_OffCircle__init : FnScope ["self", "place"] ["self", "place"] (defScope s_OffCircle__init) := ⟨rfl, rfl, rfl, by decide +kernel, rfl, by decide +kernel, by decide +kernel⟩
abbrev s_NoHouse__init : Stmt := inClass (topS 3) 0
theorem sc_NoHouse__init : FnScope ["self", "place"] ["self", "place"] (defScope s_NoHouse__init) := ⟨rfl, rfl, rfl, by decide +kernel, rfl, by decide +kernel, by decide +kernel⟩
abbrev s_TakenPlace__init : Stmt := inClass (topS 4) 0
theorem sc_TakenPlace__init : FnScope ["self", "place"] ["self", "place"] (defScope s_TakenPlace__init) := ⟨rfl, rfl, rfl, by decide +kernel, rfl, by decide +kernel, by decide +kernel⟩
abbrev s_StillNamed__init : Stmt := inClass (topS 5) 0
theorem sc_StillNamed__init : FnScope ["self", "place"] ["self", "place"] (defScope s_StillNamed__init) := ⟨rfl, rfl, rfl, by decide +kernel, rfl, by decide +kernel, by decide +kernel⟩
abbrev s_NotBetween__init : Stmt := inClass (topS 6) 0
theorem sc_NotBetween__init : FnScope ["self", "place"] ["self", "place"] (defScope s_NotBetween__init) := ⟨rfl, rfl, rfl, by decide +kernel, rfl, by decide +kernel, by decide +kernel⟩
abbrev s_SamePiece__init : Stmt := inClass (topS 7) 0
theorem sc_SamePiece__init : FnScope ["self", "place"] ["self", "place"] (defScope s_SamePiece__init) := ⟨rfl, rfl, rfl, by decide +kernel, rfl, by decide +kernel, by decide +kernel⟩
abbrev s_NotQuiet__init : Stmt := inClass (topS 8) 0
theorem sc_NotQuiet__init : FnScope ["self", "place"] ["self", "place"] (defScope s_NotQuiet__init) := ⟨rfl, rfl, rfl, by decide +kernel, rfl, by decide +kernel, by decide +kernel⟩
abbrev s_NotAtRest__init : Stmt := inClass (topS 9) 0
theorem sc_NotAtRest__init : FnScope ["self", "place"] ["self", "place"] (defScope s_NotAtRest__init) := ⟨rfl, rfl, rfl, by decide +kernel, rfl, by decide +kernel, by decide +kernel⟩
abbrev s_Untold__init : Stmt := inClass (topS 10) 0
theorem sc_Untold__init : FnScope ["self", "place"] ["self", "place"] (defScope s_Untold__init) := ⟨rfl, rfl, rfl, by decide +kernel, rfl, by decide +kernel, by decide +kernel⟩
abbrev s_NoLetter__init : Stmt := inClass (topS 11) 0
theorem sc_NoLetter__init : FnScope ["self", "at"] ["self", "at"] (defScope s_NoLetter__init) := ⟨rfl, rfl, rfl, by decide +kernel, rfl, by decide +kernel, by decide +kernel⟩
abbrev s_BadText__init : Stmt := inClass (topS 12) 0
theorem sc_BadText__init : FnScope ["self", "line"] ["self", "line"] (defScope s_BadText__init) := ⟨rfl, rfl, rfl, by decide +kernel, rfl, by decide +kernel, by decide +kernel⟩
abbrev s_UntrueNet__init : Stmt := inClass (topS 13) 0
theorem sc_UntrueNet__init : FnScope ["self", "saying"] ["self", "saying"] (defScope s_UntrueNet__init) := ⟨rfl, rfl, rfl, by decide +kernel, rfl, by decide +kernel, by decide +kernel⟩
abbrev s_OpenWalk__init : Stmt := inClass (topS 14) 0
theorem sc_OpenWalk__init : FnScope ["self", "first", "last"] ["self", "first", "last"] (defScope s_OpenWalk__init) := ⟨rfl, rfl, rfl, by decide +kernel, rfl, by decide +kernel, by decide +kernel⟩
abbrev s_WalksApart__init : Stmt := inClass (topS 15) 0
theorem sc_WalksApart__init : FnScope ["self", "end", "start"] ["self", "end", "start"] (defScope s_WalksApart__init) := ⟨rfl, rfl, rfl, by decide +kernel, rfl, by decide +kernel, by decide +kernel⟩
abbrev s_NoOrder__init : Stmt := inClass (topS 16) 0
theorem sc_NoOrder__init : FnScope ["self", "turns", "index"] ["self", "turns", "index"] (defScope s_NoOrder__init) := ⟨rfl, rfl, rfl, by decide +kernel, rfl, by decide +kernel, by decide +kernel⟩
abbrev s_BadDeed__init : Stmt := inClass (topS 17) 0
theorem sc_BadDeed__init : FnScope ["self", "deed"] ["self", "deed"] (defScope s_BadDeed__init) := ⟨rfl, rfl, rfl, by decide +kernel, rfl, by decide +kernel, by decide +kernel⟩
abbrev s__law_number : Stmt := topS 24
theorem sc__law_number : FnScope ["tape"] ["tape"] (defScope s__law_number) := ⟨rfl, rfl, rfl, by decide +kernel, rfl, by decide +kernel, by decide +kernel⟩
abbrev s__law_kinds : Stmt := topS 25
theorem sc__law_kinds : FnScope ["e", "kinds"] ["e"] (defScope s__law_kinds) := ⟨rfl, rfl, rfl, by decide +kernel, rfl, by decide +kernel, by decide +kernel⟩
abbrev s__law_of_places : Stmt := topS 26
theorem sc__law_of_places : FnScope ["place", "errors"] ["place"] (defScope s__law_of_places) := ⟨rfl, rfl, rfl, by decide +kernel, rfl, by decide +kernel, by decide +kernel⟩
abbrev s__law_others : Stmt := topS 27
theorem sc__law_others : FnScope ["numbers", "saying", "deed", "errors"] ["numbers", "saying", "deed"] (defScope s__law_others) := ⟨rfl, rfl, rfl, by decide +kernel, rfl, by decide +kernel, by decide +kernel⟩
abbrev s__law_kept : Stmt := topS 28
theorem sc__law_kept : FnScope ["errors", "place", "numbers", "saying", "deed", "told", "e", "k"] ["errors", "place", "numbers", "saying", "deed"] (defScope s__law_kept) := ⟨rfl, rfl, rfl, by decide +kernel, rfl, by decide +kernel, by decide +kernel⟩
abbrev s_law : Stmt := topS 29
theorem sc_law : FnScope ["script", "tape", "made", "k", "place", "numbers", "saying", "word", "deed", "errors", "row", "e", "m"] ["script"] (defScope s_law) := ⟨rfl, rfl, rfl, by decide +kernel, rfl, by decide +kernel, by decide +kernel⟩
/-! what is asked of the error in hand: (a, oe) is pinned, its dict at d -/
structure ErrC (K : PySem.W.Frag) (D : Addr) : Prop where
  cl : (PySem.W.clsIn K D).isSome = true
  ga : PySem.W.findIn K (.ref D) "__getattribute__" = some (some (.builtin "BaseException.__getattribute__"))
  gg : PySem.W.findIn K (.ref D) "__getattr__" = some none
  ex : PySem.W.subIn K (.ref D) (.type "BaseException") = some true
  hd : PySem.W.hasDictIn K D = true
  ca : PySem.W.findIn K (.ref D) "__class__" = some (some (.builtin "object.__class__"))
  cn : PySem.W.specialIn K (.builtin "object.__class__") "__get__" = some (some (.builtin "getset_descriptor.__get__"))
  ct : PySem.W.takesIn K (.builtin "object.__class__") = some true
  mo : PySem.W.mroIn K D (.type "object") = some true
structure T0 (K : PySem.W.Frag) (mg : Str → Option Value) where
  m_ValueError : mg "ValueError" = none
  m_abs : mg "abs" = none
  m_bool : mg "bool" = none
  m_dict : mg "dict" = none
  m_int : mg "int" = none
  m_isinstance : mg "isinstance" = none
  m_len : mg "len" = none
  m_list : mg "list" = none
  m_range : mg "range" = none
  m_str : mg "str" = none
  m_tuple : mg "tuple" = none
  a__law_tape : Addr
  fd__law_tape : FuncData
  F__law_tape : Fun K "_law_tape" "_law_tape" s__law_tape a__law_tape fd__law_tape
  b__law_tape : Binds K fd__law_tape ["script"] []
  g__law_tape : mg "_law_tape" = some (.ref a__law_tape)
  a__law_pick : Addr
  fd__law_pick : FuncData
  F__law_pick : Fun K "_law_pick" "_law_pick" s__law_pick a__law_pick fd__law_pick
  b__law_pick : Binds K fd__law_pick ["tape", "size"] []
  g__law_pick : mg "_law_pick" = some (.ref a__law_pick)
  a__law_same : Addr
  fd__law_same : FuncData
  F__law_same : Fun K "_law_same" "_law_same" s__law_same a__law_same fd__law_same
  b__law_same : Binds K fd__law_same ["actual", "due"] []
  g__law_same : mg "_law_same" = some (.ref a__law_same)
  a_OffCircle__init : Addr
  fd_OffCircle__init : FuncData
  F_OffCircle__init : Fun K "__init__" "OffCircle.__init__" s_OffCircle__init a_OffCircle__init fd_OffCircle__init
  b_OffCircle__init : Binds K fd_OffCircle__init ["self", "place"] []
  a_NoHouse__init : Addr
  fd_NoHouse__init : FuncData
  F_NoHouse__init : Fun K "__init__" "NoHouse.__init__" s_NoHouse__init a_NoHouse__init fd_NoHouse__init
  b_NoHouse__init : Binds K fd_NoHouse__init ["self", "place"] []
  a_TakenPlace__init : Addr
  fd_TakenPlace__init : FuncData
  F_TakenPlace__init : Fun K "__init__" "TakenPlace.__init__" s_TakenPlace__init a_TakenPlace__init fd_TakenPlace__init
  b_TakenPlace__init : Binds K fd_TakenPlace__init ["self", "place"] []
  a_StillNamed__init : Addr
  fd_StillNamed__init : FuncData
  F_StillNamed__init : Fun K "__init__" "StillNamed.__init__" s_StillNamed__init a_StillNamed__init fd_StillNamed__init
  b_StillNamed__init : Binds K fd_StillNamed__init ["self", "place"] []
  a_NotBetween__init : Addr
  fd_NotBetween__init : FuncData
  F_NotBetween__init : Fun K "__init__" "NotBetween.__init__" s_NotBetween__init a_NotBetween__init fd_NotBetween__init
  b_NotBetween__init : Binds K fd_NotBetween__init ["self", "place"] []
  a_SamePiece__init : Addr
  fd_SamePiece__init : FuncData
  F_SamePiece__init : Fun K "__init__" "SamePiece.__init__" s_SamePiece__init a_SamePiece__init fd_SamePiece__init
  b_SamePiece__init : Binds K fd_SamePiece__init ["self", "place"] []
  a_NotQuiet__init : Addr
  fd_NotQuiet__init : FuncData
  F_NotQuiet__init : Fun K "__init__" "NotQuiet.__init__" s_NotQuiet__init a_NotQuiet__init fd_NotQuiet__init
  b_NotQuiet__init : Binds K fd_NotQuiet__init ["self", "place"] []
  a_NotAtRest__init : Addr
  fd_NotAtRest__init : FuncData
  F_NotAtRest__init : Fun K "__init__" "NotAtRest.__init__" s_NotAtRest__init a_NotAtRest__init fd_NotAtRest__init
  b_NotAtRest__init : Binds K fd_NotAtRest__init ["self", "place"] []
  a_Untold__init : Addr
  fd_Untold__init : FuncData
  F_Untold__init : Fun K "__init__" "Untold.__init__" s_Untold__init a_Untold__init fd_Untold__init
  b_Untold__init : Binds K fd_Untold__init ["self", "place"] []
  a_NoLetter__init : Addr
  fd_NoLetter__init : FuncData
  F_NoLetter__init : Fun K "__init__" "NoLetter.__init__" s_NoLetter__init a_NoLetter__init fd_NoLetter__init
  b_NoLetter__init : Binds K fd_NoLetter__init ["self", "at"] []
  a_BadText__init : Addr
  fd_BadText__init : FuncData
  F_BadText__init : Fun K "__init__" "BadText.__init__" s_BadText__init a_BadText__init fd_BadText__init
  b_BadText__init : Binds K fd_BadText__init ["self", "line"] []
  a_UntrueNet__init : Addr
  fd_UntrueNet__init : FuncData
  F_UntrueNet__init : Fun K "__init__" "UntrueNet.__init__" s_UntrueNet__init a_UntrueNet__init fd_UntrueNet__init
  b_UntrueNet__init : Binds K fd_UntrueNet__init ["self", "saying"] []
  a_OpenWalk__init : Addr
  fd_OpenWalk__init : FuncData
  F_OpenWalk__init : Fun K "__init__" "OpenWalk.__init__" s_OpenWalk__init a_OpenWalk__init fd_OpenWalk__init
  b_OpenWalk__init : Binds K fd_OpenWalk__init ["self", "first", "last"] []
  a_WalksApart__init : Addr
  fd_WalksApart__init : FuncData
  F_WalksApart__init : Fun K "__init__" "WalksApart.__init__" s_WalksApart__init a_WalksApart__init fd_WalksApart__init
  b_WalksApart__init : Binds K fd_WalksApart__init ["self", "end", "start"] []
  a_NoOrder__init : Addr
  fd_NoOrder__init : FuncData
  F_NoOrder__init : Fun K "__init__" "NoOrder.__init__" s_NoOrder__init a_NoOrder__init fd_NoOrder__init
  b_NoOrder__init : Binds K fd_NoOrder__init ["self", "turns", "index"] []
  a_BadDeed__init : Addr
  fd_BadDeed__init : FuncData
  F_BadDeed__init : Fun K "__init__" "BadDeed.__init__" s_BadDeed__init a_BadDeed__init fd_BadDeed__init
  b_BadDeed__init : Binds K fd_BadDeed__init ["self", "deed"] []
  a__law_number : Addr
  fd__law_number : FuncData
  F__law_number : Fun K "_law_number" "_law_number" s__law_number a__law_number fd__law_number
  b__law_number : Binds K fd__law_number ["tape"] []
  g__law_number : mg "_law_number" = some (.ref a__law_number)
  a__law_kinds : Addr
  fd__law_kinds : FuncData
  F__law_kinds : Fun K "_law_kinds" "_law_kinds" s__law_kinds a__law_kinds fd__law_kinds
  b__law_kinds : Binds K fd__law_kinds ["e"] []
  g__law_kinds : mg "_law_kinds" = some (.ref a__law_kinds)
  a__law_of_places : Addr
  fd__law_of_places : FuncData
  F__law_of_places : Fun K "_law_of_places" "_law_of_places" s__law_of_places a__law_of_places fd__law_of_places
  b__law_of_places : Binds K fd__law_of_places ["place"] []
  g__law_of_places : mg "_law_of_places" = some (.ref a__law_of_places)
  a__law_others : Addr
  fd__law_others : FuncData
  F__law_others : Fun K "_law_others" "_law_others" s__law_others a__law_others fd__law_others
  b__law_others : Binds K fd__law_others ["numbers", "saying", "deed"] []
  g__law_others : mg "_law_others" = some (.ref a__law_others)
  a__law_kept : Addr
  fd__law_kept : FuncData
  F__law_kept : Fun K "_law_kept" "_law_kept" s__law_kept a__law_kept fd__law_kept
  b__law_kept : Binds K fd__law_kept ["errors", "place", "numbers", "saying", "deed"] []
  g__law_kept : mg "_law_kept" = some (.ref a__law_kept)
  a_law : Addr
  fd_law : FuncData
  F_law : Fun K "law" "law" s_law a_law fd_law
  b_law : Binds K fd_law ["script"] []
  g_law : mg "law" = some (.ref a_law)
  C_OffCircle : Addr
  mc_OffCircle : mg "OffCircle" = some (.ref C_OffCircle)
  C_NoHouse : Addr
  mc_NoHouse : mg "NoHouse" = some (.ref C_NoHouse)
  C_TakenPlace : Addr
  mc_TakenPlace : mg "TakenPlace" = some (.ref C_TakenPlace)
  C_StillNamed : Addr
  mc_StillNamed : mg "StillNamed" = some (.ref C_StillNamed)
  C_NotBetween : Addr
  mc_NotBetween : mg "NotBetween" = some (.ref C_NotBetween)
  C_SamePiece : Addr
  mc_SamePiece : mg "SamePiece" = some (.ref C_SamePiece)
  C_NotQuiet : Addr
  mc_NotQuiet : mg "NotQuiet" = some (.ref C_NotQuiet)
  C_NotAtRest : Addr
  mc_NotAtRest : mg "NotAtRest" = some (.ref C_NotAtRest)
  C_Untold : Addr
  mc_Untold : mg "Untold" = some (.ref C_Untold)
  C_NoLetter : Addr
  mc_NoLetter : mg "NoLetter" = some (.ref C_NoLetter)
  C_BadText : Addr
  mc_BadText : mg "BadText" = some (.ref C_BadText)
  C_UntrueNet : Addr
  mc_UntrueNet : mg "UntrueNet" = some (.ref C_UntrueNet)
  C_OpenWalk : Addr
  mc_OpenWalk : mg "OpenWalk" = some (.ref C_OpenWalk)
  C_WalksApart : Addr
  mc_WalksApart : mg "WalksApart" = some (.ref C_WalksApart)
  C_NoOrder : Addr
  mc_NoOrder : mg "NoOrder" = some (.ref C_NoOrder)
  C_BadDeed : Addr
  mc_BadDeed : mg "BadDeed" = some (.ref C_BadDeed)
  C_NothingToUndo : Addr
  mc_NothingToUndo : mg "NothingToUndo" = some (.ref C_NothingToUndo)
  C_NothingToRedo : Addr
  mc_NothingToRedo : mg "NothingToRedo" = some (.ref C_NothingToRedo)
  C_RingError : Addr
  mc_RingError : mg "RingError" = some (.ref C_RingError)
  er_OffCircle : ErrC K C_OffCircle
  ox_OffCircle : OexC K C_OffCircle
  mi_OffCircle : PySem.W.findIn K (.ref C_OffCircle) "__init__" = some (some (.ref a_OffCircle__init))
  ti_OffCircle : PySem.W.typeIn K (.ref a_OffCircle__init) = some (.type "function")
  na_OffCircle_place : PySem.W.findIn K (.ref C_OffCircle) "place" = some none
  ki_OffCircle_OffCircle : PySem.W.kitOne K (.ref C_OffCircle) (.ref C_OffCircle) = some true
  ki_OffCircle_NoHouse : PySem.W.kitOne K (.ref C_OffCircle) (.ref C_NoHouse) = some false
  ki_OffCircle_TakenPlace : PySem.W.kitOne K (.ref C_OffCircle) (.ref C_TakenPlace) = some false
  ki_OffCircle_StillNamed : PySem.W.kitOne K (.ref C_OffCircle) (.ref C_StillNamed) = some false
  ki_OffCircle_NotBetween : PySem.W.kitOne K (.ref C_OffCircle) (.ref C_NotBetween) = some false
  ki_OffCircle_SamePiece : PySem.W.kitOne K (.ref C_OffCircle) (.ref C_SamePiece) = some false
  ki_OffCircle_NotQuiet : PySem.W.kitOne K (.ref C_OffCircle) (.ref C_NotQuiet) = some false
  ki_OffCircle_NotAtRest : PySem.W.kitOne K (.ref C_OffCircle) (.ref C_NotAtRest) = some false
  ki_OffCircle_Untold : PySem.W.kitOne K (.ref C_OffCircle) (.ref C_Untold) = some false
  ki_OffCircle_NoLetter : PySem.W.kitOne K (.ref C_OffCircle) (.ref C_NoLetter) = some false
  ki_OffCircle_BadText : PySem.W.kitOne K (.ref C_OffCircle) (.ref C_BadText) = some false
  ki_OffCircle_UntrueNet : PySem.W.kitOne K (.ref C_OffCircle) (.ref C_UntrueNet) = some false
  ki_OffCircle_OpenWalk : PySem.W.kitOne K (.ref C_OffCircle) (.ref C_OpenWalk) = some false
  ki_OffCircle_WalksApart : PySem.W.kitOne K (.ref C_OffCircle) (.ref C_WalksApart) = some false
  ki_OffCircle_NoOrder : PySem.W.kitOne K (.ref C_OffCircle) (.ref C_NoOrder) = some false
  ki_OffCircle_BadDeed : PySem.W.kitOne K (.ref C_OffCircle) (.ref C_BadDeed) = some false
  ki_OffCircle_NothingToUndo : PySem.W.kitOne K (.ref C_OffCircle) (.ref C_NothingToUndo) = some false
  ki_OffCircle_NothingToRedo : PySem.W.kitOne K (.ref C_OffCircle) (.ref C_NothingToRedo) = some false
  ki_OffCircle_RingError : PySem.W.kitOne K (.ref C_OffCircle) (.ref C_RingError) = some true
  ki_OffCircle_ValueError : PySem.W.kitOne K (.ref C_OffCircle) (.type "ValueError") = some true
  er_NoHouse : ErrC K C_NoHouse
  ox_NoHouse : OexC K C_NoHouse
  mi_NoHouse : PySem.W.findIn K (.ref C_NoHouse) "__init__" = some (some (.ref a_NoHouse__init))
  ti_NoHouse : PySem.W.typeIn K (.ref a_NoHouse__init) = some (.type "function")
  na_NoHouse_place : PySem.W.findIn K (.ref C_NoHouse) "place" = some none
  ki_NoHouse_OffCircle : PySem.W.kitOne K (.ref C_NoHouse) (.ref C_OffCircle) = some false
  ki_NoHouse_NoHouse : PySem.W.kitOne K (.ref C_NoHouse) (.ref C_NoHouse) = some true
  ki_NoHouse_TakenPlace : PySem.W.kitOne K (.ref C_NoHouse) (.ref C_TakenPlace) = some false
  ki_NoHouse_StillNamed : PySem.W.kitOne K (.ref C_NoHouse) (.ref C_StillNamed) = some false
  ki_NoHouse_NotBetween : PySem.W.kitOne K (.ref C_NoHouse) (.ref C_NotBetween) = some false
  ki_NoHouse_SamePiece : PySem.W.kitOne K (.ref C_NoHouse) (.ref C_SamePiece) = some false
  ki_NoHouse_NotQuiet : PySem.W.kitOne K (.ref C_NoHouse) (.ref C_NotQuiet) = some false
  ki_NoHouse_NotAtRest : PySem.W.kitOne K (.ref C_NoHouse) (.ref C_NotAtRest) = some false
  ki_NoHouse_Untold : PySem.W.kitOne K (.ref C_NoHouse) (.ref C_Untold) = some false
  ki_NoHouse_NoLetter : PySem.W.kitOne K (.ref C_NoHouse) (.ref C_NoLetter) = some false
  ki_NoHouse_BadText : PySem.W.kitOne K (.ref C_NoHouse) (.ref C_BadText) = some false
  ki_NoHouse_UntrueNet : PySem.W.kitOne K (.ref C_NoHouse) (.ref C_UntrueNet) = some false
  ki_NoHouse_OpenWalk : PySem.W.kitOne K (.ref C_NoHouse) (.ref C_OpenWalk) = some false
  ki_NoHouse_WalksApart : PySem.W.kitOne K (.ref C_NoHouse) (.ref C_WalksApart) = some false
  ki_NoHouse_NoOrder : PySem.W.kitOne K (.ref C_NoHouse) (.ref C_NoOrder) = some false
  ki_NoHouse_BadDeed : PySem.W.kitOne K (.ref C_NoHouse) (.ref C_BadDeed) = some false
  ki_NoHouse_NothingToUndo : PySem.W.kitOne K (.ref C_NoHouse) (.ref C_NothingToUndo) = some false
  ki_NoHouse_NothingToRedo : PySem.W.kitOne K (.ref C_NoHouse) (.ref C_NothingToRedo) = some false
  ki_NoHouse_RingError : PySem.W.kitOne K (.ref C_NoHouse) (.ref C_RingError) = some true
  ki_NoHouse_ValueError : PySem.W.kitOne K (.ref C_NoHouse) (.type "ValueError") = some true
  er_TakenPlace : ErrC K C_TakenPlace
  ox_TakenPlace : OexC K C_TakenPlace
  mi_TakenPlace : PySem.W.findIn K (.ref C_TakenPlace) "__init__" = some (some (.ref a_TakenPlace__init))
  ti_TakenPlace : PySem.W.typeIn K (.ref a_TakenPlace__init) = some (.type "function")
  na_TakenPlace_place : PySem.W.findIn K (.ref C_TakenPlace) "place" = some none
  ki_TakenPlace_OffCircle : PySem.W.kitOne K (.ref C_TakenPlace) (.ref C_OffCircle) = some false
  ki_TakenPlace_NoHouse : PySem.W.kitOne K (.ref C_TakenPlace) (.ref C_NoHouse) = some false
  ki_TakenPlace_TakenPlace : PySem.W.kitOne K (.ref C_TakenPlace) (.ref C_TakenPlace) = some true
  ki_TakenPlace_StillNamed : PySem.W.kitOne K (.ref C_TakenPlace) (.ref C_StillNamed) = some false
  ki_TakenPlace_NotBetween : PySem.W.kitOne K (.ref C_TakenPlace) (.ref C_NotBetween) = some false
  ki_TakenPlace_SamePiece : PySem.W.kitOne K (.ref C_TakenPlace) (.ref C_SamePiece) = some false
  ki_TakenPlace_NotQuiet : PySem.W.kitOne K (.ref C_TakenPlace) (.ref C_NotQuiet) = some false
  ki_TakenPlace_NotAtRest : PySem.W.kitOne K (.ref C_TakenPlace) (.ref C_NotAtRest) = some false
  ki_TakenPlace_Untold : PySem.W.kitOne K (.ref C_TakenPlace) (.ref C_Untold) = some false
  ki_TakenPlace_NoLetter : PySem.W.kitOne K (.ref C_TakenPlace) (.ref C_NoLetter) = some false
  ki_TakenPlace_BadText : PySem.W.kitOne K (.ref C_TakenPlace) (.ref C_BadText) = some false
  ki_TakenPlace_UntrueNet : PySem.W.kitOne K (.ref C_TakenPlace) (.ref C_UntrueNet) = some false
  ki_TakenPlace_OpenWalk : PySem.W.kitOne K (.ref C_TakenPlace) (.ref C_OpenWalk) = some false
  ki_TakenPlace_WalksApart : PySem.W.kitOne K (.ref C_TakenPlace) (.ref C_WalksApart) = some false
  ki_TakenPlace_NoOrder : PySem.W.kitOne K (.ref C_TakenPlace) (.ref C_NoOrder) = some false
  ki_TakenPlace_BadDeed : PySem.W.kitOne K (.ref C_TakenPlace) (.ref C_BadDeed) = some false
  ki_TakenPlace_NothingToUndo : PySem.W.kitOne K (.ref C_TakenPlace) (.ref C_NothingToUndo) = some false
  ki_TakenPlace_NothingToRedo : PySem.W.kitOne K (.ref C_TakenPlace) (.ref C_NothingToRedo) = some false
  ki_TakenPlace_RingError : PySem.W.kitOne K (.ref C_TakenPlace) (.ref C_RingError) = some true
  ki_TakenPlace_ValueError : PySem.W.kitOne K (.ref C_TakenPlace) (.type "ValueError") = some true
  er_StillNamed : ErrC K C_StillNamed
  ox_StillNamed : OexC K C_StillNamed
  mi_StillNamed : PySem.W.findIn K (.ref C_StillNamed) "__init__" = some (some (.ref a_StillNamed__init))
  ti_StillNamed : PySem.W.typeIn K (.ref a_StillNamed__init) = some (.type "function")
  na_StillNamed_place : PySem.W.findIn K (.ref C_StillNamed) "place" = some none
  ki_StillNamed_OffCircle : PySem.W.kitOne K (.ref C_StillNamed) (.ref C_OffCircle) = some false
  ki_StillNamed_NoHouse : PySem.W.kitOne K (.ref C_StillNamed) (.ref C_NoHouse) = some false
  ki_StillNamed_TakenPlace : PySem.W.kitOne K (.ref C_StillNamed) (.ref C_TakenPlace) = some false
  ki_StillNamed_StillNamed : PySem.W.kitOne K (.ref C_StillNamed) (.ref C_StillNamed) = some true
  ki_StillNamed_NotBetween : PySem.W.kitOne K (.ref C_StillNamed) (.ref C_NotBetween) = some false
  ki_StillNamed_SamePiece : PySem.W.kitOne K (.ref C_StillNamed) (.ref C_SamePiece) = some false
  ki_StillNamed_NotQuiet : PySem.W.kitOne K (.ref C_StillNamed) (.ref C_NotQuiet) = some false
  ki_StillNamed_NotAtRest : PySem.W.kitOne K (.ref C_StillNamed) (.ref C_NotAtRest) = some false
  ki_StillNamed_Untold : PySem.W.kitOne K (.ref C_StillNamed) (.ref C_Untold) = some false
  ki_StillNamed_NoLetter : PySem.W.kitOne K (.ref C_StillNamed) (.ref C_NoLetter) = some false
  ki_StillNamed_BadText : PySem.W.kitOne K (.ref C_StillNamed) (.ref C_BadText) = some false
  ki_StillNamed_UntrueNet : PySem.W.kitOne K (.ref C_StillNamed) (.ref C_UntrueNet) = some false
  ki_StillNamed_OpenWalk : PySem.W.kitOne K (.ref C_StillNamed) (.ref C_OpenWalk) = some false
  ki_StillNamed_WalksApart : PySem.W.kitOne K (.ref C_StillNamed) (.ref C_WalksApart) = some false
  ki_StillNamed_NoOrder : PySem.W.kitOne K (.ref C_StillNamed) (.ref C_NoOrder) = some false
  ki_StillNamed_BadDeed : PySem.W.kitOne K (.ref C_StillNamed) (.ref C_BadDeed) = some false
  ki_StillNamed_NothingToUndo : PySem.W.kitOne K (.ref C_StillNamed) (.ref C_NothingToUndo) = some false
  ki_StillNamed_NothingToRedo : PySem.W.kitOne K (.ref C_StillNamed) (.ref C_NothingToRedo) = some false
  ki_StillNamed_RingError : PySem.W.kitOne K (.ref C_StillNamed) (.ref C_RingError) = some true
  ki_StillNamed_ValueError : PySem.W.kitOne K (.ref C_StillNamed) (.type "ValueError") = some true
  er_NotBetween : ErrC K C_NotBetween
  ox_NotBetween : OexC K C_NotBetween
  mi_NotBetween : PySem.W.findIn K (.ref C_NotBetween) "__init__" = some (some (.ref a_NotBetween__init))
  ti_NotBetween : PySem.W.typeIn K (.ref a_NotBetween__init) = some (.type "function")
  na_NotBetween_place : PySem.W.findIn K (.ref C_NotBetween) "place" = some none
  ki_NotBetween_OffCircle : PySem.W.kitOne K (.ref C_NotBetween) (.ref C_OffCircle) = some false
  ki_NotBetween_NoHouse : PySem.W.kitOne K (.ref C_NotBetween) (.ref C_NoHouse) = some false
  ki_NotBetween_TakenPlace : PySem.W.kitOne K (.ref C_NotBetween) (.ref C_TakenPlace) = some false
  ki_NotBetween_StillNamed : PySem.W.kitOne K (.ref C_NotBetween) (.ref C_StillNamed) = some false
  ki_NotBetween_NotBetween : PySem.W.kitOne K (.ref C_NotBetween) (.ref C_NotBetween) = some true
  ki_NotBetween_SamePiece : PySem.W.kitOne K (.ref C_NotBetween) (.ref C_SamePiece) = some false
  ki_NotBetween_NotQuiet : PySem.W.kitOne K (.ref C_NotBetween) (.ref C_NotQuiet) = some false
  ki_NotBetween_NotAtRest : PySem.W.kitOne K (.ref C_NotBetween) (.ref C_NotAtRest) = some false
  ki_NotBetween_Untold : PySem.W.kitOne K (.ref C_NotBetween) (.ref C_Untold) = some false
  ki_NotBetween_NoLetter : PySem.W.kitOne K (.ref C_NotBetween) (.ref C_NoLetter) = some false
  ki_NotBetween_BadText : PySem.W.kitOne K (.ref C_NotBetween) (.ref C_BadText) = some false
  ki_NotBetween_UntrueNet : PySem.W.kitOne K (.ref C_NotBetween) (.ref C_UntrueNet) = some false
  ki_NotBetween_OpenWalk : PySem.W.kitOne K (.ref C_NotBetween) (.ref C_OpenWalk) = some false
  ki_NotBetween_WalksApart : PySem.W.kitOne K (.ref C_NotBetween) (.ref C_WalksApart) = some false
  ki_NotBetween_NoOrder : PySem.W.kitOne K (.ref C_NotBetween) (.ref C_NoOrder) = some false
  ki_NotBetween_BadDeed : PySem.W.kitOne K (.ref C_NotBetween) (.ref C_BadDeed) = some false
  ki_NotBetween_NothingToUndo : PySem.W.kitOne K (.ref C_NotBetween) (.ref C_NothingToUndo) = some false
  ki_NotBetween_NothingToRedo : PySem.W.kitOne K (.ref C_NotBetween) (.ref C_NothingToRedo) = some false
  ki_NotBetween_RingError : PySem.W.kitOne K (.ref C_NotBetween) (.ref C_RingError) = some true
  ki_NotBetween_ValueError : PySem.W.kitOne K (.ref C_NotBetween) (.type "ValueError") = some true
  er_SamePiece : ErrC K C_SamePiece
  ox_SamePiece : OexC K C_SamePiece
  mi_SamePiece : PySem.W.findIn K (.ref C_SamePiece) "__init__" = some (some (.ref a_SamePiece__init))
  ti_SamePiece : PySem.W.typeIn K (.ref a_SamePiece__init) = some (.type "function")
  na_SamePiece_place : PySem.W.findIn K (.ref C_SamePiece) "place" = some none
  ki_SamePiece_OffCircle : PySem.W.kitOne K (.ref C_SamePiece) (.ref C_OffCircle) = some false
  ki_SamePiece_NoHouse : PySem.W.kitOne K (.ref C_SamePiece) (.ref C_NoHouse) = some false
  ki_SamePiece_TakenPlace : PySem.W.kitOne K (.ref C_SamePiece) (.ref C_TakenPlace) = some false
  ki_SamePiece_StillNamed : PySem.W.kitOne K (.ref C_SamePiece) (.ref C_StillNamed) = some false
  ki_SamePiece_NotBetween : PySem.W.kitOne K (.ref C_SamePiece) (.ref C_NotBetween) = some false
  ki_SamePiece_SamePiece : PySem.W.kitOne K (.ref C_SamePiece) (.ref C_SamePiece) = some true
  ki_SamePiece_NotQuiet : PySem.W.kitOne K (.ref C_SamePiece) (.ref C_NotQuiet) = some false
  ki_SamePiece_NotAtRest : PySem.W.kitOne K (.ref C_SamePiece) (.ref C_NotAtRest) = some false
  ki_SamePiece_Untold : PySem.W.kitOne K (.ref C_SamePiece) (.ref C_Untold) = some false
  ki_SamePiece_NoLetter : PySem.W.kitOne K (.ref C_SamePiece) (.ref C_NoLetter) = some false
  ki_SamePiece_BadText : PySem.W.kitOne K (.ref C_SamePiece) (.ref C_BadText) = some false
  ki_SamePiece_UntrueNet : PySem.W.kitOne K (.ref C_SamePiece) (.ref C_UntrueNet) = some false
  ki_SamePiece_OpenWalk : PySem.W.kitOne K (.ref C_SamePiece) (.ref C_OpenWalk) = some false
  ki_SamePiece_WalksApart : PySem.W.kitOne K (.ref C_SamePiece) (.ref C_WalksApart) = some false
  ki_SamePiece_NoOrder : PySem.W.kitOne K (.ref C_SamePiece) (.ref C_NoOrder) = some false
  ki_SamePiece_BadDeed : PySem.W.kitOne K (.ref C_SamePiece) (.ref C_BadDeed) = some false
  ki_SamePiece_NothingToUndo : PySem.W.kitOne K (.ref C_SamePiece) (.ref C_NothingToUndo) = some false
  ki_SamePiece_NothingToRedo : PySem.W.kitOne K (.ref C_SamePiece) (.ref C_NothingToRedo) = some false
  ki_SamePiece_RingError : PySem.W.kitOne K (.ref C_SamePiece) (.ref C_RingError) = some true
  ki_SamePiece_ValueError : PySem.W.kitOne K (.ref C_SamePiece) (.type "ValueError") = some true
  er_NotQuiet : ErrC K C_NotQuiet
  ox_NotQuiet : OexC K C_NotQuiet
  mi_NotQuiet : PySem.W.findIn K (.ref C_NotQuiet) "__init__" = some (some (.ref a_NotQuiet__init))
  ti_NotQuiet : PySem.W.typeIn K (.ref a_NotQuiet__init) = some (.type "function")
  na_NotQuiet_place : PySem.W.findIn K (.ref C_NotQuiet) "place" = some none
  ki_NotQuiet_OffCircle : PySem.W.kitOne K (.ref C_NotQuiet) (.ref C_OffCircle) = some false
  ki_NotQuiet_NoHouse : PySem.W.kitOne K (.ref C_NotQuiet) (.ref C_NoHouse) = some false
  ki_NotQuiet_TakenPlace : PySem.W.kitOne K (.ref C_NotQuiet) (.ref C_TakenPlace) = some false
  ki_NotQuiet_StillNamed : PySem.W.kitOne K (.ref C_NotQuiet) (.ref C_StillNamed) = some false
  ki_NotQuiet_NotBetween : PySem.W.kitOne K (.ref C_NotQuiet) (.ref C_NotBetween) = some false
  ki_NotQuiet_SamePiece : PySem.W.kitOne K (.ref C_NotQuiet) (.ref C_SamePiece) = some false
  ki_NotQuiet_NotQuiet : PySem.W.kitOne K (.ref C_NotQuiet) (.ref C_NotQuiet) = some true
  ki_NotQuiet_NotAtRest : PySem.W.kitOne K (.ref C_NotQuiet) (.ref C_NotAtRest) = some false
  ki_NotQuiet_Untold : PySem.W.kitOne K (.ref C_NotQuiet) (.ref C_Untold) = some false
  ki_NotQuiet_NoLetter : PySem.W.kitOne K (.ref C_NotQuiet) (.ref C_NoLetter) = some false
  ki_NotQuiet_BadText : PySem.W.kitOne K (.ref C_NotQuiet) (.ref C_BadText) = some false
  ki_NotQuiet_UntrueNet : PySem.W.kitOne K (.ref C_NotQuiet) (.ref C_UntrueNet) = some false
  ki_NotQuiet_OpenWalk : PySem.W.kitOne K (.ref C_NotQuiet) (.ref C_OpenWalk) = some false
  ki_NotQuiet_WalksApart : PySem.W.kitOne K (.ref C_NotQuiet) (.ref C_WalksApart) = some false
  ki_NotQuiet_NoOrder : PySem.W.kitOne K (.ref C_NotQuiet) (.ref C_NoOrder) = some false
  ki_NotQuiet_BadDeed : PySem.W.kitOne K (.ref C_NotQuiet) (.ref C_BadDeed) = some false
  ki_NotQuiet_NothingToUndo : PySem.W.kitOne K (.ref C_NotQuiet) (.ref C_NothingToUndo) = some false
  ki_NotQuiet_NothingToRedo : PySem.W.kitOne K (.ref C_NotQuiet) (.ref C_NothingToRedo) = some false
  ki_NotQuiet_RingError : PySem.W.kitOne K (.ref C_NotQuiet) (.ref C_RingError) = some true
  ki_NotQuiet_ValueError : PySem.W.kitOne K (.ref C_NotQuiet) (.type "ValueError") = some true
  er_NotAtRest : ErrC K C_NotAtRest
  ox_NotAtRest : OexC K C_NotAtRest
  mi_NotAtRest : PySem.W.findIn K (.ref C_NotAtRest) "__init__" = some (some (.ref a_NotAtRest__init))
  ti_NotAtRest : PySem.W.typeIn K (.ref a_NotAtRest__init) = some (.type "function")
  na_NotAtRest_place : PySem.W.findIn K (.ref C_NotAtRest) "place" = some none
  ki_NotAtRest_OffCircle : PySem.W.kitOne K (.ref C_NotAtRest) (.ref C_OffCircle) = some false
  ki_NotAtRest_NoHouse : PySem.W.kitOne K (.ref C_NotAtRest) (.ref C_NoHouse) = some false
  ki_NotAtRest_TakenPlace : PySem.W.kitOne K (.ref C_NotAtRest) (.ref C_TakenPlace) = some false
  ki_NotAtRest_StillNamed : PySem.W.kitOne K (.ref C_NotAtRest) (.ref C_StillNamed) = some false
  ki_NotAtRest_NotBetween : PySem.W.kitOne K (.ref C_NotAtRest) (.ref C_NotBetween) = some false
  ki_NotAtRest_SamePiece : PySem.W.kitOne K (.ref C_NotAtRest) (.ref C_SamePiece) = some false
  ki_NotAtRest_NotQuiet : PySem.W.kitOne K (.ref C_NotAtRest) (.ref C_NotQuiet) = some false
  ki_NotAtRest_NotAtRest : PySem.W.kitOne K (.ref C_NotAtRest) (.ref C_NotAtRest) = some true
  ki_NotAtRest_Untold : PySem.W.kitOne K (.ref C_NotAtRest) (.ref C_Untold) = some false
  ki_NotAtRest_NoLetter : PySem.W.kitOne K (.ref C_NotAtRest) (.ref C_NoLetter) = some false
  ki_NotAtRest_BadText : PySem.W.kitOne K (.ref C_NotAtRest) (.ref C_BadText) = some false
  ki_NotAtRest_UntrueNet : PySem.W.kitOne K (.ref C_NotAtRest) (.ref C_UntrueNet) = some false
  ki_NotAtRest_OpenWalk : PySem.W.kitOne K (.ref C_NotAtRest) (.ref C_OpenWalk) = some false
  ki_NotAtRest_WalksApart : PySem.W.kitOne K (.ref C_NotAtRest) (.ref C_WalksApart) = some false
  ki_NotAtRest_NoOrder : PySem.W.kitOne K (.ref C_NotAtRest) (.ref C_NoOrder) = some false
  ki_NotAtRest_BadDeed : PySem.W.kitOne K (.ref C_NotAtRest) (.ref C_BadDeed) = some false
  ki_NotAtRest_NothingToUndo : PySem.W.kitOne K (.ref C_NotAtRest) (.ref C_NothingToUndo) = some false
  ki_NotAtRest_NothingToRedo : PySem.W.kitOne K (.ref C_NotAtRest) (.ref C_NothingToRedo) = some false
  ki_NotAtRest_RingError : PySem.W.kitOne K (.ref C_NotAtRest) (.ref C_RingError) = some true
  ki_NotAtRest_ValueError : PySem.W.kitOne K (.ref C_NotAtRest) (.type "ValueError") = some true
  er_Untold : ErrC K C_Untold
  ox_Untold : OexC K C_Untold
  mi_Untold : PySem.W.findIn K (.ref C_Untold) "__init__" = some (some (.ref a_Untold__init))
  ti_Untold : PySem.W.typeIn K (.ref a_Untold__init) = some (.type "function")
  na_Untold_place : PySem.W.findIn K (.ref C_Untold) "place" = some none
  ki_Untold_OffCircle : PySem.W.kitOne K (.ref C_Untold) (.ref C_OffCircle) = some false
  ki_Untold_NoHouse : PySem.W.kitOne K (.ref C_Untold) (.ref C_NoHouse) = some false
  ki_Untold_TakenPlace : PySem.W.kitOne K (.ref C_Untold) (.ref C_TakenPlace) = some false
  ki_Untold_StillNamed : PySem.W.kitOne K (.ref C_Untold) (.ref C_StillNamed) = some false
  ki_Untold_NotBetween : PySem.W.kitOne K (.ref C_Untold) (.ref C_NotBetween) = some false
  ki_Untold_SamePiece : PySem.W.kitOne K (.ref C_Untold) (.ref C_SamePiece) = some false
  ki_Untold_NotQuiet : PySem.W.kitOne K (.ref C_Untold) (.ref C_NotQuiet) = some false
  ki_Untold_NotAtRest : PySem.W.kitOne K (.ref C_Untold) (.ref C_NotAtRest) = some false
  ki_Untold_Untold : PySem.W.kitOne K (.ref C_Untold) (.ref C_Untold) = some true
  ki_Untold_NoLetter : PySem.W.kitOne K (.ref C_Untold) (.ref C_NoLetter) = some false
  ki_Untold_BadText : PySem.W.kitOne K (.ref C_Untold) (.ref C_BadText) = some false
  ki_Untold_UntrueNet : PySem.W.kitOne K (.ref C_Untold) (.ref C_UntrueNet) = some false
  ki_Untold_OpenWalk : PySem.W.kitOne K (.ref C_Untold) (.ref C_OpenWalk) = some false
  ki_Untold_WalksApart : PySem.W.kitOne K (.ref C_Untold) (.ref C_WalksApart) = some false
  ki_Untold_NoOrder : PySem.W.kitOne K (.ref C_Untold) (.ref C_NoOrder) = some false
  ki_Untold_BadDeed : PySem.W.kitOne K (.ref C_Untold) (.ref C_BadDeed) = some false
  ki_Untold_NothingToUndo : PySem.W.kitOne K (.ref C_Untold) (.ref C_NothingToUndo) = some false
  ki_Untold_NothingToRedo : PySem.W.kitOne K (.ref C_Untold) (.ref C_NothingToRedo) = some false
  ki_Untold_RingError : PySem.W.kitOne K (.ref C_Untold) (.ref C_RingError) = some true
  ki_Untold_ValueError : PySem.W.kitOne K (.ref C_Untold) (.type "ValueError") = some true
  er_NoLetter : ErrC K C_NoLetter
  ox_NoLetter : OexC K C_NoLetter
  mi_NoLetter : PySem.W.findIn K (.ref C_NoLetter) "__init__" = some (some (.ref a_NoLetter__init))
  ti_NoLetter : PySem.W.typeIn K (.ref a_NoLetter__init) = some (.type "function")
  na_NoLetter_at : PySem.W.findIn K (.ref C_NoLetter) "at" = some none
  ki_NoLetter_OffCircle : PySem.W.kitOne K (.ref C_NoLetter) (.ref C_OffCircle) = some false
  ki_NoLetter_NoHouse : PySem.W.kitOne K (.ref C_NoLetter) (.ref C_NoHouse) = some false
  ki_NoLetter_TakenPlace : PySem.W.kitOne K (.ref C_NoLetter) (.ref C_TakenPlace) = some false
  ki_NoLetter_StillNamed : PySem.W.kitOne K (.ref C_NoLetter) (.ref C_StillNamed) = some false
  ki_NoLetter_NotBetween : PySem.W.kitOne K (.ref C_NoLetter) (.ref C_NotBetween) = some false
  ki_NoLetter_SamePiece : PySem.W.kitOne K (.ref C_NoLetter) (.ref C_SamePiece) = some false
  ki_NoLetter_NotQuiet : PySem.W.kitOne K (.ref C_NoLetter) (.ref C_NotQuiet) = some false
  ki_NoLetter_NotAtRest : PySem.W.kitOne K (.ref C_NoLetter) (.ref C_NotAtRest) = some false
  ki_NoLetter_Untold : PySem.W.kitOne K (.ref C_NoLetter) (.ref C_Untold) = some false
  ki_NoLetter_NoLetter : PySem.W.kitOne K (.ref C_NoLetter) (.ref C_NoLetter) = some true
  ki_NoLetter_BadText : PySem.W.kitOne K (.ref C_NoLetter) (.ref C_BadText) = some false
  ki_NoLetter_UntrueNet : PySem.W.kitOne K (.ref C_NoLetter) (.ref C_UntrueNet) = some false
  ki_NoLetter_OpenWalk : PySem.W.kitOne K (.ref C_NoLetter) (.ref C_OpenWalk) = some false
  ki_NoLetter_WalksApart : PySem.W.kitOne K (.ref C_NoLetter) (.ref C_WalksApart) = some false
  ki_NoLetter_NoOrder : PySem.W.kitOne K (.ref C_NoLetter) (.ref C_NoOrder) = some false
  ki_NoLetter_BadDeed : PySem.W.kitOne K (.ref C_NoLetter) (.ref C_BadDeed) = some false
  ki_NoLetter_NothingToUndo : PySem.W.kitOne K (.ref C_NoLetter) (.ref C_NothingToUndo) = some false
  ki_NoLetter_NothingToRedo : PySem.W.kitOne K (.ref C_NoLetter) (.ref C_NothingToRedo) = some false
  ki_NoLetter_RingError : PySem.W.kitOne K (.ref C_NoLetter) (.ref C_RingError) = some true
  ki_NoLetter_ValueError : PySem.W.kitOne K (.ref C_NoLetter) (.type "ValueError") = some true
  er_BadText : ErrC K C_BadText
  ox_BadText : OexC K C_BadText
  mi_BadText : PySem.W.findIn K (.ref C_BadText) "__init__" = some (some (.ref a_BadText__init))
  ti_BadText : PySem.W.typeIn K (.ref a_BadText__init) = some (.type "function")
  na_BadText_line : PySem.W.findIn K (.ref C_BadText) "line" = some none
  ki_BadText_OffCircle : PySem.W.kitOne K (.ref C_BadText) (.ref C_OffCircle) = some false
  ki_BadText_NoHouse : PySem.W.kitOne K (.ref C_BadText) (.ref C_NoHouse) = some false
  ki_BadText_TakenPlace : PySem.W.kitOne K (.ref C_BadText) (.ref C_TakenPlace) = some false
  ki_BadText_StillNamed : PySem.W.kitOne K (.ref C_BadText) (.ref C_StillNamed) = some false
  ki_BadText_NotBetween : PySem.W.kitOne K (.ref C_BadText) (.ref C_NotBetween) = some false
  ki_BadText_SamePiece : PySem.W.kitOne K (.ref C_BadText) (.ref C_SamePiece) = some false
  ki_BadText_NotQuiet : PySem.W.kitOne K (.ref C_BadText) (.ref C_NotQuiet) = some false
  ki_BadText_NotAtRest : PySem.W.kitOne K (.ref C_BadText) (.ref C_NotAtRest) = some false
  ki_BadText_Untold : PySem.W.kitOne K (.ref C_BadText) (.ref C_Untold) = some false
  ki_BadText_NoLetter : PySem.W.kitOne K (.ref C_BadText) (.ref C_NoLetter) = some false
  ki_BadText_BadText : PySem.W.kitOne K (.ref C_BadText) (.ref C_BadText) = some true
  ki_BadText_UntrueNet : PySem.W.kitOne K (.ref C_BadText) (.ref C_UntrueNet) = some false
  ki_BadText_OpenWalk : PySem.W.kitOne K (.ref C_BadText) (.ref C_OpenWalk) = some false
  ki_BadText_WalksApart : PySem.W.kitOne K (.ref C_BadText) (.ref C_WalksApart) = some false
  ki_BadText_NoOrder : PySem.W.kitOne K (.ref C_BadText) (.ref C_NoOrder) = some false
  ki_BadText_BadDeed : PySem.W.kitOne K (.ref C_BadText) (.ref C_BadDeed) = some false
  ki_BadText_NothingToUndo : PySem.W.kitOne K (.ref C_BadText) (.ref C_NothingToUndo) = some false
  ki_BadText_NothingToRedo : PySem.W.kitOne K (.ref C_BadText) (.ref C_NothingToRedo) = some false
  ki_BadText_RingError : PySem.W.kitOne K (.ref C_BadText) (.ref C_RingError) = some true
  ki_BadText_ValueError : PySem.W.kitOne K (.ref C_BadText) (.type "ValueError") = some true
  er_UntrueNet : ErrC K C_UntrueNet
  ox_UntrueNet : OexC K C_UntrueNet
  mi_UntrueNet : PySem.W.findIn K (.ref C_UntrueNet) "__init__" = some (some (.ref a_UntrueNet__init))
  ti_UntrueNet : PySem.W.typeIn K (.ref a_UntrueNet__init) = some (.type "function")
  na_UntrueNet_saying : PySem.W.findIn K (.ref C_UntrueNet) "saying" = some none
  ki_UntrueNet_OffCircle : PySem.W.kitOne K (.ref C_UntrueNet) (.ref C_OffCircle) = some false
  ki_UntrueNet_NoHouse : PySem.W.kitOne K (.ref C_UntrueNet) (.ref C_NoHouse) = some false
  ki_UntrueNet_TakenPlace : PySem.W.kitOne K (.ref C_UntrueNet) (.ref C_TakenPlace) = some false
  ki_UntrueNet_StillNamed : PySem.W.kitOne K (.ref C_UntrueNet) (.ref C_StillNamed) = some false
  ki_UntrueNet_NotBetween : PySem.W.kitOne K (.ref C_UntrueNet) (.ref C_NotBetween) = some false
  ki_UntrueNet_SamePiece : PySem.W.kitOne K (.ref C_UntrueNet) (.ref C_SamePiece) = some false
  ki_UntrueNet_NotQuiet : PySem.W.kitOne K (.ref C_UntrueNet) (.ref C_NotQuiet) = some false
  ki_UntrueNet_NotAtRest : PySem.W.kitOne K (.ref C_UntrueNet) (.ref C_NotAtRest) = some false
  ki_UntrueNet_Untold : PySem.W.kitOne K (.ref C_UntrueNet) (.ref C_Untold) = some false
  ki_UntrueNet_NoLetter : PySem.W.kitOne K (.ref C_UntrueNet) (.ref C_NoLetter) = some false
  ki_UntrueNet_BadText : PySem.W.kitOne K (.ref C_UntrueNet) (.ref C_BadText) = some false
  ki_UntrueNet_UntrueNet : PySem.W.kitOne K (.ref C_UntrueNet) (.ref C_UntrueNet) = some true
  ki_UntrueNet_OpenWalk : PySem.W.kitOne K (.ref C_UntrueNet) (.ref C_OpenWalk) = some false
  ki_UntrueNet_WalksApart : PySem.W.kitOne K (.ref C_UntrueNet) (.ref C_WalksApart) = some false
  ki_UntrueNet_NoOrder : PySem.W.kitOne K (.ref C_UntrueNet) (.ref C_NoOrder) = some false
  ki_UntrueNet_BadDeed : PySem.W.kitOne K (.ref C_UntrueNet) (.ref C_BadDeed) = some false
  ki_UntrueNet_NothingToUndo : PySem.W.kitOne K (.ref C_UntrueNet) (.ref C_NothingToUndo) = some false
  ki_UntrueNet_NothingToRedo : PySem.W.kitOne K (.ref C_UntrueNet) (.ref C_NothingToRedo) = some false
  ki_UntrueNet_RingError : PySem.W.kitOne K (.ref C_UntrueNet) (.ref C_RingError) = some true
  ki_UntrueNet_ValueError : PySem.W.kitOne K (.ref C_UntrueNet) (.type "ValueError") = some true
  er_OpenWalk : ErrC K C_OpenWalk
  ox_OpenWalk : OexC K C_OpenWalk
  mi_OpenWalk : PySem.W.findIn K (.ref C_OpenWalk) "__init__" = some (some (.ref a_OpenWalk__init))
  ti_OpenWalk : PySem.W.typeIn K (.ref a_OpenWalk__init) = some (.type "function")
  na_OpenWalk_first : PySem.W.findIn K (.ref C_OpenWalk) "first" = some none
  na_OpenWalk_last : PySem.W.findIn K (.ref C_OpenWalk) "last" = some none
  ki_OpenWalk_OffCircle : PySem.W.kitOne K (.ref C_OpenWalk) (.ref C_OffCircle) = some false
  ki_OpenWalk_NoHouse : PySem.W.kitOne K (.ref C_OpenWalk) (.ref C_NoHouse) = some false
  ki_OpenWalk_TakenPlace : PySem.W.kitOne K (.ref C_OpenWalk) (.ref C_TakenPlace) = some false
  ki_OpenWalk_StillNamed : PySem.W.kitOne K (.ref C_OpenWalk) (.ref C_StillNamed) = some false
  ki_OpenWalk_NotBetween : PySem.W.kitOne K (.ref C_OpenWalk) (.ref C_NotBetween) = some false
  ki_OpenWalk_SamePiece : PySem.W.kitOne K (.ref C_OpenWalk) (.ref C_SamePiece) = some false
  ki_OpenWalk_NotQuiet : PySem.W.kitOne K (.ref C_OpenWalk) (.ref C_NotQuiet) = some false
  ki_OpenWalk_NotAtRest : PySem.W.kitOne K (.ref C_OpenWalk) (.ref C_NotAtRest) = some false
  ki_OpenWalk_Untold : PySem.W.kitOne K (.ref C_OpenWalk) (.ref C_Untold) = some false
  ki_OpenWalk_NoLetter : PySem.W.kitOne K (.ref C_OpenWalk) (.ref C_NoLetter) = some false
  ki_OpenWalk_BadText : PySem.W.kitOne K (.ref C_OpenWalk) (.ref C_BadText) = some false
  ki_OpenWalk_UntrueNet : PySem.W.kitOne K (.ref C_OpenWalk) (.ref C_UntrueNet) = some false
  ki_OpenWalk_OpenWalk : PySem.W.kitOne K (.ref C_OpenWalk) (.ref C_OpenWalk) = some true
  ki_OpenWalk_WalksApart : PySem.W.kitOne K (.ref C_OpenWalk) (.ref C_WalksApart) = some false
  ki_OpenWalk_NoOrder : PySem.W.kitOne K (.ref C_OpenWalk) (.ref C_NoOrder) = some false
  ki_OpenWalk_BadDeed : PySem.W.kitOne K (.ref C_OpenWalk) (.ref C_BadDeed) = some false
  ki_OpenWalk_NothingToUndo : PySem.W.kitOne K (.ref C_OpenWalk) (.ref C_NothingToUndo) = some false
  ki_OpenWalk_NothingToRedo : PySem.W.kitOne K (.ref C_OpenWalk) (.ref C_NothingToRedo) = some false
  ki_OpenWalk_RingError : PySem.W.kitOne K (.ref C_OpenWalk) (.ref C_RingError) = some true
  ki_OpenWalk_ValueError : PySem.W.kitOne K (.ref C_OpenWalk) (.type "ValueError") = some true
  er_WalksApart : ErrC K C_WalksApart
  ox_WalksApart : OexC K C_WalksApart
  mi_WalksApart : PySem.W.findIn K (.ref C_WalksApart) "__init__" = some (some (.ref a_WalksApart__init))
  ti_WalksApart : PySem.W.typeIn K (.ref a_WalksApart__init) = some (.type "function")
  na_WalksApart_end : PySem.W.findIn K (.ref C_WalksApart) "end" = some none
  na_WalksApart_start : PySem.W.findIn K (.ref C_WalksApart) "start" = some none
  ki_WalksApart_OffCircle : PySem.W.kitOne K (.ref C_WalksApart) (.ref C_OffCircle) = some false
  ki_WalksApart_NoHouse : PySem.W.kitOne K (.ref C_WalksApart) (.ref C_NoHouse) = some false
  ki_WalksApart_TakenPlace : PySem.W.kitOne K (.ref C_WalksApart) (.ref C_TakenPlace) = some false
  ki_WalksApart_StillNamed : PySem.W.kitOne K (.ref C_WalksApart) (.ref C_StillNamed) = some false
  ki_WalksApart_NotBetween : PySem.W.kitOne K (.ref C_WalksApart) (.ref C_NotBetween) = some false
  ki_WalksApart_SamePiece : PySem.W.kitOne K (.ref C_WalksApart) (.ref C_SamePiece) = some false
  ki_WalksApart_NotQuiet : PySem.W.kitOne K (.ref C_WalksApart) (.ref C_NotQuiet) = some false
  ki_WalksApart_NotAtRest : PySem.W.kitOne K (.ref C_WalksApart) (.ref C_NotAtRest) = some false
  ki_WalksApart_Untold : PySem.W.kitOne K (.ref C_WalksApart) (.ref C_Untold) = some false
  ki_WalksApart_NoLetter : PySem.W.kitOne K (.ref C_WalksApart) (.ref C_NoLetter) = some false
  ki_WalksApart_BadText : PySem.W.kitOne K (.ref C_WalksApart) (.ref C_BadText) = some false
  ki_WalksApart_UntrueNet : PySem.W.kitOne K (.ref C_WalksApart) (.ref C_UntrueNet) = some false
  ki_WalksApart_OpenWalk : PySem.W.kitOne K (.ref C_WalksApart) (.ref C_OpenWalk) = some false
  ki_WalksApart_WalksApart : PySem.W.kitOne K (.ref C_WalksApart) (.ref C_WalksApart) = some true
  ki_WalksApart_NoOrder : PySem.W.kitOne K (.ref C_WalksApart) (.ref C_NoOrder) = some false
  ki_WalksApart_BadDeed : PySem.W.kitOne K (.ref C_WalksApart) (.ref C_BadDeed) = some false
  ki_WalksApart_NothingToUndo : PySem.W.kitOne K (.ref C_WalksApart) (.ref C_NothingToUndo) = some false
  ki_WalksApart_NothingToRedo : PySem.W.kitOne K (.ref C_WalksApart) (.ref C_NothingToRedo) = some false
  ki_WalksApart_RingError : PySem.W.kitOne K (.ref C_WalksApart) (.ref C_RingError) = some true
  ki_WalksApart_ValueError : PySem.W.kitOne K (.ref C_WalksApart) (.type "ValueError") = some true
  er_NoOrder : ErrC K C_NoOrder
  ox_NoOrder : OexC K C_NoOrder
  mi_NoOrder : PySem.W.findIn K (.ref C_NoOrder) "__init__" = some (some (.ref a_NoOrder__init))
  ti_NoOrder : PySem.W.typeIn K (.ref a_NoOrder__init) = some (.type "function")
  na_NoOrder_turns : PySem.W.findIn K (.ref C_NoOrder) "turns" = some none
  na_NoOrder_index : PySem.W.findIn K (.ref C_NoOrder) "index" = some none
  ki_NoOrder_OffCircle : PySem.W.kitOne K (.ref C_NoOrder) (.ref C_OffCircle) = some false
  ki_NoOrder_NoHouse : PySem.W.kitOne K (.ref C_NoOrder) (.ref C_NoHouse) = some false
  ki_NoOrder_TakenPlace : PySem.W.kitOne K (.ref C_NoOrder) (.ref C_TakenPlace) = some false
  ki_NoOrder_StillNamed : PySem.W.kitOne K (.ref C_NoOrder) (.ref C_StillNamed) = some false
  ki_NoOrder_NotBetween : PySem.W.kitOne K (.ref C_NoOrder) (.ref C_NotBetween) = some false
  ki_NoOrder_SamePiece : PySem.W.kitOne K (.ref C_NoOrder) (.ref C_SamePiece) = some false
  ki_NoOrder_NotQuiet : PySem.W.kitOne K (.ref C_NoOrder) (.ref C_NotQuiet) = some false
  ki_NoOrder_NotAtRest : PySem.W.kitOne K (.ref C_NoOrder) (.ref C_NotAtRest) = some false
  ki_NoOrder_Untold : PySem.W.kitOne K (.ref C_NoOrder) (.ref C_Untold) = some false
  ki_NoOrder_NoLetter : PySem.W.kitOne K (.ref C_NoOrder) (.ref C_NoLetter) = some false
  ki_NoOrder_BadText : PySem.W.kitOne K (.ref C_NoOrder) (.ref C_BadText) = some false
  ki_NoOrder_UntrueNet : PySem.W.kitOne K (.ref C_NoOrder) (.ref C_UntrueNet) = some false
  ki_NoOrder_OpenWalk : PySem.W.kitOne K (.ref C_NoOrder) (.ref C_OpenWalk) = some false
  ki_NoOrder_WalksApart : PySem.W.kitOne K (.ref C_NoOrder) (.ref C_WalksApart) = some false
  ki_NoOrder_NoOrder : PySem.W.kitOne K (.ref C_NoOrder) (.ref C_NoOrder) = some true
  ki_NoOrder_BadDeed : PySem.W.kitOne K (.ref C_NoOrder) (.ref C_BadDeed) = some false
  ki_NoOrder_NothingToUndo : PySem.W.kitOne K (.ref C_NoOrder) (.ref C_NothingToUndo) = some false
  ki_NoOrder_NothingToRedo : PySem.W.kitOne K (.ref C_NoOrder) (.ref C_NothingToRedo) = some false
  ki_NoOrder_RingError : PySem.W.kitOne K (.ref C_NoOrder) (.ref C_RingError) = some true
  ki_NoOrder_ValueError : PySem.W.kitOne K (.ref C_NoOrder) (.type "ValueError") = some true
  er_BadDeed : ErrC K C_BadDeed
  ox_BadDeed : OexC K C_BadDeed
  mi_BadDeed : PySem.W.findIn K (.ref C_BadDeed) "__init__" = some (some (.ref a_BadDeed__init))
  ti_BadDeed : PySem.W.typeIn K (.ref a_BadDeed__init) = some (.type "function")
  na_BadDeed_deed : PySem.W.findIn K (.ref C_BadDeed) "deed" = some none
  ki_BadDeed_OffCircle : PySem.W.kitOne K (.ref C_BadDeed) (.ref C_OffCircle) = some false
  ki_BadDeed_NoHouse : PySem.W.kitOne K (.ref C_BadDeed) (.ref C_NoHouse) = some false
  ki_BadDeed_TakenPlace : PySem.W.kitOne K (.ref C_BadDeed) (.ref C_TakenPlace) = some false
  ki_BadDeed_StillNamed : PySem.W.kitOne K (.ref C_BadDeed) (.ref C_StillNamed) = some false
  ki_BadDeed_NotBetween : PySem.W.kitOne K (.ref C_BadDeed) (.ref C_NotBetween) = some false
  ki_BadDeed_SamePiece : PySem.W.kitOne K (.ref C_BadDeed) (.ref C_SamePiece) = some false
  ki_BadDeed_NotQuiet : PySem.W.kitOne K (.ref C_BadDeed) (.ref C_NotQuiet) = some false
  ki_BadDeed_NotAtRest : PySem.W.kitOne K (.ref C_BadDeed) (.ref C_NotAtRest) = some false
  ki_BadDeed_Untold : PySem.W.kitOne K (.ref C_BadDeed) (.ref C_Untold) = some false
  ki_BadDeed_NoLetter : PySem.W.kitOne K (.ref C_BadDeed) (.ref C_NoLetter) = some false
  ki_BadDeed_BadText : PySem.W.kitOne K (.ref C_BadDeed) (.ref C_BadText) = some false
  ki_BadDeed_UntrueNet : PySem.W.kitOne K (.ref C_BadDeed) (.ref C_UntrueNet) = some false
  ki_BadDeed_OpenWalk : PySem.W.kitOne K (.ref C_BadDeed) (.ref C_OpenWalk) = some false
  ki_BadDeed_WalksApart : PySem.W.kitOne K (.ref C_BadDeed) (.ref C_WalksApart) = some false
  ki_BadDeed_NoOrder : PySem.W.kitOne K (.ref C_BadDeed) (.ref C_NoOrder) = some false
  ki_BadDeed_BadDeed : PySem.W.kitOne K (.ref C_BadDeed) (.ref C_BadDeed) = some true
  ki_BadDeed_NothingToUndo : PySem.W.kitOne K (.ref C_BadDeed) (.ref C_NothingToUndo) = some false
  ki_BadDeed_NothingToRedo : PySem.W.kitOne K (.ref C_BadDeed) (.ref C_NothingToRedo) = some false
  ki_BadDeed_RingError : PySem.W.kitOne K (.ref C_BadDeed) (.ref C_RingError) = some true
  ki_BadDeed_ValueError : PySem.W.kitOne K (.ref C_BadDeed) (.type "ValueError") = some true
  er_NothingToUndo : ErrC K C_NothingToUndo
  q_NothingToUndo : PySem.W.excIn K C_NothingToUndo [.type "ValueError", .type "Exception", .type "BaseException", .type "object"] "ValueError.__new__" = true
  kp_NothingToUndo : PySem.W.keepIn K (.ref C_NothingToUndo) = true
  ki_NothingToUndo_OffCircle : PySem.W.kitOne K (.ref C_NothingToUndo) (.ref C_OffCircle) = some false
  ki_NothingToUndo_NoHouse : PySem.W.kitOne K (.ref C_NothingToUndo) (.ref C_NoHouse) = some false
  ki_NothingToUndo_TakenPlace : PySem.W.kitOne K (.ref C_NothingToUndo) (.ref C_TakenPlace) = some false
  ki_NothingToUndo_StillNamed : PySem.W.kitOne K (.ref C_NothingToUndo) (.ref C_StillNamed) = some false
  ki_NothingToUndo_NotBetween : PySem.W.kitOne K (.ref C_NothingToUndo) (.ref C_NotBetween) = some false
  ki_NothingToUndo_SamePiece : PySem.W.kitOne K (.ref C_NothingToUndo) (.ref C_SamePiece) = some false
  ki_NothingToUndo_NotQuiet : PySem.W.kitOne K (.ref C_NothingToUndo) (.ref C_NotQuiet) = some false
  ki_NothingToUndo_NotAtRest : PySem.W.kitOne K (.ref C_NothingToUndo) (.ref C_NotAtRest) = some false
  ki_NothingToUndo_Untold : PySem.W.kitOne K (.ref C_NothingToUndo) (.ref C_Untold) = some false
  ki_NothingToUndo_NoLetter : PySem.W.kitOne K (.ref C_NothingToUndo) (.ref C_NoLetter) = some false
  ki_NothingToUndo_BadText : PySem.W.kitOne K (.ref C_NothingToUndo) (.ref C_BadText) = some false
  ki_NothingToUndo_UntrueNet : PySem.W.kitOne K (.ref C_NothingToUndo) (.ref C_UntrueNet) = some false
  ki_NothingToUndo_OpenWalk : PySem.W.kitOne K (.ref C_NothingToUndo) (.ref C_OpenWalk) = some false
  ki_NothingToUndo_WalksApart : PySem.W.kitOne K (.ref C_NothingToUndo) (.ref C_WalksApart) = some false
  ki_NothingToUndo_NoOrder : PySem.W.kitOne K (.ref C_NothingToUndo) (.ref C_NoOrder) = some false
  ki_NothingToUndo_BadDeed : PySem.W.kitOne K (.ref C_NothingToUndo) (.ref C_BadDeed) = some false
  ki_NothingToUndo_NothingToUndo : PySem.W.kitOne K (.ref C_NothingToUndo) (.ref C_NothingToUndo) = some true
  ki_NothingToUndo_NothingToRedo : PySem.W.kitOne K (.ref C_NothingToUndo) (.ref C_NothingToRedo) = some false
  ki_NothingToUndo_RingError : PySem.W.kitOne K (.ref C_NothingToUndo) (.ref C_RingError) = some true
  ki_NothingToUndo_ValueError : PySem.W.kitOne K (.ref C_NothingToUndo) (.type "ValueError") = some true
  er_NothingToRedo : ErrC K C_NothingToRedo
  q_NothingToRedo : PySem.W.excIn K C_NothingToRedo [.type "ValueError", .type "Exception", .type "BaseException", .type "object"] "ValueError.__new__" = true
  kp_NothingToRedo : PySem.W.keepIn K (.ref C_NothingToRedo) = true
  ki_NothingToRedo_OffCircle : PySem.W.kitOne K (.ref C_NothingToRedo) (.ref C_OffCircle) = some false
  ki_NothingToRedo_NoHouse : PySem.W.kitOne K (.ref C_NothingToRedo) (.ref C_NoHouse) = some false
  ki_NothingToRedo_TakenPlace : PySem.W.kitOne K (.ref C_NothingToRedo) (.ref C_TakenPlace) = some false
  ki_NothingToRedo_StillNamed : PySem.W.kitOne K (.ref C_NothingToRedo) (.ref C_StillNamed) = some false
  ki_NothingToRedo_NotBetween : PySem.W.kitOne K (.ref C_NothingToRedo) (.ref C_NotBetween) = some false
  ki_NothingToRedo_SamePiece : PySem.W.kitOne K (.ref C_NothingToRedo) (.ref C_SamePiece) = some false
  ki_NothingToRedo_NotQuiet : PySem.W.kitOne K (.ref C_NothingToRedo) (.ref C_NotQuiet) = some false
  ki_NothingToRedo_NotAtRest : PySem.W.kitOne K (.ref C_NothingToRedo) (.ref C_NotAtRest) = some false
  ki_NothingToRedo_Untold : PySem.W.kitOne K (.ref C_NothingToRedo) (.ref C_Untold) = some false
  ki_NothingToRedo_NoLetter : PySem.W.kitOne K (.ref C_NothingToRedo) (.ref C_NoLetter) = some false
  ki_NothingToRedo_BadText : PySem.W.kitOne K (.ref C_NothingToRedo) (.ref C_BadText) = some false
  ki_NothingToRedo_UntrueNet : PySem.W.kitOne K (.ref C_NothingToRedo) (.ref C_UntrueNet) = some false
  ki_NothingToRedo_OpenWalk : PySem.W.kitOne K (.ref C_NothingToRedo) (.ref C_OpenWalk) = some false
  ki_NothingToRedo_WalksApart : PySem.W.kitOne K (.ref C_NothingToRedo) (.ref C_WalksApart) = some false
  ki_NothingToRedo_NoOrder : PySem.W.kitOne K (.ref C_NothingToRedo) (.ref C_NoOrder) = some false
  ki_NothingToRedo_BadDeed : PySem.W.kitOne K (.ref C_NothingToRedo) (.ref C_BadDeed) = some false
  ki_NothingToRedo_NothingToUndo : PySem.W.kitOne K (.ref C_NothingToRedo) (.ref C_NothingToUndo) = some false
  ki_NothingToRedo_NothingToRedo : PySem.W.kitOne K (.ref C_NothingToRedo) (.ref C_NothingToRedo) = some true
  ki_NothingToRedo_RingError : PySem.W.kitOne K (.ref C_NothingToRedo) (.ref C_RingError) = some true
  ki_NothingToRedo_ValueError : PySem.W.kitOne K (.ref C_NothingToRedo) (.type "ValueError") = some true
namespace T0
variable {K : PySem.W.Frag} {mg : Str → Option Value} (T : T0 K mg)
theorem k__law_tape : PySem.W.keepIn K (.ref T.a__law_tape) = true := T.F__law_tape.kp
theorem k__law_pick : PySem.W.keepIn K (.ref T.a__law_pick) = true := T.F__law_pick.kp
theorem k__law_same : PySem.W.keepIn K (.ref T.a__law_same) = true := T.F__law_same.kp
theorem k_OffCircle__init : PySem.W.keepIn K (.ref T.a_OffCircle__init) = true := T.F_OffCircle__init.kp
theorem k_NoHouse__init : PySem.W.keepIn K (.ref T.a_NoHouse__init) = true := T.F_NoHouse__init.kp
theorem k_TakenPlace__init : PySem.W.keepIn K (.ref T.a_TakenPlace__init) = true := T.F_TakenPlace__init.kp
theorem k_StillNamed__init : PySem.W.keepIn K (.ref T.a_StillNamed__init) = true := T.F_StillNamed__init.kp
theorem k_NotBetween__init : PySem.W.keepIn K (.ref T.a_NotBetween__init) = true := T.F_NotBetween__init.kp
theorem k_SamePiece__init : PySem.W.keepIn K (.ref T.a_SamePiece__init) = true := T.F_SamePiece__init.kp
theorem k_NotQuiet__init : PySem.W.keepIn K (.ref T.a_NotQuiet__init) = true := T.F_NotQuiet__init.kp
theorem k_NotAtRest__init : PySem.W.keepIn K (.ref T.a_NotAtRest__init) = true := T.F_NotAtRest__init.kp
theorem k_Untold__init : PySem.W.keepIn K (.ref T.a_Untold__init) = true := T.F_Untold__init.kp
theorem k_NoLetter__init : PySem.W.keepIn K (.ref T.a_NoLetter__init) = true := T.F_NoLetter__init.kp
theorem k_BadText__init : PySem.W.keepIn K (.ref T.a_BadText__init) = true := T.F_BadText__init.kp
theorem k_UntrueNet__init : PySem.W.keepIn K (.ref T.a_UntrueNet__init) = true := T.F_UntrueNet__init.kp
theorem k_OpenWalk__init : PySem.W.keepIn K (.ref T.a_OpenWalk__init) = true := T.F_OpenWalk__init.kp
theorem k_WalksApart__init : PySem.W.keepIn K (.ref T.a_WalksApart__init) = true := T.F_WalksApart__init.kp
theorem k_NoOrder__init : PySem.W.keepIn K (.ref T.a_NoOrder__init) = true := T.F_NoOrder__init.kp
theorem k_BadDeed__init : PySem.W.keepIn K (.ref T.a_BadDeed__init) = true := T.F_BadDeed__init.kp
theorem k__law_number : PySem.W.keepIn K (.ref T.a__law_number) = true := T.F__law_number.kp
theorem k__law_kinds : PySem.W.keepIn K (.ref T.a__law_kinds) = true := T.F__law_kinds.kp
theorem k__law_of_places : PySem.W.keepIn K (.ref T.a__law_of_places) = true := T.F__law_of_places.kp
theorem k__law_others : PySem.W.keepIn K (.ref T.a__law_others) = true := T.F__law_others.kp
theorem k__law_kept : PySem.W.keepIn K (.ref T.a__law_kept) = true := T.F__law_kept.kp
theorem k_law : PySem.W.keepIn K (.ref T.a_law) = true := T.F_law.kp
end T0
theorem un1 {k : Nat} {A : Around} (r : Room k A) : A.units + 1 < cLine := by have := r.un; omega
theorem iteT' {b : Bool} {A B : Prop} (h : b = true) (a : A) : if b = true then A else B := by rw [if_pos h]; exact a
theorem iteF' {b : Bool} {A B : Prop} (h : b = false) (a : B) : if b = true then A else B := by rw [if_neg (by rw [h]; exact Bool.false_ne_true)]; exact a
theorem small1000' {n : Nat} (h : n ≤ 100000) : n < sizeLine := Nat.lt_of_le_of_lt h (by decide)
theorem upd_self {H : Hp} {t : Addr} {o : HO} (h : H t = Option.some o) : H = upd H t o := by
  funext b
  unfold upd
  split
  · rename_i e
    rw [e, h]
  · rfl
theorem at_ints {cs : List Int} {a : Nat} (h : a < cs.length) : atI (cs.map V.int) (a : Int) = Option.some (.int (cs[a])) := by
  refine atI_nat ?_
  rw [List.getElem?_map, List.getElem?_eq_getElem h]
  rfl
theorem at_getD {cs : List Int} {a : Nat} (h : a < cs.length) : atI (cs.map V.int) (a : Int) = Option.some (.int (cs.getD a 0)) := by
  refine atI_nat ?_
  rw [List.getElem?_map, List.getElem?_eq_getElem h, List.getD_eq_getElem?_getD, List.getElem?_eq_getElem h]
  rfl
theorem fmod_range (x : Int) {n : Int} (h : 0 < n) : 0 ≤ x.fmod n ∧ x.fmod n < n := ⟨Int.fmod_nonneg_of_pos x h, Int.fmod_lt_of_pos x h⟩
theorem mod_small (x : Int) {m : Int} (h : 0 < m) (h2 : m ≤ 9223372036854775808) : -(2 ^ 64) < x.fmod m ∧ x.fmod m < 2 ^ 64 := by
  have h3 := Int.fmod_nonneg_of_pos x h
  have h4 := Int.fmod_lt_of_pos x h
  constructor <;> omega
theorem cdivn (x : Int) {n : Int} (h : 0 < n) (h2 : n ≤ 1000000001) : CDivN x n := ⟨by omega, by omega⟩
theorem cdivw (x : Int) {n : Int} (h : 0 < n) (h2 : n ≤ 4000000000) : CDivW x n := wide_div (b := 63) h (by omega) (by decide) (by decide)
local macro_rules | `(tactic| walk_at "side") => `(tactic| first
  | with_reducible assumption
  | decide
  | ((with_reducible apply mod_small) <;> decide)
  | exact Or.inl ⟨by decide, by decide⟩
  | (apply Or.inl; (with_reducible apply mod_small) <;> decide)
  | exact Or.inr ⟨by decide, by decide⟩
  | ((with_reducible apply cdivn) <;> first | decide | omega)
  | ((with_reducible apply cdivw) <;> first | decide | omega)
  | (dsimp only; first | decide | omega)
  | exact ⟨by dsimp only; first | decide | omega, by dsimp only; first | decide | omega⟩)
local macro_rules | `(tactic| walk_at "go1") => `(tactic| first
  | refine ⟨_, rfl, ?_⟩
  | refine ⟨_, _, rfl, rfl, ?_⟩
  | refine Or.inl ⟨_, rfl, ?_⟩
  | refine ⟨_, _, _, _, rfl, rfl, (by first | assumption | exact SqL.of (by assumption) | exact upd_same | exact SqL.of upd_same), (by rfl), ?_⟩
  | refine ⟨rfl, ?_⟩
  | refine ⟨(show (_ : Prop) from by walk_at "side"), ?_⟩)
local macro_rules | `(tactic| walk_at "go") => `(tactic| repeat (walk_at "go1"))
section
variable {X : Cx} {K : PySem.W.Frag}
theorem ix_listK (h : X.K = K := by rfl) : IxR X (rIxL K) := by subst h; exact ix_list
theorem ix_tupK (h : X.K = K := by rfl) : IxR X (rIxT K) := by subst h; exact ix_tup
theorem ix_seqK (h : X.K = K := by rfl) : IxR X (rIx K) := by subst h; exact ix_seq
theorem sl_listK (h : X.K = K := by rfl) : SlR X (rSlL K) := by subst h; exact sl_list
theorem sl_tupK (h : X.K = K := by rfl) : SlR X (rSlT K) := by subst h; exact sl_tup
theorem op_in_seqK (h : X.K = K := by rfl) : OpR X (compareOp .In) (rIn K false) := by subst h; exact op_in_seq
theorem op_notIn_seqK (h : X.K = K := by rfl) : OpR X (compareOp .NotIn) (rIn K true) := by subst h; exact op_notIn_seq
def rLen (K : PySem.W.Frag) : List V → Hp → VK → Prop := fun xs H Q => ∃ p ys, xs = [.ref p] ∧ (SqL K H p ys ∨ SqT K H p ys) ∧ Q (.int ys.length) H
theorem call_lenK (h : X.K = K := by rfl) : CallR X (.builtin "len") (rLen K) := by subst h; exact call_len_seq
def rListOf (K : PySem.W.Frag) : List V → Hp → VK → Prop := fun xs H Q => ∃ p ys, xs = [.ref p] ∧ (SqL K H p ys ∨ SqT K H p ys) ∧ ∀ l, H l = none → Q (.ref l) (upd H l (.lst ys))
theorem call_list_ofK (h : X.K = K := by rfl) : CallR X (.type "list") (rListOf K) := by subst h; exact call_list_of
def rTupleOf (K : PySem.W.Frag) : List V → Hp → VK → Prop := fun xs H Q => ∃ p ys, xs = [.ref p] ∧ ((SqL K H p ys ∧ ∀ l, H l = none → Q (.ref l) (upd H l (.tup ys))) ∨ (SqT K H p ys ∧ Q (.ref p) H))
theorem call_tuple_ofK (h : X.K = K := by rfl) : CallR X (.type "tuple") (rTupleOf K) := by subst h; exact call_tuple_of
theorem call_isinstK (h : X.K = K := by rfl) : CallR X (.builtin "isinstance") (rIsi K) := by subst h; exact call_isi
theorem cr_sortedK (h : X.K = K := by rfl) : CallR X (.builtin "sorted") (rSorted K) := by subst h; exact cr_sorted
theorem call_sumK (hc : X.calm = true := by rfl) (h : X.K = K := by rfl) : CallR X (.builtin "sum") (rSum K) := by subst h; exact cr_sum hc
end
section
variable {σ : L2.St} {H : Hp} {ta tb tc : TE} {x y z : V}
theorem val_I0 {g : Int → Int → V} {i j : Int} (ha : Val ta σ H (.int i)) (hb : Val tb σ H (.int j)) : Val (tOp (rI0 g) ta tb) σ H (g i j) := fun _ q => ha _ (hb _ ⟨i, j, rfl, rfl, q⟩)
theorem val_I {C : Int → Int → Prop} {g : Int → Int → V} {i j : Int} (ha : Val ta σ H (.int i)) (hb : Val tb σ H (.int j)) (hc : C i j) : Val (tOp (rI C g) ta tb) σ H (g i j) := fun _ q => ha _ (hb _ ⟨i, j, rfl, rfl, hc, q⟩)
theorem val_eq (ha : Val ta σ H x) (hb : Val tb σ H y) (hs : scal x y = true) : Val (tOp rEq ta tb) σ H (.bl (decide (x = y))) := fun _ q => ha _ (hb _ ⟨hs, q⟩)
theorem val_ne (ha : Val ta σ H x) (hb : Val tb σ H y) (hs : scal x y = true) : Val (tOp rNe ta tb) σ H (.bl (!decide (x = y))) := fun _ q => ha _ (hb _ ⟨hs, q⟩)
theorem val_chain {g : Int → Int → Bool} {g' : Int → Int → Bool} {i j k : Int} (ha : Val ta σ H (.int i)) (hb : Val tb σ H (.int j)) (hc : Val tc σ H (.int k)) :
    Val (tChain (rI0 fun i j => .bl (g i j)) (rI0 fun i j => .bl (g' i j)) ta tb tc) σ H (.bl (g i j && g' j k)) := fun Q q => ha _ (hb _ ⟨i, j, rfl, rfl, _, rfl, by
  cases e : g i j with
  | true =>
    refine iteT (hc _ ⟨j, k, rfl, rfl, ?_⟩)
    rw [e] at q
    exact q
  | false =>
    rw [e] at q
    exact iteF q⟩)
theorem val_ixL {K : PySem.W.Frag} {p : Addr} {xs : List V} {i : Int} (ha : Val ta σ H (.ref p)) (hb : Val tb σ H (.int i)) (h : SqL K H p xs) (h2 : atI xs i = Option.some x) : Val (tOp (rIxL K) ta tb) σ H x := fun _ q => ha _ (hb _ ⟨p, xs, i, x, rfl, rfl, h, h2, q⟩)
theorem val_ixT {K : PySem.W.Frag} {p : Addr} {xs : List V} {i : Int} (ha : Val ta σ H (.ref p)) (hb : Val tb σ H (.int i)) (h : SqT K H p xs) (h2 : atI xs i = Option.some x) : Val (tOp (rIxT K) ta tb) σ H x := fun _ q => ha _ (hb _ ⟨p, xs, i, x, rfl, rfl, h, h2, q⟩)
theorem val_andV {a b : Bool} (ha : Val ta σ H (.bl a)) (hb : a = true → Val tb σ H (.bl b)) : Val (tAndV ta tb) σ H (.bl (a && b)) := fun Q q => ha _ ⟨a, rfl, by
  cases a with
  | true => exact iteT (hb rfl _ q)
  | false => exact iteF q⟩
theorem val_orV {a b : Bool} (ha : Val ta σ H (.bl a)) (hb : a = false → Val tb σ H (.bl b)) : Val (tOrV ta tb) σ H (.bl (a || b)) := fun Q q => ha _ ⟨a, rfl, by
  cases a with
  | true => exact iteT q
  | false => exact iteF (hb rfl _ q)⟩
theorem val_notV {a : Bool} (ha : Val ta σ H (.bl a)) : Val (tNotV ta) σ H (.bl (!a)) := fun _ q => ha _ ⟨a, rfl, q⟩
def ValA (ta : TA) (σ : L2.St) (H : Hp) (vs : List V) : Prop := ∀ Q : List V → Hp → Prop, Q vs H → ta σ H Q
theorem valA_nil : ValA tNil σ H [] := fun _ q => q
theorem valA_cons {tr : TA} {vs : List V} (h : Val ta σ H x) (hr : ValA tr σ H vs) : ValA (tCons ta tr) σ H (x :: vs) := fun _ q => h _ (hr _ q)
theorem go_lst {tr : TA} {vs : List V} {Q : VK} (h : ValA tr σ H vs) (hz : vs.length ≤ 100000) (q : ∀ p, H p = none → Q (.ref p) (upd H p (.lst vs))) : tLst tr σ H Q := h _ ⟨Nat.le_trans hz (by decide), q⟩
theorem go_tup {tr : TA} {vs : List V} {Q : VK} (h : ValA tr σ H vs) (hz : vs.length ≤ 100000) (q : ∀ p, H p = none → Q (.ref p) (upd H p (.tup vs))) : tTup tr σ H Q := h _ ⟨Nat.le_trans hz (by decide), q⟩
theorem val_call {tr : TA} {vs : List V} {sp : Sp} {dvs : List V} {E : XK} (h : ValA tr σ H vs) (hs : ∀ Q : VK, Q x H → sp (vs ++ dvs) H Q E) : Val (tCall sp dvs E tr) σ H x := fun _ q => h _ (hs _ q)
theorem val_cb {tr : TA} {vs : List V} {r : List V → Hp → VK → Prop} (h : ValA tr σ H vs) (hs : ∀ Q : VK, Q x H → r vs H Q) : Val (tCB r tr) σ H x := fun _ q => h _ (hs _ q)
variable {D : Ends} {tz tu tw : TS} {i : Nat} {tt tv : TT}
theorem o_asg (h : ta σ H fun v H' => tz D (σ.set i (some v)) H') : tSeq (tAsg ta (gName i)) tz D σ H := h
theorem o_ret (h : ta σ H D.rt) : tRet ta D σ H := h
theorem o_drop (h : ta σ H fun _ H' => tz D σ H') : tSeq (tDrop ta) tz D σ H := h
theorem v_asg (h : Val ta σ H x) (k : tz D (σ.set i (some x)) H) : tSeq (tAsg ta (gName i)) tz D σ H := h _ k
theorem v_asg1 (h : Val ta σ H x) (k : D.nx (σ.set i (some x)) H) : tAsg ta (gName i) D σ H := h _ k
theorem lc_yes {A B : Hp → Prop} (h : A H) : tYes σ H (fun b H3 => if b = true then A H3 else B H3) := by show (if true = true then A H else B H); exact iteT h
theorem g_name {v : V} {Q : L2.St → Hp → Prop} (h : Q (σ.set i (some v)) H) : gName i v σ H Q := h
theorem v_ret (h : Val ta σ H x) (k : D.rt x H) : tRet ta D σ H := h _ k
theorem v_if {b : Bool} (h : Ans tt σ H b) (h1 : b = true → tu { D with nx := tz D } σ H) (h2 : b = false → tw { D with nx := tz D } σ H) : tSeq (tIfS tt tu tw) tz D σ H := h _ (by
  cases b with
  | true => exact iteT (h1 rfl)
  | false => exact iteF (h2 rfl))
theorem v_if1 {b : Bool} (h : Ans tt σ H b) (h1 : b = true → tu D σ H) (h2 : b = false → tw D σ H) : tIfS tt tu tw D σ H := h _ (by
  cases b with
  | true => exact iteT (h1 rfl)
  | false => exact iteF (h2 rfl))
/-- an if without else: the rest once more where the test says no -/
theorem v_when {b : Bool} (h : Ans tt σ H b) (h1 : b = true → tu { D with nx := tz D } σ H) (h2 : b = false → tz D σ H) : tSeq (tIfS tt tu tNext) tz D σ H := v_if h h1 h2
theorem ans_t {b : Bool} (h : Val ta σ H (.bl b)) : Ans (tTest ta) σ H b := fun _ q => h _ ⟨b, rfl, q⟩
theorem ans_b {b : Bool} (h : Val ta σ H (.bl b)) : Ans (tB ta) σ H b := fun _ q => h _ ⟨b, rfl, q⟩
theorem ans_a {a b : Bool} (h : Ans tt σ H a) (h2 : a = true → Ans tv σ H b) : Ans (tAnd tt tv) σ H (a && b) := fun _ q => h _ (by
  cases a with
  | true => exact iteT (h2 rfl _ q)
  | false => exact iteF q)
theorem ans_o {a b : Bool} (h : Ans tt σ H a) (h2 : a = false → Ans tv σ H b) : Ans (tOr tt tv) σ H (a || b) := fun _ q => h _ (by
  cases a with
  | true => exact iteT q
  | false => exact iteF (h2 rfl _ q))
theorem ans_n {a : Bool} (h : Ans tt σ H a) : Ans (tNot tt) σ H (!a) := fun _ q => h _ q
theorem Val.to (h : Val ta σ H x) (e : x = y) : Val ta σ H y := e ▸ h
theorem Val.go {Q : VK} (h : Val ta σ H x) (q : Q x H) : ta σ H Q := h Q q
end
local macro_rules | `(tactic| walk_at "sql") => `(tactic| first
  | with_reducible assumption
  | exact SqL.of (by assumption)
  | exact SqL.of upd_same)
local macro_rules | `(tactic| walk_at "sqt") => `(tactic| first
  | with_reducible assumption
  | exact SqT.of (by assumption)
  | exact SqT.of upd_same)
local macro_rules | `(tactic| walk_at "at") => `(tactic| first
  | with_reducible assumption
  | exact at_getD (by omega)
  | exact at_ints (by assumption)
  | rfl)
local macro_rules | `(tactic| walk_at "val") => `(tactic| first
  | with_reducible assumption
  | with_reducible exact val_c
  | ((with_reducible apply val_var); rfl)
  | ((with_reducible apply val_I0); (· walk_at "val"); (· walk_at "val"))
  | ((with_reducible apply val_I); (· walk_at "val"); (· walk_at "val"); (· walk_at "side"))
  | ((with_reducible apply val_eq); (· walk_at "val"); (· walk_at "val"); (· rfl))
  | ((with_reducible apply val_ne); (· walk_at "val"); (· walk_at "val"); (· rfl))
  | ((with_reducible apply val_chain); (· walk_at "val"); (· walk_at "val"); (· walk_at "val"))
  | ((with_reducible apply val_andV); (· walk_at "val"); (· intro _; walk_at "val"))
  | ((with_reducible apply val_orV); (· walk_at "val"); (· intro _; walk_at "val"))
  | ((with_reducible apply val_notV); (· walk_at "val"))
  | ((with_reducible apply val_ixL); (· walk_at "val"); (· walk_at "val"); (· walk_at "sql"); (· walk_at "at"))
  | ((with_reducible apply val_ixT); (· walk_at "val"); (· walk_at "val"); (· walk_at "sqt"); (· walk_at "at"))
  | with_reducible exact valA_nil
  | ((with_reducible apply valA_cons); (· walk_at "val"); (· walk_at "val"))
  | ((with_reducible apply val_cb); (· walk_at "val"); (· intro _ q; exact Or.inl ⟨_, rfl, q⟩))
  | ((with_reducible apply val_call); (· walk_at "val"); (· intro _ q; walk_at "sp")))
local macro_rules | `(tactic| walk_at "ans") => `(tactic| first
  | ((with_reducible apply ans_t); (· walk_at "val"))
  | ((with_reducible apply ans_b); (· walk_at "val"))
  | ((with_reducible apply ans_a); (· walk_at "ans"); (· intro _; walk_at "ans"))
  | ((with_reducible apply ans_o); (· walk_at "ans"); (· intro _; walk_at "ans"))
  | ((with_reducible apply ans_n); (· walk_at "ans")))
local macro_rules | `(tactic| walk_at "len") => `(tactic| first
  | (simp only [List.length_cons, List.length_nil, List.length_map, List.length_append]; omega)
  | assumption)
theorem Same.fresh {H H' : Hp} {p : Addr} {o : HO} (e : Same H H') (h : H p = Option.none) : Same H (upd H' p o) := fun a u ha => by
  rw [upd_ne (ne_of_none ha h)]
  exact e a u ha
theorem take_map_succ {xs : List Int} {j : Nat} {x : Int} (h : xs[j]? = Option.some x) : ((xs.take j).map V.int) ++ [.int x] = (xs.take (j + 1)).map V.int := by
  rw [List.take_add_one, h, List.map_append]
  rfl
theorem lenL {n : Nat} (h : n ≤ 100000) : n ≤ sizeLine := Nat.le_trans h (by decide)
theorem dec_int (i j : Int) : decide (V.int i = V.int j) = decide (i = j) := decide_eq_decide.mpr ⟨V.int.inj, congrArg V.int⟩
local macro_rules | `(tactic| walk_at "nf") => `(tactic| ((try refine g_name ?_); dsimp only [List.set_cons_zero, List.set_cons_succ]))
theorem lk0 {a : Str} {v : V} {r : List (Str × V)} : ((a, v) :: r).lookup a = Option.some v := by rw [List.lookup_cons_self]
theorem lk1 {a b : Str} {v : V} {r : List (Str × V)} (h : (a == b) = false) : ((b, v) :: r).lookup a = r.lookup a := by rw [List.lookup_cons, h]
theorem pf0 {a : Str} {v u : V} {r : List (Str × V)} : putF a v ((a, u) :: r) = (a, v) :: r := by
  unfold putF
  rw [if_pos rfl]
theorem pf1 {a b : Str} {v u : V} {r : List (Str × V)} (h : ¬ b = a) : putF a v ((b, u) :: r) = (b, u) :: putF a v r := by
  rw [putF, if_neg h]
theorem pfN {a : Str} {v : V} : putF a v [] = [(a, v)] := rfl
local macro_rules | `(tactic| walk_at "lk") => `(tactic| (repeat (rw [lk1 (by decide +kernel)])); first | exact lk0 | rfl)
local macro_rules | `(tactic| walk_at "pf") => `(tactic| repeat (first | rw [pfN] | rw [pf0] | rw [pf1 (by decide +kernel)]))
/-! ### dicts of ints -/
theorem seq_nat {n k : Nat} (h : k < n) : seqIndex? (k : Int) n = some k := by
  refine (ixN_seq (n := n) (i := k) (j := k) ?_).1
  unfold ixN
  rw [if_pos (by omega), if_pos (by omega), Int.toNat_natCast]
/-- a key that a row of pairs over a list without doubles does not have yet -/
theorem valV_none_of {f : Int → V} {ys : List Int} {y : Int} (h : y ∉ ys) : valV (ys.map fun z => ((Sum.inl z : Key), f z)) (Sum.inl y) = none := by
  induction ys with
  | nil => rfl
  | cons z r ih =>
    rw [List.map_cons, valV_neg (fun e => h (List.mem_cons.mpr (Or.inl (Sum.inl.inj e).symm))), ih (fun e => h (List.mem_cons_of_mem _ e))]
theorem not_in_take {ys : List Int} {i : Nat} {y : Int} (hn : ys.Nodup) (h : ys[i]? = some y) : y ∉ ys.take i := by
  intro hm
  obtain ⟨j, hj⟩ := List.mem_iff_getElem?.mp hm
  obtain ⟨hi, e⟩ := List.getElem?_eq_some_iff.mp h
  rw [List.getElem?_take] at hj
  split at hj
  · rename_i hlt
    obtain ⟨hj', e2⟩ := List.getElem?_eq_some_iff.mp hj
    have z : ys[j] = ys[i] := by rw [e2, e]
    have := (List.getElem_inj hn).mp z
    omega
  · cases hj
/-- a dict block over any walk -/
theorem dc_it {J : It} {n : Nat} {G : Hp → Prop} {Y : Nat → Hp → V → Hp → Prop} (w : Walk J n G Y) {g : TG} {tt : TT} {tk tv : TE} {vs : List Nat} {σ : L2.St} {H1 : Hp} {D : Addr} {Qd : Hp → Prop} (Pv : Nat → Hp → Prop) (h0 : Pv 0 (upd H1 D (.dK []))) (hG : ∀ i H, i ≤ n → Pv i H → G H)
    (hs : ∀ i x H H', i < n → Pv i H → Y i H x H' → g x (wipe σ vs) H' fun σ2 H2 => wipe σ2 vs = wipe σ vs ∧ tt σ2 H2 fun b H3 =>
      if b = true then tk σ2 H3 fun y H4 => tv σ2 H4 fun z H5 => ∃ kvs k, y = kV k ∧ H5 D = some (.dK kvs) ∧ kvs.length < sizeLine ∧ Pv (i + 1) (upd H5 D (.dK (putK kvs k z))) else Pv (i + 1) H3) (hd : ∀ H, Pv n H → Qd H) :
    ∃ W : Nat → Nat → Hp → Prop, (∃ m, W 0 m (upd H1 D (.dK []))) ∧ ∀ i m H, W i m H →
      (J.stop i H ∧ Qd H) ∨ (J.go i H ∧ ∃ Nx : Hp → Prop, (∀ H', Nx H' → ∃ m', m' < m ∧ W (i + 1) m' H') ∧ ∀ x H', J.yld i H x H' → g x (wipe σ vs) H' fun σ2 H2 => wipe σ2 vs = wipe σ vs ∧ tt σ2 H2 fun b H3 =>
        if b = true then tk σ2 H3 fun y H4 => tv σ2 H4 fun z H5 => ∃ kvs k, y = kV k ∧ H5 D = some (.dK kvs) ∧ kvs.length < sizeLine ∧ Nx (upd H5 D (.dK (putK kvs k z))) else Nx H3) := by
  refine ⟨fun i m H => i + m = n ∧ Pv i H, ⟨n, Nat.zero_add n, h0⟩, fun i m H hp => ?_⟩
  have q := hG i H (hp.1 ▸ Nat.le_add_right i m) hp.2
  cases m with
  | zero =>
    obtain ⟨rfl, p⟩ := hp
    exact .inl ⟨w.stops H q, hd H p⟩
  | succ m =>
    obtain ⟨e, p⟩ := hp
    have hi : i < n := by omega
    exact .inr ⟨w.goes i H hi q, Pv (i + 1), fun H' p' => ⟨m, Nat.lt_succ_self m, by omega, p'⟩, fun x H' y => hs i x H H' hi p (w.yields i H x H' hi q y)⟩
/-- a dict block over a list that the block leaves as it is -/
theorem dc_list {K : PySem.W.Frag} {a : Addr} {xs : List V} {g : TG} {tt : TT} {tk tv : TE} {vs : List Nat} {σ : L2.St} {H1 : Hp} {D : Addr} {Qd : Hp → Prop} (Pv : Nat → Hp → Prop) (h0 : Pv 0 (upd H1 D (.dK []))) (hl : ∀ i H, i ≤ xs.length → Pv i H → SqL K H a xs)
    (hs : ∀ i x H, xs[i]? = some x → Pv i H → g x (wipe σ vs) H fun σ2 H2 => wipe σ2 vs = wipe σ vs ∧ tt σ2 H2 fun b H3 =>
      if b = true then tk σ2 H3 fun y H4 => tv σ2 H4 fun z H5 => ∃ kvs k, y = kV k ∧ H5 D = some (.dK kvs) ∧ kvs.length < sizeLine ∧ Pv (i + 1) (upd H5 D (.dK (putK kvs k z))) else Pv (i + 1) H3) (hd : ∀ H, Pv xs.length H → Qd H) :
    ∃ W : Nat → Nat → Hp → Prop, (∃ m, W 0 m (upd H1 D (.dK []))) ∧ ∀ i m H, W i m H →
      ((Itl K a).stop i H ∧ Qd H) ∨ ((Itl K a).go i H ∧ ∃ Nx : Hp → Prop, (∀ H', Nx H' → ∃ m', m' < m ∧ W (i + 1) m' H') ∧ ∀ x H', (Itl K a).yld i H x H' → g x (wipe σ vs) H' fun σ2 H2 => wipe σ2 vs = wipe σ vs ∧ tt σ2 H2 fun b H3 =>
        if b = true then tk σ2 H3 fun y H4 => tv σ2 H4 fun z H5 => ∃ kvs k, y = kV k ∧ H5 D = some (.dK kvs) ∧ kvs.length < sizeLine ∧ Nx (upd H5 D (.dK (putK kvs k z))) else Nx H3) :=
  dc_it walk_list Pv h0 hl (fun i x H H' _ p y => by
    obtain ⟨rfl, e⟩ := y
    exact hs i x _ e p) hd
/-- an expression over a dict that is locked meanwhile -/
def tLock (te : TE) : TE := fun σ H Q => ∃ (d : Addr) (kvs : List (Key × V)), H d = some (.dK kvs) ∧ ∀ od, te σ (upd H d (.frz od (.dK kvs))) fun x H' => H' d = some (.frz od (.dK kvs)) ∧ Q x (upd H' d (.dK kvs))
theorem pe_lock {X : Cx} {e : Expr} {te : TE} (he : PE X e te) : PE X e (tLock te) := by
  refine ⟨fun pins s σ H Q I h => ?_⟩
  obtain ⟨d, kvs, hd, q⟩ := h
  have nf := I.nofrz hd trivial
  obtain ⟨od, J⟩ := I.lock hd trivial
  exact thn (he.run pins s σ _ _ J (q od)) fun u s1 ⟨x, H1, I1, r, h1, q1⟩ => ⟨x, _, I1.unlock h1 nf, r, q1⟩
/-! ### own errors: made, raised, caught, asked; defs called from a suite -/
/-- o.m(..) where what leaves it is wished for at the caller's slots -/
def tMethN (C : Addr) (m : Str) (sp : Sp) (E : L2.St → XK) (ta : TE) (t : TA) : TE := fun σ H Q => ta σ H fun x H1 => ∃ a dx fs, x = .ref a ∧ H1 a = some (.ins C dx fs) ∧ fs.lookup m = none ∧ t σ H1 fun vs H2 => sp (x :: vs) H2 Q (E σ)
section
variable {X : Cx} {CX : CXT} {lv : Nat} {g C : Addr} {gd : FuncData} {pn : List Str} {sp : Sp} {W : L2.St → XK} {x m : Str} {q0 q1 q2 : Pos} {u0 ob : Expr} {ur : List Expr} {to : TE} {ta : TA}
theorem pe_methN {pl : Sem Bool} (hob : PE X ob to) (cl : Cls X.K C) (me : Meth X.K C m g) (fn : FnOk X.prog X.w X.K X.mg X.base CX lv g gd pn sp) (room : Room lv X.A) (bi : Binds X.K gd pn []) (pass : ∀ σ, PassesAt CX X σ (W σ)) (har : PA X (u0 :: ur) ta)
    (st : starEach (u0 :: ur) X.env = (false, eval u0 X.env) :: starEach ur X.env := by rfl) (nokw : (backTo q2 (starEach ur X.env)).any (·.1) = false := by rfl)
    (ev : eval (.Call (.Attribute ob m q1) (u0 :: ur) [] q2) X.env = (do
      let r ← eval ob X.env
      standAt q1.atName
      let (k, fst) ← holding [r] (getMethod r m pl)
      callWith q2 k fst (backTo q2 (starEach (u0 :: ur) X.env)) (backToKw q2 (keywordEach [] X.env))) := by rfl) :
    PE X (.Call (.Attribute ob m q1) (u0 :: ur) [] q2) (tMethN C m sp W to ta) := by
  refine ⟨fun pins s σ H Q inv wish => ?_⟩
  refine PySem.W.methodCall_KW (pl := pl) (thn (hob.run pins s σ H _ inv wish) fun v s1 ⟨y, H1, inv1, rel, a, dx, fs, ey, ea, no, wish1⟩ => ?_) ev
  subst ey
  obtain rfl : v = Value.ref a := rel
  refine getmeth_ok inv1 ea cl me no ?_
  refine PySem.W.callWith_K (first := [.ref a]) (h₀ := X.base) inv.ok.mod.kin me.kp (thn (har.run q2 pins s1 σ H1 _ inv1 wish1) fun us s2 ⟨ys, H2, inv2, rels, wish2⟩ => ⟨inv2.kIn, ?_⟩) st nokw
  exact run_fnS (us := .ref a :: us) (vs := .ref a :: ys) fn room bi (pass σ) inv2 (.cons rfl rels) wish2
end
/-- C(e, ..): an own error by its own __init__, where nothing is handled -/
theorem pmkN {X : Cx} {CX : CXT} {x : Str} {u0 : Expr} {ur : List Expr} {ta : TA} {q0 q1 : Pos} {C ini : Addr} {lv : Nat} {fd : FuncData} {pn : List Str} {sp : Sp} (cl : OexC X.K C) (hin : PySem.W.findIn X.K (.ref C) "__init__" = some (some (.ref ini))) (ity : PySem.W.typeIn X.K (.ref ini) = some (.type "function"))
    (fn : FnOk X.prog X.w X.K X.mg X.base CX lv ini fd pn sp) (room : Room (lv + 1) X.A) (bi : Binds X.K fd pn []) (pass : Passes CX X (fun _ _ _ => False)) (gl : Gl X x) (mx : X.mg x = some (.ref C)) (har : PA X (u0 :: ur) ta)
    (nd0 : (x == ("__debug__" : Str)) = false := by decide) (st : starEach (u0 :: ur) X.env = (false, eval u0 X.env) :: starEach ur X.env := by rfl) (nokw : (backTo q1 (starEach ur X.env)).any (·.1) = false := by rfl) :
    L2N.PMk X (.Call (.Name x q0) (u0 :: ur) [] q1) (tMkO C sp [] ta) := by
  intro pins s σ H Q inv wish
  obtain ⟨_, _, _, _, bm, _, _, _, _, _, _, _, _, _, _, hC, hbm⟩ := cl.cls
  refine wpAny_Call_Name_kw (ld_glob inv gl mx ?_ nd0)
  refine PySem.W.callWith_K (h₀ := X.base) inv.ok.mod.kin cl.kC (thn (har.run q1 pins s σ H _ inv wish) fun us s1 ⟨ys, H1, inv1, rels, hz, wish1⟩ => ⟨inv1.kIn, ?_⟩) st nokw
  show wpAny _ _ (call (.ref C) us) _ _ _
  obtain ⟨hp, gs, dr, tk, os⟩ := s1
  have big : hp.objs.size ≤ hp.objs.size + 1 := Nat.le_succ _
  have wish2 := wish1 (hp.objs.size + 1) (inv1.hok.fresh big)
  rw [List.append_nil] at wish2
  have keep : ∀ b o, hp.get? b = some o → ((hp.push (PySem.W.kdv_tup us)).push (PySem.HandSPX.excO C hp.objs.size)).get? b = some o := fun b o e => Heap.get?_push_of_some _ (Heap.get?_push_of_some _ e)
  have there : ((hp.push (PySem.W.kdv_tup us)).push (PySem.HandSPX.excO C hp.objs.size)).get? (hp.objs.size + 1) = some (PySem.HandSPX.excO C hp.objs.size) := by heap_get
  have inv2 : Inv X pins σ (upd H1 (hp.objs.size + 1) (exo (hp.objs.size + 1) C none)) ⟨(hp.push (PySem.W.kdv_tup us)).push (PySem.HandSPX.excO C hp.objs.size), gs, dr, tk, os⟩ :=
    inv1.laid (t' := tk) (a := hp.objs.size + 1) (o := exo (hp.objs.size + 1) C none) (h' := (hp.push (PySem.W.kdv_tup us)).push (PySem.HandSPX.excO C hp.objs.size)) keep big (exo_ok there)
  have rels2 : Vals (V.ref (hp.objs.size + 1) :: ys) (Value.ref (hp.objs.size + 1) :: us) := .cons rfl rels
  have ln : (Value.ref (hp.objs.size + 1) :: us ++ []).length = pn.length := by
    have e := rels2.length
    rw [fn.len _ _ _ _ wish2] at e
    rw [List.append_nil]
    exact e.symm
  have few : us.length ≤ sizeLine := by
    rw [← Paired.length rels, sizeLine_eq]
    omega
  have bnd := bi _ (Value.ref (hp.objs.size + 1) :: us) inv2.kIn ln
  rw [List.append_nil] at bnd
  refine wpAny_call (PySem.HandSPX.call_own F.excBase_ValueError (fun Y => PySem.HandSPX.refsVE_contains Y bm hbm) (inv1.kIn _ _ hC) (PySem.W.looks_findIn inv1.kIn hin) (fun me => PySem.W.bind_fn inv1.kIn me ity) few
    (codeAny_mono (fn.run _ X.stack _ _ ⟨Value.ref (hp.objs.size + 1) :: us, []⟩ (Value.ref (hp.objs.size + 1) :: us) _ _ (fun _ _ _ => False) (room.make C us []) (inv2.env0.make C us []) bnd rels2 wish2) fun r s' post => ?_))
  cases r with
  | error er => exact pass pins σ _ _ er s' inv2 post
  | ok fl =>
    cases fl with
    | ret u =>
      obtain ⟨v, H2, os2, bare2, un2, hok2, rv, ev, d, fs, ea, ed, hd1, wish3⟩ := post
      subst ev
      obtain ⟨h2, gs2, dr2, tk2, os3⟩ := s'
      obtain ⟨t0, G, J, kG, ge, hoe, na⟩ := mk_end0 (d2 := dr2) (t2 := tk2) inv1 big keep un2 hok2 os2 bare2 ea ed hd1
      refine ⟨rv, hp.objs.size + 1, _, _, ⟨G, gs2, dr2, tk2, os3⟩, _, .ref C, some d, rfl, J, kG, ge, hoe, ⟨rfl, rfl, fun zs hv => ?_⟩, rfl, rfl, na, rfl, bare2, raises_own cl.exC cl.tyC, wish3⟩
      cases hv
      rfl
    | next => exact False.elim post
    | brk => exact False.elim post
    | cont => exact False.elim post
section
variable {P : Program} {w : World} {K : PySem.W.Frag} {mg : Str → Option Value} {base : Heap}
/-- a def that may raise own errors -/
theorem Fun_okN {x qual : Str} {st : Stmt} {f : Addr} {fd : FuncData} {N ps : List Str} {k : Nat} {sp : Sp} (F : Fun K x qual st f fd) (S : FnScope N ps (defScope st)) (len : ∀ vs H Q E, sp vs H Q E → vs.length = ps.length)
    (body : ∀ (cdv : Value) (A : Around) (outer : List Env) (s : Shared) (H : Hp) (vs : List V) (Q : VK) (E : XK), Room k (A.deeper (envOfC qual (defScope st) s.heap.objs.size f cdv)) → sp vs H Q E →
      ∃ t, PSs (cxOf (L2N.CX P w) P w K mg base N qual (defScope st) f cdv A outer s H E) (defBody st) t ∧ t { nx := fun _ H' => Q .non H', rt := Q } (start N vs) H) : FnOk P w K mg base (L2N.CX P w) (k + 1) f fd ps sp := by
  obtain ⟨oc, od, kV, doc, pm, an, cdv, ct, osl, rfl, lk, hcd⟩ := F.ex
  exact fn_of lk hcd S len fun A outer s H vs Q E room wish => body cdv A outer s H vs Q E room wish
/-- a def that lets nothing out may stand where one that raises is asked for -/
theorem calmN {f : Addr} {fd : FuncData} {ps : List Str} {k : Nat} {sp : Sp} (G : FnOk P w K mg base CX0 k f fd ps sp) : FnOk P w K mg base (L2N.CX P w) k f fd ps sp :=
  ⟨G.len, fun A outer s H args us vs Q E a b c d e => codeAny_mono (G.run A outer s H args us vs Q E a b c d e) fun r s' z => match r, z with
    | .ok (.ret u), z => z
    | .ok .next, z => z.elim
    | .ok .brk, z => z.elim
    | .ok .cont, z => z.elim
    | .error _, z => z.elim⟩
theorem takesN {X : Cx} : L2N.Takes X (fun _ _ _ _ => False) := fun _ _ z => by
  obtain ⟨_, _, _, _, _, _, _, _, _, _, _, _, _, _, _, _, z⟩ := z
  exact z.elim
/-! a def that is called while p is handled -/
structure FnP (P : Program) (w : World) (K : PySem.W.Frag) (mg : Str → Option Value) (base : Heap) (k : Nat) (f : Addr) (fd : FuncData) (ps : List Str) (sp : Addr × Obj → Sp) : Prop where
  len : ∀ p vs H Q E, sp p vs H Q E → vs.length = ps.length
  run : ∀ (A : Around) (outer : List Env) (s : Shared) (H : Hp) (args : Args) (us : List Value) (vs : List V) (Q : VK) (E : XK) (p : Addr × Obj), L2H.RoomH k A → L2H.Hot1 A p → L2H.PinOk outer H s p → Env0 P w K mg base A outer s H → BindsTo s fd args (ps.zip us) → Vals vs us → sp p vs H Q E →
    codeAny (model P w) A (.call (.ref f) args) (CR CX0 outer P w H s Q E) s
theorem FnP.mono {j k : Nat} {f : Addr} {fd : FuncData} {ps : List Str} {sp : Addr × Obj → Sp} (F : FnP P w K mg base j f fd ps sp) (h : j ≤ k) : FnP P w K mg base k f fd ps sp :=
  ⟨F.len, fun A outer s H args us vs Q E p r => F.run A outer s H args us vs Q E p (r.mono h)⟩
/-- the body, walked while p is handled: X.pn = [p] -/
theorem Fun_okP {x qual : Str} {st : Stmt} {f : Addr} {fd : FuncData} {N ps : List Str} {k : Nat} {sp : Addr × Obj → Sp} (F : Fun K x qual st f fd) (S : FnScope N ps (defScope st)) (len : ∀ p vs H Q E, sp p vs H Q E → vs.length = ps.length)
    (body : ∀ (cdv : Value) (A : Around) (outer : List Env) (s : Shared) (H : Hp) (vs : List V) (Q : VK) (E : XK) (p : Addr × Obj), L2H.Hot1 A p → L2H.RoomH k (A.deeper (envOfC qual (defScope st) s.heap.objs.size f cdv)) → sp p vs H Q E →
      ∃ t, PSs (L2H.cxH CX0 P w K mg base N qual (defScope st) f cdv A outer s H E p) (defBody st) t ∧ t { nx := fun _ H' => Q .non H', rt := Q } (start N vs) H) : FnP P w K mg base (k + 1) f fd ps sp := by
  obtain ⟨oc, od, kV, doc, pm, an, cdv, ct, osl, rfl, lk, hcd⟩ := F.ex
  refine ⟨len, fun A outer s H args us vs Q E p room hot pin e0 bnd rels wish => ?_⟩
  have ln := len _ _ _ _ _ wish
  have inK : K.In s.heap := e0.mod.kin.keeps fun b o e => (e0.bs b o e).1
  have lim : s.heap.NoLimit := e0.mod.nolimit.keeps fun b o e => (e0.bs b o e).1
  have kinds : ∀ y ∈ ps.zip us, (defScope st).names.lookup y.1 = some .local ∨ ((defScope st).names.lookup y.1 = some .cell ∧ ((cellsFrom (s.heap.objs.size + 1) (defScope st).names []).lookup y.1).isSome = true) := by
    rintro ⟨n, v⟩ hy
    have mem := (List.of_mem_zip hy).1
    rcases S.par n mem with q | q
    · exact .inl q
    · exact .inr ⟨q, PySem.W.cellsFrom_some _ _ _ (.inl q)⟩
  refine codeAny_call_function room.depth (inK _ _ lk) rfl S.co S.gen rfl (PySem.W.codeRec_of inK hcd) (bnd _ _ _ _ ?_)
  refine wpAny_newFunctionEnv_cells S.kind kinds fun env he s1 ic => ?_
  subst he
  refine ⟨lim.keeps ic.toInCall.keep, codeAny_func ?_⟩
  obtain ⟨t, ht, hq⟩ := body cdv A outer s H vs Q E p hot (room.deeper _) wish
  have inv : Inv (L2H.cxH CX0 P w K mg base N qual (defScope st) f cdv A outer s H E p) [] (L2.start N vs) H s1 := L2H.inv_startH S pin e0 ln rels ic
  refine wpAny_mono (ht.run [] s1 (L2.start N vs) H _ inv hq) (fun fl s' z => ?_) fun e s' z => z
  cases fl with
  | ret u =>
    obtain ⟨v, σ', H', J, rv, q⟩ := z
    exact ⟨v, H', J.os, J.bare, J.base, J.hok, rv, q⟩
  | next =>
    obtain ⟨σ', H', J, q⟩ := z
    exact ⟨.non, H', J.os, J.bare, J.base, J.hok, rfl, q⟩
  | brk =>
    obtain ⟨_, _, _, q⟩ := z
    exact q.elim
  | cont =>
    obtain ⟨_, _, _, q⟩ := z
    exact q.elim
end
/-- p is handled in X -/
def HotP (X : Cx) (p : Addr × Obj) : Prop := L2H.Hot1 X.A p ∧ p ∈ X.pn
theorem HotP.c {X : Cx} {p : Addr × Obj} (h : HotP X p) : L2H.HotC X := ⟨p, h.1, h.2⟩
theorem hotS {X : Cx} {a : Addr} {oe : Obj} {cls : Value} {d : Option Addr} {pn : List (Addr × Obj)} (hz : L2N.Zn cls d oe) (hf : ∃ vs, oe.data = .fields vs) : HotP (X.suite a ((a, oe) :: pn)) (a, oe) :=
  ⟨⟨rfl, let ⟨vs, e⟩ := hf; ⟨vs, e, hz.2.2 vs e⟩⟩, List.mem_cons_self⟩
def tCallP (sp : Sp) (t : TA) : TE := fun σ H Q => t σ H fun vs H1 => sp vs H1 Q (fun _ _ _ => False)
theorem pe_callP {X : Cx} {k : Nat} {f : Addr} {fd : FuncData} {ps : List Str} {sp : Addr × Obj → Sp} {p : Addr × Obj} {x : Str} {u0 : Expr} {ur : List Expr} {ta : TA} {q0 q1 : Pos} (F : FnP X.prog X.w X.K X.mg X.base k f fd ps sp) (room : L2H.RoomH k X.A) (hp : HotP X p) (gl : Gl X x) (mx : X.mg x = some (.ref f)) (hk : PySem.W.keepIn X.K (.ref f) = true)
    (bi : Binds X.K fd ps []) (har : PA X (u0 :: ur) ta) (nd0 : (x == ("__debug__" : Str)) = false := by decide) (st : starEach (u0 :: ur) X.env = (false, eval u0 X.env) :: starEach ur X.env := by rfl) (nokw : (backTo q1 (starEach ur X.env)).any (·.1) = false := by rfl) :
    PE X (.Call (.Name x q0) (u0 :: ur) [] q1) (tCallP (sp p) ta) := by
  refine ⟨fun pins s σ H Q inv wish => ?_⟩
  refine wpAny_Call_Name_kw (ld_glob inv gl mx ?_ nd0)
  refine PySem.W.callWith_K (h₀ := X.base) inv.ok.mod.kin hk (thn (har.run q1 pins s σ H _ inv wish) fun us s1 ⟨ys, H1, inv1, rels, wish1⟩ => ⟨inv1.kIn, ?_⟩) st nokw
  have ln : us.length = ps.length := by rw [← rels.length]; exact F.len _ _ _ _ _ wish1
  have bnd := bi s1 us inv1.kIn (by rw [List.append_nil]; exact ln)
  rw [List.append_nil] at bnd
  have pp := inv1.pin p (List.mem_append_left _ hp.2)
  have pin : L2H.PinOk X.stack H1 s1 p := ⟨pp.1, pp.2.1, fun hm => (List.mem_cons.mp (inv1.stkSub p.1 hm)).elim pp.2.2.1 pp.2.2.2.1, pp.2.2.2.2⟩
  refine wpAny_call (codeAny_mono (F.run X.A X.stack s1 H1 ⟨us, []⟩ us ys Q _ p room hp.1 pin inv1.env0 bnd rels wish1) fun r s' post => ?_)
  cases r with
  | error e => exact post.elim
  | ok fl =>
    cases fl with
    | ret u => exact inv1.after post
    | next => exact False.elim post
    | brk => exact False.elim post
    | cont => exact False.elim post
/-- the error p: of the class at D, its fields fs at d -/
structure ErrAt (D : Addr) (d : Addr) (fs : List (Str × V)) (p : Addr × Obj) (H : Hp) : Prop where
  cls : p.2.cls = .ref D
  dic : p.2.dict = some d
  fld : ∃ vs, p.2.data = .fields vs
  at_ : H d = some (.xd fs)
theorem ErrAt.same {D d : Addr} {fs : List (Str × V)} {p : Addr × Obj} {H H' : Hp} (e : ErrAt D d fs p H) (s : Same H H') : ErrAt D d fs p H' := ⟨e.cls, e.dic, e.fld, s _ _ e.at_⟩
theorem errS {D d a : Addr} {fs : List (Str × V)} {oe : Obj} {H : Hp} (hz : L2N.Zn (.ref D) (some d) oe) (hf : ∃ vs, oe.data = .fields vs) (h : H d = some (.xd fs)) : ErrAt D d fs (a, oe) H := ⟨hz.1, hz.2.1, hf, h⟩
/-- isinstance(e, T), e the error in hand -/
def rIsP (K : PySem.W.Frag) (p : Addr × Obj) : List V → Hp → VK → Prop := fun xs H Q => ∃ (c : V) (cv : Value) (b : Bool) (D d : Addr) (fs : List (Str × V)), xs = [.ref p.1, c] ∧ (∀ u, RelV c u → u = cv) ∧ ErrC K D ∧ ErrAt D d fs p H ∧ PySem.W.kitOne K (.ref D) cv = some b ∧ Q (.bl b) H
theorem call_isP {X : Cx} {p : Addr × Obj} (hp : p ∈ X.pn) : CallR X (.builtin "isinstance") (rIsP X.K p) := by
  intro pins s σ H xs us Q inv rels wish
  obtain ⟨c, cv, b, D, d, fs, rfl, one, C, e, kit, q⟩ := wish
  cases rels with
  | cons r0 rr =>
    cases rr with
    | cons r1 rr =>
      cases rr
      cases r0
      cases one _ r1
      obtain ⟨mA, hns, _⟩ : ObjOk X.prog X.w H s.heap d (.xd fs) := inv.hok d _ e.at_
      obtain ⟨od, ho, _⟩ := lookIn_ns hns
      obtain ⟨vs, hv⟩ := e.fld
      have J : PySem.W.InstAt s.heap p.1 p.2 D (some od) := ⟨(inv.pin p (List.mem_append_left _ hp)).1, e.cls, by unfold PySem.W.notCls; rw [hv] <;> rfl, by rw [e.dic]; exact ho⟩
      exact PySem.W.kia_one (PySem.W.kitx_exc C.cl C.ga C.gg C.ex C.ca C.cn C.ct C.mo) inv.kIn J kit (fun z => nomatch z) fun tk => ⟨.bl b, H, inv.kept (t' := tk) fun _ _ z => z, rfl, q⟩
/-- e.f, e the error in hand -/
def tXp (K : PySem.W.Frag) (p : Addr × Obj) (n : Str) (te : TE) : TE := fun σ H Q => te σ H fun x H1 => ∃ (D d : Addr) (fs : List (Str × V)) (v : V), x = .ref p.1 ∧ ErrC K D ∧ PySem.W.findIn K (.ref D) n = some none ∧ ErrAt D d fs p H1 ∧ fs.lookup n = some v ∧ Q v H1
theorem pe_xp {X : Cx} {p : Addr × Obj} {ex : Expr} {te : TE} {pos : Pos} {n : Str} (hp : p ∈ X.pn) (he : PE X ex te) (hb : attributeBase ex n X.env (eval ex X.env) = eval ex X.env := by rfl) : PE X (.Attribute ex n pos) (tXp X.K p n te) := by
  refine ⟨fun pins s σ H Q inv wish => attr_of hb (thn (he.run pins s σ H _ inv wish) fun u s1 post => ?_)⟩
  obtain ⟨x, H1, inv1, rx, D, d, fs, v, rfl, C, no, e, l, q⟩ := post
  obtain rfl : u = Value.ref p.1 := rx
  obtain ⟨mA, hns, hr⟩ : ObjOk X.prog X.w H1 s1.heap d (.xd fs) := inv1.hok d _ e.at_
  obtain ⟨od, ho, hl⟩ := lookIn_ns hns
  obtain ⟨z, hz, rz⟩ := RelO.some_of (v := v) (o := mA n) (by rw [← l]; exact hr n)
  obtain ⟨vs, hv⟩ := e.fld
  have J : PySem.W.InstAt s1.heap p.1 p.2 D (some od) := ⟨(inv1.pin p (List.mem_append_left _ hp)).1, e.cls, by unfold PySem.W.notCls; rw [hv] <;> rfl, by rw [e.dic]; exact ho⟩
  exact HandSPX.exc_get inv1.kIn J C.ga C.gg C.ex (PySem.W.findObj_own C.hd no rfl (by rw [hl, hz])) (handed_of rz) ⟨v, H1, inv1.tok _, rz, q⟩
/-! try with several clauses, with or without a name -/
/-- what the clauses wish of an error of the body -/
def wM (K : PySem.W.Frag) (Wout : WX) (D : Ends) : List (Value × Option Nat × (Addr → Value → Option Addr → TS)) → WX
  | [] => Wout
  | (c, none, ts) :: r => fun cls d σ H => ∃ b, PySem.W.exmOne K cls c = some b ∧ (b = true → ∀ a, H a = none → ts a cls d D σ H) ∧ (b = false → wM K Wout D r cls d σ H)
  | (c, some i, ts) :: r => fun cls d σ H => ∃ b, PySem.W.exmOne K cls c = some b ∧
      (b = true → ∀ a, H a = none → ts a cls d { nx := fun σ' H' => D.nx (σ'.set i none) H', rt := D.rt, bk := fun σ' H' => D.bk (σ'.set i none) H', ct := fun σ' H' => D.ct (σ'.set i none) H' } (σ.set i (some (.ref a))) H) ∧ (b = false → wM K Wout D r cls d σ H)
inductive HdM (X : Cx) : List ExceptHandler → List (Value × Option Nat × (Addr → Value → Option Addr → TS)) → Prop
  | nil : HdM X [] []
  | bare {x : Str} {c : Value} {ts : Addr → Value → Option Addr → TS} {st : Stmt} {suite : List Stmt} {np p' : Pos} {hds : List ExceptHandler} {l : List (Value × Option Nat × (Addr → Value → Option Addr → TS))} (nm : Names X x c)
      (su : ∀ (a : Addr) (oe : Obj) (cls : Value) (d : Option Addr) (pn : List (Addr × Obj)), L2N.Zn cls d oe → (∃ vs, oe.data = .fields vs) → PSs (X.suite a ((a, oe) :: pn)) (st :: suite) (ts a cls d)) (r : HdM X hds l) :
      HdM X (.ExceptHandler (some (.Name x np)) none (st :: suite) p' :: hds) ((c, none, ts) :: l)
  | name {x n : Str} {i : Nat} {c : Value} {ts : Addr → Value → Option Addr → TS} {st : Stmt} {suite : List Stmt} {np p' : Pos} {hds : List ExceptHandler} {l : List (Value × Option Nat × (Addr → Value → Option Addr → TS))} (two : X.N.Nodup) (slot : X.N[i]? = some n) (loc : X.env.kindOf n = some .local) (nm : Names X x c)
      (su : ∀ (a : Addr) (oe : Obj) (cls : Value) (d : Option Addr) (pn : List (Addr × Obj)), L2N.Zn cls d oe → (∃ vs, oe.data = .fields vs) → PSs (X.suite a ((a, oe) :: pn)) (st :: suite) (ts a cls d)) (r : HdM X hds l) :
      HdM X (.ExceptHandler (some (.Name x np)) (some n) (st :: suite) p' :: hds) ((c, some i, ts) :: l)
theorem ps_tryM {X : Cx} {body : List Stmt} {h0 : ExceptHandler} {hds : List ExceptHandler} {l : List (Value × Option Nat × (Addr → Value → Option Addr → TS))} {pos : Pos} {tb : WX → TS} {Wout : WX} (stk : X.stack = X.env :: X.outer) (frm : X.env.frame = some X.env.locals) (tk : L2N.Takes X Wout)
    (bd : ∀ (W : WX) (pn : List (Addr × Obj)) (xe : Value → Shared → Prop), L2N.Takes (X.tr pn xe) W → PassesOwn (model X.prog X.w) X.A X.env xe → PSs (X.tr pn xe) body (tb W))
    (hh : HdM X (h0 :: hds) l) : PS X (.Try body (h0 :: hds) [] [] pos) (fun D σ H => tb (wM X.K Wout D l) D σ H) := by
  refine ⟨fun pins s σ H D inv wish => ?_⟩
  have ok := inv.ok
  have frs0 : X.A.frames = some (X.env :: X.outer) := by rw [ok.frames, stk]
  refine wpAny_Try_except ?_
  refine wpAny_mono ((bd (wM X.K Wout D l) (X.pn ++ pins) (fun e sa => wpAny (model X.prog X.w) X.A (noteFrame e X.env) (fun _ sb => wpAny (model X.prog X.w) X.A (setFlight e none) (fun _ sc => wpAny (model X.prog X.w) X.A (handleBy e X.env (h0 :: hds)) (SP X pins D) X.xe sc) X.xe sb) X.xe sa)
    (fun u s' air => ?_) PassesOwn.looking).run [] s σ H D (inv.toTry _) wish) (fun f s1 post => ?_) (fun e s1 he => he)
  · obtain ⟨a, B, sI, pins', σ', H', cls, d, rfl, inv', nb, up, sky, na, os, ag, wish'⟩ := air
    have inv0 : Inv X pins σ' H' sI := inv'.ofTry ok
    have sky0 : Sky B (X.env :: X.outer) a (L2N.Zn cls d) X.env.locals s'.heap := by rw [← stk]; exact sky
    show wpAny (model X.prog X.w) X.A (noteFrame (.ref a) X.env) _ _ _
    refine L2N.Sky.land L2N.Zn.steady frs0 frm sky0 fun hA flA upA => ?_
    have invA : Inv X pins σ' H' { s' with heap := hA } := inv0.landed nb flA.1 (up.trans upA) os ag
    obtain ⟨oA, vA, geA, zA, dA⟩ := flA.there
    have off : a ∉ frs (X.env :: X.outer) := fun hm => by
      obtain ⟨_, o', e', hnf⟩ := flA.2.2.1.mem hm
      rw [geA] at e'
      cases e'
      exact hnf _ dA
    have offL : a ≠ X.env.locals := fun z => off (List.mem_filterMap.mpr ⟨X.env, List.mem_cons_self, by rw [frm, z]⟩)
    have offF : a ∉ X.fs := fun hm => by
      obtain ⟨e, he, q⟩ := List.mem_filterMap.mp hm
      exact off (List.mem_filterMap.mpr ⟨e, List.mem_cons_of_mem _ he, q⟩)
    have invS := invA.suite geA dA na offL offF
    have asks : ∀ {x : Str} {c : Value} {np : Pos}, Names X x c → ∀ {Q : Value → Shared → Prop} {E : Value → Shared → Prop}, Q c { s' with heap := hA } → wpAny (model X.prog X.w) (X.A.mark (some (.ref a))) (eval (.Name x np) X.env) Q E { s' with heap := hA } := fun {x c np} nm {Q E} q => by
      obtain ⟨hg, hdbg, hm | ⟨hm, hv, hnn⟩⟩ := nm
      · exact ld_glob (X := X.suite a ((a, oA) :: (X.pn ++ pins))) invS hg hm q hdbg
      · exact ld_blt (X := X.suite a ((a, oA) :: (X.pn ++ pins))) invS hg hm hv q hnn hdbg
    have LT : PySem.W.Looks (model X.prog X.w) hA (typeOf (.ref a)) cls := fun A Q E s k q => wpAny_typeOf_ref (k _ _ geA) (by rw [zA.1]; exact q)
    suffices go : ∀ {hs : List ExceptHandler} {ls : List (Value × Option Nat × (Addr → Value → Option Addr → TS))}, HdM X hs ls → wM X.K Wout D ls cls d σ' H' → wpAny (model X.prog X.w) X.A (handleBy (.ref a) X.env hs) (SP X pins D) X.xe { s' with heap := hA } from go hh wish'
    intro hs ls hk
    induction hk with
    | nil =>
      intro wo
      refine wpAny_handleBy_nil ?_
      obtain ⟨_, _, _, oB, vB, TB, _, _, geB, _, dB, fldB, _⟩ := id flA
      unfold PySem.passOn
      refine wpAny_bind (wpAny_field geB dB fldB ?_)
      rw [if_neg (by simp : ¬ ((Value.ref TB == Value.none) = true))]
      have fin : wpAny (model X.prog X.w) X.A (setFlight (.ref a) X.env.frame) (fun _ sx => wpAny (model X.prog X.w) X.A (throw (.ref a) : Sem Flow) (SP X pins D) X.xe sx) X.xe { s' with heap := hA } := by
        rw [frm]
        refine HandSPX.setFlight_upZ flA fun hB heB upB => wpAny_throw (tk _ _ ?_)
        exact ⟨a, B, sI, pins, σ', H', cls, d, rfl, inv0, nb, (up.trans upA).trans upB, .inr (.inr (by rw [stk]; exact heB)), na, os, ag, wo⟩
      first
        | exact wpAny_bind (wpAny_pure (wpAny_bind fin))
        | exact wpAny_bind fin
    | @bare x c ts st suite np p' hs2 l2 nm su r ih =>
      intro wo
      obtain ⟨b, hb1, yes, no⟩ := wo
      refine wpAny_handleBy_cons (codeAny_handlers_test (asks nm ((PySem.W.exm_one (M := model X.prog X.w) invA.kIn LT hb1).here ?_))) (by intro q; cases q)
      cases b with
      | false => exact ih (no rfl)
      | true =>
        refine codeAny_handlers_suite ?_
        refine HandSPX.lands_againZ flA fun hB flB upB => ?_
        have invB : Inv X pins σ' H' { s' with heap := hB } := inv0.landed nb flB.1 ((up.trans upA).trans upB) os ag
        obtain ⟨oB, vB, geB, zB, dB⟩ := flB.there
        refine wpAny_mono ((su a oB cls d (X.pn ++ pins) zB ⟨_, dB⟩).run [] _ _ H' _ (invB.suite geB dB na offL offF) (yes rfl a na)) (fun f s6 post => ?_) (fun _ _ z => False.elim z)
        cases f with
        | next => exact let ⟨_, _, I6, q6⟩ := post; ⟨_, _, I6.unsuite ok, q6⟩
        | brk => exact let ⟨_, _, I6, q6⟩ := post; ⟨_, _, I6.unsuite ok, q6⟩
        | cont => exact let ⟨_, _, I6, q6⟩ := post; ⟨_, _, I6.unsuite ok, q6⟩
        | ret u => exact let ⟨_, _, _, I6, r6, q6⟩ := post; ⟨_, _, _, I6.unsuite ok, r6, q6⟩
    | @name x n i c ts st suite np p' hs2 l2 two slot loc nm su r ih =>
      intro wo
      obtain ⟨b, hb1, yes, no⟩ := wo
      refine wpAny_handleBy_cons (codeAny_handlers_test (asks nm ((PySem.W.exm_one (M := model X.prog X.w) invA.kIn LT hb1).here ?_))) (by intro q; cases q)
      cases b with
      | false => exact ih (no rfl)
      | true =>
        refine codeAny_handlers_suite_as ?_
        refine HandSPX.lands_againZ flA fun hB flB upB => ?_
        have invB : Inv X pins σ' H' { s' with heap := hB } := inv0.landed nb flB.1 ((up.trans upA).trans upB) os ag
        obtain ⟨oB, vB, geB, zB, dB⟩ := flB.there
        refine store_ok (X := X.suite a ((a, oB) :: (X.pn ++ pins))) (v := .ref a) (invB.suite geB dB na offL offF) two slot (.inl loc) rfl (fun s5 inv5 => ?_) (.inr loc)
        refine wpAny_mono ((su a oB cls d (X.pn ++ pins) zB ⟨_, dB⟩).run [] s5 _ H' _ inv5 (yes rfl a na)) (fun f s6 post => ?_) (fun _ _ z => False.elim z)
        have gone : ∀ {σ6 : L2.St} {H6 : Hp} {Q : Shared → Prop}, Inv (X.suite a ((a, oB) :: (X.pn ++ pins))) [] σ6 H6 s6 → (∀ s7, Inv X pins (σ6.set i none) H6 s7 → Q s7) →
            wpAny (model X.prog X.w) X.A (do bindName X.env n .none; unbindBehindTheSuite X.env n p') (fun _ s7 => Q s7) X.xe s6 := fun {σ6 H6 Q} I6 hq => gone_ok (I6.unsuite ok) two slot loc hq
        cases f with
        | next => exact let ⟨_, _, I6, q6⟩ := post; gone I6 fun s7 I7 => ⟨_, _, I7, q6⟩
        | brk => exact let ⟨_, _, I6, q6⟩ := post; gone I6 fun s7 I7 => ⟨_, _, I7, q6⟩
        | cont => exact let ⟨_, _, I6, q6⟩ := post; gone I6 fun s7 I7 => ⟨_, _, I7, q6⟩
        | ret u => exact let ⟨_, _, _, I6, r6, q6⟩ := post; gone I6 fun s7 I7 => ⟨_, _, _, I7, r6, q6⟩
  · cases f with
    | next => exact let ⟨_, _, I1, q⟩ := post; wpAny_execs_nil ⟨_, _, I1.ofTry ok, q⟩
    | brk => exact let ⟨_, _, I1, q⟩ := post; ⟨_, _, I1.ofTry ok, q⟩
    | cont => exact let ⟨_, _, I1, q⟩ := post; ⟨_, _, I1.ofTry ok, q⟩
    | ret u => exact let ⟨_, _, _, I1, r, q⟩ := post; ⟨_, _, _, I1.ofTry ok, r, q⟩
/-- xs.count(b) of bools -/
theorem eqb_count {k : Bool} : ∀ {us : List Value} {bs : List Bool}, Vals (bs.map V.bl) us → us.countP (fun v => match v with | .bool c => c == k | _ => false) = bs.count k
  | [], [], _ => rfl
  | _ :: _, [], h => nomatch h
  | [], _ :: _, h => nomatch h
  | u :: us, b :: bs, h => by
    cases h with
    | cons r t =>
      have e : u = Value.bool b := r
      subst e
      rw [List.countP_cons, List.count_cons, eqb_count t]
def rCntB (K : PySem.W.Frag) : V → List V → Hp → VK → Prop := fun x xs H Q => ∃ (p : Addr) (bs : List Bool) (k : Bool), x = .ref p ∧ xs = [.bl k] ∧ SqL K H p (bs.map V.bl) ∧ Q (.int (bs.count k : Nat)) H
theorem mt_lcountB {X : Cx} : MtR X "list.count" (rCntB X.K) := by
  intro pins s σ H x xs v us Q inv rx rxs wish
  obtain ⟨p, bs, k, rfl, rfl, hs, q⟩ := wish
  cases rx
  obtain ⟨u, rfl, ru⟩ := rxs.one
  have eu : u = Value.bool k := ru
  subst eu
  obtain ⟨its, rv, ⟨⟨cls, dd, data, sl⟩, n, ho, hc, hdn, hd⟩, hlen⟩ := inv.list hs
  simp only at hc hd
  subst hc hd
  have all : ∀ {us : List Value} {bs : List Bool}, Vals (bs.map V.bl) us → ∀ y ∈ us, ∃ b, y = Value.bool b := by
    intro us
    induction us with
    | nil => exact fun _ y hy => nomatch hy
    | cons u us ih =>
      intro bs h y hy
      cases bs with
      | nil => cases h
      | cons b bs =>
        cases h with
        | cons r t =>
          rcases List.mem_cons.mp hy with e | e
          · exact ⟨b, e.trans r⟩
          · exact ih t y e
  refine call_meets PySem.F.slot_list_count ⟨_, ho, rfl⟩ PySem.F.entry_list_count (PySem.F.args_list_count_2 _ _)
    (SeqAt.list_countAt p its.toArray n dd sl (.bool k) (fun v => match v with | .bool c => c == k | _ => false)) ⟨ho, fun y hy => ?_, ?_⟩
  · obtain ⟨b, rfl⟩ := all rv y (by simpa using hy)
    exact SeqAt.EqAt.bool_bool b k
  · refine ⟨.int (bs.count k : Nat), H, inv.tok _, ⟨s.toks, ?_⟩, q⟩
    show Value.int ((its.toArray.toList.countP _ : Nat) : Int) s.toks = Value.int ((bs.count k : Nat) : Int) s.toks
    rw [show its.toArray.toList = its from rfl, eqb_count rv]
theorem exm_sub {K : PySem.W.Frag} {R D : Addr} {b : Bool} (h1 : PySem.W.subIn K (.ref D) (.type "BaseException") = some true) (h2 : PySem.W.isClsIn K D = true) (h3 : PySem.W.typeIn K (.ref D) = some (.type "type")) (h4 : PySem.W.subIn K (.ref R) (.ref D) = some b) : PySem.W.exmOne K (.ref R) (.ref D) = some b := by
  have i : (PySem.W.clsIn K D).isSome = true := h2
  unfold PySem.W.exmOne PySem.W.kitCls
  rw [if_pos (by rw [h1]; rfl)]
  show (if ((PySem.W.clsIn K D).isSome && PySem.W.typeIn K (.ref D) == some (.type "type")) = true then PySem.W.subIn K (.ref R) (.ref D) else none) = some b
  rw [if_pos (by rw [i, h3]; rfl)]
  exact h4
/-- what the top has of a class whose errors are raised -/
theorem errC_mk {K : PySem.W.Frag} {D : Addr} (cl : PySem.W.isClsIn K D = true) (ga : PySem.W.findIn K (.ref D) "__getattribute__" = some (some (.builtin "BaseException.__getattribute__"))) (gg : PySem.W.findIn K (.ref D) "__getattr__" = some none) (ex : PySem.W.subIn K (.ref D) (.type "BaseException") = some true)
    (hd : PySem.W.hasDictIn K D = true) (ca : PySem.W.findIn K (.ref D) "__class__" = some (some (.builtin "object.__class__"))) (cn : PySem.W.specialIn K (.builtin "object.__class__") "__get__" = some (some (.builtin "getset_descriptor.__get__")))
    (ct : PySem.W.takesIn K (.builtin "object.__class__") = some true) (mo : PySem.W.mroIn K D (.type "object") = some true) : ErrC K D := ⟨cl, ga, gg, ex, hd, ca, cn, ct, mo⟩
/-- __init__ of an error with one field; with two -/
def sp_err1 (f : Str) (C : Addr) : Sp := fun vs H Q _ => ∃ (a : Addr) (v : V), vs = [.ref a, v] ∧ H a = some (exo a C none) ∧ ∀ d, H d = none → d ≠ a → Q .non (upd (upd H d (exd d [(f, v)])) a (exo a C (some d)))
def sp_err2 (f g : Str) (C : Addr) : Sp := fun vs H Q _ => ∃ (a : Addr) (v u : V), vs = [.ref a, v, u] ∧ H a = some (exo a C none) ∧ ∀ d, H d = none → d ≠ a → Q .non (upd (upd (upd H d (exd d [(f, v)])) a (exo a C (some d))) d (exd d [(g, u), (f, v)]))
theorem del_upds {H : Hp} {a d : Addr} {o1 o2 : HO} {x : HO} (na : H a = none) (ne : d ≠ a) : upd (del (upd (upd H d o1) a o2) a) d x = upd H d x := by
  funext b
  by_cases h : b = d
  · rw [h, upd_same, upd_same]
  · rw [upd_ne h, upd_ne h]
    by_cases h2 : b = a
    · rw [h2, del_same, na]
    · rw [del_ne h2, upd_ne h2, upd_ne h]
theorem raise1 {C : Addr} {f : Str} {H : Hp} {v : V} {Q : XK} (h : ∀ d, H d = none → Q (.ref C) (some d) (upd H d (.xd [(f, v)]))) : [v].length ≤ 1000 ∧ ∀ a, H a = none → sp_err1 f C (.ref a :: ([v] ++ [])) (upd H a (exo a C none))
    (fun u H2 => u = .non ∧ ∃ (d : Addr) (fs : List (Str × V)), H2 a = some (exo a C (some d)) ∧ H2 d = some (exd d fs) ∧ H d = none ∧ Q (.ref C) (some d) (upd (del H2 a) d (.xd fs))) (fun _ _ _ => False) := by
  refine ⟨by show 1 ≤ 1000; decide, fun a na => ⟨a, v, rfl, upd_same, fun d nd ne => ⟨rfl, d, _, upd_same, (upd_ne ne).trans upd_same, ?_, ?_⟩⟩⟩
  · rw [upd_ne ne] at nd
    exact nd
  · have e : upd (del (upd (upd (upd H a (exo a C none)) d (exd d [(f, v)])) a (exo a C (some d))) a) d (.xd [(f, v)]) = upd H d (.xd [(f, v)]) := by
      funext b
      by_cases h1 : b = d
      · rw [h1, upd_same, upd_same]
      · rw [upd_ne h1, upd_ne h1]
        by_cases h2 : b = a
        · rw [h2, del_same, na]
        · rw [del_ne h2, upd_ne h2, upd_ne h1, upd_ne h2]
    rw [e]
    refine h d ?_
    rw [upd_ne ne] at nd
    exact nd
theorem raise2 {C : Addr} {f g : Str} {H : Hp} {v u : V} {Q : XK} (h : ∀ d, H d = none → Q (.ref C) (some d) (upd H d (.xd [(g, u), (f, v)]))) : [v, u].length ≤ 1000 ∧ ∀ a, H a = none → sp_err2 f g C (.ref a :: ([v, u] ++ [])) (upd H a (exo a C none))
    (fun z H2 => z = .non ∧ ∃ (d : Addr) (fs : List (Str × V)), H2 a = some (exo a C (some d)) ∧ H2 d = some (exd d fs) ∧ H d = none ∧ Q (.ref C) (some d) (upd (del H2 a) d (.xd fs))) (fun _ _ _ => False) := by
  refine ⟨by show 2 ≤ 1000; decide, fun a na => ⟨a, v, u, rfl, upd_same, fun d nd ne => ⟨rfl, d, _, (upd_ne ne.symm).trans upd_same, upd_same, ?_, ?_⟩⟩⟩
  · rw [upd_ne ne] at nd
    exact nd
  · have e : upd (del (upd (upd (upd (upd H a (exo a C none)) d (exd d [(f, v)])) a (exo a C (some d))) d (exd d [(g, u), (f, v)])) a) d (.xd [(g, u), (f, v)]) = upd H d (.xd [(g, u), (f, v)]) := by
      funext b
      by_cases h1 : b = d
      · rw [h1, upd_same, upd_same]
      · rw [upd_ne h1, upd_ne h1]
        by_cases h2 : b = a
        · rw [h2, del_same, na]
        · rw [del_ne h2, upd_ne h1, upd_ne h2, upd_ne h1, upd_ne h2]
    rw [e]
    refine h d ?_
    rw [upd_ne ne] at nd
    exact nd
/-! the same, for a suite: its reading may not name the pinned object -/
def rIsS (K : PySem.W.Frag) (a : Addr) (cls : Value) (d : Option Addr) : List V → Hp → VK → Prop := fun xs H Q => ∃ (c : V) (cv : Value) (b : Bool) (D dd : Addr) (fs : List (Str × V)), xs = [.ref a, c] ∧ (∀ u, RelV c u → u = cv) ∧ cls = .ref D ∧ d = some dd ∧ ErrC K D ∧ H dd = some (.xd fs) ∧ PySem.W.kitOne K (.ref D) cv = some b ∧ Q (.bl b) H
theorem call_isS {X : Cx} {a : Addr} {oe : Obj} {cls : Value} {d : Option Addr} {pn : List (Addr × Obj)} (hz : L2N.Zn cls d oe) (hf : ∃ vs, oe.data = .fields vs) : CallR (X.suite a ((a, oe) :: pn)) (.builtin "isinstance") (rIsS X.K a cls d) := fun pins s σ H xs us Q inv rels wish => by
  obtain ⟨c, cv, b, D, dd, fs, e, one, rfl, rfl, C, h, kit, q⟩ := wish
  exact call_isP (X := X.suite a ((a, oe) :: pn)) (p := (a, oe)) List.mem_cons_self pins s σ H xs us Q inv rels ⟨c, cv, b, D, dd, fs, e, one, C, ⟨hz.1, hz.2.1, hf, h⟩, kit, q⟩
def tXs (K : PySem.W.Frag) (a : Addr) (cls : Value) (d : Option Addr) (n : Str) (te : TE) : TE := fun σ H Q => te σ H fun x H1 => ∃ (D dd : Addr) (fs : List (Str × V)) (v : V), x = .ref a ∧ cls = .ref D ∧ d = some dd ∧ ErrC K D ∧ PySem.W.findIn K (.ref D) n = some none ∧ H1 dd = some (.xd fs) ∧ fs.lookup n = some v ∧ Q v H1
theorem pe_xs {X : Cx} {a : Addr} {oe : Obj} {cls : Value} {d : Option Addr} {pn : List (Addr × Obj)} {ex : Expr} {te : TE} {pos : Pos} {n : Str} (hz : L2N.Zn cls d oe) (hf : ∃ vs, oe.data = .fields vs) (he : PE (X.suite a ((a, oe) :: pn)) ex te)
    (hb : attributeBase ex n X.env (eval ex X.env) = eval ex X.env := by rfl) : PE (X.suite a ((a, oe) :: pn)) (.Attribute ex n pos) (tXs X.K a cls d n te) := by
  refine ⟨fun pins s σ H Q inv wish => attr_of hb (thn (he.run pins s σ H _ inv wish) fun u s1 post => ?_)⟩
  obtain ⟨x, H1, inv1, rx, D, dd, fs, v, rfl, rfl, rfl, C, no, eh, l, q⟩ := post
  obtain rfl : u = Value.ref a := rx
  obtain ⟨mA, hns, hr⟩ : ObjOk X.prog X.w H1 s1.heap dd (.xd fs) := inv1.hok dd _ eh
  obtain ⟨od, ho, hl⟩ := lookIn_ns hns
  obtain ⟨z, hz1, rz⟩ := RelO.some_of (v := v) (o := mA n) (by rw [← l]; exact hr n)
  obtain ⟨vs, hv⟩ := hf
  have J : PySem.W.InstAt s1.heap a oe D (some od) := ⟨(inv1.pin (a, oe) (List.mem_append_left _ List.mem_cons_self)).1, hz.1, by unfold PySem.W.notCls; rw [hv] <;> rfl, by rw [hz.2.1]; exact ho⟩
  exact HandSPX.exc_get inv1.kIn J C.ga C.gg C.ex (PySem.W.findObj_own C.hd no rfl (by rw [hl, hz1])) (handed_of rz) ⟨v, H1, inv1.tok _, rz, q⟩
/-- a call from a suite -/
def tCallS1 (sp : Addr × Obj → Sp) (a : Addr) (cls : Value) (d : Option Addr) (t : TA) : TE := fun σ H Q => t σ H fun vs H1 => ∀ oe, L2N.Zn cls d oe → (∃ vs, oe.data = .fields vs) → sp (a, oe) vs H1 Q (fun _ _ _ => False)
theorem pe_callS1 {X : Cx} {a : Addr} {oe : Obj} {cls : Value} {d : Option Addr} {pn : List (Addr × Obj)} {k : Nat} {f : Addr} {fd : FuncData} {ps : List Str} {sp : Addr × Obj → Sp} {x : Str} {u0 : Expr} {ur : List Expr} {ta : TA} {q0 q1 : Pos} (F : FnP X.prog X.w X.K X.mg X.base k f fd ps sp) (room : Room k X.A)
    (hz : L2N.Zn cls d oe) (hf : ∃ vs, oe.data = .fields vs) (gl : Gl X x) (mx : X.mg x = some (.ref f)) (hk : PySem.W.keepIn X.K (.ref f) = true) (bi : Binds X.K fd ps []) (har : PA (X.suite a ((a, oe) :: pn)) (u0 :: ur) ta) (nd0 : (x == ("__debug__" : Str)) = false := by decide)
    (st : starEach (u0 :: ur) X.env = (false, eval u0 X.env) :: starEach ur X.env := by rfl) (nokw : (backTo q1 (starEach ur X.env)).any (·.1) = false := by rfl) : PE (X.suite a ((a, oe) :: pn)) (.Call (.Name x q0) (u0 :: ur) [] q1) (tCallS1 sp a cls d ta) := by
  have har2 : PA (X.suite a ((a, oe) :: pn)) (u0 :: ur) (fun σ H Q => ∃ R, ta σ H R ∧ ∀ vs H1, R vs H1 → Q vs H1) :=
    ⟨fun pos pins s σ H Q inv ⟨R, w, i⟩ => thn (har.run pos pins s σ H R inv w) fun us s' ⟨vs, H', J, r, q⟩ => ⟨vs, H', J, r, i vs H' q⟩⟩
  exact ⟨fun pins s σ H Q inv wish => (pe_callP (X := X.suite a ((a, oe) :: pn)) (p := (a, oe)) F (L2H.roomH_mark room _) (hotS hz hf) gl mx hk bi har2 nd0 st nokw).run pins s σ H Q inv ⟨_, wish, fun vs H1 q => q oe hz hf⟩⟩
theorem hotD {P : Program} {w : World} {K : PySem.W.Frag} {mg : Str → Option Value} {base : Heap} {N : List Str} {qual : Str} {sc : Scope} {f : Addr} {cd : Value} {A : Around} {outer : List Env} {s : Shared} {H : Hp} {E : XK} {p : Addr × Obj} (hot : L2H.Hot1 A p) :
    HotP (L2H.cxH CX0 P w K mg base N qual sc f cd A outer s H E p) p := ⟨hot, List.mem_cons_self⟩
/-! ### the tape of drawn numbers -/
/-- all that was tracked stays, but what stands at t -/
def Kp (t : Addr) (H H' : Hp) : Prop := ∀ b o, b ≠ t → H b = some o → H' b = some o
theorem Kp.refl (t : Addr) (H : Hp) : Kp t H H := fun _ _ _ h => h
theorem Kp.trans {t : Addr} {H H1 H2 : Hp} (a : Kp t H H1) (b : Kp t H1 H2) : Kp t H H2 := fun c o n h => b c o n (a c o n h)
theorem Kp.of_same {t : Addr} {H H' : Hp} (a : Same H H') : Kp t H H' := fun c o _ h => a c o h
theorem Kp.put {t : Addr} {H : Hp} {o : HO} : Kp t H (upd H t o) := fun b u n h => by rw [upd_ne n]; exact h
theorem same_upd {H : Hp} {p : Addr} {o : HO} (h : H p = none) : Same H (upd H p o) := fun b x e => by
  rw [upd_ne (ne_of_none e h)]
  exact e
theorem Kp.new {t : Addr} {H H' : Hp} {p : Addr} {o : HO} (a : Kp t H H') (h : H' p = none) : Kp t H (upd H' p o) := a.trans (.of_same (same_upd h))
def Tape (H : Hp) (t c : Addr) : Prop := ∃ (cs : List Int) (a : Nat) (b k r : Int), H t = some (.lst [.ref c, .int a, .int b, .int k, .int r]) ∧ H c = some (.lst (cs.map V.int)) ∧ c ≠ t ∧ a < cs.length
theorem Tape.same {H H' : Hp} {t c : Addr} (h : Tape H t c) (s : Same H H') : Tape H' t c := by
  obtain ⟨cs, a, b, k, r, h1, h2, h3, h4⟩ := h
  exact ⟨cs, a, b, k, r, s _ _ h1, s _ _ h2, h3, h4⟩
theorem Tape.off {H : Hp} {t c m : Addr} (h : Tape H t c) (n : H m = none) : m ≠ t ∧ m ≠ c := by
  obtain ⟨cs, a, b, k, r, h1, h2, h3, h4⟩ := h
  exact ⟨fun e => ne_of_none h1 n e.symm, fun e => ne_of_none h2 n e.symm⟩
theorem Tape.put {H : Hp} {t c m : Addr} {o : HO} (h : Tape H t c) (n : m ≠ t ∧ m ≠ c) : Tape (upd H m o) t c := by
  obtain ⟨cs, a, b, k, r, h1, h2, h3, h4⟩ := h
  exact ⟨cs, a, b, k, r, by rw [upd_ne n.1.symm]; exact h1, by rw [upd_ne n.2.symm]; exact h2, h3, h4⟩
theorem Tape.set {H : Hp} {t c : Addr} {cs : List Int} {a : Nat} {b k r : Int} (h2 : H c = Option.some (.lst (cs.map V.int))) (h3 : c ≠ t) (h4 : a < cs.length) : Tape (upd H t (.lst [.ref c, .int a, .int b, .int k, .int r])) t c :=
  ⟨cs, a, b, k, r, upd_same, by rw [upd_ne h3]; exact h2, h3, h4⟩
theorem ix5 (a b c d e : V) : ixN [a, b, c, d, e].length 0 = Option.some 0 ∧ ixN [a, b, c, d, e].length 1 = Option.some 1 ∧ ixN [a, b, c, d, e].length 2 = Option.some 2 ∧ ixN [a, b, c, d, e].length 3 = Option.some 3 ∧ ixN [a, b, c, d, e].length 4 = Option.some 4 := ⟨rfl, rfl, rfl, rfl, rfl⟩
theorem sz5 (a b c d e : V) : [a, b, c, d, e].length ≤ sizeLine := by show 5 ≤ sizeLine; decide
section
variable {P : Program} {w : World} {K : PySem.W.Frag} {mg : Str → Option Value} {base : Heap}
def sp__law_tape (K : PySem.W.Frag) : Sp := fun vs H Q _ => ∃ (a : Addr) (ns : List Int), vs = [.ref a] ∧ SqL K H a (ns.map V.int) ∧ ns.length ≤ 1000 ∧ ∀ H' t c, Same H H' → H t = none → Tape H' t c → Q (.ref t) H'
theorem T0.ok__law_tape (T : T0 K mg) : FnOk P w K mg base CX0 1 T.a__law_tape T.fd__law_tape ["script"] (sp__law_tape K) := by
  refine T.F__law_tape.ok sc__law_tape (fun vs H Q E h => ?_) (fun cdv A outer s H vs Q E hr h => ?_)
  · obtain ⟨a, ns, rfl, _⟩ := h
    rfl
  · obtain ⟨a, ns, rfl, hS, hlen, q⟩ := h
    refine ⟨_, (pss_cons (ps_setLc (i := 1) (own := [("cell", 2)]) (g := gName 2) (by rfl) sc__law_tape.nd rfl rfl (sw_true rfl rfl rfl (by decide +kernel)) (pi_list (pv 0)) (blkOk_by (own := [("cell", 2)]) (N := ["script", "cells", "cell"]) (sc := defScope s__law_tape) (by decide +kernel)) (fun _ _ _ _ _ => pg_name (i := 2) sc__law_tape.nd rfl (Or.inl rfl)) (fun _ _ _ _ _ => pts_nil) (fun _ _ _ _ _ => (pe_callB call_abs (by rfl) T.m_abs (by decide +kernel) (pa_cons (pe_callTy call_int1 (by rfl) T.m_int (by decide +kernel) (pa_cons (pv 2) pa_nil)) pa_nil))))
        (C8.pss_cut (ps_if (pt_cmpR op_eq (pe_callB (call_lenK (K := K)) (by rfl) T.m_len PySem.boot_len (pa_cons (pv 1) pa_nil)) pe_int (nomark _)) (pss_one (ps_set (i := 1) sc__law_tape.nd rfl (Or.inl rfl) (pe_lst (pa_cons pe_int pa_nil)))) pss_nil)
        (pss_one (ps_ret (pe_lst (pa_cons (pv 1) (pa_cons pe_int (pa_cons (pe_ix (ix_listK (K := K)) (pv 1) pe_int (fun _ _ => rfl)) (pa_cons pe_int (pa_cons pe_int pa_nil)))))))))), ?_⟩
    -- cells = [..]
    refine ⟨.ref a, rfl, a, rfl, ⟨_, hS⟩, fun D hD => lc_list (K := K) (a := a) (xs := ns.map V.int) (fun i H' => Same H H' ∧ ∃ ms : List Int, ms.length = i ∧ H' D = some (.lst (ms.map V.int))) ⟨same_upd hD, [], rfl, upd_same⟩ (fun i H' _ p => p.1.seq hS) (fun i x H' hx p => ?_) (fun H1 p => ?_)⟩
    · obtain ⟨sm, ms, e1, e2⟩ := p
      rw [List.getElem?_map] at hx
      obtain ⟨n, hn, rfl⟩ := Option.map_eq_some_iff.mp hx
      refine ⟨rfl, ?_⟩
      refine ⟨_, rfl, .inl ⟨_, rfl, _, rfl, ms.map V.int, e2, ?_, ?_⟩⟩
      · have hi : i < ns.length := (List.getElem?_eq_some_iff.mp hn).1
        rw [List.length_map]
        exact small1000' (by omega)
      · refine ⟨fun b o h => ?_, ms ++ [if n < 0 then -n else n], ?_, ?_⟩
        · rw [upd_ne (ne_of_none h hD)]
          exact sm b o h
        · rw [List.length_append, e1]
          rfl
        · rw [upd_same, List.map_append]
          rfl
    · obtain ⟨sm, ms, e1, e2⟩ := p
      rw [List.length_map] at e1
      -- if len(cells) == 0
      refine ⟨fun σ' H' => ∃ (c : Addr) (cs : List Int) (x2 : Option V), σ' = [some (.ref a), some (.ref c), x2] ∧ Same H H' ∧ H c = none ∧ H' c = some (.lst (cs.map V.int)) ∧ 0 < cs.length, ?_, fun σ' H' hM => ?_⟩
      · refine ⟨.ref D, rfl, D, ms.map V.int, rfl, .inl (SqL.of e2), rfl, _, rfl, ite2 (fun e => ?_) (fun e => ?_)⟩
        · refine ⟨by decide, fun p np => ?_⟩
          refine ⟨p, [0], none, rfl, ?_, ?_, upd_same, by decide⟩
          · exact sm.trans (same_upd np)
          · exact sm.free np
        · have h0 : ((ms.map V.int).length : Int) ≠ 0 := fun z => e (decide_eq_true (congrArg V.int z))
          rw [List.length_map] at h0
          exact ⟨D, ms, none, rfl, sm, hD, e2, by omega⟩
      · obtain ⟨c, cs, x2, rfl, sm2, nc, e3, hp⟩ := hM
        refine ⟨.ref c, rfl, .ref c, rfl, c, cs.map V.int, 0, .int (cs[0]), rfl, rfl, SqL.of e3, at_ints hp, sz5 _ _ _ _ _, fun t nt => ?_⟩
        refine q _ t c (sm2.trans (same_upd nt)) (sm2.free nt) (Tape.set (a := 0) e3 (ne_of_none e3 nt) hp)
def sp__law_pick (K : PySem.W.Frag) : Sp := fun vs H Q _ => ∃ (t c : Addr) (n : Int), vs = [.ref t, .int n] ∧ Tape H t c ∧ 0 < n ∧ n ≤ 4000000000 ∧ ∀ x H', 0 ≤ x → x < n → Kp t H H' → Tape H' t c → Q (.int x) H'
theorem T0.ok__law_pick (T : T0 K mg) : FnOk P w K mg base CX0 1 T.a__law_pick T.fd__law_pick ["tape", "size"] (sp__law_pick K) := by
  refine T.F__law_pick.ok sc__law_pick (fun vs H Q E h => ?_) (fun cdv A outer s H vs Q E hr h => ?_)
  · obtain ⟨t, c, n, rfl, _⟩ := h
    rfl
  · obtain ⟨t, c, n, rfl, ⟨cs, a, b, k, r, hT, hC, nct, ha⟩, hn0, hn1, q⟩ := h
    refine ⟨_, (pss_cons (ps_set (i := 2) sc__law_pick.nd rfl (Or.inl rfl) (pe_ix (ix_listK (K := K)) (pv 0) pe_int (fun _ _ => rfl)))
        (pss_cons (ps_set (i := 3) sc__law_pick.nd rfl (Or.inl rfl) (pe_ix (ix_listK (K := K)) (pv 2) (pe_ix (ix_listK (K := K)) (pv 0) pe_int (fun _ _ => rfl)) (fun _ _ => rfl)))
        (pss_cons (ps_set (i := 4) sc__law_pick.nd rfl (Or.inl rfl) (pe_op op_add (pe_ix (ix_listK (K := K)) (pv 0) pe_int (fun _ _ => rfl)) (pe_op op_mul pe_int (pe_ix (ix_listK (K := K)) (pv 0) pe_int (fun _ _ => rfl)))))
        (C8.pss_cut (ps_if (PW.pt (pw_and (pt_cmpR op_ge (pv 3) (pe_op op_pow pe_int pe_int) (nomark _)) (pw_and1 (pt_cmpR op_eq (pe_ix (ix_listK (K := K)) (pv 0) pe_int (fun _ _ => rfl)) pe_int (nomark _))))) (pss_cons (ps_set (i := 5) sc__law_pick.nd rfl (Or.inl rfl) (pe_op op_modN (pe_callTy call_int1 (by rfl) T.m_int (by decide +kernel) (pa_cons (pe_ix (ix_listK (K := K)) (pv 0) pe_int (fun _ _ => rfl)) pa_nil)) (pv 1)))
        (pss_cons (ps_asg ((pe_op op_fdivW (pe_ix (ix_listK (K := K)) (pv 0) pe_int (fun _ _ => rfl)) (pv 1))) (pg_sub (pv 0) pe_int set_list))
        (pss_one (ps_set (i := 6) sc__law_pick.nd rfl (Or.inl rfl) (pe_cmpR op_eq (pe_ix (ix_listK (K := K)) (pv 0) pe_int (fun _ _ => rfl)) pe_int (nomark _)))))) (pss_cons (ps_set (i := 7) sc__law_pick.nd rfl (Or.inl rfl) (pe_op op_modN (pe_callTy call_int1 (by rfl) T.m_int (by decide +kernel) (pa_cons (pe_op op_add (pe_op op_add (pv 3) (pe_op op_mul pe_int (pv 4))) pe_int) pa_nil)) pe_int))
        (pss_cons (ps_set (i := 7) sc__law_pick.nd rfl (Or.inl rfl) (pe_op op_modN (pe_callTy call_int1 (by rfl) T.m_int (by decide +kernel) (pa_cons (pe_op op_mul (pv 7) (pe_op op_add (pv 7) pe_int)) pa_nil)) pe_int))
        (pss_cons (ps_set (i := 7) sc__law_pick.nd rfl (Or.inl rfl) (pe_op op_modN (pe_callTy call_int1 (by rfl) T.m_int (by decide +kernel) (pa_cons (pe_op op_add (pe_op op_mul (pv 7) (pe_op op_add (pv 7) pe_int)) (pe_op op_mul pe_int (pv 4))) pa_nil)) pe_int))
        (pss_cons (ps_set (i := 5) sc__law_pick.nd rfl (Or.inl rfl) (pe_op op_modN (pe_callTy call_int1 (by rfl) T.m_int (by decide +kernel) (pa_cons (pe_op op_fdivN (pv 7) pe_int) pa_nil)) (pv 1)))
        (pss_one (ps_set (i := 6) sc__law_pick.nd rfl (Or.inl rfl) (pe_cmpR op_eq (pe_op op_modN (pe_callTy call_int1 (by rfl) T.m_int (by decide +kernel) (pa_cons (pv 4) pa_nil)) pe_int) pe_int (nomark _)))))))))
        (pss_cons (ps_asg (pe_op op_add (pe_ix (ix_listK (K := K)) (pv 0) pe_int (fun _ _ => rfl)) pe_int) (pg_sub (pv 0) pe_int set_list))
        (C8.pss_cut (ps_if (pt_val (pv 6)) (pss_cons (ps_asg pe_int (pg_sub (pv 0) pe_int set_list))
        (pss_cons (ps_asg (pe_op op_add (pe_ix (ix_listK (K := K)) (pv 0) pe_int (fun _ _ => rfl)) pe_int) (pg_sub (pv 0) pe_int set_list))
        (C8.pss_cut (ps_if (pt_cmpR op_eq (pe_ix (ix_listK (K := K)) (pv 0) pe_int (fun _ _ => rfl)) (pe_callB (call_lenK (K := K)) (by rfl) T.m_len PySem.boot_len (pa_cons (pv 2) pa_nil)) (nomark _)) (pss_cons (ps_asg pe_int (pg_sub (pv 0) pe_int set_list))
        (pss_one (ps_asg (pe_op op_add (pe_ix (ix_listK (K := K)) (pv 0) pe_int (fun _ _ => rfl)) pe_int) (pg_sub (pv 0) pe_int set_list)))) pss_nil)
        (pss_one (ps_asg (pe_ix (ix_listK (K := K)) (pv 2) (pe_ix (ix_listK (K := K)) (pv 0) pe_int (fun _ _ => rfl)) (fun _ _ => rfl)) (pg_sub (pv 0) pe_int set_list)))))) pss_nil)
        (pss_one (ps_ret (pv 5))))))))), ?_⟩
    have st : SqL K H t [.ref c, .int a, .int b, .int k, .int r] := SqL.of hT
    have sc : SqL K H c (cs.map V.int) := SqL.of hC
    -- cells = tape[0]; cell = cells[tape[1]]
    refine ⟨.ref t, rfl, t, _, 0, .ref c, rfl, rfl, st, rfl, ?_⟩
    refine ⟨.ref c, rfl, .ref t, rfl, t, _, 1, .int a, rfl, rfl, st, rfl, c, _, a, .int (cs[a]), rfl, rfl, sc, at_ints ha, ?_⟩
    -- k = tape[3] + 61 * tape[4]
    refine ⟨.ref t, rfl, t, _, 3, .int k, rfl, rfl, st, rfl, .ref t, rfl, t, _, 4, .int r, rfl, rfl, st, rfl, 61, r, rfl, rfl, .inl (by decide), _, _, rfl, rfl, ?_⟩
    refine ⟨fun σ' H' => ∃ (x : Int) (u : Bool) (b' : Int) (y : Option V), σ' = [some (.ref t), some (.int n), some (.ref c), some (.int cs[a]), some (.int (k + 61 * r)), some (.int x), some (.bl u), y] ∧ 0 ≤ x ∧ x < n ∧ H' = upd H t (.lst [.ref c, .int a, .int b', .int k, .int r]), ?_, fun σ' H' hM => ?_⟩
    · -- if cell >= 10 ** 18 and tape[4] == 0
      have hn : n ≠ 0 := by omega
      have fm : ∀ x : Int, 0 ≤ x.fmod n ∧ x.fmod n < n := fun x => fmod_range x hn0
      refine ⟨.int cs[a], rfl, 10, 18, rfl, rfl, ⟨by decide, by decide, by decide⟩, _, _, rfl, rfl, _, rfl, ite2 (fun _ => ?A) (fun _ => ?no1)⟩
      case' A => refine ⟨.ref t, rfl, t, _, 4, .int r, rfl, rfl, st, rfl, rfl, _, rfl, ite2 (fun _ => ?yes) (fun _ => ?no2)⟩
      case yes =>
        walk_at "go"
        exact ⟨_, _, _, none, rfl, (fm _).1, (fm _).2, rfl⟩
      case no1 | no2 =>
        walk_at "go"
        exact ⟨_, _, b, _, rfl, (fm _).1, (fm _).2, upd_self hT⟩
    · obtain ⟨x, u, b', y, rfl, hx0, hx1, rfl⟩ := hM
      have sc' : ∀ xs, SqL K (upd H t (.lst xs)) c (cs.map V.int) := fun xs => SqL.of ((upd_ne nct).trans hC)
      -- tape[3] = tape[3] + 1
      walk_at "go"
      rw [upd_upd]
      refine ⟨fun σ' H' => ∃ (a' : Nat) (b2 k2 r2 : Int), a' < cs.length ∧ σ' = [some (.ref t), some (.int n), some (.ref c), some (.int cs[a]), some (.int (k + 61 * r)), some (.int x), some (.bl u), y] ∧ H' = upd H t (.lst [.ref c, .int a', .int b2, .int k2, .int r2]), ?_, fun σ' H' hM => ?_⟩
      · refine ⟨_, rfl, _, rfl, ?_⟩
        cases u with
        | false => exact iteF ⟨a, b', k + 1, r, ha, rfl, rfl⟩
        | true =>
          refine iteT ?_
          -- tape[3] = 0; tape[1] = tape[1] + 1
          walk_at "go"
          rw [upd_upd]
          walk_at "go"
          rw [upd_upd]
          refine ⟨fun σ' H' => ∃ (a' : Nat) (r2 : Int), a' < cs.length ∧ σ' = [some (.ref t), some (.int n), some (.ref c), some (.int cs[a]), some (.int (k + 61 * r)), some (.int x), some (.bl true), y] ∧ H' = upd H t (.lst [.ref c, .int a', .int b', .int 0, .int r2]), ?_, fun σ' H' hM => ?_⟩
          · -- if tape[1] == len(cells)
            refine ⟨_, rfl, t, _, 1, .int (a + 1), rfl, rfl, SqL.of upd_same, rfl, ?_⟩
            refine ⟨_, rfl, c, _, rfl, .inl (sc' _), rfl, _, rfl, ite2 (fun e => ?_) (fun e => ?_)⟩
            · walk_at "go"
              rw [upd_upd]
              walk_at "go"
              rw [upd_upd]
              exact ⟨0, r + 1, by omega, rfl, rfl⟩
            · rw [List.length_map] at e
              refine ⟨a + 1, r, ?_, rfl, rfl⟩
              have h0 : ((a : Int) + 1) ≠ (cs.length : Int) := fun z => e (decide_eq_true (congrArg V.int z))
              omega
          · obtain ⟨a', r2, ha2, rfl, rfl⟩ := hM
            -- tape[2] = cells[tape[1]]
            refine ⟨_, rfl, _, rfl, t, _, 1, .int a', rfl, rfl, SqL.of upd_same, rfl, c, _, a', .int cs[a'], rfl, rfl, sc' _, at_ints ha2, ?_⟩
            walk_at "go"
            exact ⟨a', _, _, _, ha2, rfl, upd_upd⟩
      · obtain ⟨a', b2, k2, r2, ha2, rfl, rfl⟩ := hM
        exact ⟨_, rfl, q _ _ hx0 hx1 .put (Tape.set hC nct ha2)⟩
local macro_rules | `(tactic| walk_at "kp") => `(tactic| first
  | exact Kp.refl _ _
  | assumption
  | (refine Kp.trans ?_ (by assumption); walk_at "kp"))
local macro_rules | `(tactic| walk_at "pick") => `(tactic|
  refine ⟨_, _, _, rfl, (by assumption), (by first | decide | omega), (by first | decide | omega), fun x H' h0 h1 kp hT => ?_⟩)
/-! ### _law_same -/
theorem op_isB {X : Cx} : OpR X (compareOp .Is) (fun x y H Q => ∃ b, y = .bl b ∧ Q (.bl (decide (x = .bl b))) H) := by
  intro pins s σ H x y v u Q I rx ry h
  obtain ⟨b, rfl, q⟩ := h
  cases (show u = Value.bool b from ry)
  cases x with
  | bl c =>
    cases (show v = Value.bool c from rx)
    refine is_bool (fin_bl I q ?_)
    cases b <;> cases c <;> rfl
  | non => cases rx; exact wpAny_is_plain rfl (fin_bl I q rfl)
  | int _ => obtain ⟨t, rfl⟩ := rx; exact wpAny_is_plain rfl (fin_bl I q rfl)
  | str _ => obtain ⟨t, rfl⟩ := rx; exact wpAny_is_plain rfl (fin_bl I q rfl)
  | byt _ => obtain ⟨t, rfl⟩ := rx; exact wpAny_is_plain rfl (fin_bl I q rfl)
  | flt _ => obtain ⟨t, rfl⟩ := rx; exact wpAny_is_plain rfl (fin_bl I q rfl)
  | ref _ => cases rx; exact wpAny_is_plain rfl (fin_bl I q rfl)
  | ty _ => cases rx; exact wpAny_is_plain rfl (fin_bl I q rfl)
def atomV : V → Bool
  | .non => true
  | .bl _ => true
  | .int _ => true
  | .str _ => true
  | _ => false
/-- the same data, of at most this depth -/
inductive Sm (K : PySem.W.Frag) : Nat → Hp → V → V → Prop
  | atom {d : Nat} {H : Hp} {x : V} : atomV x = true → Sm K (d + 1) H x x
  | lst {d : Nat} {H : Hp} {a b : Addr} {xs ys : List V} : SqL K H a xs → SqL K H b ys → xs.length = ys.length → ys.length ≤ 100000 → (∀ (i : Nat) x y, xs[i]? = some x → ys[i]? = some y → Sm K d H x y) → Sm K (d + 1) H (.ref a) (.ref b)
  | tup {d : Nat} {H : Hp} {a b : Addr} {xs ys : List V} : SqT K H a xs → SqT K H b ys → xs.length = ys.length → ys.length ≤ 100000 → (∀ (i : Nat) x y, xs[i]? = some x → ys[i]? = some y → Sm K d H x y) → Sm K (d + 1) H (.ref a) (.ref b)
  | dic {d : Nat} {H : Hp} {a b : Addr} {xs ys : List (Key × V)} : H a = some (.dK xs) → H b = some (.dK ys) → xs.length = ys.length → ys.length ≤ 100000 → (∀ (i : Nat) x y, xs[i]? = some x → ys[i]? = some y → x.1 = y.1) →
      (∀ (i : Nat) x y, xs[i]? = some x → ys[i]? = some y → Sm K (d + 1) H x.2 y.2) → Sm K (d + 4) H (.ref a) (.ref b)
theorem same_t {K : PySem.W.Frag} {H H' : Hp} {a : Addr} {xs : List V} (e : Same H H') (h : SqT K H a xs) : SqT K H' a xs := by
  rcases h with (h | ⟨o, h⟩) | h
  · exact .inl (.inl (e _ _ h))
  · exact .inl (.inr ⟨o, e _ _ h⟩)
  · exact .inr h
theorem Sm.same {K : PySem.W.Frag} {d : Nat} {H : Hp} {x y : V} (h : Sm K d H x y) : ∀ {H' : Hp}, Same H H' → Sm K d H' x y := by
  induction h with
  | atom h => exact fun _ => .atom h
  | lst h1 h2 h3 h4 _ ih => exact fun s => .lst (s.seq h1) (s.seq h2) h3 h4 fun i x y e1 e2 => ih i x y e1 e2 s
  | tup h1 h2 h3 h4 _ ih => exact fun s => .tup (same_t s h1) (same_t s h2) h3 h4 fun i x y e1 e2 => ih i x y e1 e2 s
  | dic h1 h2 h3 h4 h5 _ ih => exact fun s => .dic (s _ _ h1) (s _ _ h2) h3 h4 h5 fun i x y e1 e2 => ih i x y e1 e2 s
theorem Sm.succ {K : PySem.W.Frag} {d : Nat} {H : Hp} {x y : V} (h : Sm K d H x y) : Sm K (d + 1) H x y := by
  induction h with
  | atom h => exact .atom h
  | lst h1 h2 h3 h4 _ ih => exact .lst h1 h2 h3 h4 ih
  | tup h1 h2 h3 h4 _ ih => exact .tup h1 h2 h3 h4 ih
  | dic h1 h2 h3 h4 h5 _ ih => exact .dic h1 h2 h3 h4 h5 ih
theorem Sm.int {K : PySem.W.Frag} {d : Nat} {H : Hp} {i j : Int} (h : i = j) : Sm K (d + 1) H (.int i) (.int j) := by subst h; exact .atom rfl
theorem Sm.bl {K : PySem.W.Frag} {d : Nat} {H : Hp} {i j : Bool} (h : i = j) : Sm K (d + 1) H (.bl i) (.bl j) := by subst h; exact .atom rfl
theorem tyx_l {K : PySem.W.Frag} {H : Hp} {a : Addr} {xs : List V} (h : SqL K H a xs) : TyX K H (.ref a) (.type "list") := by
  rcases h with (h | ⟨o, h⟩) | ⟨o, its, n, h1, h2, _⟩
  · exact .base (.lst h)
  · exact .base (.frz h)
  · exact .kList h1 h2
theorem tyx_t {K : PySem.W.Frag} {H : Hp} {a : Addr} {xs : List V} (h : SqT K H a xs) : TyX K H (.ref a) (.type "tuple") := by
  rcases h with (h | ⟨o, h⟩) | ⟨o, its, n, h1, h2, _⟩
  · exact .base (.tup h)
  · exact .fTuple h
  · exact .kTuple h1 h2
theorem pair_ix {R : V → V → Prop} : ∀ {xs ys : List V}, Paired R xs ys → ∀ (i : Nat) x y, xs[i]? = some x → ys[i]? = some y → R x y
  | _, _, .nil, i, x, y, h, _ => by simp at h
  | _, _, .cons r _, 0, x, y, h, g => by
    cases h
    cases g
    exact r
  | _, _, .cons _ t, i + 1, x, y, h, g => pair_ix t i x y h g
theorem Sm.lstP {K : PySem.W.Frag} {d : Nat} {H : Hp} {a b : Addr} {xs ys : List V} (h1 : SqL K H a xs) (h2 : SqL K H b ys) (h3 : ys.length ≤ 100000) (p : Paired (Sm K d H) xs ys) : Sm K (d + 1) H (.ref a) (.ref b) :=
  .lst h1 h2 p.length h3 (pair_ix p)
theorem Sm.tupP {K : PySem.W.Frag} {d : Nat} {H : Hp} {a b : Addr} {xs ys : List V} (h1 : SqT K H a xs) (h2 : SqT K H b ys) (h3 : ys.length ≤ 100000) (p : Paired (Sm K d H) xs ys) : Sm K (d + 1) H (.ref a) (.ref b) :=
  .tup h1 h2 p.length h3 (pair_ix p)
def sp__law_same (d : Nat) (K : PySem.W.Frag) : Sp := fun vs H Q _ => ∃ x y, vs = [x, y] ∧ Sm K d H x y ∧ ∀ H', Same H H' → Q (.bl true) H'
theorem fnok_never {CX : CXT} {k : Nat} {f : Addr} {fd : FuncData} {ps : List Str} {sp : Sp} (h : ∀ vs H Q E, ¬ sp vs H Q E) : FnOk P w K mg base CX k f fd ps sp where
  len := fun vs H Q E z => (h vs H Q E z).elim
  run := fun A outer s H args us vs Q E hr h0 hb hv z => (h vs H Q E z).elim
theorem T0.ok__law_same_succ (T : T0 K mg) {d : Nat} (G : FnOk P w K mg base CX0 d T.a__law_same T.fd__law_same ["actual", "due"] (sp__law_same d K)) : FnOk P w K mg base CX0 (d + 1) T.a__law_same T.fd__law_same ["actual", "due"] (sp__law_same (d + 1) K) := by
  refine T.F__law_same.ok sc__law_same (fun vs H Q E h => ?_) (fun cdv A outer s H vs Q E hr h => ?_)
  · obtain ⟨x, y, rfl, _⟩ := h
    rfl
  · obtain ⟨x, y, rfl, hS, q⟩ := h
    refine ⟨_, (pss_cons (ps_if (pt_cmpR op_isN (pv 1) pe_non (nomark _)) (pss_one (ps_ret (pe_cmpR op_isN (pv 0) pe_non (nomark _)))) pss_nil)
        (pss_cons (ps_if (pt_cmpR op_isB (pv 1) pe_bl (nomark _)) (pss_one (ps_ret (pe_cmpR op_isB (pv 0) pe_bl (nomark _)))) pss_nil)
        (pss_cons (ps_if (pt_cmpR op_isB (pv 1) pe_bl (nomark _)) (pss_one (ps_ret (pe_cmpR op_isB (pv 0) pe_bl (nomark _)))) pss_nil)
        (pss_cons (ps_if (pt_val (pe_callB (call_isinstK (K := K)) (by rfl) T.m_isinstance (by decide +kernel) (pa_cons (pv 1) (pa_cons (pe_bltn (v := .ty "int") (by rfl) T.m_int (by decide +kernel) rfl) pa_nil)))) (pss_one (ps_ret (pe_and (pe_callB (call_isinstK (K := K)) (by rfl) T.m_isinstance (by decide +kernel) (pa_cons (pv 0) (pa_cons (pe_bltn (v := .ty "int") (by rfl) T.m_int (by decide +kernel) rfl) pa_nil))) (pe_and (pe_not (pe_callB (call_isinstK (K := K)) (by rfl) T.m_isinstance (by decide +kernel) (pa_cons (pv 0) (pa_cons (pe_bltn (v := .ty "bool") (by rfl) T.m_bool (by decide +kernel) rfl) pa_nil)))) (pe_one (pe_cmpR op_eq (pv 0) (pv 1) (nomark _))))))) pss_nil)
        (pss_cons (ps_if (pt_val (pe_callB (call_isinstK (K := K)) (by rfl) T.m_isinstance (by decide +kernel) (pa_cons (pv 1) (pa_cons (pe_bltn (v := .ty "str") (by rfl) T.m_str (by decide +kernel) rfl) pa_nil)))) (pss_one (ps_ret (pe_and (pe_callB (call_isinstK (K := K)) (by rfl) T.m_isinstance (by decide +kernel) (pa_cons (pv 0) (pa_cons (pe_bltn (v := .ty "str") (by rfl) T.m_str (by decide +kernel) rfl) pa_nil))) (pe_one (pe_cmpR op_eq (pv 0) (pv 1) (nomark _)))))) pss_nil)
        (pss_cons (ps_if (pt_val (pe_callB (call_isinstK (K := K)) (by rfl) T.m_isinstance (by decide +kernel) (pa_cons (pv 1) (pa_cons (pe_bltn (v := .ty "dict") (by rfl) T.m_dict (by decide +kernel) rfl) pa_nil)))) (pss_one (ps_ret (pe_and (pe_callB (call_isinstK (K := K)) (by rfl) T.m_isinstance (by decide +kernel) (pa_cons (pv 0) (pa_cons (pe_bltn (v := .ty "dict") (by rfl) T.m_dict (by decide +kernel) rfl) pa_nil))) (pe_one (pe_call G hr (by rfl) T.g__law_same T.k__law_same T.b__law_same .nil pass0 (pa_cons (LiI.pe_listItems rfl (pv 0) (by rfl) T.m_list (by decide +kernel)) (pa_cons (LiI.pe_listItems rfl (pv 1) (by rfl) T.m_list (by decide +kernel)) pa_nil))))))) pss_nil)
        (C8.pss_cut (ps_if (PW.pt (pw_and (pt_val (pe_callB (call_isinstK (K := K)) (by rfl) T.m_isinstance (by decide +kernel) (pa_cons (pv 1) (pa_cons (pe_bltn (v := .ty "tuple") (by rfl) T.m_tuple (by decide +kernel) rfl) pa_nil)))) (pw_and1 (pt_not (pt_val (pe_callB (call_isinstK (K := K)) (by rfl) T.m_isinstance (by decide +kernel) (pa_cons (pv 0) (pa_cons (pe_bltn (v := .ty "tuple") (by rfl) T.m_tuple (by decide +kernel) rfl) pa_nil)))))))) (pss_one (ps_ret pe_bl)) pss_nil)
        (C8.pss_cut (ps_if (PW.pt (pw_and (pt_val (pe_callB (call_isinstK (K := K)) (by rfl) T.m_isinstance (by decide +kernel) (pa_cons (pv 1) (pa_cons (pe_bltn (v := .ty "list") (by rfl) T.m_list (by decide +kernel) rfl) pa_nil)))) (pw_and1 (pt_not (pt_val (pe_callB (call_isinstK (K := K)) (by rfl) T.m_isinstance (by decide +kernel) (pa_cons (pv 0) (pa_cons (pe_bltn (v := .ty "list") (by rfl) T.m_list (by decide +kernel) rfl) pa_nil)))))))) (pss_one (ps_ret pe_bl)) pss_nil)
        (pss_cons (ps_if (pt_cmpR op_ne (pe_callB (call_lenK (K := K)) (by rfl) T.m_len PySem.boot_len (pa_cons (pv 0) pa_nil)) (pe_callB (call_lenK (K := K)) (by rfl) T.m_len PySem.boot_len (pa_cons (pv 1) pa_nil)) (nomark _)) (pss_one (ps_ret pe_bl)) pss_nil)
        (pss_cons (ps_for PassesOwn.never rfl (pi_range1 (by rfl) T.m_range (pa_cons (pe_callB (call_lenK (K := K)) (by rfl) T.m_len PySem.boot_len (pa_cons (pv 1) pa_nil)) pa_nil)) (pg_name (i := 2) sc__law_same.nd rfl (Or.inl rfl)) (pss_one (ps_if (pt_not (pt_val (pe_call G hr (by rfl) T.g__law_same T.k__law_same T.b__law_same .nil pass0 (pa_cons (pe_ix ix_seq (pv 0) (pv 2) (fun _ _ => rfl)) (pa_cons (pe_ix ix_seq (pv 1) (pv 2) (fun _ _ => rfl)) pa_nil))))) (pss_one (ps_ret pe_bl)) pss_nil)))
        (pss_one (ps_ret pe_bl)))))))))))), ?_⟩
    refine ⟨_, rfl, rfl, _, rfl, ite2 (fun e => ?_) (fun e => ?_)⟩
    · have e := of_decide_eq_true e
      subst e
      cases hS with
      | atom _ => exact ⟨_, rfl, rfl, q _ (.refl _)⟩
    refine ⟨_, rfl, _, rfl, _, rfl, ite2 (fun e => ?_) (fun e => ?_)⟩
    · have e := of_decide_eq_true e
      subst e
      cases hS with
      | atom _ => exact ⟨_, rfl, _, rfl, q _ (.refl _)⟩
    refine ⟨_, rfl, _, rfl, _, rfl, ite2 (fun e => ?_) (fun e => ?_)⟩
    · have e := of_decide_eq_true e
      subst e
      cases hS with
      | atom _ => exact ⟨_, rfl, _, rfl, q _ (.refl _)⟩
    rename_i hn ht
    have hS' : (x = y ∧ atomV x = true) ∨ (∃ (T : String) (a b : Addr) (xs ys : List V), x = .ref a ∧ y = .ref b ∧ (T = "list" ∧ SqL K H a xs ∧ SqL K H b ys ∨ T = "tuple" ∧ SqT K H a xs ∧ SqT K H b ys) ∧ xs.length = ys.length ∧ ys.length ≤ 100000 ∧ ∀ (i : Nat) x y, xs[i]? = some x → ys[i]? = some y → Sm K d H x y) ∨
        (∃ (e : Nat) (a b : Addr) (xs ys : List (Key × V)), d = e + 3 ∧ x = .ref a ∧ y = .ref b ∧ H a = some (.dK xs) ∧ H b = some (.dK ys) ∧ xs.length = ys.length ∧ ys.length ≤ 100000 ∧ (∀ (i : Nat) x y, xs[i]? = some x → ys[i]? = some y → x.1 = y.1) ∧
          ∀ (i : Nat) x y, xs[i]? = some x → ys[i]? = some y → Sm K (e + 1) H x.2 y.2) := by
      cases hS with
      | atom h => exact .inl ⟨rfl, h⟩
      | lst h1 h2 h3 h4 h5 => exact .inr (.inl ⟨"list", _, _, _, _, rfl, rfl, .inl ⟨rfl, h1, h2⟩, h3, h4, h5⟩)
      | tup h1 h2 h3 h4 h5 => exact .inr (.inl ⟨"tuple", _, _, _, _, rfl, rfl, .inr ⟨rfl, h1, h2⟩, h3, h4, h5⟩)
      | dic h1 h2 h3 h4 h5 h6 => exact .inr (.inr ⟨_, _, _, _, _, rfl, rfl, rfl, h1, h2, h3, h4, h5, h6⟩)
    rcases hS' with ⟨rfl, hx⟩ | ⟨t, a, b, xs, ys, rfl, rfl, hk, hl, hz, hi⟩ | ⟨c, a, b, xs, ys, rfl, rfl, rfl, h1, h2, hl, hz, hk, hi⟩
    · cases x with
      | non => exact absurd (decide_eq_true rfl) hn
      | bl b => cases b with
        | true => exact absurd (decide_eq_true rfl) ht
        | false => exact absurd (decide_eq_true rfl) e
      | int i =>
        refine ⟨_, rfl, _, _, _, _, true, rfl, .ty "int", .base (.int _), kit_ty (by decide +kernel), _, rfl, iteT ?_⟩
        refine ⟨_, rfl, _, _, _, _, true, rfl, .ty "int", .base (.int _), kit_ty (by decide +kernel), _, rfl, iteT ?_⟩
        refine ⟨_, rfl, _, _, _, _, false, rfl, .ty "bool", .base (.int _), kit_ty (by decide +kernel), _, rfl, _, rfl, iteT ?_⟩
        refine ⟨_, rfl, _, rfl, rfl, ?_⟩
        rw [decide_eq_true rfl]
        exact q _ (.refl _)
      | str i =>
        refine ⟨_, rfl, _, _, _, _, false, rfl, .ty "int", .base (.str _), kit_ty (by decide +kernel), _, rfl, iteF ?_⟩
        refine ⟨_, rfl, _, _, _, _, true, rfl, .ty "str", .base (.str _), kit_ty (by decide +kernel), _, rfl, iteT ?_⟩
        refine ⟨_, rfl, _, _, _, _, true, rfl, .ty "str", .base (.str _), kit_ty (by decide +kernel), _, rfl, iteT ?_⟩
        refine ⟨_, rfl, _, rfl, rfl, ?_⟩
        rw [decide_eq_true rfl]
        exact q _ (.refl _)
      | _ => cases hx
    · have tb : TyX K H (.ref b) (.type t) := by
        rcases hk with ⟨rfl, _, h⟩ | ⟨rfl, _, h⟩
        · exact tyx_l h
        · exact tyx_t h
      have ta : TyX K H (.ref a) (.type t) := by
        rcases hk with ⟨rfl, h, _⟩ | ⟨rfl, h, _⟩
        · exact tyx_l h
        · exact tyx_t h
      have tt : t = "list" ∨ t = "tuple" := hk.imp (fun h => h.1) (fun h => h.1)
      refine ⟨_, rfl, _, _, _, _, false, rfl, .ty "int", tb, kit_ty (by rcases tt with rfl | rfl <;> decide +kernel), _, rfl, iteF ?_⟩
      refine ⟨_, rfl, _, _, _, _, false, rfl, .ty "str", tb, kit_ty (by rcases tt with rfl | rfl <;> decide +kernel), _, rfl, iteF ?_⟩
      refine ⟨_, rfl, _, _, _, _, false, rfl, .ty "dict", tb, kit_ty (by rcases tt with rfl | rfl <;> decide +kernel), _, rfl, iteF ?_⟩
      refine ⟨fun σ' H' => σ' = [some (.ref a), some (.ref b), none] ∧ H = H', ?_, ?_⟩
      · rcases tt with rfl | rfl
        · refine ⟨_, rfl, _, _, _, _, false, rfl, .ty "tuple", tb, kit_ty (by decide +kernel), _, rfl, iteF (iteF ⟨rfl, rfl⟩)⟩
        · refine ⟨_, rfl, _, _, _, _, true, rfl, .ty "tuple", tb, kit_ty (by decide +kernel), _, rfl, iteT ?_⟩
          refine ⟨_, rfl, _, _, _, _, true, rfl, .ty "tuple", ta, kit_ty (by decide +kernel), _, rfl, iteF ⟨rfl, rfl⟩⟩
      rintro _ _ ⟨rfl, rfl⟩
      refine ⟨fun σ' H' => σ' = [some (.ref a), some (.ref b), none] ∧ H = H', ?_, ?_⟩
      · rcases tt with rfl | rfl
        · refine ⟨_, rfl, _, _, _, _, true, rfl, .ty "list", tb, kit_ty (by decide +kernel), _, rfl, iteT ?_⟩
          refine ⟨_, rfl, _, _, _, _, true, rfl, .ty "list", ta, kit_ty (by decide +kernel), _, rfl, iteF ⟨rfl, rfl⟩⟩
        · refine ⟨_, rfl, _, _, _, _, false, rfl, .ty "list", tb, kit_ty (by decide +kernel), _, rfl, iteF (iteF ⟨rfl, rfl⟩)⟩
      rintro _ _ ⟨rfl, rfl⟩
      have la : SqL K H a xs ∨ SqT K H a xs := hk.imp (fun h => h.2.1) (fun h => h.2.1)
      have lb : SqL K H b ys ∨ SqT K H b ys := hk.imp (fun h => h.2.2) (fun h => h.2.2)
      refine ⟨_, rfl, a, xs, rfl, la, _, rfl, b, ys, rfl, lb, rfl, _, rfl, ?_⟩
      rw [hl, decide_eq_true rfl]
      refine iteF ?_
      -- for k in range(len(due))
      refine ⟨_, rfl, b, ys, rfl, lb, (ys.length : Int), rfl, by omega, by omega, ?_⟩
      rw [Int.toNat_natCast]
      refine for_range (lo := 0) (n := ys.length) (fun _ σ' H' => (∃ o, σ' = [some (.ref a), some (.ref b), o]) ∧ Same H H') ⟨⟨none, rfl⟩, .refl _⟩ (fun i σ' H' hlt p => ?_) (fun σ' H' p => ?_)
      · obtain ⟨⟨o, rfl⟩, sm⟩ := p
        obtain ⟨u, hu⟩ : ∃ u, xs[i]? = some u := ⟨_, List.getElem?_eq_getElem (by omega)⟩
        obtain ⟨v, hv⟩ : ∃ v, ys[i]? = some v := ⟨_, List.getElem?_eq_getElem (by omega)⟩
        rw [Int.zero_add]
        have sa : ∀ Q : VK, Q u H' → rIx K (.ref a) (.int (i : Int)) H' Q := fun Q h => by
          rcases la with l | l
          · exact .inl ⟨a, xs, i, u, rfl, rfl, sm.seq l, atI_nat hu, h⟩
          · exact .inr (.inl ⟨a, xs, i, u, rfl, rfl, same_t sm l, atI_nat hu, h⟩)
        have sb : ∀ Q : VK, Q v H' → rIx K (.ref b) (.int (i : Int)) H' Q := fun Q h => by
          rcases lb with l | l
          · exact .inl ⟨b, ys, i, v, rfl, rfl, sm.seq l, atI_nat hv, h⟩
          · exact .inr (.inl ⟨b, ys, i, v, rfl, rfl, same_t sm l, atI_nat hv, h⟩)
        refine ⟨_, rfl, _, rfl, sa _ ⟨_, rfl, _, rfl, sb _ ⟨u, v, rfl, (hi i u v hu hv).same sm, fun H2 s2 => ⟨true, rfl, iteF ?_⟩⟩⟩⟩
        exact ⟨⟨_, rfl⟩, sm.trans s2⟩
      · obtain ⟨⟨o, rfl⟩, sm⟩ := p
        exact q _ sm
    · have tb : TyX K H (.ref b) (.type "dict") := .base (.dK h2)
      have ta : TyX K H (.ref a) (.type "dict") := .base (.dK h1)
      refine ⟨_, rfl, _, _, _, _, false, rfl, .ty "int", tb, kit_ty (by decide +kernel), _, rfl, iteF ?_⟩
      refine ⟨_, rfl, _, _, _, _, false, rfl, .ty "str", tb, kit_ty (by decide +kernel), _, rfl, iteF ?_⟩
      refine ⟨_, rfl, _, _, _, _, true, rfl, .ty "dict", tb, kit_ty (by decide +kernel), _, rfl, iteT ?_⟩
      refine ⟨_, rfl, _, _, _, _, true, rfl, .ty "dict", ta, kit_ty (by decide +kernel), _, rfl, iteT ?_⟩
      refine ⟨_, rfl, a, xs, rfl, h1, fun H2 p1 t1 s2 n1 nt1 np1 e1 pr1 => ?_⟩
      refine ⟨_, rfl, b, ys, rfl, s2 _ _ h2, fun H3 p2 t2 s3 n2 nt2 np2 e2 pr2 => ?_⟩
      have l1 : t1.length = xs.length := pr1.length
      have l2 : t2.length = ys.length := pr2.length
      refine ⟨_, _, rfl, .lst (SqL.of (s3 _ _ e1)) (SqL.of e2) (by rw [List.length_map, List.length_map]; omega) (by rw [List.length_map]; omega) (fun i u v hu hv => ?_), fun H4 s4 => q _ (Same.trans (Same.trans s2 s3) s4)⟩
      rw [List.getElem?_map] at hu hv
      obtain ⟨u1, hu1, rfl⟩ := Option.map_eq_some_iff.mp hu
      obtain ⟨v1, hv1, rfl⟩ := Option.map_eq_some_iff.mp hv
      obtain ⟨x1, hx1, r1⟩ := paired_get pr1 hu1
      obtain ⟨x2, hx2, r2⟩ := paired_get pr2 hv1
      refine .tup (SqT.of (s3 _ _ r1)) (SqT.of r2) rfl (by show 2 ≤ 100000; decide) (fun j y z hy hz => ?_)
      have e12 := hk i x1 x2 hx1 hx2
      match j with
      | 0 =>
        cases hy
        cases hz
        rw [e12]
        exact .atom (by cases x2.1 <;> rfl)
      | 1 =>
        cases hy
        cases hz
        exact (hi i x1 x2 hx1 hx2).same (Same.trans s2 s3)
      | j + 2 => cases hy
theorem T0.ok__law_same (T : T0 K mg) : ∀ d : Nat, FnOk P w K mg base CX0 d T.a__law_same T.fd__law_same ["actual", "due"] (sp__law_same d K)
  | 0 => fnok_never fun vs H Q E h => by
    obtain ⟨x, y, _, h, _⟩ := h
    cases h
  | d + 1 => T.ok__law_same_succ (T.ok__law_same d)
theorem T0.ok_OffCircle__init (T : T0 K mg) : FnOk P w K mg base CX0 1 T.a_OffCircle__init T.fd_OffCircle__init ["self", "place"] (sp_err1 "place" T.C_OffCircle) := by
  refine T.F_OffCircle__init.ok sc_OffCircle__init (fun vs H Q E h => ?_) (fun cdv A outer s H vs Q E hr h => ?_)
  · obtain ⟨a, v, rfl, _⟩ := h
    rfl
  · obtain ⟨a, v, rfl, ha, q⟩ := h
    refine ⟨_, (pss_one (ps_ost (pv 0) (pv 1))), ?_⟩
    exact ⟨_, rfl, _, rfl, a, _, rfl, T.ox_OffCircle, T.na_OffCircle_place, .inl ⟨ha, fun dx nd ne => q dx nd ne⟩⟩
theorem T0.ok_NoHouse__init (T : T0 K mg) : FnOk P w K mg base CX0 1 T.a_NoHouse__init T.fd_NoHouse__init ["self", "place"] (sp_err1 "place" T.C_NoHouse) := by
  refine T.F_NoHouse__init.ok sc_NoHouse__init (fun vs H Q E h => ?_) (fun cdv A outer s H vs Q E hr h => ?_)
  · obtain ⟨a, v, rfl, _⟩ := h
    rfl
  · obtain ⟨a, v, rfl, ha, q⟩ := h
    refine ⟨_, (pss_one (ps_ost (pv 0) (pv 1))), ?_⟩
    exact ⟨_, rfl, _, rfl, a, _, rfl, T.ox_NoHouse, T.na_NoHouse_place, .inl ⟨ha, fun dx nd ne => q dx nd ne⟩⟩
theorem T0.ok_TakenPlace__init (T : T0 K mg) : FnOk P w K mg base CX0 1 T.a_TakenPlace__init T.fd_TakenPlace__init ["self", "place"] (sp_err1 "place" T.C_TakenPlace) := by
  refine T.F_TakenPlace__init.ok sc_TakenPlace__init (fun vs H Q E h => ?_) (fun cdv A outer s H vs Q E hr h => ?_)
  · obtain ⟨a, v, rfl, _⟩ := h
    rfl
  · obtain ⟨a, v, rfl, ha, q⟩ := h
    refine ⟨_, (pss_one (ps_ost (pv 0) (pv 1))), ?_⟩
    exact ⟨_, rfl, _, rfl, a, _, rfl, T.ox_TakenPlace, T.na_TakenPlace_place, .inl ⟨ha, fun dx nd ne => q dx nd ne⟩⟩
theorem T0.ok_StillNamed__init (T : T0 K mg) : FnOk P w K mg base CX0 1 T.a_StillNamed__init T.fd_StillNamed__init ["self", "place"] (sp_err1 "place" T.C_StillNamed) := by
  refine T.F_StillNamed__init.ok sc_StillNamed__init (fun vs H Q E h => ?_) (fun cdv A outer s H vs Q E hr h => ?_)
  · obtain ⟨a, v, rfl, _⟩ := h
    rfl
  · obtain ⟨a, v, rfl, ha, q⟩ := h
    refine ⟨_, (pss_one (ps_ost (pv 0) (pv 1))), ?_⟩
    exact ⟨_, rfl, _, rfl, a, _, rfl, T.ox_StillNamed, T.na_StillNamed_place, .inl ⟨ha, fun dx nd ne => q dx nd ne⟩⟩
theorem T0.ok_NotBetween__init (T : T0 K mg) : FnOk P w K mg base CX0 1 T.a_NotBetween__init T.fd_NotBetween__init ["self", "place"] (sp_err1 "place" T.C_NotBetween) := by
  refine T.F_NotBetween__init.ok sc_NotBetween__init (fun vs H Q E h => ?_) (fun cdv A outer s H vs Q E hr h => ?_)
  · obtain ⟨a, v, rfl, _⟩ := h
    rfl
  · obtain ⟨a, v, rfl, ha, q⟩ := h
    refine ⟨_, (pss_one (ps_ost (pv 0) (pv 1))), ?_⟩
    exact ⟨_, rfl, _, rfl, a, _, rfl, T.ox_NotBetween, T.na_NotBetween_place, .inl ⟨ha, fun dx nd ne => q dx nd ne⟩⟩
theorem T0.ok_SamePiece__init (T : T0 K mg) : FnOk P w K mg base CX0 1 T.a_SamePiece__init T.fd_SamePiece__init ["self", "place"] (sp_err1 "place" T.C_SamePiece) := by
  refine T.F_SamePiece__init.ok sc_SamePiece__init (fun vs H Q E h => ?_) (fun cdv A outer s H vs Q E hr h => ?_)
  · obtain ⟨a, v, rfl, _⟩ := h
    rfl
  · obtain ⟨a, v, rfl, ha, q⟩ := h
    refine ⟨_, (pss_one (ps_ost (pv 0) (pv 1))), ?_⟩
    exact ⟨_, rfl, _, rfl, a, _, rfl, T.ox_SamePiece, T.na_SamePiece_place, .inl ⟨ha, fun dx nd ne => q dx nd ne⟩⟩
theorem T0.ok_NotQuiet__init (T : T0 K mg) : FnOk P w K mg base CX0 1 T.a_NotQuiet__init T.fd_NotQuiet__init ["self", "place"] (sp_err1 "place" T.C_NotQuiet) := by
  refine T.F_NotQuiet__init.ok sc_NotQuiet__init (fun vs H Q E h => ?_) (fun cdv A outer s H vs Q E hr h => ?_)
  · obtain ⟨a, v, rfl, _⟩ := h
    rfl
  · obtain ⟨a, v, rfl, ha, q⟩ := h
    refine ⟨_, (pss_one (ps_ost (pv 0) (pv 1))), ?_⟩
    exact ⟨_, rfl, _, rfl, a, _, rfl, T.ox_NotQuiet, T.na_NotQuiet_place, .inl ⟨ha, fun dx nd ne => q dx nd ne⟩⟩
theorem T0.ok_NotAtRest__init (T : T0 K mg) : FnOk P w K mg base CX0 1 T.a_NotAtRest__init T.fd_NotAtRest__init ["self", "place"] (sp_err1 "place" T.C_NotAtRest) := by
  refine T.F_NotAtRest__init.ok sc_NotAtRest__init (fun vs H Q E h => ?_) (fun cdv A outer s H vs Q E hr h => ?_)
  · obtain ⟨a, v, rfl, _⟩ := h
    rfl
  · obtain ⟨a, v, rfl, ha, q⟩ := h
    refine ⟨_, (pss_one (ps_ost (pv 0) (pv 1))), ?_⟩
    exact ⟨_, rfl, _, rfl, a, _, rfl, T.ox_NotAtRest, T.na_NotAtRest_place, .inl ⟨ha, fun dx nd ne => q dx nd ne⟩⟩
theorem T0.ok_Untold__init (T : T0 K mg) : FnOk P w K mg base CX0 1 T.a_Untold__init T.fd_Untold__init ["self", "place"] (sp_err1 "place" T.C_Untold) := by
  refine T.F_Untold__init.ok sc_Untold__init (fun vs H Q E h => ?_) (fun cdv A outer s H vs Q E hr h => ?_)
  · obtain ⟨a, v, rfl, _⟩ := h
    rfl
  · obtain ⟨a, v, rfl, ha, q⟩ := h
    refine ⟨_, (pss_one (ps_ost (pv 0) (pv 1))), ?_⟩
    exact ⟨_, rfl, _, rfl, a, _, rfl, T.ox_Untold, T.na_Untold_place, .inl ⟨ha, fun dx nd ne => q dx nd ne⟩⟩
theorem T0.ok_NoLetter__init (T : T0 K mg) : FnOk P w K mg base CX0 1 T.a_NoLetter__init T.fd_NoLetter__init ["self", "at"] (sp_err1 "at" T.C_NoLetter) := by
  refine T.F_NoLetter__init.ok sc_NoLetter__init (fun vs H Q E h => ?_) (fun cdv A outer s H vs Q E hr h => ?_)
  · obtain ⟨a, v, rfl, _⟩ := h
    rfl
  · obtain ⟨a, v, rfl, ha, q⟩ := h
    refine ⟨_, (pss_one (ps_ost (pv 0) (pv 1))), ?_⟩
    exact ⟨_, rfl, _, rfl, a, _, rfl, T.ox_NoLetter, T.na_NoLetter_at, .inl ⟨ha, fun dx nd ne => q dx nd ne⟩⟩
theorem T0.ok_BadText__init (T : T0 K mg) : FnOk P w K mg base CX0 1 T.a_BadText__init T.fd_BadText__init ["self", "line"] (sp_err1 "line" T.C_BadText) := by
  refine T.F_BadText__init.ok sc_BadText__init (fun vs H Q E h => ?_) (fun cdv A outer s H vs Q E hr h => ?_)
  · obtain ⟨a, v, rfl, _⟩ := h
    rfl
  · obtain ⟨a, v, rfl, ha, q⟩ := h
    refine ⟨_, (pss_one (ps_ost (pv 0) (pv 1))), ?_⟩
    exact ⟨_, rfl, _, rfl, a, _, rfl, T.ox_BadText, T.na_BadText_line, .inl ⟨ha, fun dx nd ne => q dx nd ne⟩⟩
theorem T0.ok_UntrueNet__init (T : T0 K mg) : FnOk P w K mg base CX0 1 T.a_UntrueNet__init T.fd_UntrueNet__init ["self", "saying"] (sp_err1 "saying" T.C_UntrueNet) := by
  refine T.F_UntrueNet__init.ok sc_UntrueNet__init (fun vs H Q E h => ?_) (fun cdv A outer s H vs Q E hr h => ?_)
  · obtain ⟨a, v, rfl, _⟩ := h
    rfl
  · obtain ⟨a, v, rfl, ha, q⟩ := h
    refine ⟨_, (pss_one (ps_ost (pv 0) (pv 1))), ?_⟩
    exact ⟨_, rfl, _, rfl, a, _, rfl, T.ox_UntrueNet, T.na_UntrueNet_saying, .inl ⟨ha, fun dx nd ne => q dx nd ne⟩⟩
theorem T0.ok_OpenWalk__init (T : T0 K mg) : FnOk P w K mg base CX0 1 T.a_OpenWalk__init T.fd_OpenWalk__init ["self", "first", "last"] (sp_err2 "first" "last" T.C_OpenWalk) := by
  refine T.F_OpenWalk__init.ok sc_OpenWalk__init (fun vs H Q E h => ?_) (fun cdv A outer s H vs Q E hr h => ?_)
  · obtain ⟨a, v, u, rfl, _⟩ := h
    rfl
  · obtain ⟨a, v, u, rfl, ha, q⟩ := h
    refine ⟨_, (pss_cons (ps_ost (pv 0) (pv 1))
        (pss_one (ps_ost (pv 0) (pv 2)))), ?_⟩
    exact ⟨_, rfl, _, rfl, a, _, rfl, T.ox_OpenWalk, T.na_OpenWalk_first, .inl ⟨ha, fun dx nd ne => ⟨_, rfl, _, rfl, a, _, rfl, T.ox_OpenWalk, T.na_OpenWalk_last, .inr ⟨dx, _, upd_same, (upd_ne ne).trans upd_same, by show 1 ≤ 900; decide, q dx nd ne⟩⟩⟩⟩
theorem T0.ok_WalksApart__init (T : T0 K mg) : FnOk P w K mg base CX0 1 T.a_WalksApart__init T.fd_WalksApart__init ["self", "end", "start"] (sp_err2 "end" "start" T.C_WalksApart) := by
  refine T.F_WalksApart__init.ok sc_WalksApart__init (fun vs H Q E h => ?_) (fun cdv A outer s H vs Q E hr h => ?_)
  · obtain ⟨a, v, u, rfl, _⟩ := h
    rfl
  · obtain ⟨a, v, u, rfl, ha, q⟩ := h
    refine ⟨_, (pss_cons (ps_ost (pv 0) (pv 1))
        (pss_one (ps_ost (pv 0) (pv 2)))), ?_⟩
    exact ⟨_, rfl, _, rfl, a, _, rfl, T.ox_WalksApart, T.na_WalksApart_end, .inl ⟨ha, fun dx nd ne => ⟨_, rfl, _, rfl, a, _, rfl, T.ox_WalksApart, T.na_WalksApart_start, .inr ⟨dx, _, upd_same, (upd_ne ne).trans upd_same, by show 1 ≤ 900; decide, q dx nd ne⟩⟩⟩⟩
theorem T0.ok_NoOrder__init (T : T0 K mg) : FnOk P w K mg base CX0 1 T.a_NoOrder__init T.fd_NoOrder__init ["self", "turns", "index"] (sp_err2 "turns" "index" T.C_NoOrder) := by
  refine T.F_NoOrder__init.ok sc_NoOrder__init (fun vs H Q E h => ?_) (fun cdv A outer s H vs Q E hr h => ?_)
  · obtain ⟨a, v, u, rfl, _⟩ := h
    rfl
  · obtain ⟨a, v, u, rfl, ha, q⟩ := h
    refine ⟨_, (pss_cons (ps_ost (pv 0) (pv 1))
        (pss_one (ps_ost (pv 0) (pv 2)))), ?_⟩
    exact ⟨_, rfl, _, rfl, a, _, rfl, T.ox_NoOrder, T.na_NoOrder_turns, .inl ⟨ha, fun dx nd ne => ⟨_, rfl, _, rfl, a, _, rfl, T.ox_NoOrder, T.na_NoOrder_index, .inr ⟨dx, _, upd_same, (upd_ne ne).trans upd_same, by show 1 ≤ 900; decide, q dx nd ne⟩⟩⟩⟩
theorem T0.ok_BadDeed__init (T : T0 K mg) : FnOk P w K mg base CX0 1 T.a_BadDeed__init T.fd_BadDeed__init ["self", "deed"] (sp_err1 "deed" T.C_BadDeed) := by
  refine T.F_BadDeed__init.ok sc_BadDeed__init (fun vs H Q E h => ?_) (fun cdv A outer s H vs Q E hr h => ?_)
  · obtain ⟨a, v, rfl, _⟩ := h
    rfl
  · obtain ⟨a, v, rfl, ha, q⟩ := h
    refine ⟨_, (pss_one (ps_ost (pv 0) (pv 1))), ?_⟩
    exact ⟨_, rfl, _, rfl, a, _, rfl, T.ox_BadDeed, T.na_BadDeed_deed, .inl ⟨ha, fun dx nd ne => q dx nd ne⟩⟩
/-! ### own errors as values: made, kept, asked -/
/-- at a stands an error of the class at D with the fields fs -/
def ErrO (H : Hp) (a D : Addr) (fs : List (Str × V)) : Prop := (∃ d, H a = some (exo a D (some d)) ∧ H d = some (exd d fs)) ∨ (fs = [] ∧ H a = some (ExO (.ref D) a))
theorem ErrO.same {H H' : Hp} {a D : Addr} {fs : List (Str × V)} (e : ErrO H a D fs) (s : Same H H') : ErrO H' a D fs := by
  rcases e with ⟨d, e1, e2⟩ | ⟨e1, e2⟩
  · exact .inl ⟨d, s _ _ e1, s _ _ e2⟩
  · exact .inr ⟨e1, s _ _ e2⟩
theorem ErrO.inst {X : Cx} {pins : List (Addr × Obj)} {σ : L2.St} {s : Shared} {H : Hp} {a D : Addr} {fs : List (Str × V)} (e : ErrO H a D fs) (inv : Inv X pins σ H s) : ∃ ox od, PySem.W.InstAt s.heap a ox D od := by
  rcases e with ⟨d, e1, e2⟩ | ⟨rfl, e2⟩
  · obtain ⟨t1, ho⟩ := exo_at inv.hok e1
    obtain ⟨mA, hns, _⟩ := exd_at inv.hok e2
    obtain ⟨od, hd, _⟩ := lookIn_ns hns
    exact ⟨_, some od, ho, rfl, rfl, hd⟩
  · obtain ⟨⟨oe, vs, ho, hz, hd, _⟩, _, _⟩ := inv.hok a _ e2
    refine ⟨oe, none, ho, hz.1, by unfold PySem.W.notCls; rw [hd] <;> rfl, ?_⟩
    rw [hz.2]
    trivial
def rIsX (K : PySem.W.Frag) : List V → Hp → VK → Prop := fun xs H Q => ∃ (a : Addr) (c : V) (cv : Value) (b : Bool) (D : Addr) (fs : List (Str × V)), xs = [.ref a, c] ∧ (∀ u, RelV c u → u = cv) ∧ ErrC K D ∧ ErrO H a D fs ∧ PySem.W.kitOne K (.ref D) cv = some b ∧ Q (.bl b) H
theorem call_isX {X : Cx} {K : PySem.W.Frag} (hK : X.K = K := by rfl) : CallR X (.builtin "isinstance") (rIsX K) := by
  subst hK
  intro pins s σ H xs us Q inv rels wish
  obtain ⟨a, c, cv, b, D, fs, rfl, one, C, e, kit, q⟩ := wish
  cases rels with
  | cons r0 rr =>
    cases rr with
    | cons r1 rr =>
      cases rr
      cases r0
      cases one _ r1
      obtain ⟨ox, od, J⟩ := e.inst inv
      exact PySem.W.kia_one (PySem.W.kitx_exc C.cl C.ga C.gg C.ex C.ca C.cn C.ct C.mo) inv.kIn J kit (fun z => nomatch z) fun tk => ⟨.bl b, H, inv.kept (t' := tk) fun _ _ z => z, rfl, q⟩
/-- e.f, e an error -/
def tXx (K : PySem.W.Frag) (n : Str) (te : TE) : TE := fun σ H Q => te σ H fun x H1 => ∃ (a D d : Addr) (fs : List (Str × V)) (v : V), x = .ref a ∧ ErrC K D ∧ PySem.W.findIn K (.ref D) n = some none ∧ H1 a = some (exo a D (some d)) ∧ H1 d = some (exd d fs) ∧ fs.lookup n = some v ∧ Q v H1
theorem pe_xx {X : Cx} {ex : Expr} {te : TE} {pos : Pos} {n : Str} (he : PE X ex te) (hb : attributeBase ex n X.env (eval ex X.env) = eval ex X.env := by rfl) : PE X (.Attribute ex n pos) (tXx X.K n te) := by
  refine ⟨fun pins s σ H Q inv wish => attr_of hb (thn (he.run pins s σ H _ inv wish) fun u s1 post => ?_)⟩
  obtain ⟨x, H1, inv1, rx, a, D, d, fs, v, rfl, C, no, e1, e2, l, q⟩ := post
  obtain rfl : u = Value.ref a := rx
  obtain ⟨t1, ho⟩ := exo_at inv1.hok e1
  obtain ⟨mA, hns, hr⟩ := exd_at inv1.hok e2
  obtain ⟨od, hd, hl⟩ := lookIn_ns hns
  obtain ⟨z, hz, rz⟩ := RelO.some_of (v := v) (o := mA n) (by rw [← l]; exact hr n)
  exact HandSPX.exc_get (od := some od) inv1.kIn ⟨ho, rfl, rfl, hd⟩ C.ga C.gg C.ex (PySem.W.findObj_own C.hd no rfl (by rw [hl, hz])) (handed_of rz) ⟨v, H1, inv1.tok _, rz, q⟩
/-- C(e, ..) as a value -/
def tMkE (C : Addr) (sp : Sp) (ta : TA) : TE := fun σ H Q => ta σ H fun vs H1 => vs.length ≤ 1000 ∧ ∀ a, H1 a = none → sp (.ref a :: vs) (upd H1 a (exo a C none)) (fun v H2 => v = .non ∧ Q (.ref a) H2) (fun _ _ _ => False)
theorem pe_mkE {X : Cx} {CX : CXT} {x : Str} {u0 : Expr} {ur : List Expr} {ta : TA} {q0 q1 : Pos} {C ini : Addr} {lv : Nat} {fd : FuncData} {pn : List Str} {sp : Sp} (cl : OexC X.K C) (hin : PySem.W.findIn X.K (.ref C) "__init__" = some (some (.ref ini))) (ity : PySem.W.typeIn X.K (.ref ini) = some (.type "function"))
    (fn : FnOk X.prog X.w X.K X.mg X.base CX lv ini fd pn sp) (room : Room (lv + 1) X.A) (bi : Binds X.K fd pn []) (pass : Passes CX X (fun _ _ _ => False)) (gl : Gl X x) (mx : X.mg x = some (.ref C)) (har : PA X (u0 :: ur) ta)
    (nd0 : (x == ("__debug__" : Str)) = false := by decide) (st : starEach (u0 :: ur) X.env = (false, eval u0 X.env) :: starEach ur X.env := by rfl) (nokw : (backTo q1 (starEach ur X.env)).any (·.1) = false := by rfl) :
    PE X (.Call (.Name x q0) (u0 :: ur) [] q1) (tMkE C sp ta) := by
  refine ⟨fun pins s σ H Q inv wish => ?_⟩
  obtain ⟨_, _, _, _, bm, _, _, _, _, _, _, _, _, _, _, hC, hbm⟩ := cl.cls
  refine wpAny_Call_Name_kw (ld_glob inv gl mx ?_ nd0)
  refine PySem.W.callWith_K (h₀ := X.base) inv.ok.mod.kin cl.kC (thn (har.run q1 pins s σ H _ inv wish) fun us s1 ⟨ys, H1, inv1, rels, hz, wish1⟩ => ⟨inv1.kIn, ?_⟩) st nokw
  show wpAny _ _ (call (.ref C) us) _ _ _
  obtain ⟨hp, gs, dr, tk, os⟩ := s1
  have big : hp.objs.size ≤ hp.objs.size + 1 := Nat.le_succ _
  have wish2 := wish1 (hp.objs.size + 1) (inv1.hok.fresh big)
  have keep : ∀ b o, hp.get? b = some o → ((hp.push (PySem.W.kdv_tup us)).push (PySem.HandSPX.excO C hp.objs.size)).get? b = some o := fun b o e => Heap.get?_push_of_some _ (Heap.get?_push_of_some _ e)
  have there : ((hp.push (PySem.W.kdv_tup us)).push (PySem.HandSPX.excO C hp.objs.size)).get? (hp.objs.size + 1) = some (PySem.HandSPX.excO C hp.objs.size) := by heap_get
  have inv2 : Inv X pins σ (upd H1 (hp.objs.size + 1) (exo (hp.objs.size + 1) C none)) ⟨(hp.push (PySem.W.kdv_tup us)).push (PySem.HandSPX.excO C hp.objs.size), gs, dr, tk, os⟩ :=
    inv1.laid (t' := tk) (a := hp.objs.size + 1) (o := exo (hp.objs.size + 1) C none) (h' := (hp.push (PySem.W.kdv_tup us)).push (PySem.HandSPX.excO C hp.objs.size)) keep big (exo_ok there)
  have rels2 : Vals (V.ref (hp.objs.size + 1) :: ys) (Value.ref (hp.objs.size + 1) :: us) := .cons rfl rels
  have ln : (Value.ref (hp.objs.size + 1) :: us ++ []).length = pn.length := by
    have e := rels2.length
    rw [fn.len _ _ _ _ wish2] at e
    rw [List.append_nil]
    exact e.symm
  have few : us.length ≤ sizeLine := by
    rw [← Paired.length rels, sizeLine_eq]
    omega
  have bnd := bi _ (Value.ref (hp.objs.size + 1) :: us) inv2.kIn ln
  rw [List.append_nil] at bnd
  refine wpAny_call (PySem.HandSPX.call_own F.excBase_ValueError (fun Y => PySem.HandSPX.refsVE_contains Y bm hbm) (inv1.kIn _ _ hC) (PySem.W.looks_findIn inv1.kIn hin) (fun me => PySem.W.bind_fn inv1.kIn me ity) few
    (codeAny_mono (fn.run _ X.stack _ _ ⟨Value.ref (hp.objs.size + 1) :: us, []⟩ (Value.ref (hp.objs.size + 1) :: us) _ _ (fun _ _ _ => False) (room.make C us []) (inv2.env0.make C us []) bnd rels2 wish2) fun r s' post => ?_))
  cases r with
  | error er => exact pass pins σ _ _ er s' inv2 post
  | ok fl =>
    cases fl with
    | ret u =>
      obtain ⟨v, H', J, rv, ev, q⟩ := inv2.after post
      subst ev
      exact ⟨rv, .ref (hp.objs.size + 1), H', J, rfl, q⟩
    | next => exact False.elim post
    | brk => exact False.elim post
    | cont => exact False.elim post
/-- C(), a class without own __init__ -/
theorem pe_mkE0 {X : Cx} {C : Addr} {bmB : List Value} {B newId initId : String} {x : Str} {p pos : Pos} (F : ExcBaseFacts B newId initId bmB) (q : PySem.W.excIn X.K C bmB newId = true) (gC : X.mg x = some (.ref C)) (kC : PySem.W.keepIn X.K (.ref C) = true) (hg : Gl X x) (hdb : (x == ("__debug__" : Str)) = false := by decide) :
    PE X (.Call (.Name x p) [] [] pos) (fun σ H Q => ∀ a, H a = none → Q (.ref a) (upd H a (ExO (.ref C) a))) := by
  refine ⟨fun pins s σ H Q inv wish => ?_⟩
  refine wpAny_Call_Name_kw (ld_glob inv hg gC ?_ hdb)
  refine PySem.W.callWith_K0 inv.kIn kC ?_
  obtain ⟨bm, N, nm, qn, bs, hdct, sn, sub, ab, col, dd, k0, k1, k2, k3, k5, mN, hC, hN, hni, T⟩ := exc_obj inv.kIn q
  refine wpAny_call_exc_subT F T hC hN hni (fun h' a hm => ?_) (by show 0 ≤ sizeLine; exact Nat.zero_le _)
  have hn : H a = none := inv.hok.gone hm.new
  obtain ⟨t, ht, _, _⟩ := hm.there
  exact ⟨.ref a, upd H a (ExO (.ref C) a), inv.laidN hm.keeps hm.new hn (exO_ok ht ⟨rfl, rfl⟩ rfl rfl rfl (show 4 < 6 by decide)), rfl, wish a hn⟩
theorem mk1 {C a d : Addr} {f : Str} {H : Hp} {v : V} (na : H a = none) (nd : upd H a (exo a C none) d = none) (ne : d ≠ a) : Same H (upd (upd (upd H a (exo a C none)) d (exd d [(f, v)])) a (exo a C (some d))) ∧ ErrO (upd (upd (upd H a (exo a C none)) d (exd d [(f, v)])) a (exo a C (some d))) a C [(f, v)] := by
  have nda : H d = none := by rw [upd_ne ne] at nd; exact nd
  refine ⟨fun b o e => ?_, .inl ⟨d, upd_same, (upd_ne ne).trans upd_same⟩⟩
  rw [upd_ne (ne_of_none e na), upd_ne (ne_of_none e nda), upd_ne (ne_of_none e na)]
  exact e
theorem mk2 {C a d : Addr} {f g : Str} {H : Hp} {v u : V} (na : H a = none) (nd : upd H a (exo a C none) d = none) (ne : d ≠ a) : Same H (upd (upd (upd (upd H a (exo a C none)) d (exd d [(f, v)])) a (exo a C (some d))) d (exd d [(g, u), (f, v)])) ∧ ErrO (upd (upd (upd (upd H a (exo a C none)) d (exd d [(f, v)])) a (exo a C (some d))) d (exd d [(g, u), (f, v)])) a C [(g, u), (f, v)] := by
  have nda : H d = none := by rw [upd_ne ne] at nd; exact nd
  refine ⟨fun b o e => ?_, .inl ⟨d, (upd_ne ne.symm).trans upd_same, upd_same⟩⟩
  rw [upd_ne (ne_of_none e nda), upd_ne (ne_of_none e na), upd_ne (ne_of_none e nda), upd_ne (ne_of_none e na)]
  exact e
--CUT
theorem none_back0 {H H1 : Hp} {p : Addr} (s : Same H H1) (h : H1 p = none) : H p = none := by
  cases e : H p with
  | none => rfl
  | some o => rw [s _ _ e] at h; cases h
theorem ne_kind' {H : Hp} {a b : Addr} {o u : HO} (h : H a = some o) (g : H b = some u) (e : o ≠ u) : a ≠ b := fun z => by
  rw [z, g] at h
  exact e (Option.some.inj h).symm
theorem tape_at {H : Hp} {t c : Addr} (h : Tape H t c) : (∃ xs, H t = some (.lst xs)) ∧ ∃ xs, H c = some (.lst xs) := by
  obtain ⟨_, _, _, _, _, e1, e2, _⟩ := h
  exact ⟨⟨_, e1⟩, ⟨_, e2⟩⟩
def T0.clA (T : T0 K mg) : Nat → Addr
  | 0 => T.C_OffCircle
  | 1 => T.C_NoHouse
  | 2 => T.C_TakenPlace
  | 3 => T.C_StillNamed
  | 4 => T.C_NotBetween
  | 5 => T.C_SamePiece
  | 6 => T.C_NotQuiet
  | 7 => T.C_NotAtRest
  | 8 => T.C_Untold
  | 9 => T.C_NoLetter
  | 10 => T.C_BadText
  | 11 => T.C_UntrueNet
  | 12 => T.C_OpenWalk
  | 13 => T.C_WalksApart
  | 14 => T.C_NoOrder
  | 15 => T.C_BadDeed
  | 16 => T.C_NothingToUndo
  | 17 => T.C_NothingToRedo
  | _ => T.C_OffCircle
theorem T0.kiA0 (T : T0 K mg) : ∀ j : Nat, j < 18 → PySem.W.kitOne K (.ref T.C_OffCircle) (.ref (T.clA j)) = some (decide (j = 0))
  | 0, _ => T.ki_OffCircle_OffCircle
  | 1, _ => T.ki_OffCircle_NoHouse
  | 2, _ => T.ki_OffCircle_TakenPlace
  | 3, _ => T.ki_OffCircle_StillNamed
  | 4, _ => T.ki_OffCircle_NotBetween
  | 5, _ => T.ki_OffCircle_SamePiece
  | 6, _ => T.ki_OffCircle_NotQuiet
  | 7, _ => T.ki_OffCircle_NotAtRest
  | 8, _ => T.ki_OffCircle_Untold
  | 9, _ => T.ki_OffCircle_NoLetter
  | 10, _ => T.ki_OffCircle_BadText
  | 11, _ => T.ki_OffCircle_UntrueNet
  | 12, _ => T.ki_OffCircle_OpenWalk
  | 13, _ => T.ki_OffCircle_WalksApart
  | 14, _ => T.ki_OffCircle_NoOrder
  | 15, _ => T.ki_OffCircle_BadDeed
  | 16, _ => T.ki_OffCircle_NothingToUndo
  | 17, _ => T.ki_OffCircle_NothingToRedo
  | j + 18, h => absurd h (by omega)
theorem T0.kiA1 (T : T0 K mg) : ∀ j : Nat, j < 18 → PySem.W.kitOne K (.ref T.C_NoHouse) (.ref (T.clA j)) = some (decide (j = 1))
  | 0, _ => T.ki_NoHouse_OffCircle
  | 1, _ => T.ki_NoHouse_NoHouse
  | 2, _ => T.ki_NoHouse_TakenPlace
  | 3, _ => T.ki_NoHouse_StillNamed
  | 4, _ => T.ki_NoHouse_NotBetween
  | 5, _ => T.ki_NoHouse_SamePiece
  | 6, _ => T.ki_NoHouse_NotQuiet
  | 7, _ => T.ki_NoHouse_NotAtRest
  | 8, _ => T.ki_NoHouse_Untold
  | 9, _ => T.ki_NoHouse_NoLetter
  | 10, _ => T.ki_NoHouse_BadText
  | 11, _ => T.ki_NoHouse_UntrueNet
  | 12, _ => T.ki_NoHouse_OpenWalk
  | 13, _ => T.ki_NoHouse_WalksApart
  | 14, _ => T.ki_NoHouse_NoOrder
  | 15, _ => T.ki_NoHouse_BadDeed
  | 16, _ => T.ki_NoHouse_NothingToUndo
  | 17, _ => T.ki_NoHouse_NothingToRedo
  | j + 18, h => absurd h (by omega)
theorem T0.kiA2 (T : T0 K mg) : ∀ j : Nat, j < 18 → PySem.W.kitOne K (.ref T.C_TakenPlace) (.ref (T.clA j)) = some (decide (j = 2))
  | 0, _ => T.ki_TakenPlace_OffCircle
  | 1, _ => T.ki_TakenPlace_NoHouse
  | 2, _ => T.ki_TakenPlace_TakenPlace
  | 3, _ => T.ki_TakenPlace_StillNamed
  | 4, _ => T.ki_TakenPlace_NotBetween
  | 5, _ => T.ki_TakenPlace_SamePiece
  | 6, _ => T.ki_TakenPlace_NotQuiet
  | 7, _ => T.ki_TakenPlace_NotAtRest
  | 8, _ => T.ki_TakenPlace_Untold
  | 9, _ => T.ki_TakenPlace_NoLetter
  | 10, _ => T.ki_TakenPlace_BadText
  | 11, _ => T.ki_TakenPlace_UntrueNet
  | 12, _ => T.ki_TakenPlace_OpenWalk
  | 13, _ => T.ki_TakenPlace_WalksApart
  | 14, _ => T.ki_TakenPlace_NoOrder
  | 15, _ => T.ki_TakenPlace_BadDeed
  | 16, _ => T.ki_TakenPlace_NothingToUndo
  | 17, _ => T.ki_TakenPlace_NothingToRedo
  | j + 18, h => absurd h (by omega)
theorem T0.kiA3 (T : T0 K mg) : ∀ j : Nat, j < 18 → PySem.W.kitOne K (.ref T.C_StillNamed) (.ref (T.clA j)) = some (decide (j = 3))
  | 0, _ => T.ki_StillNamed_OffCircle
  | 1, _ => T.ki_StillNamed_NoHouse
  | 2, _ => T.ki_StillNamed_TakenPlace
  | 3, _ => T.ki_StillNamed_StillNamed
  | 4, _ => T.ki_StillNamed_NotBetween
  | 5, _ => T.ki_StillNamed_SamePiece
  | 6, _ => T.ki_StillNamed_NotQuiet
  | 7, _ => T.ki_StillNamed_NotAtRest
  | 8, _ => T.ki_StillNamed_Untold
  | 9, _ => T.ki_StillNamed_NoLetter
  | 10, _ => T.ki_StillNamed_BadText
  | 11, _ => T.ki_StillNamed_UntrueNet
  | 12, _ => T.ki_StillNamed_OpenWalk
  | 13, _ => T.ki_StillNamed_WalksApart
  | 14, _ => T.ki_StillNamed_NoOrder
  | 15, _ => T.ki_StillNamed_BadDeed
  | 16, _ => T.ki_StillNamed_NothingToUndo
  | 17, _ => T.ki_StillNamed_NothingToRedo
  | j + 18, h => absurd h (by omega)
theorem T0.kiA4 (T : T0 K mg) : ∀ j : Nat, j < 18 → PySem.W.kitOne K (.ref T.C_NotBetween) (.ref (T.clA j)) = some (decide (j = 4))
  | 0, _ => T.ki_NotBetween_OffCircle
  | 1, _ => T.ki_NotBetween_NoHouse
  | 2, _ => T.ki_NotBetween_TakenPlace
  | 3, _ => T.ki_NotBetween_StillNamed
  | 4, _ => T.ki_NotBetween_NotBetween
  | 5, _ => T.ki_NotBetween_SamePiece
  | 6, _ => T.ki_NotBetween_NotQuiet
  | 7, _ => T.ki_NotBetween_NotAtRest
  | 8, _ => T.ki_NotBetween_Untold
  | 9, _ => T.ki_NotBetween_NoLetter
  | 10, _ => T.ki_NotBetween_BadText
  | 11, _ => T.ki_NotBetween_UntrueNet
  | 12, _ => T.ki_NotBetween_OpenWalk
  | 13, _ => T.ki_NotBetween_WalksApart
  | 14, _ => T.ki_NotBetween_NoOrder
  | 15, _ => T.ki_NotBetween_BadDeed
  | 16, _ => T.ki_NotBetween_NothingToUndo
  | 17, _ => T.ki_NotBetween_NothingToRedo
  | j + 18, h => absurd h (by omega)
theorem T0.kiA5 (T : T0 K mg) : ∀ j : Nat, j < 18 → PySem.W.kitOne K (.ref T.C_SamePiece) (.ref (T.clA j)) = some (decide (j = 5))
  | 0, _ => T.ki_SamePiece_OffCircle
  | 1, _ => T.ki_SamePiece_NoHouse
  | 2, _ => T.ki_SamePiece_TakenPlace
  | 3, _ => T.ki_SamePiece_StillNamed
  | 4, _ => T.ki_SamePiece_NotBetween
  | 5, _ => T.ki_SamePiece_SamePiece
  | 6, _ => T.ki_SamePiece_NotQuiet
  | 7, _ => T.ki_SamePiece_NotAtRest
  | 8, _ => T.ki_SamePiece_Untold
  | 9, _ => T.ki_SamePiece_NoLetter
  | 10, _ => T.ki_SamePiece_BadText
  | 11, _ => T.ki_SamePiece_UntrueNet
  | 12, _ => T.ki_SamePiece_OpenWalk
  | 13, _ => T.ki_SamePiece_WalksApart
  | 14, _ => T.ki_SamePiece_NoOrder
  | 15, _ => T.ki_SamePiece_BadDeed
  | 16, _ => T.ki_SamePiece_NothingToUndo
  | 17, _ => T.ki_SamePiece_NothingToRedo
  | j + 18, h => absurd h (by omega)
theorem T0.kiA6 (T : T0 K mg) : ∀ j : Nat, j < 18 → PySem.W.kitOne K (.ref T.C_NotQuiet) (.ref (T.clA j)) = some (decide (j = 6))
  | 0, _ => T.ki_NotQuiet_OffCircle
  | 1, _ => T.ki_NotQuiet_NoHouse
  | 2, _ => T.ki_NotQuiet_TakenPlace
  | 3, _ => T.ki_NotQuiet_StillNamed
  | 4, _ => T.ki_NotQuiet_NotBetween
  | 5, _ => T.ki_NotQuiet_SamePiece
  | 6, _ => T.ki_NotQuiet_NotQuiet
  | 7, _ => T.ki_NotQuiet_NotAtRest
  | 8, _ => T.ki_NotQuiet_Untold
  | 9, _ => T.ki_NotQuiet_NoLetter
  | 10, _ => T.ki_NotQuiet_BadText
  | 11, _ => T.ki_NotQuiet_UntrueNet
  | 12, _ => T.ki_NotQuiet_OpenWalk
  | 13, _ => T.ki_NotQuiet_WalksApart
  | 14, _ => T.ki_NotQuiet_NoOrder
  | 15, _ => T.ki_NotQuiet_BadDeed
  | 16, _ => T.ki_NotQuiet_NothingToUndo
  | 17, _ => T.ki_NotQuiet_NothingToRedo
  | j + 18, h => absurd h (by omega)
theorem T0.kiA7 (T : T0 K mg) : ∀ j : Nat, j < 18 → PySem.W.kitOne K (.ref T.C_NotAtRest) (.ref (T.clA j)) = some (decide (j = 7))
  | 0, _ => T.ki_NotAtRest_OffCircle
  | 1, _ => T.ki_NotAtRest_NoHouse
  | 2, _ => T.ki_NotAtRest_TakenPlace
  | 3, _ => T.ki_NotAtRest_StillNamed
  | 4, _ => T.ki_NotAtRest_NotBetween
  | 5, _ => T.ki_NotAtRest_SamePiece
  | 6, _ => T.ki_NotAtRest_NotQuiet
  | 7, _ => T.ki_NotAtRest_NotAtRest
  | 8, _ => T.ki_NotAtRest_Untold
  | 9, _ => T.ki_NotAtRest_NoLetter
  | 10, _ => T.ki_NotAtRest_BadText
  | 11, _ => T.ki_NotAtRest_UntrueNet
  | 12, _ => T.ki_NotAtRest_OpenWalk
  | 13, _ => T.ki_NotAtRest_WalksApart
  | 14, _ => T.ki_NotAtRest_NoOrder
  | 15, _ => T.ki_NotAtRest_BadDeed
  | 16, _ => T.ki_NotAtRest_NothingToUndo
  | 17, _ => T.ki_NotAtRest_NothingToRedo
  | j + 18, h => absurd h (by omega)
theorem T0.kiA8 (T : T0 K mg) : ∀ j : Nat, j < 18 → PySem.W.kitOne K (.ref T.C_Untold) (.ref (T.clA j)) = some (decide (j = 8))
  | 0, _ => T.ki_Untold_OffCircle
  | 1, _ => T.ki_Untold_NoHouse
  | 2, _ => T.ki_Untold_TakenPlace
  | 3, _ => T.ki_Untold_StillNamed
  | 4, _ => T.ki_Untold_NotBetween
  | 5, _ => T.ki_Untold_SamePiece
  | 6, _ => T.ki_Untold_NotQuiet
  | 7, _ => T.ki_Untold_NotAtRest
  | 8, _ => T.ki_Untold_Untold
  | 9, _ => T.ki_Untold_NoLetter
  | 10, _ => T.ki_Untold_BadText
  | 11, _ => T.ki_Untold_UntrueNet
  | 12, _ => T.ki_Untold_OpenWalk
  | 13, _ => T.ki_Untold_WalksApart
  | 14, _ => T.ki_Untold_NoOrder
  | 15, _ => T.ki_Untold_BadDeed
  | 16, _ => T.ki_Untold_NothingToUndo
  | 17, _ => T.ki_Untold_NothingToRedo
  | j + 18, h => absurd h (by omega)
theorem T0.kiA9 (T : T0 K mg) : ∀ j : Nat, j < 18 → PySem.W.kitOne K (.ref T.C_NoLetter) (.ref (T.clA j)) = some (decide (j = 9))
  | 0, _ => T.ki_NoLetter_OffCircle
  | 1, _ => T.ki_NoLetter_NoHouse
  | 2, _ => T.ki_NoLetter_TakenPlace
  | 3, _ => T.ki_NoLetter_StillNamed
  | 4, _ => T.ki_NoLetter_NotBetween
  | 5, _ => T.ki_NoLetter_SamePiece
  | 6, _ => T.ki_NoLetter_NotQuiet
  | 7, _ => T.ki_NoLetter_NotAtRest
  | 8, _ => T.ki_NoLetter_Untold
  | 9, _ => T.ki_NoLetter_NoLetter
  | 10, _ => T.ki_NoLetter_BadText
  | 11, _ => T.ki_NoLetter_UntrueNet
  | 12, _ => T.ki_NoLetter_OpenWalk
  | 13, _ => T.ki_NoLetter_WalksApart
  | 14, _ => T.ki_NoLetter_NoOrder
  | 15, _ => T.ki_NoLetter_BadDeed
  | 16, _ => T.ki_NoLetter_NothingToUndo
  | 17, _ => T.ki_NoLetter_NothingToRedo
  | j + 18, h => absurd h (by omega)
theorem T0.kiA10 (T : T0 K mg) : ∀ j : Nat, j < 18 → PySem.W.kitOne K (.ref T.C_BadText) (.ref (T.clA j)) = some (decide (j = 10))
  | 0, _ => T.ki_BadText_OffCircle
  | 1, _ => T.ki_BadText_NoHouse
  | 2, _ => T.ki_BadText_TakenPlace
  | 3, _ => T.ki_BadText_StillNamed
  | 4, _ => T.ki_BadText_NotBetween
  | 5, _ => T.ki_BadText_SamePiece
  | 6, _ => T.ki_BadText_NotQuiet
  | 7, _ => T.ki_BadText_NotAtRest
  | 8, _ => T.ki_BadText_Untold
  | 9, _ => T.ki_BadText_NoLetter
  | 10, _ => T.ki_BadText_BadText
  | 11, _ => T.ki_BadText_UntrueNet
  | 12, _ => T.ki_BadText_OpenWalk
  | 13, _ => T.ki_BadText_WalksApart
  | 14, _ => T.ki_BadText_NoOrder
  | 15, _ => T.ki_BadText_BadDeed
  | 16, _ => T.ki_BadText_NothingToUndo
  | 17, _ => T.ki_BadText_NothingToRedo
  | j + 18, h => absurd h (by omega)
theorem T0.kiA11 (T : T0 K mg) : ∀ j : Nat, j < 18 → PySem.W.kitOne K (.ref T.C_UntrueNet) (.ref (T.clA j)) = some (decide (j = 11))
  | 0, _ => T.ki_UntrueNet_OffCircle
  | 1, _ => T.ki_UntrueNet_NoHouse
  | 2, _ => T.ki_UntrueNet_TakenPlace
  | 3, _ => T.ki_UntrueNet_StillNamed
  | 4, _ => T.ki_UntrueNet_NotBetween
  | 5, _ => T.ki_UntrueNet_SamePiece
  | 6, _ => T.ki_UntrueNet_NotQuiet
  | 7, _ => T.ki_UntrueNet_NotAtRest
  | 8, _ => T.ki_UntrueNet_Untold
  | 9, _ => T.ki_UntrueNet_NoLetter
  | 10, _ => T.ki_UntrueNet_BadText
  | 11, _ => T.ki_UntrueNet_UntrueNet
  | 12, _ => T.ki_UntrueNet_OpenWalk
  | 13, _ => T.ki_UntrueNet_WalksApart
  | 14, _ => T.ki_UntrueNet_NoOrder
  | 15, _ => T.ki_UntrueNet_BadDeed
  | 16, _ => T.ki_UntrueNet_NothingToUndo
  | 17, _ => T.ki_UntrueNet_NothingToRedo
  | j + 18, h => absurd h (by omega)
theorem T0.kiA12 (T : T0 K mg) : ∀ j : Nat, j < 18 → PySem.W.kitOne K (.ref T.C_OpenWalk) (.ref (T.clA j)) = some (decide (j = 12))
  | 0, _ => T.ki_OpenWalk_OffCircle
  | 1, _ => T.ki_OpenWalk_NoHouse
  | 2, _ => T.ki_OpenWalk_TakenPlace
  | 3, _ => T.ki_OpenWalk_StillNamed
  | 4, _ => T.ki_OpenWalk_NotBetween
  | 5, _ => T.ki_OpenWalk_SamePiece
  | 6, _ => T.ki_OpenWalk_NotQuiet
  | 7, _ => T.ki_OpenWalk_NotAtRest
  | 8, _ => T.ki_OpenWalk_Untold
  | 9, _ => T.ki_OpenWalk_NoLetter
  | 10, _ => T.ki_OpenWalk_BadText
  | 11, _ => T.ki_OpenWalk_UntrueNet
  | 12, _ => T.ki_OpenWalk_OpenWalk
  | 13, _ => T.ki_OpenWalk_WalksApart
  | 14, _ => T.ki_OpenWalk_NoOrder
  | 15, _ => T.ki_OpenWalk_BadDeed
  | 16, _ => T.ki_OpenWalk_NothingToUndo
  | 17, _ => T.ki_OpenWalk_NothingToRedo
  | j + 18, h => absurd h (by omega)
theorem T0.kiA13 (T : T0 K mg) : ∀ j : Nat, j < 18 → PySem.W.kitOne K (.ref T.C_WalksApart) (.ref (T.clA j)) = some (decide (j = 13))
  | 0, _ => T.ki_WalksApart_OffCircle
  | 1, _ => T.ki_WalksApart_NoHouse
  | 2, _ => T.ki_WalksApart_TakenPlace
  | 3, _ => T.ki_WalksApart_StillNamed
  | 4, _ => T.ki_WalksApart_NotBetween
  | 5, _ => T.ki_WalksApart_SamePiece
  | 6, _ => T.ki_WalksApart_NotQuiet
  | 7, _ => T.ki_WalksApart_NotAtRest
  | 8, _ => T.ki_WalksApart_Untold
  | 9, _ => T.ki_WalksApart_NoLetter
  | 10, _ => T.ki_WalksApart_BadText
  | 11, _ => T.ki_WalksApart_UntrueNet
  | 12, _ => T.ki_WalksApart_OpenWalk
  | 13, _ => T.ki_WalksApart_WalksApart
  | 14, _ => T.ki_WalksApart_NoOrder
  | 15, _ => T.ki_WalksApart_BadDeed
  | 16, _ => T.ki_WalksApart_NothingToUndo
  | 17, _ => T.ki_WalksApart_NothingToRedo
  | j + 18, h => absurd h (by omega)
theorem T0.kiA14 (T : T0 K mg) : ∀ j : Nat, j < 18 → PySem.W.kitOne K (.ref T.C_NoOrder) (.ref (T.clA j)) = some (decide (j = 14))
  | 0, _ => T.ki_NoOrder_OffCircle
  | 1, _ => T.ki_NoOrder_NoHouse
  | 2, _ => T.ki_NoOrder_TakenPlace
  | 3, _ => T.ki_NoOrder_StillNamed
  | 4, _ => T.ki_NoOrder_NotBetween
  | 5, _ => T.ki_NoOrder_SamePiece
  | 6, _ => T.ki_NoOrder_NotQuiet
  | 7, _ => T.ki_NoOrder_NotAtRest
  | 8, _ => T.ki_NoOrder_Untold
  | 9, _ => T.ki_NoOrder_NoLetter
  | 10, _ => T.ki_NoOrder_BadText
  | 11, _ => T.ki_NoOrder_UntrueNet
  | 12, _ => T.ki_NoOrder_OpenWalk
  | 13, _ => T.ki_NoOrder_WalksApart
  | 14, _ => T.ki_NoOrder_NoOrder
  | 15, _ => T.ki_NoOrder_BadDeed
  | 16, _ => T.ki_NoOrder_NothingToUndo
  | 17, _ => T.ki_NoOrder_NothingToRedo
  | j + 18, h => absurd h (by omega)
theorem T0.kiA15 (T : T0 K mg) : ∀ j : Nat, j < 18 → PySem.W.kitOne K (.ref T.C_BadDeed) (.ref (T.clA j)) = some (decide (j = 15))
  | 0, _ => T.ki_BadDeed_OffCircle
  | 1, _ => T.ki_BadDeed_NoHouse
  | 2, _ => T.ki_BadDeed_TakenPlace
  | 3, _ => T.ki_BadDeed_StillNamed
  | 4, _ => T.ki_BadDeed_NotBetween
  | 5, _ => T.ki_BadDeed_SamePiece
  | 6, _ => T.ki_BadDeed_NotQuiet
  | 7, _ => T.ki_BadDeed_NotAtRest
  | 8, _ => T.ki_BadDeed_Untold
  | 9, _ => T.ki_BadDeed_NoLetter
  | 10, _ => T.ki_BadDeed_BadText
  | 11, _ => T.ki_BadDeed_UntrueNet
  | 12, _ => T.ki_BadDeed_OpenWalk
  | 13, _ => T.ki_BadDeed_WalksApart
  | 14, _ => T.ki_BadDeed_NoOrder
  | 15, _ => T.ki_BadDeed_BadDeed
  | 16, _ => T.ki_BadDeed_NothingToUndo
  | 17, _ => T.ki_BadDeed_NothingToRedo
  | j + 18, h => absurd h (by omega)
theorem T0.kiA16 (T : T0 K mg) : ∀ j : Nat, j < 18 → PySem.W.kitOne K (.ref T.C_NothingToUndo) (.ref (T.clA j)) = some (decide (j = 16))
  | 0, _ => T.ki_NothingToUndo_OffCircle
  | 1, _ => T.ki_NothingToUndo_NoHouse
  | 2, _ => T.ki_NothingToUndo_TakenPlace
  | 3, _ => T.ki_NothingToUndo_StillNamed
  | 4, _ => T.ki_NothingToUndo_NotBetween
  | 5, _ => T.ki_NothingToUndo_SamePiece
  | 6, _ => T.ki_NothingToUndo_NotQuiet
  | 7, _ => T.ki_NothingToUndo_NotAtRest
  | 8, _ => T.ki_NothingToUndo_Untold
  | 9, _ => T.ki_NothingToUndo_NoLetter
  | 10, _ => T.ki_NothingToUndo_BadText
  | 11, _ => T.ki_NothingToUndo_UntrueNet
  | 12, _ => T.ki_NothingToUndo_OpenWalk
  | 13, _ => T.ki_NothingToUndo_WalksApart
  | 14, _ => T.ki_NothingToUndo_NoOrder
  | 15, _ => T.ki_NothingToUndo_BadDeed
  | 16, _ => T.ki_NothingToUndo_NothingToUndo
  | 17, _ => T.ki_NothingToUndo_NothingToRedo
  | j + 18, h => absurd h (by omega)
theorem T0.kiA17 (T : T0 K mg) : ∀ j : Nat, j < 18 → PySem.W.kitOne K (.ref T.C_NothingToRedo) (.ref (T.clA j)) = some (decide (j = 17))
  | 0, _ => T.ki_NothingToRedo_OffCircle
  | 1, _ => T.ki_NothingToRedo_NoHouse
  | 2, _ => T.ki_NothingToRedo_TakenPlace
  | 3, _ => T.ki_NothingToRedo_StillNamed
  | 4, _ => T.ki_NothingToRedo_NotBetween
  | 5, _ => T.ki_NothingToRedo_SamePiece
  | 6, _ => T.ki_NothingToRedo_NotQuiet
  | 7, _ => T.ki_NothingToRedo_NotAtRest
  | 8, _ => T.ki_NothingToRedo_Untold
  | 9, _ => T.ki_NothingToRedo_NoLetter
  | 10, _ => T.ki_NothingToRedo_BadText
  | 11, _ => T.ki_NothingToRedo_UntrueNet
  | 12, _ => T.ki_NothingToRedo_OpenWalk
  | 13, _ => T.ki_NothingToRedo_WalksApart
  | 14, _ => T.ki_NothingToRedo_NoOrder
  | 15, _ => T.ki_NothingToRedo_BadDeed
  | 16, _ => T.ki_NothingToRedo_NothingToUndo
  | 17, _ => T.ki_NothingToRedo_NothingToRedo
  | j + 18, h => absurd h (by omega)
theorem T0.kiA (T : T0 K mg) : ∀ i j : Nat, i < 18 → j < 18 → PySem.W.kitOne K (.ref (T.clA i)) (.ref (T.clA j)) = some (decide (j = i))
  | 0, j, _, hj => T.kiA0 j hj
  | 1, j, _, hj => T.kiA1 j hj
  | 2, j, _, hj => T.kiA2 j hj
  | 3, j, _, hj => T.kiA3 j hj
  | 4, j, _, hj => T.kiA4 j hj
  | 5, j, _, hj => T.kiA5 j hj
  | 6, j, _, hj => T.kiA6 j hj
  | 7, j, _, hj => T.kiA7 j hj
  | 8, j, _, hj => T.kiA8 j hj
  | 9, j, _, hj => T.kiA9 j hj
  | 10, j, _, hj => T.kiA10 j hj
  | 11, j, _, hj => T.kiA11 j hj
  | 12, j, _, hj => T.kiA12 j hj
  | 13, j, _, hj => T.kiA13 j hj
  | 14, j, _, hj => T.kiA14 j hj
  | 15, j, _, hj => T.kiA15 j hj
  | 16, j, _, hj => T.kiA16 j hj
  | 17, j, _, hj => T.kiA17 j hj
  | i + 18, _, h, _ => absurd h (by omega)
theorem T0.erA (T : T0 K mg) : ∀ i : Nat, i < 18 → ErrC K (T.clA i)
  | 0, _ => T.er_OffCircle
  | 1, _ => T.er_NoHouse
  | 2, _ => T.er_TakenPlace
  | 3, _ => T.er_StillNamed
  | 4, _ => T.er_NotBetween
  | 5, _ => T.er_SamePiece
  | 6, _ => T.er_NotQuiet
  | 7, _ => T.er_NotAtRest
  | 8, _ => T.er_Untold
  | 9, _ => T.er_NoLetter
  | 10, _ => T.er_BadText
  | 11, _ => T.er_UntrueNet
  | 12, _ => T.er_OpenWalk
  | 13, _ => T.er_WalksApart
  | 14, _ => T.er_NoOrder
  | 15, _ => T.er_BadDeed
  | 16, _ => T.er_NothingToUndo
  | 17, _ => T.er_NothingToRedo
  | i + 18, h => absurd h (by omega)
theorem T0.kiR (T : T0 K mg) : ∀ i : Nat, i < 18 → PySem.W.kitOne K (.ref (T.clA i)) (.ref T.C_RingError) = some true
  | 0, _ => T.ki_OffCircle_RingError
  | 1, _ => T.ki_NoHouse_RingError
  | 2, _ => T.ki_TakenPlace_RingError
  | 3, _ => T.ki_StillNamed_RingError
  | 4, _ => T.ki_NotBetween_RingError
  | 5, _ => T.ki_SamePiece_RingError
  | 6, _ => T.ki_NotQuiet_RingError
  | 7, _ => T.ki_NotAtRest_RingError
  | 8, _ => T.ki_Untold_RingError
  | 9, _ => T.ki_NoLetter_RingError
  | 10, _ => T.ki_BadText_RingError
  | 11, _ => T.ki_UntrueNet_RingError
  | 12, _ => T.ki_OpenWalk_RingError
  | 13, _ => T.ki_WalksApart_RingError
  | 14, _ => T.ki_NoOrder_RingError
  | 15, _ => T.ki_BadDeed_RingError
  | 16, _ => T.ki_NothingToUndo_RingError
  | 17, _ => T.ki_NothingToRedo_RingError
  | i + 18, h => absurd h (by omega)
theorem T0.kiV (T : T0 K mg) : ∀ i : Nat, i < 18 → PySem.W.kitOne K (.ref (T.clA i)) (.type "ValueError") = some true
  | 0, _ => T.ki_OffCircle_ValueError
  | 1, _ => T.ki_NoHouse_ValueError
  | 2, _ => T.ki_TakenPlace_ValueError
  | 3, _ => T.ki_StillNamed_ValueError
  | 4, _ => T.ki_NotBetween_ValueError
  | 5, _ => T.ki_SamePiece_ValueError
  | 6, _ => T.ki_NotQuiet_ValueError
  | 7, _ => T.ki_NotAtRest_ValueError
  | 8, _ => T.ki_Untold_ValueError
  | 9, _ => T.ki_NoLetter_ValueError
  | 10, _ => T.ki_BadText_ValueError
  | 11, _ => T.ki_UntrueNet_ValueError
  | 12, _ => T.ki_OpenWalk_ValueError
  | 13, _ => T.ki_WalksApart_ValueError
  | 14, _ => T.ki_NoOrder_ValueError
  | 15, _ => T.ki_BadDeed_ValueError
  | 16, _ => T.ki_NothingToUndo_ValueError
  | 17, _ => T.ki_NothingToRedo_ValueError
  | i + 18, h => absurd h (by omega)
def sp__law_number (K : PySem.W.Frag) : Sp := fun vs H Q _ => ∃ t c : Addr, vs = [.ref t] ∧ Tape H t c ∧ ∀ (x : Int) H', Kp t H H' → Tape H' t c → Q (.int x) H'
theorem T0.ok__law_number (T : T0 K mg) : FnOk P w K mg base CX0 2 T.a__law_number T.fd__law_number ["tape"] (sp__law_number K) := by
  refine T.F__law_number.ok sc__law_number (fun vs H Q E h => ?_) (fun cdv A outer s H vs Q E hr h => ?_)
  · obtain ⟨t, c, rfl, _⟩ := h
    rfl
  · obtain ⟨t, c, rfl, hT, q⟩ := h
    refine ⟨_, (pss_one (ps_ret (pe_op op_sub (pe_call T.ok__law_pick hr (by rfl) T.g__law_pick T.k__law_pick T.b__law_pick .nil pass0 (pa_cons (pv 0) (pa_cons pe_int pa_nil))) (pe_op op_mul pe_int (pe_call T.ok__law_pick hr (by rfl) T.g__law_pick T.k__law_pick T.b__law_pick .nil pass0 (pa_cons (pv 0) (pa_cons pe_int pa_nil))))))), ?_⟩
    refine ⟨_, rfl, t, c, _, rfl, hT, by decide, by decide, fun x H1 _ _ k1 T1 => ?_⟩
    exact ⟨_, rfl, t, c, _, rfl, T1, by decide, by decide, fun y H2 _ _ k2 T2 => ⟨_, _, rfl, rfl, .inl ⟨by decide, by decide⟩, _, _, rfl, rfl, q _ _ (k1.trans k2) T2⟩⟩
def sp__law_kinds (K : PySem.W.Frag) (cl : Nat → Addr) : Sp := fun vs H Q _ => ∃ (a D : Addr) (fs : List (Str × V)) (b : Nat → Bool), vs = [.ref a] ∧ ErrC K D ∧ ErrO H a D fs ∧ (∀ j, j < 18 → PySem.W.kitOne K (.ref D) (.ref (cl j)) = some (b j)) ∧
  ∀ p H', H p = none → Same H H' → H' p = some (.lst (((List.range 18).map b).map V.bl)) → Q (.ref p) H'
theorem T0.ok__law_kinds (T : T0 K mg) : FnOk P w K mg base CX0 1 T.a__law_kinds T.fd__law_kinds ["e"] (sp__law_kinds K T.clA) := by
  refine T.F__law_kinds.ok sc__law_kinds (fun vs H Q E h => ?_) (fun cdv A outer s H vs Q E hr h => ?_)
  · obtain ⟨a, D, fs, b, rfl, _⟩ := h
    rfl
  · obtain ⟨a, D, fs, b, rfl, eC, eO, hk, q⟩ := h
    refine ⟨_, (pss_cons (ps_set (i := 1) sc__law_kinds.nd rfl (Or.inl rfl) (pe_lst (pa_cons (pe_callB (call_isX (K := K)) (by rfl) T.m_isinstance (by decide +kernel) (pa_cons (pv 0) (pa_cons (pe_glob (v := .ref T.C_OffCircle) rfl T.mc_OffCircle rfl) pa_nil))) (pa_cons (pe_callB (call_isX (K := K)) (by rfl) T.m_isinstance (by decide +kernel) (pa_cons (pv 0) (pa_cons (pe_glob (v := .ref T.C_NoHouse) rfl T.mc_NoHouse rfl) pa_nil))) (pa_cons (pe_callB (call_isX (K := K)) (by rfl) T.m_isinstance (by decide +kernel) (pa_cons (pv 0) (pa_cons (pe_glob (v := .ref T.C_TakenPlace) rfl T.mc_TakenPlace rfl) pa_nil))) (pa_cons (pe_callB (call_isX (K := K)) (by rfl) T.m_isinstance (by decide +kernel) (pa_cons (pv 0) (pa_cons (pe_glob (v := .ref T.C_StillNamed) rfl T.mc_StillNamed rfl) pa_nil))) pa_nil))))))
        (pss_cons (ps_set (i := 1) sc__law_kinds.nd rfl (Or.inl rfl) (pe_op op_cat (pv 1) (pe_lst (pa_cons (pe_callB (call_isX (K := K)) (by rfl) T.m_isinstance (by decide +kernel) (pa_cons (pv 0) (pa_cons (pe_glob (v := .ref T.C_NotBetween) rfl T.mc_NotBetween rfl) pa_nil))) (pa_cons (pe_callB (call_isX (K := K)) (by rfl) T.m_isinstance (by decide +kernel) (pa_cons (pv 0) (pa_cons (pe_glob (v := .ref T.C_SamePiece) rfl T.mc_SamePiece rfl) pa_nil))) (pa_cons (pe_callB (call_isX (K := K)) (by rfl) T.m_isinstance (by decide +kernel) (pa_cons (pv 0) (pa_cons (pe_glob (v := .ref T.C_NotQuiet) rfl T.mc_NotQuiet rfl) pa_nil))) pa_nil))))))
        (pss_cons (ps_set (i := 1) sc__law_kinds.nd rfl (Or.inl rfl) (pe_op op_cat (pv 1) (pe_lst (pa_cons (pe_callB (call_isX (K := K)) (by rfl) T.m_isinstance (by decide +kernel) (pa_cons (pv 0) (pa_cons (pe_glob (v := .ref T.C_NotAtRest) rfl T.mc_NotAtRest rfl) pa_nil))) (pa_cons (pe_callB (call_isX (K := K)) (by rfl) T.m_isinstance (by decide +kernel) (pa_cons (pv 0) (pa_cons (pe_glob (v := .ref T.C_Untold) rfl T.mc_Untold rfl) pa_nil))) (pa_cons (pe_callB (call_isX (K := K)) (by rfl) T.m_isinstance (by decide +kernel) (pa_cons (pv 0) (pa_cons (pe_glob (v := .ref T.C_NoLetter) rfl T.mc_NoLetter rfl) pa_nil))) (pa_cons (pe_callB (call_isX (K := K)) (by rfl) T.m_isinstance (by decide +kernel) (pa_cons (pv 0) (pa_cons (pe_glob (v := .ref T.C_BadText) rfl T.mc_BadText rfl) pa_nil))) pa_nil)))))))
        (pss_cons (ps_set (i := 1) sc__law_kinds.nd rfl (Or.inl rfl) (pe_op op_cat (pv 1) (pe_lst (pa_cons (pe_callB (call_isX (K := K)) (by rfl) T.m_isinstance (by decide +kernel) (pa_cons (pv 0) (pa_cons (pe_glob (v := .ref T.C_UntrueNet) rfl T.mc_UntrueNet rfl) pa_nil))) (pa_cons (pe_callB (call_isX (K := K)) (by rfl) T.m_isinstance (by decide +kernel) (pa_cons (pv 0) (pa_cons (pe_glob (v := .ref T.C_OpenWalk) rfl T.mc_OpenWalk rfl) pa_nil))) (pa_cons (pe_callB (call_isX (K := K)) (by rfl) T.m_isinstance (by decide +kernel) (pa_cons (pv 0) (pa_cons (pe_glob (v := .ref T.C_WalksApart) rfl T.mc_WalksApart rfl) pa_nil))) pa_nil))))))
        (pss_cons (ps_set (i := 1) sc__law_kinds.nd rfl (Or.inl rfl) (pe_op op_cat (pv 1) (pe_lst (pa_cons (pe_callB (call_isX (K := K)) (by rfl) T.m_isinstance (by decide +kernel) (pa_cons (pv 0) (pa_cons (pe_glob (v := .ref T.C_NoOrder) rfl T.mc_NoOrder rfl) pa_nil))) (pa_cons (pe_callB (call_isX (K := K)) (by rfl) T.m_isinstance (by decide +kernel) (pa_cons (pv 0) (pa_cons (pe_glob (v := .ref T.C_BadDeed) rfl T.mc_BadDeed rfl) pa_nil))) (pa_cons (pe_callB (call_isX (K := K)) (by rfl) T.m_isinstance (by decide +kernel) (pa_cons (pv 0) (pa_cons (pe_glob (v := .ref T.C_NothingToUndo) rfl T.mc_NothingToUndo rfl) pa_nil))) pa_nil))))))
        (pss_one (ps_ret (pe_op op_cat (pv 1) (pe_lst (pa_cons (pe_callB (call_isX (K := K)) (by rfl) T.m_isinstance (by decide +kernel) (pa_cons (pv 0) (pa_cons (pe_glob (v := .ref T.C_NothingToRedo) rfl T.mc_NothingToRedo rfl) pa_nil))) pa_nil)))))))))), ?_⟩
    -- two lists are joined
    have join : ∀ {H1 : Hp} {k1 : Addr} {xs ys : List V} {Q' : VK}, Same H H1 → H1 k1 = some (.lst xs) → xs.length + ys.length ≤ 100000 → (∀ p H2, Same H1 H2 → H1 p = none → H2 p = some (.lst (xs ++ ys)) → Q' (.ref p) H2) → ∀ k2, H1 k2 = none → rCat (.ref k1) (.ref k2) (upd H1 k2 (.lst ys)) Q' := fun {H1 k1 xs ys Q'} s1 e1 hl hq k2 n2 => by
      have s2 := same_upd (o := .lst ys) n2
      refine ⟨k1, k2, xs, ys, rfl, rfl, s2 _ _ e1, upd_same, Nat.le_trans hl (by decide), fun p np => ?_⟩
      have s3 := same_upd (o := .lst (xs ++ ys)) np
      exact hq p _ (Same.trans s2 s3) (none_back0 s2 np) upd_same
    refine ⟨_, rfl, a, _, _, _, D, fs, rfl, fun u r => r, eC, eO, hk 0 (by decide), ?_⟩
    refine ⟨_, rfl, a, _, _, _, D, fs, rfl, fun u r => r, eC, eO, hk 1 (by decide), ?_⟩
    refine ⟨_, rfl, a, _, _, _, D, fs, rfl, fun u r => r, eC, eO, hk 2 (by decide), ?_⟩
    refine ⟨_, rfl, a, _, _, _, D, fs, rfl, fun u r => r, eC, eO, hk 3 (by decide), ?_⟩
    refine ⟨lenL (by show 4 ≤ 100000; decide), fun k1 n1 => ?_⟩
    have s1 := same_upd (o := .lst [.bl (b 0), .bl (b 1), .bl (b 2), .bl (b 3)]) n1
    have e1 : upd H k1 (.lst [.bl (b 0), .bl (b 1), .bl (b 2), .bl (b 3)]) k1 = some (.lst [.bl (b 0), .bl (b 1), .bl (b 2), .bl (b 3)]) := upd_same
    generalize upd H k1 (.lst [.bl (b 0), .bl (b 1), .bl (b 2), .bl (b 3)]) = H1 at s1 e1
    have eO := eO.same s1
    refine ⟨_, rfl, _, rfl, a, _, _, _, D, fs, rfl, fun u r => r, eC, eO, hk 4 (by decide), ?_⟩
    refine ⟨_, rfl, a, _, _, _, D, fs, rfl, fun u r => r, eC, eO, hk 5 (by decide), ?_⟩
    refine ⟨_, rfl, a, _, _, _, D, fs, rfl, fun u r => r, eC, eO, hk 6 (by decide), ?_⟩
    refine ⟨lenL (by show 3 ≤ 100000; decide), join s1 e1 (by show 4 + 3 ≤ 100000; decide) fun k2 H2 s2 n2 e2 => ?_⟩
    have eO := eO.same s2
    have s12 := Same.trans s1 s2
    refine ⟨_, rfl, _, rfl, a, _, _, _, D, fs, rfl, fun u r => r, eC, eO, hk 7 (by decide), ?_⟩
    refine ⟨_, rfl, a, _, _, _, D, fs, rfl, fun u r => r, eC, eO, hk 8 (by decide), ?_⟩
    refine ⟨_, rfl, a, _, _, _, D, fs, rfl, fun u r => r, eC, eO, hk 9 (by decide), ?_⟩
    refine ⟨_, rfl, a, _, _, _, D, fs, rfl, fun u r => r, eC, eO, hk 10 (by decide), ?_⟩
    refine ⟨lenL (by show 4 ≤ 100000; decide), join s12 e2 (by show 7 + 4 ≤ 100000; decide) fun k3 H3 s3 n3 e3 => ?_⟩
    have eO := eO.same s3
    have s13 := Same.trans s12 s3
    refine ⟨_, rfl, _, rfl, a, _, _, _, D, fs, rfl, fun u r => r, eC, eO, hk 11 (by decide), ?_⟩
    refine ⟨_, rfl, a, _, _, _, D, fs, rfl, fun u r => r, eC, eO, hk 12 (by decide), ?_⟩
    refine ⟨_, rfl, a, _, _, _, D, fs, rfl, fun u r => r, eC, eO, hk 13 (by decide), ?_⟩
    refine ⟨lenL (by show 3 ≤ 100000; decide), join s13 e3 (by show 11 + 3 ≤ 100000; decide) fun k4 H4 s4 n4 e4 => ?_⟩
    have eO := eO.same s4
    have s14 := Same.trans s13 s4
    refine ⟨_, rfl, _, rfl, a, _, _, _, D, fs, rfl, fun u r => r, eC, eO, hk 14 (by decide), ?_⟩
    refine ⟨_, rfl, a, _, _, _, D, fs, rfl, fun u r => r, eC, eO, hk 15 (by decide), ?_⟩
    refine ⟨_, rfl, a, _, _, _, D, fs, rfl, fun u r => r, eC, eO, hk 16 (by decide), ?_⟩
    refine ⟨lenL (by show 3 ≤ 100000; decide), join s14 e4 (by show 14 + 3 ≤ 100000; decide) fun k5 H5 s5 n5 e5 => ?_⟩
    have eO := eO.same s5
    have s15 := Same.trans s14 s5
    refine ⟨_, rfl, _, rfl, a, _, _, _, D, fs, rfl, fun u r => r, eC, eO, hk 17 (by decide), ?_⟩
    exact ⟨lenL (by show 1 ≤ 100000; decide), join s15 e5 (by show 17 + 1 ≤ 100000; decide) fun k6 H6 s6 n6 e6 => q k6 H6 (none_back0 s15 n6) (Same.trans s15 s6) e6⟩
/-- the fields of the k-th error -/
def flA (x : Int) (ns : List Int) (s d : Addr) : Nat → List (Str × V)
  | 9 => [("at", .int (ns.getD 0 0))]
  | 10 => [("line", .int (ns.getD 1 0))]
  | 11 => [("saying", .ref s)]
  | 12 => [("last", .int (ns.getD 3 0)), ("first", .int (ns.getD 2 0))]
  | 13 => [("start", .int (ns.getD 5 0)), ("end", .int (ns.getD 4 0))]
  | 14 => [("index", .int (ns.getD 7 0)), ("turns", .int (ns.getD 6 0))]
  | 15 => [("deed", .ref d)]
  | 16 => []
  | 17 => []
  | _ => [("place", .int x)]
def sp__law_of_places (K : PySem.W.Frag) (cl : Nat → Addr) : Sp := fun vs H Q _ => ∃ x : Int, vs = [.int x] ∧ ∀ p H' (es : List Addr), H p = none → Same H H' → H' p = some (.lst (es.map V.ref)) → es.length = 9 → (∀ k, k < 9 → ErrO H' (es.getD k 0) (cl k) [("place", .int x)]) → Q (.ref p) H'
theorem T0.ok__law_of_places (T : T0 K mg) : FnOk P w K mg base CX0 3 T.a__law_of_places T.fd__law_of_places ["place"] (sp__law_of_places K T.clA) := by
  refine T.F__law_of_places.ok sc__law_of_places (fun vs H Q E h => ?_) (fun cdv A outer s H vs Q E hr h => ?_)
  · obtain ⟨x, rfl, _⟩ := h
    rfl
  · obtain ⟨x, rfl, q⟩ := h
    refine ⟨_, (pss_cons (ps_set (i := 1) sc__law_of_places.nd rfl (Or.inl rfl) (pe_lst (pa_cons (pe_mkE T.ox_OffCircle T.mi_OffCircle T.ti_OffCircle T.ok_OffCircle__init hr T.b_OffCircle__init pass0 rfl T.mc_OffCircle (pa_cons (pv 0) pa_nil)) (pa_cons (pe_mkE T.ox_NoHouse T.mi_NoHouse T.ti_NoHouse T.ok_NoHouse__init hr T.b_NoHouse__init pass0 rfl T.mc_NoHouse (pa_cons (pv 0) pa_nil)) (pa_cons (pe_mkE T.ox_TakenPlace T.mi_TakenPlace T.ti_TakenPlace T.ok_TakenPlace__init hr T.b_TakenPlace__init pass0 rfl T.mc_TakenPlace (pa_cons (pv 0) pa_nil)) (pa_cons (pe_mkE T.ox_StillNamed T.mi_StillNamed T.ti_StillNamed T.ok_StillNamed__init hr T.b_StillNamed__init pass0 rfl T.mc_StillNamed (pa_cons (pv 0) pa_nil)) (pa_cons (pe_mkE T.ox_NotBetween T.mi_NotBetween T.ti_NotBetween T.ok_NotBetween__init hr T.b_NotBetween__init pass0 rfl T.mc_NotBetween (pa_cons (pv 0) pa_nil)) pa_nil)))))))
        (pss_one (ps_ret (pe_op op_cat (pv 1) (pe_lst (pa_cons (pe_mkE T.ox_SamePiece T.mi_SamePiece T.ti_SamePiece T.ok_SamePiece__init hr T.b_SamePiece__init pass0 rfl T.mc_SamePiece (pa_cons (pv 0) pa_nil)) (pa_cons (pe_mkE T.ox_NotQuiet T.mi_NotQuiet T.ti_NotQuiet T.ok_NotQuiet__init hr T.b_NotQuiet__init pass0 rfl T.mc_NotQuiet (pa_cons (pv 0) pa_nil)) (pa_cons (pe_mkE T.ox_NotAtRest T.mi_NotAtRest T.ti_NotAtRest T.ok_NotAtRest__init hr T.b_NotAtRest__init pass0 rfl T.mc_NotAtRest (pa_cons (pv 0) pa_nil)) (pa_cons (pe_mkE T.ox_Untold T.mi_Untold T.ti_Untold T.ok_Untold__init hr T.b_Untold__init pass0 rfl T.mc_Untold (pa_cons (pv 0) pa_nil)) pa_nil))))))))), ?_⟩
    refine ⟨_, rfl, (by show 1 ≤ 1000; decide), fun a0 n0 => ⟨a0, .int x, rfl, upd_same, fun d0 nd0 ne0 => ⟨rfl, ?_⟩⟩⟩
    obtain ⟨s0, e0⟩ := mk1 (C := T.C_OffCircle) (f := "place") (v := .int x) n0 nd0 ne0
    generalize upd (upd (upd H a0 (exo a0 T.C_OffCircle none)) d0 (exd d0 [("place", .int x)])) a0 (exo a0 T.C_OffCircle (some d0)) = H0 at s0 e0 ⊢
    refine ⟨_, rfl, (by show 1 ≤ 1000; decide), fun a1 n1 => ⟨a1, .int x, rfl, upd_same, fun d1 nd1 ne1 => ⟨rfl, ?_⟩⟩⟩
    obtain ⟨s1, e1⟩ := mk1 (C := T.C_NoHouse) (f := "place") (v := .int x) n1 nd1 ne1
    generalize upd (upd (upd H0 a1 (exo a1 T.C_NoHouse none)) d1 (exd d1 [("place", .int x)])) a1 (exo a1 T.C_NoHouse (some d1)) = H1 at s1 e1 ⊢
    refine ⟨_, rfl, (by show 1 ≤ 1000; decide), fun a2 n2 => ⟨a2, .int x, rfl, upd_same, fun d2 nd2 ne2 => ⟨rfl, ?_⟩⟩⟩
    obtain ⟨s2, e2⟩ := mk1 (C := T.C_TakenPlace) (f := "place") (v := .int x) n2 nd2 ne2
    generalize upd (upd (upd H1 a2 (exo a2 T.C_TakenPlace none)) d2 (exd d2 [("place", .int x)])) a2 (exo a2 T.C_TakenPlace (some d2)) = H2 at s2 e2 ⊢
    refine ⟨_, rfl, (by show 1 ≤ 1000; decide), fun a3 n3 => ⟨a3, .int x, rfl, upd_same, fun d3 nd3 ne3 => ⟨rfl, ?_⟩⟩⟩
    obtain ⟨s3, e3⟩ := mk1 (C := T.C_StillNamed) (f := "place") (v := .int x) n3 nd3 ne3
    generalize upd (upd (upd H2 a3 (exo a3 T.C_StillNamed none)) d3 (exd d3 [("place", .int x)])) a3 (exo a3 T.C_StillNamed (some d3)) = H3 at s3 e3 ⊢
    refine ⟨_, rfl, (by show 1 ≤ 1000; decide), fun a4 n4 => ⟨a4, .int x, rfl, upd_same, fun d4 nd4 ne4 => ⟨rfl, ?_⟩⟩⟩
    obtain ⟨s4, e4⟩ := mk1 (C := T.C_NotBetween) (f := "place") (v := .int x) n4 nd4 ne4
    generalize upd (upd (upd H3 a4 (exo a4 T.C_NotBetween none)) d4 (exd d4 [("place", .int x)])) a4 (exo a4 T.C_NotBetween (some d4)) = H4 at s4 e4 ⊢
    refine ⟨lenL (by show 5 ≤ 100000; decide), fun l1 nl1 => ?_⟩
    have t1 := same_upd (o := .lst [.ref a0, .ref a1, .ref a2, .ref a3, .ref a4]) nl1
    have el1 : upd H4 l1 (.lst [.ref a0, .ref a1, .ref a2, .ref a3, .ref a4]) l1 = some (.lst [.ref a0, .ref a1, .ref a2, .ref a3, .ref a4]) := upd_same
    generalize upd H4 l1 (.lst [.ref a0, .ref a1, .ref a2, .ref a3, .ref a4]) = G1 at t1 el1 ⊢
    refine ⟨_, rfl, _, rfl, (by show 1 ≤ 1000; decide), fun a5 n5 => ⟨a5, .int x, rfl, upd_same, fun d5 nd5 ne5 => ⟨rfl, ?_⟩⟩⟩
    obtain ⟨s5, e5⟩ := mk1 (C := T.C_SamePiece) (f := "place") (v := .int x) n5 nd5 ne5
    generalize upd (upd (upd G1 a5 (exo a5 T.C_SamePiece none)) d5 (exd d5 [("place", .int x)])) a5 (exo a5 T.C_SamePiece (some d5)) = H5 at s5 e5 ⊢
    refine ⟨_, rfl, (by show 1 ≤ 1000; decide), fun a6 n6 => ⟨a6, .int x, rfl, upd_same, fun d6 nd6 ne6 => ⟨rfl, ?_⟩⟩⟩
    obtain ⟨s6, e6⟩ := mk1 (C := T.C_NotQuiet) (f := "place") (v := .int x) n6 nd6 ne6
    generalize upd (upd (upd H5 a6 (exo a6 T.C_NotQuiet none)) d6 (exd d6 [("place", .int x)])) a6 (exo a6 T.C_NotQuiet (some d6)) = H6 at s6 e6 ⊢
    refine ⟨_, rfl, (by show 1 ≤ 1000; decide), fun a7 n7 => ⟨a7, .int x, rfl, upd_same, fun d7 nd7 ne7 => ⟨rfl, ?_⟩⟩⟩
    obtain ⟨s7, e7⟩ := mk1 (C := T.C_NotAtRest) (f := "place") (v := .int x) n7 nd7 ne7
    generalize upd (upd (upd H6 a7 (exo a7 T.C_NotAtRest none)) d7 (exd d7 [("place", .int x)])) a7 (exo a7 T.C_NotAtRest (some d7)) = H7 at s7 e7 ⊢
    refine ⟨_, rfl, (by show 1 ≤ 1000; decide), fun a8 n8 => ⟨a8, .int x, rfl, upd_same, fun d8 nd8 ne8 => ⟨rfl, ?_⟩⟩⟩
    obtain ⟨s8, e8⟩ := mk1 (C := T.C_Untold) (f := "place") (v := .int x) n8 nd8 ne8
    generalize upd (upd (upd H7 a8 (exo a8 T.C_Untold none)) d8 (exd d8 [("place", .int x)])) a8 (exo a8 T.C_Untold (some d8)) = H8 at s8 e8 ⊢
    refine ⟨lenL (by show 4 ≤ 100000; decide), fun l2 nl2 => ?_⟩
    have t2 := same_upd (o := .lst [.ref a5, .ref a6, .ref a7, .ref a8]) nl2
    have r9 := Same.trans s5 (Same.trans s6 (Same.trans s7 s8))
    refine ⟨l1, l2, _, _, rfl, rfl, t2 _ _ (r9 _ _ el1), upd_same, lenL (by show 5 + 4 ≤ 100000; decide), fun p np => ?_⟩
    have t3 := same_upd (o := .lst ([.ref a0, .ref a1, .ref a2, .ref a3, .ref a4] ++ [.ref a5, .ref a6, .ref a7, .ref a8])) np
    have u8 := Same.trans t2 t3
    have u7 := Same.trans s8 u8
    have u6 := Same.trans s7 u7
    have u5 := Same.trans s6 u6
    have u4 := Same.trans t1 (Same.trans s5 u5)
    have u3 := Same.trans s4 u4
    have u2 := Same.trans s3 u3
    have u1 := Same.trans s2 u2
    have u0 := Same.trans s1 u1
    have uu := Same.trans s0 u0
    refine q p _ [a0, a1, a2, a3, a4, a5, a6, a7, a8] (none_back0 (Same.trans s0 (Same.trans s1 (Same.trans s2 (Same.trans s3 (Same.trans s4 (Same.trans t1 (Same.trans r9 t2))))))) np) uu upd_same rfl (fun k hk => ?_)
    match k, hk with
    | 0, _ => exact e0.same u0
    | 1, _ => exact e1.same u1
    | 2, _ => exact e2.same u2
    | 3, _ => exact e3.same u3
    | 4, _ => exact e4.same u4
    | 5, _ => exact e5.same u5
    | 6, _ => exact e6.same u6
    | 7, _ => exact e7.same u7
    | 8, _ => exact e8.same u8
    | k + 9, h => exact absurd h (by omega)
def sp__law_others (K : PySem.W.Frag) (cl : Nat → Addr) : Sp := fun vs H Q _ => ∃ (nl sy dd : Addr) (ns : List Int), vs = [.ref nl, .ref sy, .ref dd] ∧ H nl = some (.lst (ns.map V.int)) ∧ ns.length = 8 ∧ ∀ p H' (es : List Addr), H p = none → Same H H' → H' p = some (.lst (es.map V.ref)) → es.length = 9 → (∀ k, k < 9 → ErrO H' (es.getD k 0) (cl (9 + k)) (flA 0 ns sy dd (9 + k))) → Q (.ref p) H'
theorem T0.ok__law_others (T : T0 K mg) : FnOk P w K mg base CX0 3 T.a__law_others T.fd__law_others ["numbers", "saying", "deed"] (sp__law_others K T.clA) := by
  refine T.F__law_others.ok sc__law_others (fun vs H Q E h => ?_) (fun cdv A outer s H vs Q E hr h => ?_)
  · obtain ⟨nl, sy, dd, ns, rfl, _⟩ := h
    rfl
  · obtain ⟨nl, sy, dd, ns, rfl, hn, l8, q⟩ := h
    have at_ : ∀ (k : Nat), k < 8 → atI (ns.map V.int) (k : Int) = some (.int (ns.getD k 0)) := fun k hk => at_getD (by omega)
    refine ⟨_, (pss_cons (ps_set (i := 3) sc__law_others.nd rfl (Or.inl rfl) (pe_lst (pa_cons (pe_mkE T.ox_NoLetter T.mi_NoLetter T.ti_NoLetter T.ok_NoLetter__init hr T.b_NoLetter__init pass0 rfl T.mc_NoLetter (pa_cons (pe_ix (ix_listK (K := K)) (pv 0) pe_int (fun _ _ => rfl)) pa_nil)) (pa_cons (pe_mkE T.ox_BadText T.mi_BadText T.ti_BadText T.ok_BadText__init hr T.b_BadText__init pass0 rfl T.mc_BadText (pa_cons (pe_ix (ix_listK (K := K)) (pv 0) pe_int (fun _ _ => rfl)) pa_nil)) (pa_cons (pe_mkE T.ox_UntrueNet T.mi_UntrueNet T.ti_UntrueNet T.ok_UntrueNet__init hr T.b_UntrueNet__init pass0 rfl T.mc_UntrueNet (pa_cons (pv 1) pa_nil)) (pa_cons (pe_mkE T.ox_OpenWalk T.mi_OpenWalk T.ti_OpenWalk T.ok_OpenWalk__init hr T.b_OpenWalk__init pass0 rfl T.mc_OpenWalk (pa_cons (pe_ix (ix_listK (K := K)) (pv 0) pe_int (fun _ _ => rfl)) (pa_cons (pe_ix (ix_listK (K := K)) (pv 0) pe_int (fun _ _ => rfl)) pa_nil))) pa_nil))))))
        (pss_cons (ps_set (i := 3) sc__law_others.nd rfl (Or.inl rfl) (pe_op op_cat (pv 3) (pe_lst (pa_cons (pe_mkE T.ox_WalksApart T.mi_WalksApart T.ti_WalksApart T.ok_WalksApart__init hr T.b_WalksApart__init pass0 rfl T.mc_WalksApart (pa_cons (pe_ix (ix_listK (K := K)) (pv 0) pe_int (fun _ _ => rfl)) (pa_cons (pe_ix (ix_listK (K := K)) (pv 0) pe_int (fun _ _ => rfl)) pa_nil))) (pa_cons (pe_mkE T.ox_NoOrder T.mi_NoOrder T.ti_NoOrder T.ok_NoOrder__init hr T.b_NoOrder__init pass0 rfl T.mc_NoOrder (pa_cons (pe_ix (ix_listK (K := K)) (pv 0) pe_int (fun _ _ => rfl)) (pa_cons (pe_ix (ix_listK (K := K)) (pv 0) pe_int (fun _ _ => rfl)) pa_nil))) (pa_cons (pe_mkE T.ox_BadDeed T.mi_BadDeed T.ti_BadDeed T.ok_BadDeed__init hr T.b_BadDeed__init pass0 rfl T.mc_BadDeed (pa_cons (pv 2) pa_nil)) pa_nil))))))
        (pss_one (ps_ret (pe_op op_cat (pv 3) (pe_lst (pa_cons (pe_mkE0 PySem.F.excBase_ValueError T.q_NothingToUndo T.mc_NothingToUndo T.kp_NothingToUndo rfl) (pa_cons (pe_mkE0 PySem.F.excBase_ValueError T.q_NothingToRedo T.mc_NothingToRedo T.kp_NothingToRedo rfl) pa_nil)))))))), ?_⟩
    refine ⟨_, rfl, nl, _, 0, _, rfl, rfl, SqL.of hn, at_ 0 (by decide), (by show 1 ≤ 1000; decide), fun a0 n0 => ⟨a0, .int (ns.getD 0 0), rfl, upd_same, fun d0 nd0 ne0 => ⟨rfl, ?_⟩⟩⟩
    obtain ⟨s0, e0⟩ := mk1 (C := T.C_NoLetter) (f := "at") (v := .int (ns.getD 0 0)) n0 nd0 ne0
    generalize upd (upd (upd H a0 (exo a0 T.C_NoLetter none)) d0 (exd d0 [("at", .int (ns.getD 0 0))])) a0 (exo a0 T.C_NoLetter (some d0)) = H0 at s0 e0 ⊢
    refine ⟨_, rfl, nl, _, 1, _, rfl, rfl, SqL.of (s0 _ _ hn), at_ 1 (by decide), (by show 1 ≤ 1000; decide), fun a1 n1 => ⟨a1, .int (ns.getD 1 0), rfl, upd_same, fun d1 nd1 ne1 => ⟨rfl, ?_⟩⟩⟩
    obtain ⟨s1, e1⟩ := mk1 (C := T.C_BadText) (f := "line") (v := .int (ns.getD 1 0)) n1 nd1 ne1
    generalize upd (upd (upd H0 a1 (exo a1 T.C_BadText none)) d1 (exd d1 [("line", .int (ns.getD 1 0))])) a1 (exo a1 T.C_BadText (some d1)) = H1 at s1 e1 ⊢
    have s01 := Same.trans s0 s1
    refine ⟨_, rfl, (by show 1 ≤ 1000; decide), fun a2 n2 => ⟨a2, .ref sy, rfl, upd_same, fun d2 nd2 ne2 => ⟨rfl, ?_⟩⟩⟩
    obtain ⟨s2, e2⟩ := mk1 (C := T.C_UntrueNet) (f := "saying") (v := .ref sy) n2 nd2 ne2
    generalize upd (upd (upd H1 a2 (exo a2 T.C_UntrueNet none)) d2 (exd d2 [("saying", .ref sy)])) a2 (exo a2 T.C_UntrueNet (some d2)) = H2 at s2 e2 ⊢
    have s02 := Same.trans s01 s2
    refine ⟨_, rfl, nl, _, 2, _, rfl, rfl, SqL.of (s02 _ _ hn), at_ 2 (by decide), _, rfl, nl, _, 3, _, rfl, rfl, SqL.of (s02 _ _ hn), at_ 3 (by decide), (by show 2 ≤ 1000; decide), fun a3 n3 => ⟨a3, .int (ns.getD 2 0), .int (ns.getD 3 0), rfl, upd_same, fun d3 nd3 ne3 => ⟨rfl, ?_⟩⟩⟩
    obtain ⟨s3, e3⟩ := mk2 (C := T.C_OpenWalk) (f := "first") (g := "last") (v := .int (ns.getD 2 0)) (u := .int (ns.getD 3 0)) n3 nd3 ne3
    generalize upd (upd (upd (upd H2 a3 (exo a3 T.C_OpenWalk none)) d3 (exd d3 [("first", .int (ns.getD 2 0))])) a3 (exo a3 T.C_OpenWalk (some d3))) d3 (exd d3 [("last", .int (ns.getD 3 0)), ("first", .int (ns.getD 2 0))]) = H3 at s3 e3 ⊢
    have s03 := Same.trans s02 s3
    refine ⟨lenL (by show 4 ≤ 100000; decide), fun l1 nl1 => ?_⟩
    have t1 := same_upd (o := .lst [.ref a0, .ref a1, .ref a2, .ref a3]) nl1
    have el1 : upd H3 l1 (.lst [.ref a0, .ref a1, .ref a2, .ref a3]) l1 = some (.lst [.ref a0, .ref a1, .ref a2, .ref a3]) := upd_same
    generalize upd H3 l1 (.lst [.ref a0, .ref a1, .ref a2, .ref a3]) = G1 at t1 el1 ⊢
    have s0g := Same.trans s03 t1
    refine ⟨_, rfl, _, rfl, nl, _, 4, _, rfl, rfl, SqL.of (s0g _ _ hn), at_ 4 (by decide), _, rfl, nl, _, 5, _, rfl, rfl, SqL.of (s0g _ _ hn), at_ 5 (by decide), (by show 2 ≤ 1000; decide), fun a4 n4 => ⟨a4, .int (ns.getD 4 0), .int (ns.getD 5 0), rfl, upd_same, fun d4 nd4 ne4 => ⟨rfl, ?_⟩⟩⟩
    obtain ⟨s4, e4⟩ := mk2 (C := T.C_WalksApart) (f := "end") (g := "start") (v := .int (ns.getD 4 0)) (u := .int (ns.getD 5 0)) n4 nd4 ne4
    generalize upd (upd (upd (upd G1 a4 (exo a4 T.C_WalksApart none)) d4 (exd d4 [("end", .int (ns.getD 4 0))])) a4 (exo a4 T.C_WalksApart (some d4))) d4 (exd d4 [("start", .int (ns.getD 5 0)), ("end", .int (ns.getD 4 0))]) = H4 at s4 e4 ⊢
    have s04 := Same.trans s0g s4
    refine ⟨_, rfl, nl, _, 6, _, rfl, rfl, SqL.of (s04 _ _ hn), at_ 6 (by decide), _, rfl, nl, _, 7, _, rfl, rfl, SqL.of (s04 _ _ hn), at_ 7 (by decide), (by show 2 ≤ 1000; decide), fun a5 n5 => ⟨a5, .int (ns.getD 6 0), .int (ns.getD 7 0), rfl, upd_same, fun d5 nd5 ne5 => ⟨rfl, ?_⟩⟩⟩
    obtain ⟨s5, e5⟩ := mk2 (C := T.C_NoOrder) (f := "turns") (g := "index") (v := .int (ns.getD 6 0)) (u := .int (ns.getD 7 0)) n5 nd5 ne5
    generalize upd (upd (upd (upd H4 a5 (exo a5 T.C_NoOrder none)) d5 (exd d5 [("turns", .int (ns.getD 6 0))])) a5 (exo a5 T.C_NoOrder (some d5))) d5 (exd d5 [("index", .int (ns.getD 7 0)), ("turns", .int (ns.getD 6 0))]) = H5 at s5 e5 ⊢
    refine ⟨_, rfl, (by show 1 ≤ 1000; decide), fun a6 n6 => ⟨a6, .ref dd, rfl, upd_same, fun d6 nd6 ne6 => ⟨rfl, ?_⟩⟩⟩
    obtain ⟨s6, e6⟩ := mk1 (C := T.C_BadDeed) (f := "deed") (v := .ref dd) n6 nd6 ne6
    generalize upd (upd (upd H5 a6 (exo a6 T.C_BadDeed none)) d6 (exd d6 [("deed", .ref dd)])) a6 (exo a6 T.C_BadDeed (some d6)) = H6 at s6 e6 ⊢
    refine ⟨lenL (by show 3 ≤ 100000; decide), fun l2 nl2 => ?_⟩
    have t2 := same_upd (o := .lst [.ref a4, .ref a5, .ref a6]) nl2
    have r46 := Same.trans s4 (Same.trans s5 s6)
    refine ⟨l1, l2, _, _, rfl, rfl, t2 _ _ (r46 _ _ el1), upd_same, lenL (by show 4 + 3 ≤ 100000; decide), fun l3 nl3 => ?_⟩
    have t3 := same_upd (o := .lst ([.ref a0, .ref a1, .ref a2, .ref a3] ++ [.ref a4, .ref a5, .ref a6])) nl3
    have el3 : upd (upd H6 l2 (.lst [.ref a4, .ref a5, .ref a6])) l3 (.lst ([.ref a0, .ref a1, .ref a2, .ref a3] ++ [.ref a4, .ref a5, .ref a6])) l3 = some (.lst ([.ref a0, .ref a1, .ref a2, .ref a3] ++ [.ref a4, .ref a5, .ref a6])) := upd_same
    have t23 := Same.trans t2 t3
    generalize upd (upd H6 l2 (.lst [.ref a4, .ref a5, .ref a6])) l3 (.lst ([.ref a0, .ref a1, .ref a2, .ref a3] ++ [.ref a4, .ref a5, .ref a6])) = G3 at t23 el3 ⊢
    refine ⟨_, rfl, ?_⟩
    refine fun a7 n7 => ?_
    have s7 := same_upd (o := ExO (.ref T.C_NothingToUndo) a7) n7
    have e7 : ErrO (upd G3 a7 (ExO (.ref T.C_NothingToUndo) a7)) a7 T.C_NothingToUndo [] := .inr ⟨rfl, upd_same⟩
    generalize upd G3 a7 (ExO (.ref T.C_NothingToUndo) a7) = H7 at s7 e7 ⊢
    refine fun a8 n8 => ?_
    have s8 := same_upd (o := ExO (.ref T.C_NothingToRedo) a8) n8
    have e8 : ErrO (upd H7 a8 (ExO (.ref T.C_NothingToRedo) a8)) a8 T.C_NothingToRedo [] := .inr ⟨rfl, upd_same⟩
    generalize upd H7 a8 (ExO (.ref T.C_NothingToRedo) a8) = H8 at s8 e8 ⊢
    refine ⟨lenL (by show 2 ≤ 100000; decide), fun l4 nl4 => ?_⟩
    have t4 := same_upd (o := .lst [.ref a7, .ref a8]) nl4
    have r78 := Same.trans s7 s8
    refine ⟨l3, l4, _, _, rfl, rfl, t4 _ _ (r78 _ _ el3), upd_same, lenL (by show 7 + 2 ≤ 100000; decide), fun p np => ?_⟩
    have t5 := same_upd (o := .lst (([.ref a0, .ref a1, .ref a2, .ref a3] ++ [.ref a4, .ref a5, .ref a6]) ++ [.ref a7, .ref a8])) np
    have u8 := Same.trans t4 t5
    have u7 := Same.trans s8 u8
    have u6 := Same.trans t23 (Same.trans s7 u7)
    have u5 := Same.trans s6 u6
    have u4 := Same.trans s5 u5
    have u3 := Same.trans t1 (Same.trans s4 u4)
    have u2 := Same.trans s3 u3
    have u1 := Same.trans s2 u2
    have u0 := Same.trans s1 u1
    have uu := Same.trans s0 u0
    refine q p _ [a0, a1, a2, a3, a4, a5, a6, a7, a8] (none_back0 (Same.trans s03 (Same.trans t1 (Same.trans r46 (Same.trans t23 (Same.trans r78 t4))))) np) uu upd_same rfl (fun k hk => ?_)
    match k, hk with
    | 0, _ => exact e0.same u0
    | 1, _ => exact e1.same u1
    | 2, _ => exact e2.same u2
    | 3, _ => exact e3.same u3
    | 4, _ => exact e4.same u4
    | 5, _ => exact e5.same u5
    | 6, _ => exact e6.same u6
    | 7, _ => exact e7.same u7
    | 8, _ => exact e8.same u8
    | k + 9, h => exact absurd h (by omega)
--CUT
theorem cut_take {xs : List V} {m : Nat} (h : m ≤ xs.length) : cutV xs none (some (m : Int)) = xs.take m := by
  unfold cutV
  rw [HT.sIx_nat, HT.sIx_none, List.drop_zero, Nat.sub_zero, Nat.min_eq_left h]
theorem cut_drop {xs : List V} {m : Nat} (h : m ≤ xs.length) : cutV xs (some (m : Int)) none = xs.drop m := by
  unfold cutV
  rw [HT.sIx_nat, HT.sIx_none, Nat.min_eq_left h, List.take_of_length_le (by rw [List.length_drop]; exact Nat.le_refl _)]
theorem ErrO.fld {H : Hp} {a D : Addr} {fs : List (Str × V)} (e : ErrO H a D fs) (h : fs ≠ []) : ∃ d, H a = some (exo a D (some d)) ∧ H d = some (exd d fs) := e.elim id fun z => absurd z.1 h
theorem flA_place (x : Int) (ns : List Int) (s d : Addr) : ∀ k : Nat, k < 9 → flA x ns s d k = [(("place" : Str), V.int x)]
  | 0, _ => rfl
  | 1, _ => rfl
  | 2, _ => rfl
  | 3, _ => rfl
  | 4, _ => rfl
  | 5, _ => rfl
  | 6, _ => rfl
  | 7, _ => rfl
  | 8, _ => rfl
  | k + 9, h => absurd h (by omega)
theorem T0.naP (T : T0 K mg) : ∀ k : Nat, k < 9 → PySem.W.findIn K (.ref (T.clA k)) "place" = some none
  | 0, _ => T.na_OffCircle_place
  | 1, _ => T.na_NoHouse_place
  | 2, _ => T.na_TakenPlace_place
  | 3, _ => T.na_StillNamed_place
  | 4, _ => T.na_NotBetween_place
  | 5, _ => T.na_SamePiece_place
  | 6, _ => T.na_NotQuiet_place
  | 7, _ => T.na_NotAtRest_place
  | 8, _ => T.na_Untold_place
  | k + 9, h => absurd h (by omega)
/-- a row of made errors -/
structure Row (K : PySem.W.Frag) (cl : Nat → Addr) (H : Hp) (ea : Addr) (x : Int) (nl sy dd : Addr) (ns : List Int) (es : List Addr) : Prop where
  he : H ea = some (.lst (es.map V.ref))
  le : es.length = 18
  eo : ∀ k, k < 18 → ErrO H (es.getD k 0) (cl k) (flA x ns sy dd k)
  hn : H nl = some (.lst (ns.map V.int))
  ln : ns.length = 8
  ss : Sm K 2 H (.ref sy) (.ref sy)
  sd : Sm K 2 H (.ref dd) (.ref dd)
theorem Row.same {cl : Nat → Addr} {H H' : Hp} {ea nl sy dd : Addr} {x : Int} {ns : List Int} {es : List Addr} (r : Row K cl H ea x nl sy dd ns es) (s : Same H H') : Row K cl H' ea x nl sy dd ns es :=
  ⟨s _ _ r.he, r.le, fun k hk => (r.eo k hk).same s, s _ _ r.hn, r.ln, r.ss.same s, r.sd.same s⟩
def sp__law_kept (K : PySem.W.Frag) (cl : Nat → Addr) : Sp := fun vs H Q _ => ∃ (ea nl sy dd : Addr) (x : Int) (ns : List Int) (es : List Addr), vs = [.ref ea, .int x, .ref nl, .ref sy, .ref dd] ∧ Row K cl H ea x nl sy dd ns es ∧ ∀ H', Same H H' → Q (.bl true) H'
theorem T0.ok__law_kept (T : T0 K mg) : FnOk P w K mg base CX0 4 T.a__law_kept T.fd__law_kept ["errors", "place", "numbers", "saying", "deed"] (sp__law_kept K T.clA) := by
  refine T.F__law_kept.ok sc__law_kept (fun vs H Q E h => ?_) (fun cdv A outer s H vs Q E hr h => ?_)
  · obtain ⟨ea, nl, sy, dd, x, ns, es, rfl, _⟩ := h
    rfl
  · obtain ⟨ea, nl, sy, dd, x, ns, es, rfl, R, q⟩ := h
    have atE : ∀ (k : Nat), k < 18 → atI (es.map V.ref) (k : Int) = some (.ref (es.getD k 0)) := fun k hk => by
      refine atI_nat ?_
      rw [List.getElem?_map, List.getD_eq_getElem?_getD, List.getElem?_eq_getElem (by rw [R.le]; exact hk)]
      rfl
    refine ⟨_, (pss_cons (ps_if (pt_not (pt_val (pe_call (T.ok__law_same 3) (hr.mono (by decide)) (by rfl) T.g__law_same T.k__law_same T.b__law_same .nil pass0 (pa_cons (pe_lc (own := [("e", 6)]) (g := gName 6) (by rfl) sc__law_kept.nd (pi_list (pe_slice (sl_listK (K := K)) (pv 0) po_none (po_some pe_int))) (blkOk_by (own := [("e", 6)]) (N := ["errors", "place", "numbers", "saying", "deed", "told", "e", "k"]) (sc := defScope s__law_kept) (by decide +kernel)) (fun _ _ _ _ _ => pg_name (i := 6) sc__law_kept.nd rfl (Or.inl rfl)) (fun _ _ _ _ _ => pts_nil) (fun _ _ _ _ _ => (show PE _ _ (tXx K _ _) from pe_xx (pv 6)))) (pa_cons (pe_lc (own := [("k", 7)]) (g := gName 7) (by rfl) sc__law_kept.nd (pi_range1 (by rfl) T.m_range (pa_cons pe_int pa_nil)) (blkOk_by (own := [("k", 7)]) (N := ["errors", "place", "numbers", "saying", "deed", "told", "e", "k"]) (sc := defScope s__law_kept) (by decide +kernel)) (fun _ _ _ _ _ => pg_name (i := 7) sc__law_kept.nd rfl (Or.inl rfl)) (fun _ _ _ _ _ => pts_nil) (fun _ _ _ _ _ => (pv 1))) pa_nil))))) (pss_one (ps_ret pe_bl)) pss_nil)
        (pss_cons (ps_set (i := 5) sc__law_kept.nd rfl (Or.inl rfl) (pe_lst (pa_cons (show PE _ _ (tXx K _ _) from pe_xx (pe_ix (ix_listK (K := K)) (pv 0) pe_int (fun _ _ => rfl))) (pa_cons (show PE _ _ (tXx K _ _) from pe_xx (pe_ix (ix_listK (K := K)) (pv 0) pe_int (fun _ _ => rfl))) (pa_cons (show PE _ _ (tXx K _ _) from pe_xx (pe_ix (ix_listK (K := K)) (pv 0) pe_int (fun _ _ => rfl))) (pa_cons (show PE _ _ (tXx K _ _) from pe_xx (pe_ix (ix_listK (K := K)) (pv 0) pe_int (fun _ _ => rfl))) (pa_cons (show PE _ _ (tXx K _ _) from pe_xx (pe_ix (ix_listK (K := K)) (pv 0) pe_int (fun _ _ => rfl))) (pa_cons (show PE _ _ (tXx K _ _) from pe_xx (pe_ix (ix_listK (K := K)) (pv 0) pe_int (fun _ _ => rfl))) pa_nil))))))))
        (pss_cons (ps_set (i := 5) sc__law_kept.nd rfl (Or.inl rfl) (pe_op op_cat (pv 5) (pe_lst (pa_cons (show PE _ _ (tXx K _ _) from pe_xx (pe_ix (ix_listK (K := K)) (pv 0) pe_int (fun _ _ => rfl))) (pa_cons (show PE _ _ (tXx K _ _) from pe_xx (pe_ix (ix_listK (K := K)) (pv 0) pe_int (fun _ _ => rfl))) (pa_cons (show PE _ _ (tXx K _ _) from pe_xx (pe_ix (ix_listK (K := K)) (pv 0) pe_int (fun _ _ => rfl))) (pa_cons (show PE _ _ (tXx K _ _) from pe_xx (pe_ix (ix_listK (K := K)) (pv 0) pe_int (fun _ _ => rfl))) pa_nil)))))))
        (pss_one (ps_ret (pe_call (T.ok__law_same 3) (hr.mono (by decide)) (by rfl) T.g__law_same T.k__law_same T.b__law_same .nil pass0 (pa_cons (pv 5) (pa_cons (pe_op op_cat (pe_op op_cat (pe_op op_cat (pe_slice (sl_listK (K := K)) (pv 2) po_none (po_some pe_int)) (pe_lst (pa_cons (pv 3) pa_nil))) (pe_slice (sl_listK (K := K)) (pv 2) (po_some pe_int) po_none)) (pe_lst (pa_cons (pv 4) pa_nil))) pa_nil)))))))), ?_⟩
    -- [e.place for e in errors[:9]]
    refine ⟨_, rfl, 9, rfl, ea, _, rfl, SqL.of R.he, fun l0 nl0 => ?_⟩
    rw [show (9 : Int) = ((9 : Nat) : Int) from rfl, cut_take (by rw [List.length_map, R.le]; decide), ← List.map_take]
    have s0 := same_upd (o := .lst ((es.take 9).map V.ref)) nl0
    have el0 : upd H l0 (.lst ((es.take 9).map V.ref)) l0 = some (.lst ((es.take 9).map V.ref)) := upd_same
    generalize upd H l0 (.lst ((es.take 9).map V.ref)) = H0 at s0 el0 ⊢
    refine ⟨l0, rfl, ⟨_, SqL.of el0⟩, fun D hD => ?_⟩
    refine lc_list (K := K) (a := l0) (xs := (es.take 9).map V.ref) (fun i H' => Same H0 H' ∧ H' D = some (.lst (List.replicate i (V.int x)))) ⟨same_upd hD, upd_same⟩ (fun i H' _ p => SqL.of (p.1 _ _ el0)) (fun i v H' hv pv => ?_) (fun H1 pv => ?_)
    · obtain ⟨s1, e1⟩ := pv
      rw [List.getElem?_map] at hv
      obtain ⟨a, ha, rfl⟩ := Option.map_eq_some_iff.mp hv
      have hi : i < 9 := by
        have := (List.getElem?_eq_some_iff.mp ha).1
        rw [List.length_take, R.le] at this
        omega
      have ea' : a = es.getD i 0 := by
        rw [List.getElem?_take_of_lt hi] at ha
        rw [List.getD_eq_getElem?_getD, ha]
        rfl
      have eO := (R.eo i (by omega)).same (Same.trans s0 s1)
      rw [flA_place x ns sy dd i hi, ← ea'] at eO
      obtain ⟨d, h1, h2⟩ := eO.fld (by simp)
      refine ⟨rfl, lc_yes ?_⟩
      refine ⟨_, rfl, a, T.clA i, d, _, .int x, rfl, T.erA i (by omega), T.naP i hi, h1, h2, lk0, _, e1, small1000' (by rw [List.length_replicate]; omega), fun b o e => (upd_ne (ne_of_none e hD)).trans (s1 _ _ e), ?_⟩
      rw [upd_same, List.replicate_succ']
    obtain ⟨s1, e1⟩ := pv
    have l9 : ((es.take 9).map V.ref).length = 9 := by rw [List.length_map, List.length_take, R.le]; rfl
    rw [l9] at e1
    have s01 := Same.trans s0 s1
    -- [place for k in range(9)]
    refine ⟨9, rfl, by decide, by decide, fun D2 hD2 => ?_⟩
    refine lc_range (lo := 0) (n := 9) (fun i H' => Same H1 H' ∧ H' D2 = some (.lst (List.replicate i (V.int x)))) ⟨same_upd hD2, upd_same⟩ (fun i H' hi pv => ?_) (fun H2 pv => ?_)
    · obtain ⟨s2, e2⟩ := pv
      refine ⟨rfl, lc_yes ?_⟩
      refine ⟨_, rfl, _, e2, small1000' (by rw [List.length_replicate]; omega), fun b o e => (upd_ne (ne_of_none e hD2)).trans (s2 _ _ e), ?_⟩
      rw [upd_same, List.replicate_succ']
    obtain ⟨s2, e2⟩ := pv
    refine ⟨_, _, rfl, .lst (SqL.of (s2 _ _ e1)) (SqL.of e2) rfl (by rw [List.length_replicate]; decide) (fun i y z hy hz => ?_), fun H3 s3 => ⟨true, rfl, iteF ?_⟩⟩
    · rw [List.eq_of_mem_replicate (List.mem_of_getElem? hy), List.eq_of_mem_replicate (List.mem_of_getElem? hz)]
      exact .atom rfl
    have s03 := Same.trans s01 (Same.trans s2 s3)
    have R3 := R.same s03
    obtain ⟨x0, x1, x2, x3, x4, x5, x6, x7, rfl⟩ : ∃ x0 x1 x2 x3 x4 x5 x6 x7, ns = [x0, x1, x2, x3, x4, x5, x6, x7] := by
      have l8 := R.ln
      match ns, l8 with
      | [x0, x1, x2, x3, x4, x5, x6, x7], _ => exact ⟨_, _, _, _, _, _, _, _, rfl⟩
    obtain ⟨d9, p9, f9⟩ := (R3.eo 9 (by decide)).fld (by simp [flA])
    obtain ⟨d10, p10, f10⟩ := (R3.eo 10 (by decide)).fld (by simp [flA])
    obtain ⟨d11, p11, f11⟩ := (R3.eo 11 (by decide)).fld (by simp [flA])
    obtain ⟨d12, p12, f12⟩ := (R3.eo 12 (by decide)).fld (by simp [flA])
    obtain ⟨d13, p13, f13⟩ := (R3.eo 13 (by decide)).fld (by simp [flA])
    obtain ⟨d14, p14, f14⟩ := (R3.eo 14 (by decide)).fld (by simp [flA])
    obtain ⟨d15, p15, f15⟩ := (R3.eo 15 (by decide)).fld (by simp [flA])
    refine ⟨_, rfl, ea, _, 9, _, rfl, rfl, SqL.of R3.he, atE 9 (by decide), _, _, d9, _, .int x0, rfl, T.er_NoLetter, T.na_NoLetter_at, p9, f9, lk0, ?_⟩
    refine ⟨_, rfl, ea, _, 10, _, rfl, rfl, SqL.of R3.he, atE 10 (by decide), _, _, d10, _, .int x1, rfl, T.er_BadText, T.na_BadText_line, p10, f10, lk0, ?_⟩
    refine ⟨_, rfl, ea, _, 11, _, rfl, rfl, SqL.of R3.he, atE 11 (by decide), _, _, d11, _, .ref sy, rfl, T.er_UntrueNet, T.na_UntrueNet_saying, p11, f11, lk0, ?_⟩
    refine ⟨_, rfl, ea, _, 12, _, rfl, rfl, SqL.of R3.he, atE 12 (by decide), _, _, d12, _, .int x2, rfl, T.er_OpenWalk, T.na_OpenWalk_first, p12, f12, (lk1 (by decide +kernel)).trans lk0, ?_⟩
    refine ⟨_, rfl, ea, _, 12, _, rfl, rfl, SqL.of R3.he, atE 12 (by decide), _, _, d12, _, .int x3, rfl, T.er_OpenWalk, T.na_OpenWalk_last, p12, f12, lk0, ?_⟩
    refine ⟨_, rfl, ea, _, 13, _, rfl, rfl, SqL.of R3.he, atE 13 (by decide), _, _, d13, _, .int x4, rfl, T.er_WalksApart, T.na_WalksApart_end, p13, f13, (lk1 (by decide +kernel)).trans lk0, ?_⟩
    refine ⟨lenL (by show 6 ≤ 100000; decide), fun t1 nt1 => ?_⟩
    have s4 := same_upd (o := .lst [.int x0, .int x1, .ref sy, .int x2, .int x3, .int x4]) nt1
    have et1 : upd H3 t1 (.lst [.int x0, .int x1, .ref sy, .int x2, .int x3, .int x4]) t1 = some (.lst [.int x0, .int x1, .ref sy, .int x2, .int x3, .int x4]) := upd_same
    generalize upd H3 t1 (.lst [.int x0, .int x1, .ref sy, .int x2, .int x3, .int x4]) = H4 at s4 et1 ⊢
    have R4 := R3.same s4
    refine ⟨_, rfl, _, rfl, ea, _, 13, _, rfl, rfl, SqL.of R4.he, atE 13 (by decide), _, _, d13, _, .int x5, rfl, T.er_WalksApart, T.na_WalksApart_start, s4 _ _ p13, s4 _ _ f13, lk0, ?_⟩
    refine ⟨_, rfl, ea, _, 14, _, rfl, rfl, SqL.of R4.he, atE 14 (by decide), _, _, d14, _, .int x6, rfl, T.er_NoOrder, T.na_NoOrder_turns, s4 _ _ p14, s4 _ _ f14, (lk1 (by decide +kernel)).trans lk0, ?_⟩
    refine ⟨_, rfl, ea, _, 14, _, rfl, rfl, SqL.of R4.he, atE 14 (by decide), _, _, d14, _, .int x7, rfl, T.er_NoOrder, T.na_NoOrder_index, s4 _ _ p14, s4 _ _ f14, lk0, ?_⟩
    refine ⟨_, rfl, ea, _, 15, _, rfl, rfl, SqL.of R4.he, atE 15 (by decide), _, _, d15, _, .ref dd, rfl, T.er_BadDeed, T.na_BadDeed_deed, s4 _ _ p15, s4 _ _ f15, lk0, ?_⟩
    refine ⟨lenL (by show 4 ≤ 100000; decide), fun t2 nt2 => ?_⟩
    have s5 := same_upd (o := .lst [.int x5, .int x6, .int x7, .ref dd]) nt2
    refine ⟨t1, t2, _, _, rfl, rfl, s5 _ _ et1, upd_same, lenL (by show 6 + 4 ≤ 100000; decide), fun t3 nt3 => ?_⟩
    have s6 := same_upd (o := .lst ([.int x0, .int x1, .ref sy, .int x2, .int x3, .int x4] ++ [.int x5, .int x6, .int x7, .ref dd])) nt3
    have et3 : upd (upd H4 t2 (.lst [.int x5, .int x6, .int x7, .ref dd])) t3 (.lst ([.int x0, .int x1, .ref sy, .int x2, .int x3, .int x4] ++ [.int x5, .int x6, .int x7, .ref dd])) t3 = some (.lst [.int x0, .int x1, .ref sy, .int x2, .int x3, .int x4, .int x5, .int x6, .int x7, .ref dd]) := upd_same
    have s56 := Same.trans s5 s6
    generalize upd (upd H4 t2 (.lst [.int x5, .int x6, .int x7, .ref dd])) t3 (.lst ([.int x0, .int x1, .ref sy, .int x2, .int x3, .int x4] ++ [.int x5, .int x6, .int x7, .ref dd])) = H6 at s56 et3 ⊢
    have R6 := R4.same s56
    -- numbers[:2] + [saying] + numbers[2:] + [deed]
    refine ⟨_, rfl, _, rfl, 2, rfl, nl, _, rfl, SqL.of R6.hn, fun u1 nu1 => ?_⟩
    rw [show (2 : Int) = ((2 : Nat) : Int) from rfl, cut_take (by show 2 ≤ 8; decide)]
    have v1 := same_upd (o := .lst (([x0, x1, x2, x3, x4, x5, x6, x7].map V.int).take 2)) nu1
    have eu1 : upd H6 u1 (.lst (([x0, x1, x2, x3, x4, x5, x6, x7].map V.int).take 2)) u1 = some (.lst [.int x0, .int x1]) := upd_same
    generalize upd H6 u1 (.lst (([x0, x1, x2, x3, x4, x5, x6, x7].map V.int).take 2)) = H7 at v1 eu1 ⊢
    refine ⟨_, rfl, lenL (by show 1 ≤ 100000; decide), fun u2 nu2 => ?_⟩
    have v2 := same_upd (o := .lst [.ref sy]) nu2
    refine ⟨u1, u2, _, _, rfl, rfl, v2 _ _ eu1, upd_same, lenL (by show 2 + 1 ≤ 100000; decide), fun u3 nu3 => ?_⟩
    have v3 := same_upd (o := .lst ([.int x0, .int x1] ++ [.ref sy])) nu3
    have eu3 : upd (upd H7 u2 (.lst [.ref sy])) u3 (.lst ([.int x0, .int x1] ++ [.ref sy])) u3 = some (.lst [.int x0, .int x1, .ref sy]) := upd_same
    have v23 := Same.trans v2 v3
    generalize upd (upd H7 u2 (.lst [.ref sy])) u3 (.lst ([.int x0, .int x1] ++ [.ref sy])) = H8 at v23 eu3 ⊢
    have v13 := Same.trans v1 v23
    have R8 := R6.same v13
    refine ⟨_, rfl, 2, rfl, nl, _, rfl, SqL.of R8.hn, fun u4 nu4 => ?_⟩
    rw [show (2 : Int) = ((2 : Nat) : Int) from rfl, cut_drop (by show 2 ≤ 8; decide)]
    have v4 := same_upd (o := .lst (([x0, x1, x2, x3, x4, x5, x6, x7].map V.int).drop 2)) nu4
    have eu4 : upd H8 u4 (.lst (([x0, x1, x2, x3, x4, x5, x6, x7].map V.int).drop 2)) u4 = some (.lst [.int x2, .int x3, .int x4, .int x5, .int x6, .int x7]) := upd_same
    generalize upd H8 u4 (.lst (([x0, x1, x2, x3, x4, x5, x6, x7].map V.int).drop 2)) = H9 at v4 eu4 ⊢
    refine ⟨u3, u4, _, _, rfl, rfl, v4 _ _ eu3, eu4, lenL (by show 3 + 6 ≤ 100000; decide), fun u5 nu5 => ?_⟩
    have v5 := same_upd (o := .lst ([.int x0, .int x1, .ref sy] ++ [.int x2, .int x3, .int x4, .int x5, .int x6, .int x7])) nu5
    have eu5 : upd H9 u5 (.lst ([.int x0, .int x1, .ref sy] ++ [.int x2, .int x3, .int x4, .int x5, .int x6, .int x7])) u5 = some (.lst [.int x0, .int x1, .ref sy, .int x2, .int x3, .int x4, .int x5, .int x6, .int x7]) := upd_same
    generalize upd H9 u5 (.lst ([.int x0, .int x1, .ref sy] ++ [.int x2, .int x3, .int x4, .int x5, .int x6, .int x7])) = H10 at v5 eu5 ⊢
    refine ⟨_, rfl, lenL (by show 1 ≤ 100000; decide), fun u6 nu6 => ?_⟩
    have v6 := same_upd (o := .lst [.ref dd]) nu6
    refine ⟨u5, u6, _, _, rfl, rfl, v6 _ _ eu5, upd_same, lenL (by show 9 + 1 ≤ 100000; decide), fun u7 nu7 => ?_⟩
    have v7 := same_upd (o := .lst ([.int x0, .int x1, .ref sy, .int x2, .int x3, .int x4, .int x5, .int x6, .int x7] ++ [.ref dd])) nu7
    have eu7 : upd (upd H10 u6 (.lst [.ref dd])) u7 (.lst ([.int x0, .int x1, .ref sy, .int x2, .int x3, .int x4, .int x5, .int x6, .int x7] ++ [.ref dd])) u7 = some (.lst [.int x0, .int x1, .ref sy, .int x2, .int x3, .int x4, .int x5, .int x6, .int x7, .ref dd]) := upd_same
    have v67 := Same.trans v6 v7
    generalize upd (upd H10 u6 (.lst [.ref dd])) u7 (.lst ([.int x0, .int x1, .ref sy, .int x2, .int x3, .int x4, .int x5, .int x6, .int x7] ++ [.ref dd])) = H11 at v67 eu7 ⊢
    have w := Same.trans v4 (Same.trans v5 v67)
    have R11 := R8.same w
    refine ⟨_, _, rfl, .lstP (SqL.of (w _ _ (v13 _ _ et3))) (SqL.of eu7) (by show 10 ≤ 100000; decide) (.cons (.atom rfl) (.cons (.atom rfl) (.cons R11.ss (.cons (.atom rfl) (.cons (.atom rfl) (.cons (.atom rfl) (.cons (.atom rfl) (.cons (.atom rfl) (.cons (.atom rfl) (.cons R11.sd .nil)))))))))), fun H12 s12 => ?_⟩
    exact q H12 (Same.trans s03 (Same.trans s4 (Same.trans s56 (Same.trans v13 (Same.trans w s12)))))
--CUT
def sp_law (K : PySem.W.Frag) : Sp := fun vs H Q _ => ∃ (a : Addr) (ns : List Int), vs = [.ref a] ∧ SqL K H a (ns.map V.int) ∧ ns.length ≤ 63 ∧ ∀ H', Q (.bl true) H'
theorem shaped_bools (bs : List Bool) : SeqAt.shaped (.list (bs.map PyData.bool)) = true := by
  have c : ∀ bs : List Bool, PyData.canLayAll0 (bs.map PyData.bool) = true := fun bs => by
    induction bs with
    | nil => rfl
    | cons b r ih => simp [PyData.canLayAll0, PyData.canLay0, ih]
  have d : ∀ bs : List Bool, PyData.depthAll (bs.map PyData.bool) ≤ 1 := fun bs => by
    induction bs with
    | nil => simp [PyData.depthAll]
    | cons b r ih => simp [PyData.depthAll, PyData.depth]; omega
  have := d bs
  simp [SeqAt.shaped, PyData.canLay0, PyData.depth, c]
  omega
theorem dpAll_bools {H : Hp} : ∀ bs : List Bool, DpAll K H (bs.map V.bl) (bs.map PyData.bool)
  | [] => .nil
  | b :: r => .cons (.bl b) (dpAll_bools r)
theorem sm_atoms {H : Hp} {a : Addr} {xs : List V} (h : H a = some (.tup xs)) (l : xs.length ≤ 100000) (ha : ∀ y ∈ xs, atomV y = true) : Sm K 2 H (.ref a) (.ref a) :=
  .tup (SqT.of h) (SqT.of h) rfl l fun i x y hx hy => by
    rw [hx] at hy
    cases hy
    exact .atom (ha x (List.mem_of_getElem? hx))
/-- a row that is kept in the list at p -/
structure RowP (K : PySem.W.Frag) (cl : Nat → Addr) (t p : Addr) (H : Hp) (r : Addr) : Prop where
  ex : ∃ (ea nl sy dd : Addr) (x : Int) (ns : List Int) (es : List Addr) (xs ys : List V), H r = some (.tup [.ref ea, .int x, .ref nl, .ref sy, .ref dd]) ∧ H ea = some (.lst (es.map V.ref)) ∧ es.length = 18 ∧ (∀ k, k < 18 → ErrO H (es.getD k 0) (cl k) (flA x ns sy dd k)) ∧ H nl = some (.lst (ns.map V.int)) ∧ ns.length = 8 ∧
    H sy = some (.tup xs) ∧ xs.length ≤ 100 ∧ (∀ y ∈ xs, atomV y = true) ∧ H dd = some (.tup ys) ∧ ys.length ≤ 100 ∧ (∀ y ∈ ys, atomV y = true) ∧ ea ≠ t ∧ ea ≠ p ∧ nl ≠ t ∧ nl ≠ p
theorem ErrO.but {t p : Addr} {H H' : Hp} {a D : Addr} {fs : List (Str × V)} {xs zs : List V} (e : ErrO H a D fs) (ht : H t = some (.lst xs)) (hp : H p = some (.lst zs)) (f : ∀ b o, b ≠ t → b ≠ p → H b = some o → H' b = some o) : ErrO H' a D fs := by
  have nl : ∀ {b : Addr} {o : HO}, H b = some o → (∀ xs, o ≠ .lst xs) → H' b = some o := fun e no => f _ _ (ne_kind' e ht (no _)) (ne_kind' e hp (no _)) e
  rcases e with ⟨d, e1, e2⟩ | ⟨e1, e2⟩
  · exact .inl ⟨d, nl e1 (fun xs z => by have z' : HO.ext _ = HO.lst xs := z; cases z'), nl e2 (fun xs z => by have z' : HO.ext _ = HO.lst xs := z; cases z')⟩
  · exact .inr ⟨e1, nl e2 (fun xs z => by have z' : HO.ext _ = HO.lst xs := z; cases z')⟩
theorem RowP.but {cl : Nat → Addr} {t p r : Addr} {H H' : Hp} {xs zs : List V} (h : RowP K cl t p H r) (ht : H t = some (.lst xs)) (hp : H p = some (.lst zs)) (f : ∀ b o, b ≠ t → b ≠ p → H b = some o → H' b = some o) : RowP K cl t p H' r := by
  obtain ⟨ea, nl, sy, dd, x, ns, es, us, ys, e1, e2, e3, e4, e5, e6, e7, e8, e9, e10, e11, e12, n1, n2, n3, n4⟩ := h.ex
  have tp : ∀ {b : Addr} {xs : List V}, H b = some (.tup xs) → H' b = some (.tup xs) := fun e => f _ _ (ne_kind' e ht (fun z => nomatch z)) (ne_kind' e hp (fun z => nomatch z)) e
  exact ⟨ea, nl, sy, dd, x, ns, es, us, ys, tp e1, f _ _ n1 n2 e2, e3, fun k hk => (e4 k hk).but ht hp f, f _ _ n3 n4 e5, e6, tp e7, e8, e9, tp e10, e11, e12, n1, n2, n3, n4⟩
theorem T0.ok_law (T : T0 K mg) : FnOk P w K mg base CX0 5 T.a_law T.fd_law ["script"] (sp_law K) := by
  refine T.F_law.ok sc_law (fun vs H Q E h => ?_) (fun cdv A' outer s H vs Q E hr h => ?_)
  · obtain ⟨a, ns, rfl, _⟩ := h
    rfl
  · obtain ⟨a, ns, rfl, hS, hlen, q⟩ := h
    refine ⟨_, (pss_cons (ps_set (i := 1) sc_law.nd rfl (Or.inr rfl) (pe_call T.ok__law_tape (hr.mono (by decide)) (by rfl) T.g__law_tape T.k__law_tape T.b__law_tape .nil pass0 (pa_cons (pv 0) pa_nil)))
        (pss_cons (ps_set (i := 2) sc_law.nd rfl (Or.inl rfl) (pe_lst pa_nil))
        (pss_cons (ps_for PassesOwn.never rfl (pi_range1 (by rfl) T.m_range (pa_cons pe_int pa_nil)) (pg_name (i := 3) sc_law.nd rfl (Or.inr rfl)) (pss_cons (ps_set (i := 4) sc_law.nd rfl (Or.inl rfl) (pe_call T.ok__law_number (hr.mono (by decide)) (by rfl) T.g__law_number T.k__law_number T.b__law_number .nil pass0 (pa_cons (pv 1) pa_nil)))
        (pss_cons (ps_setLc (i := 5) (own := [("m", 12)]) (g := gName 12) (by rfl) sc_law.nd rfl rfl (sw_true rfl rfl rfl (by decide +kernel)) (pi_range1 (by rfl) T.m_range (pa_cons pe_int pa_nil)) (blkOk_by (own := [("m", 12)]) (N := ["script", "tape", "made", "k", "place", "numbers", "saying", "word", "deed", "errors", "row", "e", "m"]) (sc := defScope s_law) (by decide +kernel)) (fun _ _ _ _ _ => pg_name (i := 12) sc_law.nd rfl (Or.inl rfl)) (fun _ _ _ _ _ => pts_nil) (fun _ _ _ _ _ => (pe_call T.ok__law_number (hr.mono (by decide)) (by rfl) T.g__law_number T.k__law_number T.b__law_number .nil pass0 (pa_cons (pv 1) pa_nil))))
        (pss_cons (ps_set (i := 6) sc_law.nd rfl (Or.inl rfl) (pe_callTy (call_tuple_ofK (K := K)) (by rfl) T.m_tuple (by decide +kernel) (pa_cons (pe_lc (own := [("m", 12)]) (g := gName 12) (by rfl) sc_law.nd (pi_range1 (by rfl) T.m_range (pa_cons pe_int pa_nil)) (blkOk_by (own := [("m", 12)]) (N := ["script", "tape", "made", "k", "place", "numbers", "saying", "word", "deed", "errors", "row", "e", "m"]) (sc := defScope s_law) (by decide +kernel)) (fun _ _ _ _ _ => pg_name (i := 12) sc_law.nd rfl (Or.inl rfl)) (fun _ _ _ _ _ => pts_nil) (fun _ _ _ _ _ => (pe_call T.ok__law_number (hr.mono (by decide)) (by rfl) T.g__law_number T.k__law_number T.b__law_number .nil pass0 (pa_cons (pv 1) pa_nil)))) pa_nil)))
        (pss_cons (ps_set (i := 7) sc_law.nd rfl (Or.inl rfl) (pe_ix (ix_listK (K := K)) (pe_lst (pa_cons pe_str (pa_cons pe_str (pa_cons pe_str (pa_cons pe_str pa_nil))))) (pe_call T.ok__law_pick (hr.mono (by decide)) (by rfl) T.g__law_pick T.k__law_pick T.b__law_pick .nil pass0 (pa_cons (pv 1) (pa_cons pe_int pa_nil))) (fun _ _ => rfl)))
        (pss_cons (ps_set (i := 8) sc_law.nd rfl (Or.inl rfl) (pe_callTy (call_tuple_ofK (K := K)) (by rfl) T.m_tuple (by decide +kernel) (pa_cons (pe_op op_cat (pe_lst (pa_cons (pv 7) pa_nil)) (pe_lc (own := [("m", 12)]) (g := gName 12) (by rfl) sc_law.nd (pi_range1 (by rfl) T.m_range (pa_cons (pe_call T.ok__law_pick (hr.mono (by decide)) (by rfl) T.g__law_pick T.k__law_pick T.b__law_pick .nil pass0 (pa_cons (pv 1) (pa_cons pe_int pa_nil))) pa_nil)) (blkOk_by (own := [("m", 12)]) (N := ["script", "tape", "made", "k", "place", "numbers", "saying", "word", "deed", "errors", "row", "e", "m"]) (sc := defScope s_law) (by decide +kernel)) (fun _ _ _ _ _ => pg_name (i := 12) sc_law.nd rfl (Or.inl rfl)) (fun _ _ _ _ _ => pts_nil) (fun _ _ _ _ _ => (pe_call T.ok__law_number (hr.mono (by decide)) (by rfl) T.g__law_number T.k__law_number T.b__law_number .nil pass0 (pa_cons (pv 1) pa_nil))))) pa_nil)))
        (pss_cons (ps_set (i := 9) sc_law.nd rfl (Or.inl rfl) (pe_op op_cat (pe_call T.ok__law_of_places (hr.mono (by decide)) (by rfl) T.g__law_of_places T.k__law_of_places T.b__law_of_places .nil pass0 (pa_cons (pv 4) pa_nil)) (pe_call T.ok__law_others (hr.mono (by decide)) (by rfl) T.g__law_others T.k__law_others T.b__law_others .nil pass0 (pa_cons (pv 5) (pa_cons (pv 6) (pa_cons (pv 8) pa_nil))))))
        (pss_one (ps_expr (pe_bm PySem.F.plainAttrs_list PySem.F.slot_list_append PySem.F.type_list_append mt_append (pv 2) (pa_cons (pe_tup (pa_cons (pv 9) (pa_cons (pv 4) (pa_cons (pv 5) (pa_cons (pv 6) (pa_cons (pv 8) pa_nil)))))) pa_nil)))))))))))
        (pss_cons (ps_for PassesOwn.never rfl (pi_list (pv 2)) (pg_name (i := 10) sc_law.nd rfl (Or.inl rfl)) (pss_cons (ps_if (pt_not (pt_val (pe_call T.ok__law_kept hr (by rfl) T.g__law_kept T.k__law_kept T.b__law_kept .nil pass0 (pa_cons (pe_ix (ix_tupK (K := K)) (pv 10) pe_int (fun _ _ => rfl)) (pa_cons (pe_ix (ix_tupK (K := K)) (pv 10) pe_int (fun _ _ => rfl)) (pa_cons (pe_ix (ix_tupK (K := K)) (pv 10) pe_int (fun _ _ => rfl)) (pa_cons (pe_ix (ix_tupK (K := K)) (pv 10) pe_int (fun _ _ => rfl)) (pa_cons (pe_ix (ix_tupK (K := K)) (pv 10) pe_int (fun _ _ => rfl)) pa_nil)))))))) (pss_one (ps_ret pe_bl)) pss_nil)
        (pss_one (ps_for PassesOwn.never rfl (pi_range1 (by rfl) T.m_range (pa_cons pe_int pa_nil)) (pg_name (i := 3) sc_law.nd rfl (Or.inr rfl)) (pss_cons (ps_set (i := 11) sc_law.nd rfl (Or.inl rfl) (pe_ix (ix_listK (K := K)) (pe_ix (ix_tupK (K := K)) (pv 10) pe_int (fun _ _ => rfl)) (pv 3) (fun _ _ => rfl)))
        (pss_cons (ps_if (pt_cmpR (op_neD hr.units) (pe_call T.ok__law_kinds (hr.mono (by decide)) (by rfl) T.g__law_kinds T.k__law_kinds T.b__law_kinds .nil pass0 (pa_cons (pv 11) pa_nil)) (pe_lc (own := [("m", 12)]) (g := gName 12) (by rfl) sc_law.nd (pi_range1 (by rfl) T.m_range (pa_cons pe_int pa_nil)) (blkOk_by (own := [("m", 12)]) (N := ["script", "tape", "made", "k", "place", "numbers", "saying", "word", "deed", "errors", "row", "e", "m"]) (sc := defScope s_law) (by decide +kernel)) (fun _ _ _ _ _ => pg_name (i := 12) sc_law.nd rfl (Or.inl rfl)) (fun _ _ _ _ _ => pts_nil) (fun _ _ _ _ _ => (pe_cmpR op_eq (pv 12) (pv 3) (nomark _)))) (nomark _)) (pss_one (ps_ret pe_bl)) pss_nil)
        (pss_one (ps_if (PW.pt (pw_or (pt_not (pt_val (pe_callB (call_isX (K := K)) (by rfl) T.m_isinstance (by decide +kernel) (pa_cons (pv 11) (pa_cons (pe_glob (v := .ref T.C_RingError) rfl T.mc_RingError rfl) pa_nil))))) (pw_or1 (pt_not (pt_val (pe_callB (call_isX (K := K)) (by rfl) T.m_isinstance (by decide +kernel) (pa_cons (pv 11) (pa_cons (pe_bltn (v := .ty "ValueError") (by rfl) T.m_ValueError (by decide +kernel) rfl) pa_nil)))))))) (pss_one (ps_ret pe_bl)) pss_nil))))))))
        (pss_one (ps_ret pe_bl)))))), ?_⟩
    refine ⟨_, rfl, a, ns, rfl, hS, by omega, fun H1 t c sm nt T1 => ?_⟩
    refine ⟨Nat.zero_le _, fun p np => ?_⟩
    have op := T1.off np
    have T2 := T1.put (o := .lst []) op
    have ep : upd H1 p (.lst []) p = some (.lst []) := upd_same
    generalize upd H1 p (.lst []) = H2 at T2 ep ⊢
    refine ⟨2, rfl, by decide, by decide, ?_⟩
    refine for_range (lo := 0) (n := 2) (fun i σ' H' => ∃ (o3 o4 o5 o6 o7 o8 o9 : Option V) (rs : List Addr), σ' = [some (.ref a), some (.ref t), some (.ref p), o3, o4, o5, o6, o7, o8, o9, none, none, none] ∧ rs.length = i ∧ H' p = some (.lst (rs.map V.ref)) ∧ Tape H' t c ∧ ∀ r ∈ rs, RowP K T.clA t p H' r)
      ⟨none, none, none, none, none, none, none, [], rfl, rfl, ep, T2, fun r h => nomatch h⟩ (fun i σ' H3 hi pv => ?_) (fun σ' H3 pv => ?_)
    · obtain ⟨o3, o4, o5, o6, o7, o8, o9, rs, rfl, lr, hp, T3, hR⟩ := pv
      refine ⟨_, rfl, t, c, rfl, T3, fun x H4 k4 T4 => ?_⟩
      have hp4 := k4 _ _ op.1 hp
      have tk : ∀ {Ha Hb : Hp}, Tape Ha t c → Kp t Ha Hb → ∀ {b : Addr} {o : HO}, (∀ xs, o ≠ .lst xs) → Ha b = some o → Hb b = some o := fun T k b o no e => by
        obtain ⟨⟨xt, et⟩, _⟩ := tape_at T
        exact k _ _ (ne_kind' e et (no _)) e
      -- numbers
      refine ⟨8, rfl, by decide, by decide, fun D1 hD1 => ?_⟩
      have oD1 := T4.off hD1
      refine lc_range (lo := 0) (n := 8) (fun i H' => ∃ zs : List Int, zs.length = i ∧ H' D1 = some (.lst (zs.map V.int)) ∧ Kp t H4 H' ∧ Tape H' t c) ⟨[], rfl, upd_same, Kp.of_same (same_upd hD1), T4.put oD1⟩ (fun j H' hj pv => ?_) (fun H5 pv => ?_)
      · obtain ⟨zs, lz, e1, k1, T5⟩ := pv
        refine ⟨rfl, lc_yes ?_⟩
        refine ⟨_, rfl, t, c, rfl, T5, fun z H6 k6 T6 => ⟨_, k6 _ _ oD1.1 e1, small1000' (by rw [List.length_map]; omega), zs ++ [z], by rw [List.length_append, lz]; rfl, ?_, fun b o nb e => (upd_ne (ne_of_none e hD1)).trans (k6 _ _ nb (k1 _ _ nb e)), T6.put oD1⟩⟩
        rw [upd_same, List.map_append]
        rfl
      obtain ⟨zs, l8, eN, k5, T5⟩ := pv
      -- saying
      refine ⟨3, rfl, by decide, by decide, fun D2 hD2 => ?_⟩
      have oD2 := T5.off hD2
      refine lc_range (lo := 0) (n := 3) (fun i H' => ∃ zs : List Int, zs.length = i ∧ H' D2 = some (.lst (zs.map V.int)) ∧ Kp t H5 H' ∧ Tape H' t c) ⟨[], rfl, upd_same, Kp.of_same (same_upd hD2), T5.put oD2⟩ (fun j H' hj pv => ?_) (fun H6 pv => ?_)
      · obtain ⟨zs, lz, e1, k1, T6⟩ := pv
        refine ⟨rfl, lc_yes ?_⟩
        refine ⟨_, rfl, t, c, rfl, T6, fun z H7 k7 T7 => ⟨_, k7 _ _ oD2.1 e1, small1000' (by rw [List.length_map]; omega), zs ++ [z], by rw [List.length_append, lz]; rfl, ?_, fun b o nb e => (upd_ne (ne_of_none e hD2)).trans (k7 _ _ nb (k1 _ _ nb e)), T7.put oD2⟩⟩
        rw [upd_same, List.map_append]
        rfl
      obtain ⟨ss, l3, eS, k6, T6⟩ := pv
      refine ⟨D2, _, rfl, .inl ⟨SqL.of eS, fun sy nsy => ?_⟩⟩
      have s7 := same_upd (o := .tup (ss.map V.int)) nsy
      have esy : upd H6 sy (.tup (ss.map V.int)) sy = some (.tup (ss.map V.int)) := upd_same
      have T7 := T6.same s7
      generalize upd H6 sy (.tup (ss.map V.int)) = H7 at s7 esy T7 ⊢
      -- word
      refine ⟨lenL (by show 4 ≤ 100000; decide), fun wl nwl => ?_⟩
      have owl := T7.off nwl
      have s8 := same_upd (o := .lst [.str "fly", .str "tell", .str "", .str "admit"]) nwl
      have ewl : upd H7 wl (.lst [.str "fly", .str "tell", .str "", .str "admit"]) wl = some (.lst [.str "fly", .str "tell", .str "", .str "admit"]) := upd_same
      have T8 := T7.same s8
      generalize upd H7 wl (.lst [.str "fly", .str "tell", .str "", .str "admit"]) = H8 at s8 ewl T8 ⊢
      refine ⟨_, rfl, t, c, 4, rfl, T8, by decide, by decide, fun z H9 z0 z1 k9 T9 => ?_⟩
      obtain ⟨wd, ewd⟩ : ∃ wd : Str, atI [V.str "fly", .str "tell", .str "", .str "admit"] z = some (.str wd) := by
        have e : z = 0 ∨ z = 1 ∨ z = 2 ∨ z = 3 := by omega
        rcases e with rfl | rfl | rfl | rfl <;> exact ⟨_, rfl⟩
      refine ⟨wl, _, z, _, rfl, rfl, SqL.of (k9 _ _ owl.1 ewl), ewd, ?_⟩
      -- deed
      refine ⟨_, rfl, lenL (by show 1 ≤ 100000; decide), fun w1 nw1 => ?_⟩
      have ow1 := T9.off nw1
      have s10 := same_upd (o := .lst [.str wd]) nw1
      have ew1 : upd H9 w1 (.lst [.str wd]) w1 = some (.lst [.str wd]) := upd_same
      have T10 := T9.same s10
      generalize upd H9 w1 (.lst [.str wd]) = H10 at s10 ew1 T10 ⊢
      refine ⟨_, rfl, t, c, 3, rfl, T10, by decide, by decide, fun u H11 u0 u1 k11 T11 => ⟨u, rfl, by omega, by omega, fun D3 hD3 => ?_⟩⟩
      have oD3 := T11.off hD3
      refine lc_range (lo := 0) (n := u.toNat) (fun i H' => ∃ zs : List Int, zs.length = i ∧ H' D3 = some (.lst (zs.map V.int)) ∧ Kp t H11 H' ∧ Tape H' t c) ⟨[], rfl, upd_same, Kp.of_same (same_upd hD3), T11.put oD3⟩ (fun j H' hj pv => ?_) (fun H12 pv => ?_)
      · obtain ⟨zs, lz, e1, k1, T12⟩ := pv
        refine ⟨rfl, lc_yes ?_⟩
        refine ⟨_, rfl, t, c, rfl, T12, fun z H13 k13 T13 => ⟨_, k13 _ _ oD3.1 e1, small1000' (by rw [List.length_map]; omega), zs ++ [z], by rw [List.length_append, lz]; rfl, ?_, fun b o nb e => (upd_ne (ne_of_none e hD3)).trans (k13 _ _ nb (k1 _ _ nb e)), T13.put oD3⟩⟩
        rw [upd_same, List.map_append]
        rfl
      obtain ⟨ds, ld, eD, k12, T12⟩ := pv
      have ew12 := k12 _ _ ow1.1 (k11 _ _ ow1.1 ew1)
      refine ⟨w1, D3, _, _, rfl, rfl, ew12, eD, lenL (by rw [List.length_map]; show 1 + ds.length ≤ 100000; omega), fun w2 nw2 => ?_⟩
      have s13 := same_upd (o := .lst ([.str wd] ++ ds.map V.int)) nw2
      have ew2 : upd H12 w2 (.lst ([.str wd] ++ ds.map V.int)) w2 = some (.lst ([.str wd] ++ ds.map V.int)) := upd_same
      have T13 := T12.same s13
      generalize upd H12 w2 (.lst ([.str wd] ++ ds.map V.int)) = H13 at s13 ew2 T13 ⊢
      refine ⟨w2, _, rfl, .inl ⟨SqL.of ew2, fun dd ndd => ?_⟩⟩
      have s14 := same_upd (o := .tup ([.str wd] ++ ds.map V.int)) ndd
      have edd : upd H13 dd (.tup ([.str wd] ++ ds.map V.int)) dd = some (.tup ([.str wd] ++ ds.map V.int)) := upd_same
      have T14 := T13.same s14
      generalize upd H13 dd (.tup ([.str wd] ++ ds.map V.int)) = H14 at s14 edd T14 ⊢
      -- what has been kept so far
      have k414 : Kp t H5 H14 := ((((k6.trans (.of_same s7)).trans (.of_same s8)).trans k9).trans (.of_same s10)).trans (((k11.trans k12).trans (.of_same s13)).trans (.of_same s14))
      have eN14 := k414 _ _ oD1.1 eN
      have esy14 : H14 sy = some (.tup (ss.map V.int)) := s14 _ _ (s13 _ _ (tk T11 k12 (fun _ z => nomatch z) (tk T10 k11 (fun _ z => nomatch z) (s10 _ _ (tk T8 k9 (fun _ z => nomatch z) (s8 _ _ esy))))))
      -- errors
      refine ⟨_, rfl, x, rfl, fun q1 H15 es1 nq1 s15 eq1 le1 eo1 => ?_⟩
      refine ⟨_, rfl, _, rfl, _, rfl, D1, sy, dd, zs, rfl, s15 _ _ eN14, l8, fun q2 H16 es2 nq2 s16 eq2 le2 eo2 => ?_⟩
      refine ⟨q1, q2, _, _, rfl, rfl, s16 _ _ eq1, eq2, lenL (by rw [List.length_map, List.length_map]; omega), fun ea nea => ?_⟩
      have s17 := same_upd (o := .lst (es1.map V.ref ++ es2.map V.ref)) nea
      have eea : upd H16 ea (.lst (es1.map V.ref ++ es2.map V.ref)) ea = some (.lst ((es1 ++ es2).map V.ref)) := by rw [upd_same, List.map_append]
      have s1417 := Same.trans s15 (Same.trans s16 s17)
      have T17 := T14.same s1417
      have hp17 : upd H16 ea (.lst (es1.map V.ref ++ es2.map V.ref)) p = some (.lst (rs.map V.ref)) := s1417 _ _ (k414 _ _ op.1 (k5 _ _ op.1 hp4))
      have nea14 : ea ≠ t ∧ ea ≠ p := by
        have T16 := T14.same (Same.trans s15 s16)
        refine ⟨(T16.off nea).1, fun z => ?_⟩
        rw [z, s16 _ _ (s15 _ _ (k414 _ _ op.1 (k5 _ _ op.1 hp4)))] at nea
        cases nea
      generalize upd H16 ea (.lst (es1.map V.ref ++ es2.map V.ref)) = H17 at s17 eea s1417 T17 hp17 ⊢
      -- made.append
      refine ⟨_, rfl, .inl ⟨rfl, _, SqL.of hp17⟩, _, rfl, _, rfl, _, rfl, _, rfl, _, rfl, lenL (by show 5 ≤ 100000; decide), fun r nr => ?_⟩
      have s18 := same_upd (o := .tup [.ref ea, .int x, .ref D1, .ref sy, .ref dd]) nr
      have er : upd H17 r (.tup [.ref ea, .int x, .ref D1, .ref sy, .ref dd]) r = some (.tup [.ref ea, .int x, .ref D1, .ref sy, .ref dd]) := upd_same
      have T18 := T17.same s18
      generalize upd H17 r (.tup [.ref ea, .int x, .ref D1, .ref sy, .ref dd]) = H18 at s18 er T18 ⊢
      have hp18 := s18 _ _ hp17
      refine ⟨p, _, _, rfl, rfl, hp18, small1000' (by rw [List.length_map]; omega), ?_⟩
      have f19 : ∀ b o, b ≠ t → b ≠ p → H18 b = some o → upd H18 p (.lst (rs.map V.ref ++ [.ref r])) b = some o := fun b o _ nb e => (upd_ne nb).trans e
      obtain ⟨⟨xt3, et3⟩, _⟩ := tape_at T3
      obtain ⟨⟨xt18, et18⟩, _⟩ := tape_at T18
      have s1418 := Same.trans s1417 s18
      have f318 : ∀ b o, b ≠ t → b ≠ p → H3 b = some o → H18 b = some o := fun b o nb _ e => s1418 _ _ (k414 _ _ nb (k5 _ _ nb (k4 _ _ nb e)))
      have nD1p : D1 ≠ p := fun z => by rw [z, hp4] at hD1; cases hD1
      refine ⟨_, _, _, _, _, _, _, rs ++ [r], rfl, by rw [List.length_append, lr]; rfl, by rw [upd_same, List.map_append]; rfl, T18.put op, fun r' hr' => ?_⟩
      rcases List.mem_append.mp hr' with hr' | hr'
      · exact ((hR r' hr').but et3 hp f318).but et18 hp18 f19
      · rw [List.mem_singleton.mp hr']
        refine RowP.but (H := H18) ⟨ea, D1, sy, dd, x, zs, es1 ++ es2, ss.map V.int, [.str wd] ++ ds.map V.int, er, s18 _ _ eea, by rw [List.length_append, le1, le2], fun k hk => ?_, s1418 _ _ eN14, l8, s1418 _ _ esy14, by rw [List.length_map]; omega, fun y hy => by
          obtain ⟨_, _, rfl⟩ := List.mem_map.mp hy
          rfl, s1418 _ _ edd, by rw [List.length_append, List.length_map]; show 1 + _ ≤ 100; omega, fun y hy => by
          rcases List.mem_append.mp hy with hy | hy
          · rw [List.mem_singleton.mp hy]
            rfl
          · obtain ⟨_, _, rfl⟩ := List.mem_map.mp hy
            rfl, nea14.1, nea14.2, oD1.1, nD1p⟩ et18 hp18 f19
        by_cases hk9 : k < 9
        · have e := (eo1 k hk9).same (Same.trans (Same.trans s16 s17) s18)
          rw [flA_place _ _ _ _ k hk9, List.getD_eq_getElem?_getD, List.getElem?_append_left (by omega), ← List.getD_eq_getElem?_getD]
          exact e
        · obtain ⟨j, rfl⟩ : ∃ j, k = 9 + j := ⟨k - 9, by omega⟩
          have hj : j < 9 := by omega
          have e := (eo2 j hj).same (Same.trans s17 s18)
          have ef : flA x zs sy dd (9 + j) = flA 0 zs sy dd (9 + j) := by
            match j, hj with
            | 0, _ => rfl
            | 1, _ => rfl
            | 2, _ => rfl
            | 3, _ => rfl
            | 4, _ => rfl
            | 5, _ => rfl
            | 6, _ => rfl
            | 7, _ => rfl
            | 8, _ => rfl
            | j + 9, h => exact absurd h (by omega)
          rw [ef, List.getD_eq_getElem?_getD, List.getElem?_append_right (by omega), show 9 + j - es1.length = j by omega, ← List.getD_eq_getElem?_getD]
          exact e
    · obtain ⟨o3, o4, o5, o6, o7, o8, o9, rs, rfl, lr, hp, T3, hR⟩ := pv
      obtain ⟨⟨xt3, et3⟩, _⟩ := tape_at T3
      refine ⟨_, rfl, p, rfl, ⟨_, SqL.of hp⟩, ?_⟩
      refine for_list (K := K) (a := p) (xs := rs.map V.ref) (fun i σ' H' => ∃ (o3 o10 o11 : Option V), σ' = [some (.ref a), some (.ref t), some (.ref p), o3, o4, o5, o6, o7, o8, o9, o10, o11, none] ∧ Same H3 H') ⟨_, none, none, rfl, .refl _⟩ (fun i σ' H' _ pv => by obtain ⟨_, _, _, _, s⟩ := pv; exact SqL.of (s _ _ hp)) (fun i v σ' H4 hv pv => ?_) (fun σ' H4 pv => q _)
      obtain ⟨o3, o10, o11, rfl, s4⟩ := pv
      rw [List.getElem?_map] at hv
      obtain ⟨r, hr', rfl⟩ := Option.map_eq_some_iff.mp hv
      obtain ⟨ea, nl, sy, dd, x, zs, es, us, ys, e1, e2, e3, e4, e5, e6, e7, e8, e9, e10, e11, e12, _⟩ := (hR r (List.mem_of_getElem? hr')).ex
      have R3 : Row K T.clA H3 ea x nl sy dd zs es := ⟨e2, e3, e4, e5, e6, sm_atoms e7 (by omega) e9, sm_atoms e10 (by omega) e12⟩
      have R4 := R3.same s4
      have er4 := s4 _ _ e1
      refine ⟨_, rfl, r, _, 0, _, rfl, rfl, SqT.of er4, rfl, _, rfl, r, _, 1, _, rfl, rfl, SqT.of er4, rfl, _, rfl, r, _, 2, _, rfl, rfl, SqT.of er4, rfl, _, rfl, r, _, 3, _, rfl, rfl, SqT.of er4, rfl, _, rfl, r, _, 4, _, rfl, rfl, SqT.of er4, rfl, ea, nl, sy, dd, x, zs, es, rfl, R4, fun H5 s5 => ⟨true, rfl, iteF ?_⟩⟩
      have s45 := Same.trans s4 s5
      refine ⟨18, rfl, by decide, by decide, ?_⟩
      refine for_range (lo := 0) (n := 18) (fun i σ' H' => ∃ (o3 o11 : Option V), σ' = [some (.ref a), some (.ref t), some (.ref p), o3, o4, o5, o6, o7, o8, o9, some (.ref r), o11, none] ∧ Same H3 H') ⟨_, _, rfl, s45⟩ (fun i σ' H6 hi pv => ?_) (fun σ' H6 pv => ?_)
      · obtain ⟨o3, o11, rfl, s6⟩ := pv
        rw [Int.zero_add]
        have R6 := R3.same s6
        have eO := R6.eo i hi
        have aE : atI (es.map V.ref) (i : Int) = some (.ref (es.getD i 0)) := by
          refine atI_nat ?_
          rw [List.getElem?_map, List.getD_eq_getElem?_getD, List.getElem?_eq_getElem (by rw [e3]; exact hi)]
          rfl
        refine ⟨_, rfl, r, _, 0, _, rfl, rfl, SqT.of (s6 _ _ e1), rfl, _, rfl, ea, _, i, _, rfl, rfl, SqL.of R6.he, aE, ?_⟩
        refine ⟨_, rfl, _, T.clA i, _, fun j => decide (j = i), rfl, T.erA i hi, eO, fun j hj => T.kiA i j hi hj, fun k1 H7 nk1 s7 ek1 => ?_⟩
        refine ⟨18, rfl, by decide, by decide, fun D hD => ?_⟩
        refine lc_range (lo := 0) (n := 18) (fun j H' => Same H7 H' ∧ H' D = some (.lst (((List.range j).map fun m => decide (m = i)).map V.bl))) ⟨same_upd hD, upd_same⟩ (fun j H' hj pv => ?_) (fun H8 pv => ?_)
        · obtain ⟨s8, e8'⟩ := pv
          refine ⟨rfl, lc_yes ?_⟩
          refine ⟨_, rfl, _, rfl, rfl, _, e8', small1000' (by rw [List.length_map, List.length_map, List.length_range]; omega), fun b o e => (upd_ne (ne_of_none e hD)).trans (s8 _ _ e), ?_⟩
          rw [upd_same, List.range_succ, List.map_append, List.map_append]
          have : decide (V.int (0 + (j : Int)) = V.int (i : Int)) = decide (j = i) := by
            rw [dec_int]
            exact decide_eq_decide.mpr (by omega)
          rw [this]
          rfl
        obtain ⟨s8, eD⟩ := pv
        refine ⟨_, _, .lst (SqL.of (s8 _ _ ek1)) (dpAll_bools _), .lst (SqL.of eD) (dpAll_bools _), shaped_bools _, shaped_bools _, ?_⟩
        refine ⟨_, rfl, iteF' (by rw [SeqAt.eqv_refl _ (SeqAt.canLay_of_shaped (shaped_bools _))]; rfl) ?_⟩
        have s68 := Same.trans s7 s8
        have eO8 := eO.same s68
        refine ⟨_, rfl, _, _, _, _, _, _, rfl, fun u r => r, T.erA i hi, eO8, T.kiR i hi, ?_⟩
        refine ⟨true, rfl, iteF ?_⟩
        refine ⟨_, rfl, _, _, _, _, _, _, rfl, fun u r => r, T.erA i hi, eO8, T.kiV i hi, ?_⟩
        exact ⟨true, rfl, iteF ⟨_, _, rfl, Same.trans s6 s68⟩⟩
      · obtain ⟨o3, o11, rfl, s6⟩ := pv
        exact ⟨_, _, _, rfl, s6⟩
end
theorem all_mk {l : PySem.W.OpenLaw} {w : World} {K : PySem.W.Frag} {h : Heap} {mg : Str → Option Value} {fa : Addr} (X : K.In h) (G : h.Ns mainGlobals mg) (hfa : mg "law" = some (.ref fa))
    {f0 : Addr} {od0 an0 : Option Addr} {sl0 : Array (Option Value)} {oc0 kV0 dc0 pm0 cd0 ct0 : Value}
    {f1 : Addr} {od1 an1 : Option Addr} {sl1 : Array (Option Value)} {oc1 kV1 dc1 pm1 cd1 ct1 : Value}
    {f2 : Addr} {od2 an2 : Option Addr} {sl2 : Array (Option Value)} {oc2 kV2 dc2 pm2 cd2 ct2 : Value}
    {f3 : Addr} {od3 an3 : Option Addr} {sl3 : Array (Option Value)} {oc3 kV3 dc3 pm3 cd3 ct3 : Value}
    {f4 : Addr} {od4 an4 : Option Addr} {sl4 : Array (Option Value)} {oc4 kV4 dc4 pm4 cd4 ct4 : Value}
    {f5 : Addr} {od5 an5 : Option Addr} {sl5 : Array (Option Value)} {oc5 kV5 dc5 pm5 cd5 ct5 : Value}
    {f6 : Addr} {od6 an6 : Option Addr} {sl6 : Array (Option Value)} {oc6 kV6 dc6 pm6 cd6 ct6 : Value}
    {f7 : Addr} {od7 an7 : Option Addr} {sl7 : Array (Option Value)} {oc7 kV7 dc7 pm7 cd7 ct7 : Value}
    {f8 : Addr} {od8 an8 : Option Addr} {sl8 : Array (Option Value)} {oc8 kV8 dc8 pm8 cd8 ct8 : Value}
    {f9 : Addr} {od9 an9 : Option Addr} {sl9 : Array (Option Value)} {oc9 kV9 dc9 pm9 cd9 ct9 : Value}
    {f10 : Addr} {od10 an10 : Option Addr} {sl10 : Array (Option Value)} {oc10 kV10 dc10 pm10 cd10 ct10 : Value}
    {f11 : Addr} {od11 an11 : Option Addr} {sl11 : Array (Option Value)} {oc11 kV11 dc11 pm11 cd11 ct11 : Value}
    {f12 : Addr} {od12 an12 : Option Addr} {sl12 : Array (Option Value)} {oc12 kV12 dc12 pm12 cd12 ct12 : Value}
    {f13 : Addr} {od13 an13 : Option Addr} {sl13 : Array (Option Value)} {oc13 kV13 dc13 pm13 cd13 ct13 : Value}
    {f14 : Addr} {od14 an14 : Option Addr} {sl14 : Array (Option Value)} {oc14 kV14 dc14 pm14 cd14 ct14 : Value}
    {f15 : Addr} {od15 an15 : Option Addr} {sl15 : Array (Option Value)} {oc15 kV15 dc15 pm15 cd15 ct15 : Value}
    {f16 : Addr} {od16 an16 : Option Addr} {sl16 : Array (Option Value)} {oc16 kV16 dc16 pm16 cd16 ct16 : Value}
    {f17 : Addr} {od17 an17 : Option Addr} {sl17 : Array (Option Value)} {oc17 kV17 dc17 pm17 cd17 ct17 : Value}
    {f18 : Addr} {od18 an18 : Option Addr} {sl18 : Array (Option Value)} {oc18 kV18 dc18 pm18 cd18 ct18 : Value}
    {f19 : Addr} {od19 an19 : Option Addr} {sl19 : Array (Option Value)} {oc19 kV19 dc19 pm19 cd19 ct19 : Value}
    {f20 : Addr} {od20 an20 : Option Addr} {sl20 : Array (Option Value)} {oc20 kV20 dc20 pm20 cd20 ct20 : Value}
    {f21 : Addr} {od21 an21 : Option Addr} {sl21 : Array (Option Value)} {oc21 kV21 dc21 pm21 cd21 ct21 : Value}
    {f22 : Addr} {od22 an22 : Option Addr} {sl22 : Array (Option Value)} {oc22 kV22 dc22 pm22 cd22 ct22 : Value}
    {f23 : Addr} {od23 an23 : Option Addr} {sl23 : Array (Option Value)} {oc23 kV23 dc23 pm23 cd23 ct23 : Value}
    {f24 : Addr} {od24 an24 : Option Addr} {sl24 : Array (Option Value)} {oc24 kV24 dc24 pm24 cd24 ct24 : Value}
    (a0 : PySem.W.nsIn K mainGlobals "_law_tape" = some (some (.ref f0)))
    (l0 : K.lookup f0 = some ⟨oc0, od0, .func (PySem.W.fnOf "_law_tape" "_law_tape" (defArgs s__law_tape) (defBody s__law_tape) (defScope s__law_tape) .none kV0 dc0 pm0 an0 cd0 ct0), sl0⟩) (c0 : PySem.W.codeIn K cd0 "_law_tape" = true) (k0 : PySem.W.keepIn K (.ref f0) = true)
    (a1 : PySem.W.nsIn K mainGlobals "_law_pick" = some (some (.ref f1)))
    (l1 : K.lookup f1 = some ⟨oc1, od1, .func (PySem.W.fnOf "_law_pick" "_law_pick" (defArgs s__law_pick) (defBody s__law_pick) (defScope s__law_pick) .none kV1 dc1 pm1 an1 cd1 ct1), sl1⟩) (c1 : PySem.W.codeIn K cd1 "_law_pick" = true) (k1 : PySem.W.keepIn K (.ref f1) = true)
    (a2 : PySem.W.nsIn K mainGlobals "_law_same" = some (some (.ref f2)))
    (l2 : K.lookup f2 = some ⟨oc2, od2, .func (PySem.W.fnOf "_law_same" "_law_same" (defArgs s__law_same) (defBody s__law_same) (defScope s__law_same) .none kV2 dc2 pm2 an2 cd2 ct2), sl2⟩) (c2 : PySem.W.codeIn K cd2 "_law_same" = true) (k2 : PySem.W.keepIn K (.ref f2) = true)
    (l3 : K.lookup f3 = some ⟨oc3, od3, .func (PySem.W.fnOf "__init__" "OffCircle.__init__" (defArgs s_OffCircle__init) (defBody s_OffCircle__init) (defScope s_OffCircle__init) .none kV3 dc3 pm3 an3 cd3 ct3), sl3⟩) (c3 : PySem.W.codeIn K cd3 "OffCircle.__init__" = true) (k3 : PySem.W.keepIn K (.ref f3) = true)
    (l4 : K.lookup f4 = some ⟨oc4, od4, .func (PySem.W.fnOf "__init__" "NoHouse.__init__" (defArgs s_NoHouse__init) (defBody s_NoHouse__init) (defScope s_NoHouse__init) .none kV4 dc4 pm4 an4 cd4 ct4), sl4⟩) (c4 : PySem.W.codeIn K cd4 "NoHouse.__init__" = true) (k4 : PySem.W.keepIn K (.ref f4) = true)
    (l5 : K.lookup f5 = some ⟨oc5, od5, .func (PySem.W.fnOf "__init__" "TakenPlace.__init__" (defArgs s_TakenPlace__init) (defBody s_TakenPlace__init) (defScope s_TakenPlace__init) .none kV5 dc5 pm5 an5 cd5 ct5), sl5⟩) (c5 : PySem.W.codeIn K cd5 "TakenPlace.__init__" = true) (k5 : PySem.W.keepIn K (.ref f5) = true)
    (l6 : K.lookup f6 = some ⟨oc6, od6, .func (PySem.W.fnOf "__init__" "StillNamed.__init__" (defArgs s_StillNamed__init) (defBody s_StillNamed__init) (defScope s_StillNamed__init) .none kV6 dc6 pm6 an6 cd6 ct6), sl6⟩) (c6 : PySem.W.codeIn K cd6 "StillNamed.__init__" = true) (k6 : PySem.W.keepIn K (.ref f6) = true)
    (l7 : K.lookup f7 = some ⟨oc7, od7, .func (PySem.W.fnOf "__init__" "NotBetween.__init__" (defArgs s_NotBetween__init) (defBody s_NotBetween__init) (defScope s_NotBetween__init) .none kV7 dc7 pm7 an7 cd7 ct7), sl7⟩) (c7 : PySem.W.codeIn K cd7 "NotBetween.__init__" = true) (k7 : PySem.W.keepIn K (.ref f7) = true)
    (l8 : K.lookup f8 = some ⟨oc8, od8, .func (PySem.W.fnOf "__init__" "SamePiece.__init__" (defArgs s_SamePiece__init) (defBody s_SamePiece__init) (defScope s_SamePiece__init) .none kV8 dc8 pm8 an8 cd8 ct8), sl8⟩) (c8 : PySem.W.codeIn K cd8 "SamePiece.__init__" = true) (k8 : PySem.W.keepIn K (.ref f8) = true)
    (l9 : K.lookup f9 = some ⟨oc9, od9, .func (PySem.W.fnOf "__init__" "NotQuiet.__init__" (defArgs s_NotQuiet__init) (defBody s_NotQuiet__init) (defScope s_NotQuiet__init) .none kV9 dc9 pm9 an9 cd9 ct9), sl9⟩) (c9 : PySem.W.codeIn K cd9 "NotQuiet.__init__" = true) (k9 : PySem.W.keepIn K (.ref f9) = true)
    (l10 : K.lookup f10 = some ⟨oc10, od10, .func (PySem.W.fnOf "__init__" "NotAtRest.__init__" (defArgs s_NotAtRest__init) (defBody s_NotAtRest__init) (defScope s_NotAtRest__init) .none kV10 dc10 pm10 an10 cd10 ct10), sl10⟩) (c10 : PySem.W.codeIn K cd10 "NotAtRest.__init__" = true) (k10 : PySem.W.keepIn K (.ref f10) = true)
    (l11 : K.lookup f11 = some ⟨oc11, od11, .func (PySem.W.fnOf "__init__" "Untold.__init__" (defArgs s_Untold__init) (defBody s_Untold__init) (defScope s_Untold__init) .none kV11 dc11 pm11 an11 cd11 ct11), sl11⟩) (c11 : PySem.W.codeIn K cd11 "Untold.__init__" = true) (k11 : PySem.W.keepIn K (.ref f11) = true)
    (l12 : K.lookup f12 = some ⟨oc12, od12, .func (PySem.W.fnOf "__init__" "NoLetter.__init__" (defArgs s_NoLetter__init) (defBody s_NoLetter__init) (defScope s_NoLetter__init) .none kV12 dc12 pm12 an12 cd12 ct12), sl12⟩) (c12 : PySem.W.codeIn K cd12 "NoLetter.__init__" = true) (k12 : PySem.W.keepIn K (.ref f12) = true)
    (l13 : K.lookup f13 = some ⟨oc13, od13, .func (PySem.W.fnOf "__init__" "BadText.__init__" (defArgs s_BadText__init) (defBody s_BadText__init) (defScope s_BadText__init) .none kV13 dc13 pm13 an13 cd13 ct13), sl13⟩) (c13 : PySem.W.codeIn K cd13 "BadText.__init__" = true) (k13 : PySem.W.keepIn K (.ref f13) = true)
    (l14 : K.lookup f14 = some ⟨oc14, od14, .func (PySem.W.fnOf "__init__" "UntrueNet.__init__" (defArgs s_UntrueNet__init) (defBody s_UntrueNet__init) (defScope s_UntrueNet__init) .none kV14 dc14 pm14 an14 cd14 ct14), sl14⟩) (c14 : PySem.W.codeIn K cd14 "UntrueNet.__init__" = true) (k14 : PySem.W.keepIn K (.ref f14) = true)
    (l15 : K.lookup f15 = some ⟨oc15, od15, .func (PySem.W.fnOf "__init__" "OpenWalk.__init__" (defArgs s_OpenWalk__init) (defBody s_OpenWalk__init) (defScope s_OpenWalk__init) .none kV15 dc15 pm15 an15 cd15 ct15), sl15⟩) (c15 : PySem.W.codeIn K cd15 "OpenWalk.__init__" = true) (k15 : PySem.W.keepIn K (.ref f15) = true)
    (l16 : K.lookup f16 = some ⟨oc16, od16, .func (PySem.W.fnOf "__init__" "WalksApart.__init__" (defArgs s_WalksApart__init) (defBody s_WalksApart__init) (defScope s_WalksApart__init) .none kV16 dc16 pm16 an16 cd16 ct16), sl16⟩) (c16 : PySem.W.codeIn K cd16 "WalksApart.__init__" = true) (k16 : PySem.W.keepIn K (.ref f16) = true)
    (l17 : K.lookup f17 = some ⟨oc17, od17, .func (PySem.W.fnOf "__init__" "NoOrder.__init__" (defArgs s_NoOrder__init) (defBody s_NoOrder__init) (defScope s_NoOrder__init) .none kV17 dc17 pm17 an17 cd17 ct17), sl17⟩) (c17 : PySem.W.codeIn K cd17 "NoOrder.__init__" = true) (k17 : PySem.W.keepIn K (.ref f17) = true)
    (l18 : K.lookup f18 = some ⟨oc18, od18, .func (PySem.W.fnOf "__init__" "BadDeed.__init__" (defArgs s_BadDeed__init) (defBody s_BadDeed__init) (defScope s_BadDeed__init) .none kV18 dc18 pm18 an18 cd18 ct18), sl18⟩) (c18 : PySem.W.codeIn K cd18 "BadDeed.__init__" = true) (k18 : PySem.W.keepIn K (.ref f18) = true)
    (a19 : PySem.W.nsIn K mainGlobals "_law_number" = some (some (.ref f19)))
    (l19 : K.lookup f19 = some ⟨oc19, od19, .func (PySem.W.fnOf "_law_number" "_law_number" (defArgs s__law_number) (defBody s__law_number) (defScope s__law_number) .none kV19 dc19 pm19 an19 cd19 ct19), sl19⟩) (c19 : PySem.W.codeIn K cd19 "_law_number" = true) (k19 : PySem.W.keepIn K (.ref f19) = true)
    (a20 : PySem.W.nsIn K mainGlobals "_law_kinds" = some (some (.ref f20)))
    (l20 : K.lookup f20 = some ⟨oc20, od20, .func (PySem.W.fnOf "_law_kinds" "_law_kinds" (defArgs s__law_kinds) (defBody s__law_kinds) (defScope s__law_kinds) .none kV20 dc20 pm20 an20 cd20 ct20), sl20⟩) (c20 : PySem.W.codeIn K cd20 "_law_kinds" = true) (k20 : PySem.W.keepIn K (.ref f20) = true)
    (a21 : PySem.W.nsIn K mainGlobals "_law_of_places" = some (some (.ref f21)))
    (l21 : K.lookup f21 = some ⟨oc21, od21, .func (PySem.W.fnOf "_law_of_places" "_law_of_places" (defArgs s__law_of_places) (defBody s__law_of_places) (defScope s__law_of_places) .none kV21 dc21 pm21 an21 cd21 ct21), sl21⟩) (c21 : PySem.W.codeIn K cd21 "_law_of_places" = true) (k21 : PySem.W.keepIn K (.ref f21) = true)
    (a22 : PySem.W.nsIn K mainGlobals "_law_others" = some (some (.ref f22)))
    (l22 : K.lookup f22 = some ⟨oc22, od22, .func (PySem.W.fnOf "_law_others" "_law_others" (defArgs s__law_others) (defBody s__law_others) (defScope s__law_others) .none kV22 dc22 pm22 an22 cd22 ct22), sl22⟩) (c22 : PySem.W.codeIn K cd22 "_law_others" = true) (k22 : PySem.W.keepIn K (.ref f22) = true)
    (a23 : PySem.W.nsIn K mainGlobals "_law_kept" = some (some (.ref f23)))
    (l23 : K.lookup f23 = some ⟨oc23, od23, .func (PySem.W.fnOf "_law_kept" "_law_kept" (defArgs s__law_kept) (defBody s__law_kept) (defScope s__law_kept) .none kV23 dc23 pm23 an23 cd23 ct23), sl23⟩) (c23 : PySem.W.codeIn K cd23 "_law_kept" = true) (k23 : PySem.W.keepIn K (.ref f23) = true)
    (a24 : PySem.W.nsIn K mainGlobals "law" = some (some (.ref f24)))
    (l24 : K.lookup f24 = some ⟨oc24, od24, .func (PySem.W.fnOf "law" "law" (defArgs s_law) (defBody s_law) (defScope s_law) .none kV24 dc24 pm24 an24 cd24 ct24), sl24⟩) (c24 : PySem.W.codeIn K cd24 "law" = true) (k24 : PySem.W.keepIn K (.ref f24) = true)
    {E0 : Addr} (aE0 : PySem.W.nsIn K mainGlobals "OffCircle" = some (some (.ref E0))) (eb0 : PySem.W.subIn K (.ref E0) (.type "BaseException") = some true) (ec0 : PySem.W.isClsIn K E0 = true) (et0 : PySem.W.typeIn K (.ref E0) = some (.type "type"))
    {E1 : Addr} (aE1 : PySem.W.nsIn K mainGlobals "NoHouse" = some (some (.ref E1))) (eb1 : PySem.W.subIn K (.ref E1) (.type "BaseException") = some true) (ec1 : PySem.W.isClsIn K E1 = true) (et1 : PySem.W.typeIn K (.ref E1) = some (.type "type"))
    {E2 : Addr} (aE2 : PySem.W.nsIn K mainGlobals "TakenPlace" = some (some (.ref E2))) (eb2 : PySem.W.subIn K (.ref E2) (.type "BaseException") = some true) (ec2 : PySem.W.isClsIn K E2 = true) (et2 : PySem.W.typeIn K (.ref E2) = some (.type "type"))
    {E3 : Addr} (aE3 : PySem.W.nsIn K mainGlobals "StillNamed" = some (some (.ref E3))) (eb3 : PySem.W.subIn K (.ref E3) (.type "BaseException") = some true) (ec3 : PySem.W.isClsIn K E3 = true) (et3 : PySem.W.typeIn K (.ref E3) = some (.type "type"))
    {E4 : Addr} (aE4 : PySem.W.nsIn K mainGlobals "NotBetween" = some (some (.ref E4))) (eb4 : PySem.W.subIn K (.ref E4) (.type "BaseException") = some true) (ec4 : PySem.W.isClsIn K E4 = true) (et4 : PySem.W.typeIn K (.ref E4) = some (.type "type"))
    {E5 : Addr} (aE5 : PySem.W.nsIn K mainGlobals "SamePiece" = some (some (.ref E5))) (eb5 : PySem.W.subIn K (.ref E5) (.type "BaseException") = some true) (ec5 : PySem.W.isClsIn K E5 = true) (et5 : PySem.W.typeIn K (.ref E5) = some (.type "type"))
    {E6 : Addr} (aE6 : PySem.W.nsIn K mainGlobals "NotQuiet" = some (some (.ref E6))) (eb6 : PySem.W.subIn K (.ref E6) (.type "BaseException") = some true) (ec6 : PySem.W.isClsIn K E6 = true) (et6 : PySem.W.typeIn K (.ref E6) = some (.type "type"))
    {E7 : Addr} (aE7 : PySem.W.nsIn K mainGlobals "NotAtRest" = some (some (.ref E7))) (eb7 : PySem.W.subIn K (.ref E7) (.type "BaseException") = some true) (ec7 : PySem.W.isClsIn K E7 = true) (et7 : PySem.W.typeIn K (.ref E7) = some (.type "type"))
    {E8 : Addr} (aE8 : PySem.W.nsIn K mainGlobals "Untold" = some (some (.ref E8))) (eb8 : PySem.W.subIn K (.ref E8) (.type "BaseException") = some true) (ec8 : PySem.W.isClsIn K E8 = true) (et8 : PySem.W.typeIn K (.ref E8) = some (.type "type"))
    {E9 : Addr} (aE9 : PySem.W.nsIn K mainGlobals "NoLetter" = some (some (.ref E9))) (eb9 : PySem.W.subIn K (.ref E9) (.type "BaseException") = some true) (ec9 : PySem.W.isClsIn K E9 = true) (et9 : PySem.W.typeIn K (.ref E9) = some (.type "type"))
    {E10 : Addr} (aE10 : PySem.W.nsIn K mainGlobals "BadText" = some (some (.ref E10))) (eb10 : PySem.W.subIn K (.ref E10) (.type "BaseException") = some true) (ec10 : PySem.W.isClsIn K E10 = true) (et10 : PySem.W.typeIn K (.ref E10) = some (.type "type"))
    {E11 : Addr} (aE11 : PySem.W.nsIn K mainGlobals "UntrueNet" = some (some (.ref E11))) (eb11 : PySem.W.subIn K (.ref E11) (.type "BaseException") = some true) (ec11 : PySem.W.isClsIn K E11 = true) (et11 : PySem.W.typeIn K (.ref E11) = some (.type "type"))
    {E12 : Addr} (aE12 : PySem.W.nsIn K mainGlobals "OpenWalk" = some (some (.ref E12))) (eb12 : PySem.W.subIn K (.ref E12) (.type "BaseException") = some true) (ec12 : PySem.W.isClsIn K E12 = true) (et12 : PySem.W.typeIn K (.ref E12) = some (.type "type"))
    {E13 : Addr} (aE13 : PySem.W.nsIn K mainGlobals "WalksApart" = some (some (.ref E13))) (eb13 : PySem.W.subIn K (.ref E13) (.type "BaseException") = some true) (ec13 : PySem.W.isClsIn K E13 = true) (et13 : PySem.W.typeIn K (.ref E13) = some (.type "type"))
    {E14 : Addr} (aE14 : PySem.W.nsIn K mainGlobals "NoOrder" = some (some (.ref E14))) (eb14 : PySem.W.subIn K (.ref E14) (.type "BaseException") = some true) (ec14 : PySem.W.isClsIn K E14 = true) (et14 : PySem.W.typeIn K (.ref E14) = some (.type "type"))
    {E15 : Addr} (aE15 : PySem.W.nsIn K mainGlobals "BadDeed" = some (some (.ref E15))) (eb15 : PySem.W.subIn K (.ref E15) (.type "BaseException") = some true) (ec15 : PySem.W.isClsIn K E15 = true) (et15 : PySem.W.typeIn K (.ref E15) = some (.type "type"))
    {E16 : Addr} (aE16 : PySem.W.nsIn K mainGlobals "NothingToUndo" = some (some (.ref E16))) (eb16 : PySem.W.subIn K (.ref E16) (.type "BaseException") = some true) (ec16 : PySem.W.isClsIn K E16 = true) (et16 : PySem.W.typeIn K (.ref E16) = some (.type "type"))
    {E17 : Addr} (aE17 : PySem.W.nsIn K mainGlobals "NothingToRedo" = some (some (.ref E17))) (eb17 : PySem.W.subIn K (.ref E17) (.type "BaseException") = some true) (ec17 : PySem.W.isClsIn K E17 = true) (et17 : PySem.W.typeIn K (.ref E17) = some (.type "type"))
    {E18 : Addr} (aE18 : PySem.W.nsIn K mainGlobals "RingError" = some (some (.ref E18))) (eb18 : PySem.W.subIn K (.ref E18) (.type "BaseException") = some true) (ec18 : PySem.W.isClsIn K E18 = true) (et18 : PySem.W.typeIn K (.ref E18) = some (.type "type"))
    (ecn : PySem.W.specialIn K (.builtin "object.__class__") "__get__" = some (some (.builtin "getset_descriptor.__get__"))) (ect : PySem.W.takesIn K (.builtin "object.__class__") = some true)
    (ek0 : PySem.W.keepIn K (.ref E0) = true) (eg0 : PySem.W.findIn K (.ref E0) "__getattribute__" = some (some (.builtin "BaseException.__getattribute__"))) (eh0 : PySem.W.findIn K (.ref E0) "__getattr__" = some none)
    (ed0 : PySem.W.hasDictIn K E0 = true) (ee0 : PySem.W.findIn K (.ref E0) "__class__" = some (some (.builtin "object.__class__"))) (em0 : PySem.W.mroIn K E0 (.type "object") = some true)
    (eq0_0 : PySem.W.kitOne K (.ref E0) (.ref E0) = some true)
    (eq0_1 : PySem.W.kitOne K (.ref E0) (.ref E1) = some false)
    (eq0_2 : PySem.W.kitOne K (.ref E0) (.ref E2) = some false)
    (eq0_3 : PySem.W.kitOne K (.ref E0) (.ref E3) = some false)
    (eq0_4 : PySem.W.kitOne K (.ref E0) (.ref E4) = some false)
    (eq0_5 : PySem.W.kitOne K (.ref E0) (.ref E5) = some false)
    (eq0_6 : PySem.W.kitOne K (.ref E0) (.ref E6) = some false)
    (eq0_7 : PySem.W.kitOne K (.ref E0) (.ref E7) = some false)
    (eq0_8 : PySem.W.kitOne K (.ref E0) (.ref E8) = some false)
    (eq0_9 : PySem.W.kitOne K (.ref E0) (.ref E9) = some false)
    (eq0_10 : PySem.W.kitOne K (.ref E0) (.ref E10) = some false)
    (eq0_11 : PySem.W.kitOne K (.ref E0) (.ref E11) = some false)
    (eq0_12 : PySem.W.kitOne K (.ref E0) (.ref E12) = some false)
    (eq0_13 : PySem.W.kitOne K (.ref E0) (.ref E13) = some false)
    (eq0_14 : PySem.W.kitOne K (.ref E0) (.ref E14) = some false)
    (eq0_15 : PySem.W.kitOne K (.ref E0) (.ref E15) = some false)
    (eq0_16 : PySem.W.kitOne K (.ref E0) (.ref E16) = some false)
    (eq0_17 : PySem.W.kitOne K (.ref E0) (.ref E17) = some false)
    (eq0_18 : PySem.W.kitOne K (.ref E0) (.ref E18) = some true)
    (eqV0 : PySem.W.kitOne K (.ref E0) (.type "ValueError") = some true)
    {nm0 q0 : Str} {N0 : Addr} {bs0 : List Value} {sn0 : List Str} {sub0 : List Value} {ab0 : Bool} {col0 : Option Bool} {dd0 : Option Addr} {m00 m10 m20 m30 m50 : Option Value}
    (eL0 : K.lookup E0 = some (excClassObj nm0 q0 E0 N0 bs0 [.ref E18, .type "ValueError", .type "Exception", .type "BaseException", .type "object"] true sn0 sub0 ab0 col0 dd0 m00 m10 m20 m30 m50 "ValueError.__new__"))
    (es0 : PySem.W.findIn K (.ref E0) "__setattr__" = some (some (.builtin "object.__setattr__")))
    (ei0 : PySem.W.findIn K (.ref E0) "__init__" = some (some (.ref f3))) (ej0 : PySem.W.typeIn K (.ref f3) = some (.type "function"))
    (en0_0 : PySem.W.findIn K (.ref E0) "place" = some none)
    (ek1 : PySem.W.keepIn K (.ref E1) = true) (eg1 : PySem.W.findIn K (.ref E1) "__getattribute__" = some (some (.builtin "BaseException.__getattribute__"))) (eh1 : PySem.W.findIn K (.ref E1) "__getattr__" = some none)
    (ed1 : PySem.W.hasDictIn K E1 = true) (ee1 : PySem.W.findIn K (.ref E1) "__class__" = some (some (.builtin "object.__class__"))) (em1 : PySem.W.mroIn K E1 (.type "object") = some true)
    (eq1_0 : PySem.W.kitOne K (.ref E1) (.ref E0) = some false)
    (eq1_1 : PySem.W.kitOne K (.ref E1) (.ref E1) = some true)
    (eq1_2 : PySem.W.kitOne K (.ref E1) (.ref E2) = some false)
    (eq1_3 : PySem.W.kitOne K (.ref E1) (.ref E3) = some false)
    (eq1_4 : PySem.W.kitOne K (.ref E1) (.ref E4) = some false)
    (eq1_5 : PySem.W.kitOne K (.ref E1) (.ref E5) = some false)
    (eq1_6 : PySem.W.kitOne K (.ref E1) (.ref E6) = some false)
    (eq1_7 : PySem.W.kitOne K (.ref E1) (.ref E7) = some false)
    (eq1_8 : PySem.W.kitOne K (.ref E1) (.ref E8) = some false)
    (eq1_9 : PySem.W.kitOne K (.ref E1) (.ref E9) = some false)
    (eq1_10 : PySem.W.kitOne K (.ref E1) (.ref E10) = some false)
    (eq1_11 : PySem.W.kitOne K (.ref E1) (.ref E11) = some false)
    (eq1_12 : PySem.W.kitOne K (.ref E1) (.ref E12) = some false)
    (eq1_13 : PySem.W.kitOne K (.ref E1) (.ref E13) = some false)
    (eq1_14 : PySem.W.kitOne K (.ref E1) (.ref E14) = some false)
    (eq1_15 : PySem.W.kitOne K (.ref E1) (.ref E15) = some false)
    (eq1_16 : PySem.W.kitOne K (.ref E1) (.ref E16) = some false)
    (eq1_17 : PySem.W.kitOne K (.ref E1) (.ref E17) = some false)
    (eq1_18 : PySem.W.kitOne K (.ref E1) (.ref E18) = some true)
    (eqV1 : PySem.W.kitOne K (.ref E1) (.type "ValueError") = some true)
    {nm1 q1 : Str} {N1 : Addr} {bs1 : List Value} {sn1 : List Str} {sub1 : List Value} {ab1 : Bool} {col1 : Option Bool} {dd1 : Option Addr} {m01 m11 m21 m31 m51 : Option Value}
    (eL1 : K.lookup E1 = some (excClassObj nm1 q1 E1 N1 bs1 [.ref E18, .type "ValueError", .type "Exception", .type "BaseException", .type "object"] true sn1 sub1 ab1 col1 dd1 m01 m11 m21 m31 m51 "ValueError.__new__"))
    (es1 : PySem.W.findIn K (.ref E1) "__setattr__" = some (some (.builtin "object.__setattr__")))
    (ei1 : PySem.W.findIn K (.ref E1) "__init__" = some (some (.ref f4))) (ej1 : PySem.W.typeIn K (.ref f4) = some (.type "function"))
    (en1_0 : PySem.W.findIn K (.ref E1) "place" = some none)
    (ek2 : PySem.W.keepIn K (.ref E2) = true) (eg2 : PySem.W.findIn K (.ref E2) "__getattribute__" = some (some (.builtin "BaseException.__getattribute__"))) (eh2 : PySem.W.findIn K (.ref E2) "__getattr__" = some none)
    (ed2 : PySem.W.hasDictIn K E2 = true) (ee2 : PySem.W.findIn K (.ref E2) "__class__" = some (some (.builtin "object.__class__"))) (em2 : PySem.W.mroIn K E2 (.type "object") = some true)
    (eq2_0 : PySem.W.kitOne K (.ref E2) (.ref E0) = some false)
    (eq2_1 : PySem.W.kitOne K (.ref E2) (.ref E1) = some false)
    (eq2_2 : PySem.W.kitOne K (.ref E2) (.ref E2) = some true)
    (eq2_3 : PySem.W.kitOne K (.ref E2) (.ref E3) = some false)
    (eq2_4 : PySem.W.kitOne K (.ref E2) (.ref E4) = some false)
    (eq2_5 : PySem.W.kitOne K (.ref E2) (.ref E5) = some false)
    (eq2_6 : PySem.W.kitOne K (.ref E2) (.ref E6) = some false)
    (eq2_7 : PySem.W.kitOne K (.ref E2) (.ref E7) = some false)
    (eq2_8 : PySem.W.kitOne K (.ref E2) (.ref E8) = some false)
    (eq2_9 : PySem.W.kitOne K (.ref E2) (.ref E9) = some false)
    (eq2_10 : PySem.W.kitOne K (.ref E2) (.ref E10) = some false)
    (eq2_11 : PySem.W.kitOne K (.ref E2) (.ref E11) = some false)
    (eq2_12 : PySem.W.kitOne K (.ref E2) (.ref E12) = some false)
    (eq2_13 : PySem.W.kitOne K (.ref E2) (.ref E13) = some false)
    (eq2_14 : PySem.W.kitOne K (.ref E2) (.ref E14) = some false)
    (eq2_15 : PySem.W.kitOne K (.ref E2) (.ref E15) = some false)
    (eq2_16 : PySem.W.kitOne K (.ref E2) (.ref E16) = some false)
    (eq2_17 : PySem.W.kitOne K (.ref E2) (.ref E17) = some false)
    (eq2_18 : PySem.W.kitOne K (.ref E2) (.ref E18) = some true)
    (eqV2 : PySem.W.kitOne K (.ref E2) (.type "ValueError") = some true)
    {nm2 q2 : Str} {N2 : Addr} {bs2 : List Value} {sn2 : List Str} {sub2 : List Value} {ab2 : Bool} {col2 : Option Bool} {dd2 : Option Addr} {m02 m12 m22 m32 m52 : Option Value}
    (eL2 : K.lookup E2 = some (excClassObj nm2 q2 E2 N2 bs2 [.ref E18, .type "ValueError", .type "Exception", .type "BaseException", .type "object"] true sn2 sub2 ab2 col2 dd2 m02 m12 m22 m32 m52 "ValueError.__new__"))
    (es2 : PySem.W.findIn K (.ref E2) "__setattr__" = some (some (.builtin "object.__setattr__")))
    (ei2 : PySem.W.findIn K (.ref E2) "__init__" = some (some (.ref f5))) (ej2 : PySem.W.typeIn K (.ref f5) = some (.type "function"))
    (en2_0 : PySem.W.findIn K (.ref E2) "place" = some none)
    (ek3 : PySem.W.keepIn K (.ref E3) = true) (eg3 : PySem.W.findIn K (.ref E3) "__getattribute__" = some (some (.builtin "BaseException.__getattribute__"))) (eh3 : PySem.W.findIn K (.ref E3) "__getattr__" = some none)
    (ed3 : PySem.W.hasDictIn K E3 = true) (ee3 : PySem.W.findIn K (.ref E3) "__class__" = some (some (.builtin "object.__class__"))) (em3 : PySem.W.mroIn K E3 (.type "object") = some true)
    (eq3_0 : PySem.W.kitOne K (.ref E3) (.ref E0) = some false)
    (eq3_1 : PySem.W.kitOne K (.ref E3) (.ref E1) = some false)
    (eq3_2 : PySem.W.kitOne K (.ref E3) (.ref E2) = some false)
    (eq3_3 : PySem.W.kitOne K (.ref E3) (.ref E3) = some true)
    (eq3_4 : PySem.W.kitOne K (.ref E3) (.ref E4) = some false)
    (eq3_5 : PySem.W.kitOne K (.ref E3) (.ref E5) = some false)
    (eq3_6 : PySem.W.kitOne K (.ref E3) (.ref E6) = some false)
    (eq3_7 : PySem.W.kitOne K (.ref E3) (.ref E7) = some false)
    (eq3_8 : PySem.W.kitOne K (.ref E3) (.ref E8) = some false)
    (eq3_9 : PySem.W.kitOne K (.ref E3) (.ref E9) = some false)
    (eq3_10 : PySem.W.kitOne K (.ref E3) (.ref E10) = some false)
    (eq3_11 : PySem.W.kitOne K (.ref E3) (.ref E11) = some false)
    (eq3_12 : PySem.W.kitOne K (.ref E3) (.ref E12) = some false)
    (eq3_13 : PySem.W.kitOne K (.ref E3) (.ref E13) = some false)
    (eq3_14 : PySem.W.kitOne K (.ref E3) (.ref E14) = some false)
    (eq3_15 : PySem.W.kitOne K (.ref E3) (.ref E15) = some false)
    (eq3_16 : PySem.W.kitOne K (.ref E3) (.ref E16) = some false)
    (eq3_17 : PySem.W.kitOne K (.ref E3) (.ref E17) = some false)
    (eq3_18 : PySem.W.kitOne K (.ref E3) (.ref E18) = some true)
    (eqV3 : PySem.W.kitOne K (.ref E3) (.type "ValueError") = some true)
    {nm3 q3 : Str} {N3 : Addr} {bs3 : List Value} {sn3 : List Str} {sub3 : List Value} {ab3 : Bool} {col3 : Option Bool} {dd3 : Option Addr} {m03 m13 m23 m33 m53 : Option Value}
    (eL3 : K.lookup E3 = some (excClassObj nm3 q3 E3 N3 bs3 [.ref E18, .type "ValueError", .type "Exception", .type "BaseException", .type "object"] true sn3 sub3 ab3 col3 dd3 m03 m13 m23 m33 m53 "ValueError.__new__"))
    (es3 : PySem.W.findIn K (.ref E3) "__setattr__" = some (some (.builtin "object.__setattr__")))
    (ei3 : PySem.W.findIn K (.ref E3) "__init__" = some (some (.ref f6))) (ej3 : PySem.W.typeIn K (.ref f6) = some (.type "function"))
    (en3_0 : PySem.W.findIn K (.ref E3) "place" = some none)
    (ek4 : PySem.W.keepIn K (.ref E4) = true) (eg4 : PySem.W.findIn K (.ref E4) "__getattribute__" = some (some (.builtin "BaseException.__getattribute__"))) (eh4 : PySem.W.findIn K (.ref E4) "__getattr__" = some none)
    (ed4 : PySem.W.hasDictIn K E4 = true) (ee4 : PySem.W.findIn K (.ref E4) "__class__" = some (some (.builtin "object.__class__"))) (em4 : PySem.W.mroIn K E4 (.type "object") = some true)
    (eq4_0 : PySem.W.kitOne K (.ref E4) (.ref E0) = some false)
    (eq4_1 : PySem.W.kitOne K (.ref E4) (.ref E1) = some false)
    (eq4_2 : PySem.W.kitOne K (.ref E4) (.ref E2) = some false)
    (eq4_3 : PySem.W.kitOne K (.ref E4) (.ref E3) = some false)
    (eq4_4 : PySem.W.kitOne K (.ref E4) (.ref E4) = some true)
    (eq4_5 : PySem.W.kitOne K (.ref E4) (.ref E5) = some false)
    (eq4_6 : PySem.W.kitOne K (.ref E4) (.ref E6) = some false)
    (eq4_7 : PySem.W.kitOne K (.ref E4) (.ref E7) = some false)
    (eq4_8 : PySem.W.kitOne K (.ref E4) (.ref E8) = some false)
    (eq4_9 : PySem.W.kitOne K (.ref E4) (.ref E9) = some false)
    (eq4_10 : PySem.W.kitOne K (.ref E4) (.ref E10) = some false)
    (eq4_11 : PySem.W.kitOne K (.ref E4) (.ref E11) = some false)
    (eq4_12 : PySem.W.kitOne K (.ref E4) (.ref E12) = some false)
    (eq4_13 : PySem.W.kitOne K (.ref E4) (.ref E13) = some false)
    (eq4_14 : PySem.W.kitOne K (.ref E4) (.ref E14) = some false)
    (eq4_15 : PySem.W.kitOne K (.ref E4) (.ref E15) = some false)
    (eq4_16 : PySem.W.kitOne K (.ref E4) (.ref E16) = some false)
    (eq4_17 : PySem.W.kitOne K (.ref E4) (.ref E17) = some false)
    (eq4_18 : PySem.W.kitOne K (.ref E4) (.ref E18) = some true)
    (eqV4 : PySem.W.kitOne K (.ref E4) (.type "ValueError") = some true)
    {nm4 q4 : Str} {N4 : Addr} {bs4 : List Value} {sn4 : List Str} {sub4 : List Value} {ab4 : Bool} {col4 : Option Bool} {dd4 : Option Addr} {m04 m14 m24 m34 m54 : Option Value}
    (eL4 : K.lookup E4 = some (excClassObj nm4 q4 E4 N4 bs4 [.ref E18, .type "ValueError", .type "Exception", .type "BaseException", .type "object"] true sn4 sub4 ab4 col4 dd4 m04 m14 m24 m34 m54 "ValueError.__new__"))
    (es4 : PySem.W.findIn K (.ref E4) "__setattr__" = some (some (.builtin "object.__setattr__")))
    (ei4 : PySem.W.findIn K (.ref E4) "__init__" = some (some (.ref f7))) (ej4 : PySem.W.typeIn K (.ref f7) = some (.type "function"))
    (en4_0 : PySem.W.findIn K (.ref E4) "place" = some none)
    (ek5 : PySem.W.keepIn K (.ref E5) = true) (eg5 : PySem.W.findIn K (.ref E5) "__getattribute__" = some (some (.builtin "BaseException.__getattribute__"))) (eh5 : PySem.W.findIn K (.ref E5) "__getattr__" = some none)
    (ed5 : PySem.W.hasDictIn K E5 = true) (ee5 : PySem.W.findIn K (.ref E5) "__class__" = some (some (.builtin "object.__class__"))) (em5 : PySem.W.mroIn K E5 (.type "object") = some true)
    (eq5_0 : PySem.W.kitOne K (.ref E5) (.ref E0) = some false)
    (eq5_1 : PySem.W.kitOne K (.ref E5) (.ref E1) = some false)
    (eq5_2 : PySem.W.kitOne K (.ref E5) (.ref E2) = some false)
    (eq5_3 : PySem.W.kitOne K (.ref E5) (.ref E3) = some false)
    (eq5_4 : PySem.W.kitOne K (.ref E5) (.ref E4) = some false)
    (eq5_5 : PySem.W.kitOne K (.ref E5) (.ref E5) = some true)
    (eq5_6 : PySem.W.kitOne K (.ref E5) (.ref E6) = some false)
    (eq5_7 : PySem.W.kitOne K (.ref E5) (.ref E7) = some false)
    (eq5_8 : PySem.W.kitOne K (.ref E5) (.ref E8) = some false)
    (eq5_9 : PySem.W.kitOne K (.ref E5) (.ref E9) = some false)
    (eq5_10 : PySem.W.kitOne K (.ref E5) (.ref E10) = some false)
    (eq5_11 : PySem.W.kitOne K (.ref E5) (.ref E11) = some false)
    (eq5_12 : PySem.W.kitOne K (.ref E5) (.ref E12) = some false)
    (eq5_13 : PySem.W.kitOne K (.ref E5) (.ref E13) = some false)
    (eq5_14 : PySem.W.kitOne K (.ref E5) (.ref E14) = some false)
    (eq5_15 : PySem.W.kitOne K (.ref E5) (.ref E15) = some false)
    (eq5_16 : PySem.W.kitOne K (.ref E5) (.ref E16) = some false)
    (eq5_17 : PySem.W.kitOne K (.ref E5) (.ref E17) = some false)
    (eq5_18 : PySem.W.kitOne K (.ref E5) (.ref E18) = some true)
    (eqV5 : PySem.W.kitOne K (.ref E5) (.type "ValueError") = some true)
    {nm5 q5 : Str} {N5 : Addr} {bs5 : List Value} {sn5 : List Str} {sub5 : List Value} {ab5 : Bool} {col5 : Option Bool} {dd5 : Option Addr} {m05 m15 m25 m35 m55 : Option Value}
    (eL5 : K.lookup E5 = some (excClassObj nm5 q5 E5 N5 bs5 [.ref E18, .type "ValueError", .type "Exception", .type "BaseException", .type "object"] true sn5 sub5 ab5 col5 dd5 m05 m15 m25 m35 m55 "ValueError.__new__"))
    (es5 : PySem.W.findIn K (.ref E5) "__setattr__" = some (some (.builtin "object.__setattr__")))
    (ei5 : PySem.W.findIn K (.ref E5) "__init__" = some (some (.ref f8))) (ej5 : PySem.W.typeIn K (.ref f8) = some (.type "function"))
    (en5_0 : PySem.W.findIn K (.ref E5) "place" = some none)
    (ek6 : PySem.W.keepIn K (.ref E6) = true) (eg6 : PySem.W.findIn K (.ref E6) "__getattribute__" = some (some (.builtin "BaseException.__getattribute__"))) (eh6 : PySem.W.findIn K (.ref E6) "__getattr__" = some none)
    (ed6 : PySem.W.hasDictIn K E6 = true) (ee6 : PySem.W.findIn K (.ref E6) "__class__" = some (some (.builtin "object.__class__"))) (em6 : PySem.W.mroIn K E6 (.type "object") = some true)
    (eq6_0 : PySem.W.kitOne K (.ref E6) (.ref E0) = some false)
    (eq6_1 : PySem.W.kitOne K (.ref E6) (.ref E1) = some false)
    (eq6_2 : PySem.W.kitOne K (.ref E6) (.ref E2) = some false)
    (eq6_3 : PySem.W.kitOne K (.ref E6) (.ref E3) = some false)
    (eq6_4 : PySem.W.kitOne K (.ref E6) (.ref E4) = some false)
    (eq6_5 : PySem.W.kitOne K (.ref E6) (.ref E5) = some false)
    (eq6_6 : PySem.W.kitOne K (.ref E6) (.ref E6) = some true)
    (eq6_7 : PySem.W.kitOne K (.ref E6) (.ref E7) = some false)
    (eq6_8 : PySem.W.kitOne K (.ref E6) (.ref E8) = some false)
    (eq6_9 : PySem.W.kitOne K (.ref E6) (.ref E9) = some false)
    (eq6_10 : PySem.W.kitOne K (.ref E6) (.ref E10) = some false)
    (eq6_11 : PySem.W.kitOne K (.ref E6) (.ref E11) = some false)
    (eq6_12 : PySem.W.kitOne K (.ref E6) (.ref E12) = some false)
    (eq6_13 : PySem.W.kitOne K (.ref E6) (.ref E13) = some false)
    (eq6_14 : PySem.W.kitOne K (.ref E6) (.ref E14) = some false)
    (eq6_15 : PySem.W.kitOne K (.ref E6) (.ref E15) = some false)
    (eq6_16 : PySem.W.kitOne K (.ref E6) (.ref E16) = some false)
    (eq6_17 : PySem.W.kitOne K (.ref E6) (.ref E17) = some false)
    (eq6_18 : PySem.W.kitOne K (.ref E6) (.ref E18) = some true)
    (eqV6 : PySem.W.kitOne K (.ref E6) (.type "ValueError") = some true)
    {nm6 q6 : Str} {N6 : Addr} {bs6 : List Value} {sn6 : List Str} {sub6 : List Value} {ab6 : Bool} {col6 : Option Bool} {dd6 : Option Addr} {m06 m16 m26 m36 m56 : Option Value}
    (eL6 : K.lookup E6 = some (excClassObj nm6 q6 E6 N6 bs6 [.ref E18, .type "ValueError", .type "Exception", .type "BaseException", .type "object"] true sn6 sub6 ab6 col6 dd6 m06 m16 m26 m36 m56 "ValueError.__new__"))
    (es6 : PySem.W.findIn K (.ref E6) "__setattr__" = some (some (.builtin "object.__setattr__")))
    (ei6 : PySem.W.findIn K (.ref E6) "__init__" = some (some (.ref f9))) (ej6 : PySem.W.typeIn K (.ref f9) = some (.type "function"))
    (en6_0 : PySem.W.findIn K (.ref E6) "place" = some none)
    (ek7 : PySem.W.keepIn K (.ref E7) = true) (eg7 : PySem.W.findIn K (.ref E7) "__getattribute__" = some (some (.builtin "BaseException.__getattribute__"))) (eh7 : PySem.W.findIn K (.ref E7) "__getattr__" = some none)
    (ed7 : PySem.W.hasDictIn K E7 = true) (ee7 : PySem.W.findIn K (.ref E7) "__class__" = some (some (.builtin "object.__class__"))) (em7 : PySem.W.mroIn K E7 (.type "object") = some true)
    (eq7_0 : PySem.W.kitOne K (.ref E7) (.ref E0) = some false)
    (eq7_1 : PySem.W.kitOne K (.ref E7) (.ref E1) = some false)
    (eq7_2 : PySem.W.kitOne K (.ref E7) (.ref E2) = some false)
    (eq7_3 : PySem.W.kitOne K (.ref E7) (.ref E3) = some false)
    (eq7_4 : PySem.W.kitOne K (.ref E7) (.ref E4) = some false)
    (eq7_5 : PySem.W.kitOne K (.ref E7) (.ref E5) = some false)
    (eq7_6 : PySem.W.kitOne K (.ref E7) (.ref E6) = some false)
    (eq7_7 : PySem.W.kitOne K (.ref E7) (.ref E7) = some true)
    (eq7_8 : PySem.W.kitOne K (.ref E7) (.ref E8) = some false)
    (eq7_9 : PySem.W.kitOne K (.ref E7) (.ref E9) = some false)
    (eq7_10 : PySem.W.kitOne K (.ref E7) (.ref E10) = some false)
    (eq7_11 : PySem.W.kitOne K (.ref E7) (.ref E11) = some false)
    (eq7_12 : PySem.W.kitOne K (.ref E7) (.ref E12) = some false)
    (eq7_13 : PySem.W.kitOne K (.ref E7) (.ref E13) = some false)
    (eq7_14 : PySem.W.kitOne K (.ref E7) (.ref E14) = some false)
    (eq7_15 : PySem.W.kitOne K (.ref E7) (.ref E15) = some false)
    (eq7_16 : PySem.W.kitOne K (.ref E7) (.ref E16) = some false)
    (eq7_17 : PySem.W.kitOne K (.ref E7) (.ref E17) = some false)
    (eq7_18 : PySem.W.kitOne K (.ref E7) (.ref E18) = some true)
    (eqV7 : PySem.W.kitOne K (.ref E7) (.type "ValueError") = some true)
    {nm7 q7 : Str} {N7 : Addr} {bs7 : List Value} {sn7 : List Str} {sub7 : List Value} {ab7 : Bool} {col7 : Option Bool} {dd7 : Option Addr} {m07 m17 m27 m37 m57 : Option Value}
    (eL7 : K.lookup E7 = some (excClassObj nm7 q7 E7 N7 bs7 [.ref E18, .type "ValueError", .type "Exception", .type "BaseException", .type "object"] true sn7 sub7 ab7 col7 dd7 m07 m17 m27 m37 m57 "ValueError.__new__"))
    (es7 : PySem.W.findIn K (.ref E7) "__setattr__" = some (some (.builtin "object.__setattr__")))
    (ei7 : PySem.W.findIn K (.ref E7) "__init__" = some (some (.ref f10))) (ej7 : PySem.W.typeIn K (.ref f10) = some (.type "function"))
    (en7_0 : PySem.W.findIn K (.ref E7) "place" = some none)
    (ek8 : PySem.W.keepIn K (.ref E8) = true) (eg8 : PySem.W.findIn K (.ref E8) "__getattribute__" = some (some (.builtin "BaseException.__getattribute__"))) (eh8 : PySem.W.findIn K (.ref E8) "__getattr__" = some none)
    (ed8 : PySem.W.hasDictIn K E8 = true) (ee8 : PySem.W.findIn K (.ref E8) "__class__" = some (some (.builtin "object.__class__"))) (em8 : PySem.W.mroIn K E8 (.type "object") = some true)
    (eq8_0 : PySem.W.kitOne K (.ref E8) (.ref E0) = some false)
    (eq8_1 : PySem.W.kitOne K (.ref E8) (.ref E1) = some false)
    (eq8_2 : PySem.W.kitOne K (.ref E8) (.ref E2) = some false)
    (eq8_3 : PySem.W.kitOne K (.ref E8) (.ref E3) = some false)
    (eq8_4 : PySem.W.kitOne K (.ref E8) (.ref E4) = some false)
    (eq8_5 : PySem.W.kitOne K (.ref E8) (.ref E5) = some false)
    (eq8_6 : PySem.W.kitOne K (.ref E8) (.ref E6) = some false)
    (eq8_7 : PySem.W.kitOne K (.ref E8) (.ref E7) = some false)
    (eq8_8 : PySem.W.kitOne K (.ref E8) (.ref E8) = some true)
    (eq8_9 : PySem.W.kitOne K (.ref E8) (.ref E9) = some false)
    (eq8_10 : PySem.W.kitOne K (.ref E8) (.ref E10) = some false)
    (eq8_11 : PySem.W.kitOne K (.ref E8) (.ref E11) = some false)
    (eq8_12 : PySem.W.kitOne K (.ref E8) (.ref E12) = some false)
    (eq8_13 : PySem.W.kitOne K (.ref E8) (.ref E13) = some false)
    (eq8_14 : PySem.W.kitOne K (.ref E8) (.ref E14) = some false)
    (eq8_15 : PySem.W.kitOne K (.ref E8) (.ref E15) = some false)
    (eq8_16 : PySem.W.kitOne K (.ref E8) (.ref E16) = some false)
    (eq8_17 : PySem.W.kitOne K (.ref E8) (.ref E17) = some false)
    (eq8_18 : PySem.W.kitOne K (.ref E8) (.ref E18) = some true)
    (eqV8 : PySem.W.kitOne K (.ref E8) (.type "ValueError") = some true)
    {nm8 q8 : Str} {N8 : Addr} {bs8 : List Value} {sn8 : List Str} {sub8 : List Value} {ab8 : Bool} {col8 : Option Bool} {dd8 : Option Addr} {m08 m18 m28 m38 m58 : Option Value}
    (eL8 : K.lookup E8 = some (excClassObj nm8 q8 E8 N8 bs8 [.ref E18, .type "ValueError", .type "Exception", .type "BaseException", .type "object"] true sn8 sub8 ab8 col8 dd8 m08 m18 m28 m38 m58 "ValueError.__new__"))
    (es8 : PySem.W.findIn K (.ref E8) "__setattr__" = some (some (.builtin "object.__setattr__")))
    (ei8 : PySem.W.findIn K (.ref E8) "__init__" = some (some (.ref f11))) (ej8 : PySem.W.typeIn K (.ref f11) = some (.type "function"))
    (en8_0 : PySem.W.findIn K (.ref E8) "place" = some none)
    (ek9 : PySem.W.keepIn K (.ref E9) = true) (eg9 : PySem.W.findIn K (.ref E9) "__getattribute__" = some (some (.builtin "BaseException.__getattribute__"))) (eh9 : PySem.W.findIn K (.ref E9) "__getattr__" = some none)
    (ed9 : PySem.W.hasDictIn K E9 = true) (ee9 : PySem.W.findIn K (.ref E9) "__class__" = some (some (.builtin "object.__class__"))) (em9 : PySem.W.mroIn K E9 (.type "object") = some true)
    (eq9_0 : PySem.W.kitOne K (.ref E9) (.ref E0) = some false)
    (eq9_1 : PySem.W.kitOne K (.ref E9) (.ref E1) = some false)
    (eq9_2 : PySem.W.kitOne K (.ref E9) (.ref E2) = some false)
    (eq9_3 : PySem.W.kitOne K (.ref E9) (.ref E3) = some false)
    (eq9_4 : PySem.W.kitOne K (.ref E9) (.ref E4) = some false)
    (eq9_5 : PySem.W.kitOne K (.ref E9) (.ref E5) = some false)
    (eq9_6 : PySem.W.kitOne K (.ref E9) (.ref E6) = some false)
    (eq9_7 : PySem.W.kitOne K (.ref E9) (.ref E7) = some false)
    (eq9_8 : PySem.W.kitOne K (.ref E9) (.ref E8) = some false)
    (eq9_9 : PySem.W.kitOne K (.ref E9) (.ref E9) = some true)
    (eq9_10 : PySem.W.kitOne K (.ref E9) (.ref E10) = some false)
    (eq9_11 : PySem.W.kitOne K (.ref E9) (.ref E11) = some false)
    (eq9_12 : PySem.W.kitOne K (.ref E9) (.ref E12) = some false)
    (eq9_13 : PySem.W.kitOne K (.ref E9) (.ref E13) = some false)
    (eq9_14 : PySem.W.kitOne K (.ref E9) (.ref E14) = some false)
    (eq9_15 : PySem.W.kitOne K (.ref E9) (.ref E15) = some false)
    (eq9_16 : PySem.W.kitOne K (.ref E9) (.ref E16) = some false)
    (eq9_17 : PySem.W.kitOne K (.ref E9) (.ref E17) = some false)
    (eq9_18 : PySem.W.kitOne K (.ref E9) (.ref E18) = some true)
    (eqV9 : PySem.W.kitOne K (.ref E9) (.type "ValueError") = some true)
    {nm9 q9 : Str} {N9 : Addr} {bs9 : List Value} {sn9 : List Str} {sub9 : List Value} {ab9 : Bool} {col9 : Option Bool} {dd9 : Option Addr} {m09 m19 m29 m39 m59 : Option Value}
    (eL9 : K.lookup E9 = some (excClassObj nm9 q9 E9 N9 bs9 [.ref E18, .type "ValueError", .type "Exception", .type "BaseException", .type "object"] true sn9 sub9 ab9 col9 dd9 m09 m19 m29 m39 m59 "ValueError.__new__"))
    (es9 : PySem.W.findIn K (.ref E9) "__setattr__" = some (some (.builtin "object.__setattr__")))
    (ei9 : PySem.W.findIn K (.ref E9) "__init__" = some (some (.ref f12))) (ej9 : PySem.W.typeIn K (.ref f12) = some (.type "function"))
    (en9_0 : PySem.W.findIn K (.ref E9) "at" = some none)
    (ek10 : PySem.W.keepIn K (.ref E10) = true) (eg10 : PySem.W.findIn K (.ref E10) "__getattribute__" = some (some (.builtin "BaseException.__getattribute__"))) (eh10 : PySem.W.findIn K (.ref E10) "__getattr__" = some none)
    (ed10 : PySem.W.hasDictIn K E10 = true) (ee10 : PySem.W.findIn K (.ref E10) "__class__" = some (some (.builtin "object.__class__"))) (em10 : PySem.W.mroIn K E10 (.type "object") = some true)
    (eq10_0 : PySem.W.kitOne K (.ref E10) (.ref E0) = some false)
    (eq10_1 : PySem.W.kitOne K (.ref E10) (.ref E1) = some false)
    (eq10_2 : PySem.W.kitOne K (.ref E10) (.ref E2) = some false)
    (eq10_3 : PySem.W.kitOne K (.ref E10) (.ref E3) = some false)
    (eq10_4 : PySem.W.kitOne K (.ref E10) (.ref E4) = some false)
    (eq10_5 : PySem.W.kitOne K (.ref E10) (.ref E5) = some false)
    (eq10_6 : PySem.W.kitOne K (.ref E10) (.ref E6) = some false)
    (eq10_7 : PySem.W.kitOne K (.ref E10) (.ref E7) = some false)
    (eq10_8 : PySem.W.kitOne K (.ref E10) (.ref E8) = some false)
    (eq10_9 : PySem.W.kitOne K (.ref E10) (.ref E9) = some false)
    (eq10_10 : PySem.W.kitOne K (.ref E10) (.ref E10) = some true)
    (eq10_11 : PySem.W.kitOne K (.ref E10) (.ref E11) = some false)
    (eq10_12 : PySem.W.kitOne K (.ref E10) (.ref E12) = some false)
    (eq10_13 : PySem.W.kitOne K (.ref E10) (.ref E13) = some false)
    (eq10_14 : PySem.W.kitOne K (.ref E10) (.ref E14) = some false)
    (eq10_15 : PySem.W.kitOne K (.ref E10) (.ref E15) = some false)
    (eq10_16 : PySem.W.kitOne K (.ref E10) (.ref E16) = some false)
    (eq10_17 : PySem.W.kitOne K (.ref E10) (.ref E17) = some false)
    (eq10_18 : PySem.W.kitOne K (.ref E10) (.ref E18) = some true)
    (eqV10 : PySem.W.kitOne K (.ref E10) (.type "ValueError") = some true)
    {nm10 q10 : Str} {N10 : Addr} {bs10 : List Value} {sn10 : List Str} {sub10 : List Value} {ab10 : Bool} {col10 : Option Bool} {dd10 : Option Addr} {m010 m110 m210 m310 m510 : Option Value}
    (eL10 : K.lookup E10 = some (excClassObj nm10 q10 E10 N10 bs10 [.ref E18, .type "ValueError", .type "Exception", .type "BaseException", .type "object"] true sn10 sub10 ab10 col10 dd10 m010 m110 m210 m310 m510 "ValueError.__new__"))
    (es10 : PySem.W.findIn K (.ref E10) "__setattr__" = some (some (.builtin "object.__setattr__")))
    (ei10 : PySem.W.findIn K (.ref E10) "__init__" = some (some (.ref f13))) (ej10 : PySem.W.typeIn K (.ref f13) = some (.type "function"))
    (en10_0 : PySem.W.findIn K (.ref E10) "line" = some none)
    (ek11 : PySem.W.keepIn K (.ref E11) = true) (eg11 : PySem.W.findIn K (.ref E11) "__getattribute__" = some (some (.builtin "BaseException.__getattribute__"))) (eh11 : PySem.W.findIn K (.ref E11) "__getattr__" = some none)
    (ed11 : PySem.W.hasDictIn K E11 = true) (ee11 : PySem.W.findIn K (.ref E11) "__class__" = some (some (.builtin "object.__class__"))) (em11 : PySem.W.mroIn K E11 (.type "object") = some true)
    (eq11_0 : PySem.W.kitOne K (.ref E11) (.ref E0) = some false)
    (eq11_1 : PySem.W.kitOne K (.ref E11) (.ref E1) = some false)
    (eq11_2 : PySem.W.kitOne K (.ref E11) (.ref E2) = some false)
    (eq11_3 : PySem.W.kitOne K (.ref E11) (.ref E3) = some false)
    (eq11_4 : PySem.W.kitOne K (.ref E11) (.ref E4) = some false)
    (eq11_5 : PySem.W.kitOne K (.ref E11) (.ref E5) = some false)
    (eq11_6 : PySem.W.kitOne K (.ref E11) (.ref E6) = some false)
    (eq11_7 : PySem.W.kitOne K (.ref E11) (.ref E7) = some false)
    (eq11_8 : PySem.W.kitOne K (.ref E11) (.ref E8) = some false)
    (eq11_9 : PySem.W.kitOne K (.ref E11) (.ref E9) = some false)
    (eq11_10 : PySem.W.kitOne K (.ref E11) (.ref E10) = some false)
    (eq11_11 : PySem.W.kitOne K (.ref E11) (.ref E11) = some true)
    (eq11_12 : PySem.W.kitOne K (.ref E11) (.ref E12) = some false)
    (eq11_13 : PySem.W.kitOne K (.ref E11) (.ref E13) = some false)
    (eq11_14 : PySem.W.kitOne K (.ref E11) (.ref E14) = some false)
    (eq11_15 : PySem.W.kitOne K (.ref E11) (.ref E15) = some false)
    (eq11_16 : PySem.W.kitOne K (.ref E11) (.ref E16) = some false)
    (eq11_17 : PySem.W.kitOne K (.ref E11) (.ref E17) = some false)
    (eq11_18 : PySem.W.kitOne K (.ref E11) (.ref E18) = some true)
    (eqV11 : PySem.W.kitOne K (.ref E11) (.type "ValueError") = some true)
    {nm11 q11 : Str} {N11 : Addr} {bs11 : List Value} {sn11 : List Str} {sub11 : List Value} {ab11 : Bool} {col11 : Option Bool} {dd11 : Option Addr} {m011 m111 m211 m311 m511 : Option Value}
    (eL11 : K.lookup E11 = some (excClassObj nm11 q11 E11 N11 bs11 [.ref E18, .type "ValueError", .type "Exception", .type "BaseException", .type "object"] true sn11 sub11 ab11 col11 dd11 m011 m111 m211 m311 m511 "ValueError.__new__"))
    (es11 : PySem.W.findIn K (.ref E11) "__setattr__" = some (some (.builtin "object.__setattr__")))
    (ei11 : PySem.W.findIn K (.ref E11) "__init__" = some (some (.ref f14))) (ej11 : PySem.W.typeIn K (.ref f14) = some (.type "function"))
    (en11_0 : PySem.W.findIn K (.ref E11) "saying" = some none)
    (ek12 : PySem.W.keepIn K (.ref E12) = true) (eg12 : PySem.W.findIn K (.ref E12) "__getattribute__" = some (some (.builtin "BaseException.__getattribute__"))) (eh12 : PySem.W.findIn K (.ref E12) "__getattr__" = some none)
    (ed12 : PySem.W.hasDictIn K E12 = true) (ee12 : PySem.W.findIn K (.ref E12) "__class__" = some (some (.builtin "object.__class__"))) (em12 : PySem.W.mroIn K E12 (.type "object") = some true)
    (eq12_0 : PySem.W.kitOne K (.ref E12) (.ref E0) = some false)
    (eq12_1 : PySem.W.kitOne K (.ref E12) (.ref E1) = some false)
    (eq12_2 : PySem.W.kitOne K (.ref E12) (.ref E2) = some false)
    (eq12_3 : PySem.W.kitOne K (.ref E12) (.ref E3) = some false)
    (eq12_4 : PySem.W.kitOne K (.ref E12) (.ref E4) = some false)
    (eq12_5 : PySem.W.kitOne K (.ref E12) (.ref E5) = some false)
    (eq12_6 : PySem.W.kitOne K (.ref E12) (.ref E6) = some false)
    (eq12_7 : PySem.W.kitOne K (.ref E12) (.ref E7) = some false)
    (eq12_8 : PySem.W.kitOne K (.ref E12) (.ref E8) = some false)
    (eq12_9 : PySem.W.kitOne K (.ref E12) (.ref E9) = some false)
    (eq12_10 : PySem.W.kitOne K (.ref E12) (.ref E10) = some false)
    (eq12_11 : PySem.W.kitOne K (.ref E12) (.ref E11) = some false)
    (eq12_12 : PySem.W.kitOne K (.ref E12) (.ref E12) = some true)
    (eq12_13 : PySem.W.kitOne K (.ref E12) (.ref E13) = some false)
    (eq12_14 : PySem.W.kitOne K (.ref E12) (.ref E14) = some false)
    (eq12_15 : PySem.W.kitOne K (.ref E12) (.ref E15) = some false)
    (eq12_16 : PySem.W.kitOne K (.ref E12) (.ref E16) = some false)
    (eq12_17 : PySem.W.kitOne K (.ref E12) (.ref E17) = some false)
    (eq12_18 : PySem.W.kitOne K (.ref E12) (.ref E18) = some true)
    (eqV12 : PySem.W.kitOne K (.ref E12) (.type "ValueError") = some true)
    {nm12 q12 : Str} {N12 : Addr} {bs12 : List Value} {sn12 : List Str} {sub12 : List Value} {ab12 : Bool} {col12 : Option Bool} {dd12 : Option Addr} {m012 m112 m212 m312 m512 : Option Value}
    (eL12 : K.lookup E12 = some (excClassObj nm12 q12 E12 N12 bs12 [.ref E18, .type "ValueError", .type "Exception", .type "BaseException", .type "object"] true sn12 sub12 ab12 col12 dd12 m012 m112 m212 m312 m512 "ValueError.__new__"))
    (es12 : PySem.W.findIn K (.ref E12) "__setattr__" = some (some (.builtin "object.__setattr__")))
    (ei12 : PySem.W.findIn K (.ref E12) "__init__" = some (some (.ref f15))) (ej12 : PySem.W.typeIn K (.ref f15) = some (.type "function"))
    (en12_0 : PySem.W.findIn K (.ref E12) "first" = some none)
    (en12_1 : PySem.W.findIn K (.ref E12) "last" = some none)
    (ek13 : PySem.W.keepIn K (.ref E13) = true) (eg13 : PySem.W.findIn K (.ref E13) "__getattribute__" = some (some (.builtin "BaseException.__getattribute__"))) (eh13 : PySem.W.findIn K (.ref E13) "__getattr__" = some none)
    (ed13 : PySem.W.hasDictIn K E13 = true) (ee13 : PySem.W.findIn K (.ref E13) "__class__" = some (some (.builtin "object.__class__"))) (em13 : PySem.W.mroIn K E13 (.type "object") = some true)
    (eq13_0 : PySem.W.kitOne K (.ref E13) (.ref E0) = some false)
    (eq13_1 : PySem.W.kitOne K (.ref E13) (.ref E1) = some false)
    (eq13_2 : PySem.W.kitOne K (.ref E13) (.ref E2) = some false)
    (eq13_3 : PySem.W.kitOne K (.ref E13) (.ref E3) = some false)
    (eq13_4 : PySem.W.kitOne K (.ref E13) (.ref E4) = some false)
    (eq13_5 : PySem.W.kitOne K (.ref E13) (.ref E5) = some false)
    (eq13_6 : PySem.W.kitOne K (.ref E13) (.ref E6) = some false)
    (eq13_7 : PySem.W.kitOne K (.ref E13) (.ref E7) = some false)
    (eq13_8 : PySem.W.kitOne K (.ref E13) (.ref E8) = some false)
    (eq13_9 : PySem.W.kitOne K (.ref E13) (.ref E9) = some false)
    (eq13_10 : PySem.W.kitOne K (.ref E13) (.ref E10) = some false)
    (eq13_11 : PySem.W.kitOne K (.ref E13) (.ref E11) = some false)
    (eq13_12 : PySem.W.kitOne K (.ref E13) (.ref E12) = some false)
    (eq13_13 : PySem.W.kitOne K (.ref E13) (.ref E13) = some true)
    (eq13_14 : PySem.W.kitOne K (.ref E13) (.ref E14) = some false)
    (eq13_15 : PySem.W.kitOne K (.ref E13) (.ref E15) = some false)
    (eq13_16 : PySem.W.kitOne K (.ref E13) (.ref E16) = some false)
    (eq13_17 : PySem.W.kitOne K (.ref E13) (.ref E17) = some false)
    (eq13_18 : PySem.W.kitOne K (.ref E13) (.ref E18) = some true)
    (eqV13 : PySem.W.kitOne K (.ref E13) (.type "ValueError") = some true)
    {nm13 q13 : Str} {N13 : Addr} {bs13 : List Value} {sn13 : List Str} {sub13 : List Value} {ab13 : Bool} {col13 : Option Bool} {dd13 : Option Addr} {m013 m113 m213 m313 m513 : Option Value}
    (eL13 : K.lookup E13 = some (excClassObj nm13 q13 E13 N13 bs13 [.ref E18, .type "ValueError", .type "Exception", .type "BaseException", .type "object"] true sn13 sub13 ab13 col13 dd13 m013 m113 m213 m313 m513 "ValueError.__new__"))
    (es13 : PySem.W.findIn K (.ref E13) "__setattr__" = some (some (.builtin "object.__setattr__")))
    (ei13 : PySem.W.findIn K (.ref E13) "__init__" = some (some (.ref f16))) (ej13 : PySem.W.typeIn K (.ref f16) = some (.type "function"))
    (en13_0 : PySem.W.findIn K (.ref E13) "end" = some none)
    (en13_1 : PySem.W.findIn K (.ref E13) "start" = some none)
    (ek14 : PySem.W.keepIn K (.ref E14) = true) (eg14 : PySem.W.findIn K (.ref E14) "__getattribute__" = some (some (.builtin "BaseException.__getattribute__"))) (eh14 : PySem.W.findIn K (.ref E14) "__getattr__" = some none)
    (ed14 : PySem.W.hasDictIn K E14 = true) (ee14 : PySem.W.findIn K (.ref E14) "__class__" = some (some (.builtin "object.__class__"))) (em14 : PySem.W.mroIn K E14 (.type "object") = some true)
    (eq14_0 : PySem.W.kitOne K (.ref E14) (.ref E0) = some false)
    (eq14_1 : PySem.W.kitOne K (.ref E14) (.ref E1) = some false)
    (eq14_2 : PySem.W.kitOne K (.ref E14) (.ref E2) = some false)
    (eq14_3 : PySem.W.kitOne K (.ref E14) (.ref E3) = some false)
    (eq14_4 : PySem.W.kitOne K (.ref E14) (.ref E4) = some false)
    (eq14_5 : PySem.W.kitOne K (.ref E14) (.ref E5) = some false)
    (eq14_6 : PySem.W.kitOne K (.ref E14) (.ref E6) = some false)
    (eq14_7 : PySem.W.kitOne K (.ref E14) (.ref E7) = some false)
    (eq14_8 : PySem.W.kitOne K (.ref E14) (.ref E8) = some false)
    (eq14_9 : PySem.W.kitOne K (.ref E14) (.ref E9) = some false)
    (eq14_10 : PySem.W.kitOne K (.ref E14) (.ref E10) = some false)
    (eq14_11 : PySem.W.kitOne K (.ref E14) (.ref E11) = some false)
    (eq14_12 : PySem.W.kitOne K (.ref E14) (.ref E12) = some false)
    (eq14_13 : PySem.W.kitOne K (.ref E14) (.ref E13) = some false)
    (eq14_14 : PySem.W.kitOne K (.ref E14) (.ref E14) = some true)
    (eq14_15 : PySem.W.kitOne K (.ref E14) (.ref E15) = some false)
    (eq14_16 : PySem.W.kitOne K (.ref E14) (.ref E16) = some false)
    (eq14_17 : PySem.W.kitOne K (.ref E14) (.ref E17) = some false)
    (eq14_18 : PySem.W.kitOne K (.ref E14) (.ref E18) = some true)
    (eqV14 : PySem.W.kitOne K (.ref E14) (.type "ValueError") = some true)
    {nm14 q14 : Str} {N14 : Addr} {bs14 : List Value} {sn14 : List Str} {sub14 : List Value} {ab14 : Bool} {col14 : Option Bool} {dd14 : Option Addr} {m014 m114 m214 m314 m514 : Option Value}
    (eL14 : K.lookup E14 = some (excClassObj nm14 q14 E14 N14 bs14 [.ref E18, .type "ValueError", .type "Exception", .type "BaseException", .type "object"] true sn14 sub14 ab14 col14 dd14 m014 m114 m214 m314 m514 "ValueError.__new__"))
    (es14 : PySem.W.findIn K (.ref E14) "__setattr__" = some (some (.builtin "object.__setattr__")))
    (ei14 : PySem.W.findIn K (.ref E14) "__init__" = some (some (.ref f17))) (ej14 : PySem.W.typeIn K (.ref f17) = some (.type "function"))
    (en14_0 : PySem.W.findIn K (.ref E14) "turns" = some none)
    (en14_1 : PySem.W.findIn K (.ref E14) "index" = some none)
    (ek15 : PySem.W.keepIn K (.ref E15) = true) (eg15 : PySem.W.findIn K (.ref E15) "__getattribute__" = some (some (.builtin "BaseException.__getattribute__"))) (eh15 : PySem.W.findIn K (.ref E15) "__getattr__" = some none)
    (ed15 : PySem.W.hasDictIn K E15 = true) (ee15 : PySem.W.findIn K (.ref E15) "__class__" = some (some (.builtin "object.__class__"))) (em15 : PySem.W.mroIn K E15 (.type "object") = some true)
    (eq15_0 : PySem.W.kitOne K (.ref E15) (.ref E0) = some false)
    (eq15_1 : PySem.W.kitOne K (.ref E15) (.ref E1) = some false)
    (eq15_2 : PySem.W.kitOne K (.ref E15) (.ref E2) = some false)
    (eq15_3 : PySem.W.kitOne K (.ref E15) (.ref E3) = some false)
    (eq15_4 : PySem.W.kitOne K (.ref E15) (.ref E4) = some false)
    (eq15_5 : PySem.W.kitOne K (.ref E15) (.ref E5) = some false)
    (eq15_6 : PySem.W.kitOne K (.ref E15) (.ref E6) = some false)
    (eq15_7 : PySem.W.kitOne K (.ref E15) (.ref E7) = some false)
    (eq15_8 : PySem.W.kitOne K (.ref E15) (.ref E8) = some false)
    (eq15_9 : PySem.W.kitOne K (.ref E15) (.ref E9) = some false)
    (eq15_10 : PySem.W.kitOne K (.ref E15) (.ref E10) = some false)
    (eq15_11 : PySem.W.kitOne K (.ref E15) (.ref E11) = some false)
    (eq15_12 : PySem.W.kitOne K (.ref E15) (.ref E12) = some false)
    (eq15_13 : PySem.W.kitOne K (.ref E15) (.ref E13) = some false)
    (eq15_14 : PySem.W.kitOne K (.ref E15) (.ref E14) = some false)
    (eq15_15 : PySem.W.kitOne K (.ref E15) (.ref E15) = some true)
    (eq15_16 : PySem.W.kitOne K (.ref E15) (.ref E16) = some false)
    (eq15_17 : PySem.W.kitOne K (.ref E15) (.ref E17) = some false)
    (eq15_18 : PySem.W.kitOne K (.ref E15) (.ref E18) = some true)
    (eqV15 : PySem.W.kitOne K (.ref E15) (.type "ValueError") = some true)
    {nm15 q15 : Str} {N15 : Addr} {bs15 : List Value} {sn15 : List Str} {sub15 : List Value} {ab15 : Bool} {col15 : Option Bool} {dd15 : Option Addr} {m015 m115 m215 m315 m515 : Option Value}
    (eL15 : K.lookup E15 = some (excClassObj nm15 q15 E15 N15 bs15 [.ref E18, .type "ValueError", .type "Exception", .type "BaseException", .type "object"] true sn15 sub15 ab15 col15 dd15 m015 m115 m215 m315 m515 "ValueError.__new__"))
    (es15 : PySem.W.findIn K (.ref E15) "__setattr__" = some (some (.builtin "object.__setattr__")))
    (ei15 : PySem.W.findIn K (.ref E15) "__init__" = some (some (.ref f18))) (ej15 : PySem.W.typeIn K (.ref f18) = some (.type "function"))
    (en15_0 : PySem.W.findIn K (.ref E15) "deed" = some none)
    (ek16 : PySem.W.keepIn K (.ref E16) = true) (eg16 : PySem.W.findIn K (.ref E16) "__getattribute__" = some (some (.builtin "BaseException.__getattribute__"))) (eh16 : PySem.W.findIn K (.ref E16) "__getattr__" = some none)
    (ed16 : PySem.W.hasDictIn K E16 = true) (ee16 : PySem.W.findIn K (.ref E16) "__class__" = some (some (.builtin "object.__class__"))) (em16 : PySem.W.mroIn K E16 (.type "object") = some true)
    (eq16_0 : PySem.W.kitOne K (.ref E16) (.ref E0) = some false)
    (eq16_1 : PySem.W.kitOne K (.ref E16) (.ref E1) = some false)
    (eq16_2 : PySem.W.kitOne K (.ref E16) (.ref E2) = some false)
    (eq16_3 : PySem.W.kitOne K (.ref E16) (.ref E3) = some false)
    (eq16_4 : PySem.W.kitOne K (.ref E16) (.ref E4) = some false)
    (eq16_5 : PySem.W.kitOne K (.ref E16) (.ref E5) = some false)
    (eq16_6 : PySem.W.kitOne K (.ref E16) (.ref E6) = some false)
    (eq16_7 : PySem.W.kitOne K (.ref E16) (.ref E7) = some false)
    (eq16_8 : PySem.W.kitOne K (.ref E16) (.ref E8) = some false)
    (eq16_9 : PySem.W.kitOne K (.ref E16) (.ref E9) = some false)
    (eq16_10 : PySem.W.kitOne K (.ref E16) (.ref E10) = some false)
    (eq16_11 : PySem.W.kitOne K (.ref E16) (.ref E11) = some false)
    (eq16_12 : PySem.W.kitOne K (.ref E16) (.ref E12) = some false)
    (eq16_13 : PySem.W.kitOne K (.ref E16) (.ref E13) = some false)
    (eq16_14 : PySem.W.kitOne K (.ref E16) (.ref E14) = some false)
    (eq16_15 : PySem.W.kitOne K (.ref E16) (.ref E15) = some false)
    (eq16_16 : PySem.W.kitOne K (.ref E16) (.ref E16) = some true)
    (eq16_17 : PySem.W.kitOne K (.ref E16) (.ref E17) = some false)
    (eq16_18 : PySem.W.kitOne K (.ref E16) (.ref E18) = some true)
    (eqV16 : PySem.W.kitOne K (.ref E16) (.type "ValueError") = some true)
    (ey16 : PySem.W.excIn K E16 [.type "ValueError", .type "Exception", .type "BaseException", .type "object"] "ValueError.__new__" = true)
    (ek17 : PySem.W.keepIn K (.ref E17) = true) (eg17 : PySem.W.findIn K (.ref E17) "__getattribute__" = some (some (.builtin "BaseException.__getattribute__"))) (eh17 : PySem.W.findIn K (.ref E17) "__getattr__" = some none)
    (ed17 : PySem.W.hasDictIn K E17 = true) (ee17 : PySem.W.findIn K (.ref E17) "__class__" = some (some (.builtin "object.__class__"))) (em17 : PySem.W.mroIn K E17 (.type "object") = some true)
    (eq17_0 : PySem.W.kitOne K (.ref E17) (.ref E0) = some false)
    (eq17_1 : PySem.W.kitOne K (.ref E17) (.ref E1) = some false)
    (eq17_2 : PySem.W.kitOne K (.ref E17) (.ref E2) = some false)
    (eq17_3 : PySem.W.kitOne K (.ref E17) (.ref E3) = some false)
    (eq17_4 : PySem.W.kitOne K (.ref E17) (.ref E4) = some false)
    (eq17_5 : PySem.W.kitOne K (.ref E17) (.ref E5) = some false)
    (eq17_6 : PySem.W.kitOne K (.ref E17) (.ref E6) = some false)
    (eq17_7 : PySem.W.kitOne K (.ref E17) (.ref E7) = some false)
    (eq17_8 : PySem.W.kitOne K (.ref E17) (.ref E8) = some false)
    (eq17_9 : PySem.W.kitOne K (.ref E17) (.ref E9) = some false)
    (eq17_10 : PySem.W.kitOne K (.ref E17) (.ref E10) = some false)
    (eq17_11 : PySem.W.kitOne K (.ref E17) (.ref E11) = some false)
    (eq17_12 : PySem.W.kitOne K (.ref E17) (.ref E12) = some false)
    (eq17_13 : PySem.W.kitOne K (.ref E17) (.ref E13) = some false)
    (eq17_14 : PySem.W.kitOne K (.ref E17) (.ref E14) = some false)
    (eq17_15 : PySem.W.kitOne K (.ref E17) (.ref E15) = some false)
    (eq17_16 : PySem.W.kitOne K (.ref E17) (.ref E16) = some false)
    (eq17_17 : PySem.W.kitOne K (.ref E17) (.ref E17) = some true)
    (eq17_18 : PySem.W.kitOne K (.ref E17) (.ref E18) = some true)
    (eqV17 : PySem.W.kitOne K (.ref E17) (.type "ValueError") = some true)
    (ey17 : PySem.W.excIn K E17 [.type "ValueError", .type "Exception", .type "BaseException", .type "object"] "ValueError.__new__" = true)
    (z0 : PySem.W.nsIn K mainGlobals "ValueError" = some none)
    (z1 : PySem.W.nsIn K mainGlobals "abs" = some none)
    (z2 : PySem.W.nsIn K mainGlobals "bool" = some none)
    (z3 : PySem.W.nsIn K mainGlobals "dict" = some none)
    (z4 : PySem.W.nsIn K mainGlobals "int" = some none)
    (z5 : PySem.W.nsIn K mainGlobals "isinstance" = some none)
    (z6 : PySem.W.nsIn K mainGlobals "len" = some none)
    (z7 : PySem.W.nsIn K mainGlobals "list" = some none)
    (z8 : PySem.W.nsIn K mainGlobals "range" = some none)
    (z9 : PySem.W.nsIn K mainGlobals "str" = some none)
    (z10 : PySem.W.nsIn K mainGlobals "tuple" = some none)
    : ∃ fd : FuncData, (∀ (s : Shared) (v : Value), BindsTo s fd ⟨[v], []⟩ [("script", v)]) ∧ ∀ base : Heap, K.In base → base.Ns mainGlobals mg → FnOk l.prog w K mg base CX0 5 fa fd ["script"] (sp_law K) := by
  have e := hfa.symm.trans (PySem.W.mg_of X G a24)
  cases e
  let T : T0 K mg := {
    m_ValueError := PySem.W.mg_none_of X G z0,
    m_abs := PySem.W.mg_none_of X G z1,
    m_bool := PySem.W.mg_none_of X G z2,
    m_dict := PySem.W.mg_none_of X G z3,
    m_int := PySem.W.mg_none_of X G z4,
    m_isinstance := PySem.W.mg_none_of X G z5,
    m_len := PySem.W.mg_none_of X G z6,
    m_list := PySem.W.mg_none_of X G z7,
    m_range := PySem.W.mg_none_of X G z8,
    m_str := PySem.W.mg_none_of X G z9,
    m_tuple := PySem.W.mg_none_of X G z10,
    a__law_tape := f0,
    fd__law_tape := _,
    F__law_tape := fun_mk (st := s__law_tape) l0 c0 k0,
    b__law_tape := (fun_mk (st := s__law_tape) l0 c0 k0).binds (ps := ["script"]) fun _ _ _ _ _ _ us hl => match us, hl with | [_], _ => rfl,
    g__law_tape := PySem.W.mg_of X G a0,
    a__law_pick := f1,
    fd__law_pick := _,
    F__law_pick := fun_mk (st := s__law_pick) l1 c1 k1,
    b__law_pick := (fun_mk (st := s__law_pick) l1 c1 k1).binds (ps := ["tape", "size"]) fun _ _ _ _ _ _ us hl => match us, hl with | [_, _], _ => rfl,
    g__law_pick := PySem.W.mg_of X G a1,
    a__law_same := f2,
    fd__law_same := _,
    F__law_same := fun_mk (st := s__law_same) l2 c2 k2,
    b__law_same := (fun_mk (st := s__law_same) l2 c2 k2).binds (ps := ["actual", "due"]) fun _ _ _ _ _ _ us hl => match us, hl with | [_, _], _ => rfl,
    g__law_same := PySem.W.mg_of X G a2,
    a_OffCircle__init := f3,
    fd_OffCircle__init := _,
    F_OffCircle__init := fun_mk (st := s_OffCircle__init) l3 c3 k3,
    b_OffCircle__init := (fun_mk (st := s_OffCircle__init) l3 c3 k3).binds (ps := ["self", "place"]) fun _ _ _ _ _ _ us hl => match us, hl with | [_, _], _ => rfl,
    a_NoHouse__init := f4,
    fd_NoHouse__init := _,
    F_NoHouse__init := fun_mk (st := s_NoHouse__init) l4 c4 k4,
    b_NoHouse__init := (fun_mk (st := s_NoHouse__init) l4 c4 k4).binds (ps := ["self", "place"]) fun _ _ _ _ _ _ us hl => match us, hl with | [_, _], _ => rfl,
    a_TakenPlace__init := f5,
    fd_TakenPlace__init := _,
    F_TakenPlace__init := fun_mk (st := s_TakenPlace__init) l5 c5 k5,
    b_TakenPlace__init := (fun_mk (st := s_TakenPlace__init) l5 c5 k5).binds (ps := ["self", "place"]) fun _ _ _ _ _ _ us hl => match us, hl with | [_, _], _ => rfl,
    a_StillNamed__init := f6,
    fd_StillNamed__init := _,
    F_StillNamed__init := fun_mk (st := s_StillNamed__init) l6 c6 k6,
    b_StillNamed__init := (fun_mk (st := s_StillNamed__init) l6 c6 k6).binds (ps := ["self", "place"]) fun _ _ _ _ _ _ us hl => match us, hl with | [_, _], _ => rfl,
    a_NotBetween__init := f7,
    fd_NotBetween__init := _,
    F_NotBetween__init := fun_mk (st := s_NotBetween__init) l7 c7 k7,
    b_NotBetween__init := (fun_mk (st := s_NotBetween__init) l7 c7 k7).binds (ps := ["self", "place"]) fun _ _ _ _ _ _ us hl => match us, hl with | [_, _], _ => rfl,
    a_SamePiece__init := f8,
    fd_SamePiece__init := _,
    F_SamePiece__init := fun_mk (st := s_SamePiece__init) l8 c8 k8,
    b_SamePiece__init := (fun_mk (st := s_SamePiece__init) l8 c8 k8).binds (ps := ["self", "place"]) fun _ _ _ _ _ _ us hl => match us, hl with | [_, _], _ => rfl,
    a_NotQuiet__init := f9,
    fd_NotQuiet__init := _,
    F_NotQuiet__init := fun_mk (st := s_NotQuiet__init) l9 c9 k9,
    b_NotQuiet__init := (fun_mk (st := s_NotQuiet__init) l9 c9 k9).binds (ps := ["self", "place"]) fun _ _ _ _ _ _ us hl => match us, hl with | [_, _], _ => rfl,
    a_NotAtRest__init := f10,
    fd_NotAtRest__init := _,
    F_NotAtRest__init := fun_mk (st := s_NotAtRest__init) l10 c10 k10,
    b_NotAtRest__init := (fun_mk (st := s_NotAtRest__init) l10 c10 k10).binds (ps := ["self", "place"]) fun _ _ _ _ _ _ us hl => match us, hl with | [_, _], _ => rfl,
    a_Untold__init := f11,
    fd_Untold__init := _,
    F_Untold__init := fun_mk (st := s_Untold__init) l11 c11 k11,
    b_Untold__init := (fun_mk (st := s_Untold__init) l11 c11 k11).binds (ps := ["self", "place"]) fun _ _ _ _ _ _ us hl => match us, hl with | [_, _], _ => rfl,
    a_NoLetter__init := f12,
    fd_NoLetter__init := _,
    F_NoLetter__init := fun_mk (st := s_NoLetter__init) l12 c12 k12,
    b_NoLetter__init := (fun_mk (st := s_NoLetter__init) l12 c12 k12).binds (ps := ["self", "at"]) fun _ _ _ _ _ _ us hl => match us, hl with | [_, _], _ => rfl,
    a_BadText__init := f13,
    fd_BadText__init := _,
    F_BadText__init := fun_mk (st := s_BadText__init) l13 c13 k13,
    b_BadText__init := (fun_mk (st := s_BadText__init) l13 c13 k13).binds (ps := ["self", "line"]) fun _ _ _ _ _ _ us hl => match us, hl with | [_, _], _ => rfl,
    a_UntrueNet__init := f14,
    fd_UntrueNet__init := _,
    F_UntrueNet__init := fun_mk (st := s_UntrueNet__init) l14 c14 k14,
    b_UntrueNet__init := (fun_mk (st := s_UntrueNet__init) l14 c14 k14).binds (ps := ["self", "saying"]) fun _ _ _ _ _ _ us hl => match us, hl with | [_, _], _ => rfl,
    a_OpenWalk__init := f15,
    fd_OpenWalk__init := _,
    F_OpenWalk__init := fun_mk (st := s_OpenWalk__init) l15 c15 k15,
    b_OpenWalk__init := (fun_mk (st := s_OpenWalk__init) l15 c15 k15).binds (ps := ["self", "first", "last"]) fun _ _ _ _ _ _ us hl => match us, hl with | [_, _, _], _ => rfl,
    a_WalksApart__init := f16,
    fd_WalksApart__init := _,
    F_WalksApart__init := fun_mk (st := s_WalksApart__init) l16 c16 k16,
    b_WalksApart__init := (fun_mk (st := s_WalksApart__init) l16 c16 k16).binds (ps := ["self", "end", "start"]) fun _ _ _ _ _ _ us hl => match us, hl with | [_, _, _], _ => rfl,
    a_NoOrder__init := f17,
    fd_NoOrder__init := _,
    F_NoOrder__init := fun_mk (st := s_NoOrder__init) l17 c17 k17,
    b_NoOrder__init := (fun_mk (st := s_NoOrder__init) l17 c17 k17).binds (ps := ["self", "turns", "index"]) fun _ _ _ _ _ _ us hl => match us, hl with | [_, _, _], _ => rfl,
    a_BadDeed__init := f18,
    fd_BadDeed__init := _,
    F_BadDeed__init := fun_mk (st := s_BadDeed__init) l18 c18 k18,
    b_BadDeed__init := (fun_mk (st := s_BadDeed__init) l18 c18 k18).binds (ps := ["self", "deed"]) fun _ _ _ _ _ _ us hl => match us, hl with | [_, _], _ => rfl,
    a__law_number := f19,
    fd__law_number := _,
    F__law_number := fun_mk (st := s__law_number) l19 c19 k19,
    b__law_number := (fun_mk (st := s__law_number) l19 c19 k19).binds (ps := ["tape"]) fun _ _ _ _ _ _ us hl => match us, hl with | [_], _ => rfl,
    g__law_number := PySem.W.mg_of X G a19,
    a__law_kinds := f20,
    fd__law_kinds := _,
    F__law_kinds := fun_mk (st := s__law_kinds) l20 c20 k20,
    b__law_kinds := (fun_mk (st := s__law_kinds) l20 c20 k20).binds (ps := ["e"]) fun _ _ _ _ _ _ us hl => match us, hl with | [_], _ => rfl,
    g__law_kinds := PySem.W.mg_of X G a20,
    a__law_of_places := f21,
    fd__law_of_places := _,
    F__law_of_places := fun_mk (st := s__law_of_places) l21 c21 k21,
    b__law_of_places := (fun_mk (st := s__law_of_places) l21 c21 k21).binds (ps := ["place"]) fun _ _ _ _ _ _ us hl => match us, hl with | [_], _ => rfl,
    g__law_of_places := PySem.W.mg_of X G a21,
    a__law_others := f22,
    fd__law_others := _,
    F__law_others := fun_mk (st := s__law_others) l22 c22 k22,
    b__law_others := (fun_mk (st := s__law_others) l22 c22 k22).binds (ps := ["numbers", "saying", "deed"]) fun _ _ _ _ _ _ us hl => match us, hl with | [_, _, _], _ => rfl,
    g__law_others := PySem.W.mg_of X G a22,
    a__law_kept := f23,
    fd__law_kept := _,
    F__law_kept := fun_mk (st := s__law_kept) l23 c23 k23,
    b__law_kept := (fun_mk (st := s__law_kept) l23 c23 k23).binds (ps := ["errors", "place", "numbers", "saying", "deed"]) fun _ _ _ _ _ _ us hl => match us, hl with | [_, _, _, _, _], _ => rfl,
    g__law_kept := PySem.W.mg_of X G a23,
    a_law := fa,
    fd_law := _,
    F_law := fun_mk (st := s_law) l24 c24 k24,
    b_law := (fun_mk (st := s_law) l24 c24 k24).binds (ps := ["script"]) fun _ _ _ _ _ _ us hl => match us, hl with | [_], _ => rfl,
    g_law := PySem.W.mg_of X G a24,
    C_OffCircle := E0,
    mc_OffCircle := PySem.W.mg_of X G aE0,
    C_NoHouse := E1,
    mc_NoHouse := PySem.W.mg_of X G aE1,
    C_TakenPlace := E2,
    mc_TakenPlace := PySem.W.mg_of X G aE2,
    C_StillNamed := E3,
    mc_StillNamed := PySem.W.mg_of X G aE3,
    C_NotBetween := E4,
    mc_NotBetween := PySem.W.mg_of X G aE4,
    C_SamePiece := E5,
    mc_SamePiece := PySem.W.mg_of X G aE5,
    C_NotQuiet := E6,
    mc_NotQuiet := PySem.W.mg_of X G aE6,
    C_NotAtRest := E7,
    mc_NotAtRest := PySem.W.mg_of X G aE7,
    C_Untold := E8,
    mc_Untold := PySem.W.mg_of X G aE8,
    C_NoLetter := E9,
    mc_NoLetter := PySem.W.mg_of X G aE9,
    C_BadText := E10,
    mc_BadText := PySem.W.mg_of X G aE10,
    C_UntrueNet := E11,
    mc_UntrueNet := PySem.W.mg_of X G aE11,
    C_OpenWalk := E12,
    mc_OpenWalk := PySem.W.mg_of X G aE12,
    C_WalksApart := E13,
    mc_WalksApart := PySem.W.mg_of X G aE13,
    C_NoOrder := E14,
    mc_NoOrder := PySem.W.mg_of X G aE14,
    C_BadDeed := E15,
    mc_BadDeed := PySem.W.mg_of X G aE15,
    C_NothingToUndo := E16,
    mc_NothingToUndo := PySem.W.mg_of X G aE16,
    C_NothingToRedo := E17,
    mc_NothingToRedo := PySem.W.mg_of X G aE17,
    C_RingError := E18,
    mc_RingError := PySem.W.mg_of X G aE18,
    q_NothingToUndo := ey16,
    kp_NothingToUndo := ek16,
    er_NothingToUndo := errC_mk ec16 eg16 eh16 eb16 ed16 ee16 ecn ect em16,
    ki_NothingToUndo_ValueError := eqV16,
    ki_NothingToUndo_OffCircle := eq16_0,
    ki_NothingToUndo_NoHouse := eq16_1,
    ki_NothingToUndo_TakenPlace := eq16_2,
    ki_NothingToUndo_StillNamed := eq16_3,
    ki_NothingToUndo_NotBetween := eq16_4,
    ki_NothingToUndo_SamePiece := eq16_5,
    ki_NothingToUndo_NotQuiet := eq16_6,
    ki_NothingToUndo_NotAtRest := eq16_7,
    ki_NothingToUndo_Untold := eq16_8,
    ki_NothingToUndo_NoLetter := eq16_9,
    ki_NothingToUndo_BadText := eq16_10,
    ki_NothingToUndo_UntrueNet := eq16_11,
    ki_NothingToUndo_OpenWalk := eq16_12,
    ki_NothingToUndo_WalksApart := eq16_13,
    ki_NothingToUndo_NoOrder := eq16_14,
    ki_NothingToUndo_BadDeed := eq16_15,
    ki_NothingToUndo_NothingToUndo := eq16_16,
    ki_NothingToUndo_NothingToRedo := eq16_17,
    ki_NothingToUndo_RingError := eq16_18,
    q_NothingToRedo := ey17,
    kp_NothingToRedo := ek17,
    er_NothingToRedo := errC_mk ec17 eg17 eh17 eb17 ed17 ee17 ecn ect em17,
    ki_NothingToRedo_ValueError := eqV17,
    ki_NothingToRedo_OffCircle := eq17_0,
    ki_NothingToRedo_NoHouse := eq17_1,
    ki_NothingToRedo_TakenPlace := eq17_2,
    ki_NothingToRedo_StillNamed := eq17_3,
    ki_NothingToRedo_NotBetween := eq17_4,
    ki_NothingToRedo_SamePiece := eq17_5,
    ki_NothingToRedo_NotQuiet := eq17_6,
    ki_NothingToRedo_NotAtRest := eq17_7,
    ki_NothingToRedo_Untold := eq17_8,
    ki_NothingToRedo_NoLetter := eq17_9,
    ki_NothingToRedo_BadText := eq17_10,
    ki_NothingToRedo_UntrueNet := eq17_11,
    ki_NothingToRedo_OpenWalk := eq17_12,
    ki_NothingToRedo_WalksApart := eq17_13,
    ki_NothingToRedo_NoOrder := eq17_14,
    ki_NothingToRedo_BadDeed := eq17_15,
    ki_NothingToRedo_NothingToUndo := eq17_16,
    ki_NothingToRedo_NothingToRedo := eq17_17,
    ki_NothingToRedo_RingError := eq17_18,
    ox_OffCircle := ⟨⟨nm0, q0, N0, bs0, _, sn0, sub0, ab0, col0, dd0, m00, m10, m20, m30, m50, eL0, by first | rfl | decide +kernel⟩, es0, eb0, et0, ek0⟩,
    er_OffCircle := errC_mk ec0 eg0 eh0 eb0 ed0 ee0 ecn ect em0,
    mi_OffCircle := ei0,
    ti_OffCircle := ej0,
    na_OffCircle_place := en0_0,
    ki_OffCircle_OffCircle := eq0_0,
    ki_OffCircle_NoHouse := eq0_1,
    ki_OffCircle_TakenPlace := eq0_2,
    ki_OffCircle_StillNamed := eq0_3,
    ki_OffCircle_NotBetween := eq0_4,
    ki_OffCircle_SamePiece := eq0_5,
    ki_OffCircle_NotQuiet := eq0_6,
    ki_OffCircle_NotAtRest := eq0_7,
    ki_OffCircle_Untold := eq0_8,
    ki_OffCircle_NoLetter := eq0_9,
    ki_OffCircle_BadText := eq0_10,
    ki_OffCircle_UntrueNet := eq0_11,
    ki_OffCircle_OpenWalk := eq0_12,
    ki_OffCircle_WalksApart := eq0_13,
    ki_OffCircle_NoOrder := eq0_14,
    ki_OffCircle_BadDeed := eq0_15,
    ki_OffCircle_NothingToUndo := eq0_16,
    ki_OffCircle_NothingToRedo := eq0_17,
    ki_OffCircle_RingError := eq0_18,
    ki_OffCircle_ValueError := eqV0,
    ox_NoHouse := ⟨⟨nm1, q1, N1, bs1, _, sn1, sub1, ab1, col1, dd1, m01, m11, m21, m31, m51, eL1, by first | rfl | decide +kernel⟩, es1, eb1, et1, ek1⟩,
    er_NoHouse := errC_mk ec1 eg1 eh1 eb1 ed1 ee1 ecn ect em1,
    mi_NoHouse := ei1,
    ti_NoHouse := ej1,
    na_NoHouse_place := en1_0,
    ki_NoHouse_OffCircle := eq1_0,
    ki_NoHouse_NoHouse := eq1_1,
    ki_NoHouse_TakenPlace := eq1_2,
    ki_NoHouse_StillNamed := eq1_3,
    ki_NoHouse_NotBetween := eq1_4,
    ki_NoHouse_SamePiece := eq1_5,
    ki_NoHouse_NotQuiet := eq1_6,
    ki_NoHouse_NotAtRest := eq1_7,
    ki_NoHouse_Untold := eq1_8,
    ki_NoHouse_NoLetter := eq1_9,
    ki_NoHouse_BadText := eq1_10,
    ki_NoHouse_UntrueNet := eq1_11,
    ki_NoHouse_OpenWalk := eq1_12,
    ki_NoHouse_WalksApart := eq1_13,
    ki_NoHouse_NoOrder := eq1_14,
    ki_NoHouse_BadDeed := eq1_15,
    ki_NoHouse_NothingToUndo := eq1_16,
    ki_NoHouse_NothingToRedo := eq1_17,
    ki_NoHouse_RingError := eq1_18,
    ki_NoHouse_ValueError := eqV1,
    ox_TakenPlace := ⟨⟨nm2, q2, N2, bs2, _, sn2, sub2, ab2, col2, dd2, m02, m12, m22, m32, m52, eL2, by first | rfl | decide +kernel⟩, es2, eb2, et2, ek2⟩,
    er_TakenPlace := errC_mk ec2 eg2 eh2 eb2 ed2 ee2 ecn ect em2,
    mi_TakenPlace := ei2,
    ti_TakenPlace := ej2,
    na_TakenPlace_place := en2_0,
    ki_TakenPlace_OffCircle := eq2_0,
    ki_TakenPlace_NoHouse := eq2_1,
    ki_TakenPlace_TakenPlace := eq2_2,
    ki_TakenPlace_StillNamed := eq2_3,
    ki_TakenPlace_NotBetween := eq2_4,
    ki_TakenPlace_SamePiece := eq2_5,
    ki_TakenPlace_NotQuiet := eq2_6,
    ki_TakenPlace_NotAtRest := eq2_7,
    ki_TakenPlace_Untold := eq2_8,
    ki_TakenPlace_NoLetter := eq2_9,
    ki_TakenPlace_BadText := eq2_10,
    ki_TakenPlace_UntrueNet := eq2_11,
    ki_TakenPlace_OpenWalk := eq2_12,
    ki_TakenPlace_WalksApart := eq2_13,
    ki_TakenPlace_NoOrder := eq2_14,
    ki_TakenPlace_BadDeed := eq2_15,
    ki_TakenPlace_NothingToUndo := eq2_16,
    ki_TakenPlace_NothingToRedo := eq2_17,
    ki_TakenPlace_RingError := eq2_18,
    ki_TakenPlace_ValueError := eqV2,
    ox_StillNamed := ⟨⟨nm3, q3, N3, bs3, _, sn3, sub3, ab3, col3, dd3, m03, m13, m23, m33, m53, eL3, by first | rfl | decide +kernel⟩, es3, eb3, et3, ek3⟩,
    er_StillNamed := errC_mk ec3 eg3 eh3 eb3 ed3 ee3 ecn ect em3,
    mi_StillNamed := ei3,
    ti_StillNamed := ej3,
    na_StillNamed_place := en3_0,
    ki_StillNamed_OffCircle := eq3_0,
    ki_StillNamed_NoHouse := eq3_1,
    ki_StillNamed_TakenPlace := eq3_2,
    ki_StillNamed_StillNamed := eq3_3,
    ki_StillNamed_NotBetween := eq3_4,
    ki_StillNamed_SamePiece := eq3_5,
    ki_StillNamed_NotQuiet := eq3_6,
    ki_StillNamed_NotAtRest := eq3_7,
    ki_StillNamed_Untold := eq3_8,
    ki_StillNamed_NoLetter := eq3_9,
    ki_StillNamed_BadText := eq3_10,
    ki_StillNamed_UntrueNet := eq3_11,
    ki_StillNamed_OpenWalk := eq3_12,
    ki_StillNamed_WalksApart := eq3_13,
    ki_StillNamed_NoOrder := eq3_14,
    ki_StillNamed_BadDeed := eq3_15,
    ki_StillNamed_NothingToUndo := eq3_16,
    ki_StillNamed_NothingToRedo := eq3_17,
    ki_StillNamed_RingError := eq3_18,
    ki_StillNamed_ValueError := eqV3,
    ox_NotBetween := ⟨⟨nm4, q4, N4, bs4, _, sn4, sub4, ab4, col4, dd4, m04, m14, m24, m34, m54, eL4, by first | rfl | decide +kernel⟩, es4, eb4, et4, ek4⟩,
    er_NotBetween := errC_mk ec4 eg4 eh4 eb4 ed4 ee4 ecn ect em4,
    mi_NotBetween := ei4,
    ti_NotBetween := ej4,
    na_NotBetween_place := en4_0,
    ki_NotBetween_OffCircle := eq4_0,
    ki_NotBetween_NoHouse := eq4_1,
    ki_NotBetween_TakenPlace := eq4_2,
    ki_NotBetween_StillNamed := eq4_3,
    ki_NotBetween_NotBetween := eq4_4,
    ki_NotBetween_SamePiece := eq4_5,
    ki_NotBetween_NotQuiet := eq4_6,
    ki_NotBetween_NotAtRest := eq4_7,
    ki_NotBetween_Untold := eq4_8,
    ki_NotBetween_NoLetter := eq4_9,
    ki_NotBetween_BadText := eq4_10,
    ki_NotBetween_UntrueNet := eq4_11,
    ki_NotBetween_OpenWalk := eq4_12,
    ki_NotBetween_WalksApart := eq4_13,
    ki_NotBetween_NoOrder := eq4_14,
    ki_NotBetween_BadDeed := eq4_15,
    ki_NotBetween_NothingToUndo := eq4_16,
    ki_NotBetween_NothingToRedo := eq4_17,
    ki_NotBetween_RingError := eq4_18,
    ki_NotBetween_ValueError := eqV4,
    ox_SamePiece := ⟨⟨nm5, q5, N5, bs5, _, sn5, sub5, ab5, col5, dd5, m05, m15, m25, m35, m55, eL5, by first | rfl | decide +kernel⟩, es5, eb5, et5, ek5⟩,
    er_SamePiece := errC_mk ec5 eg5 eh5 eb5 ed5 ee5 ecn ect em5,
    mi_SamePiece := ei5,
    ti_SamePiece := ej5,
    na_SamePiece_place := en5_0,
    ki_SamePiece_OffCircle := eq5_0,
    ki_SamePiece_NoHouse := eq5_1,
    ki_SamePiece_TakenPlace := eq5_2,
    ki_SamePiece_StillNamed := eq5_3,
    ki_SamePiece_NotBetween := eq5_4,
    ki_SamePiece_SamePiece := eq5_5,
    ki_SamePiece_NotQuiet := eq5_6,
    ki_SamePiece_NotAtRest := eq5_7,
    ki_SamePiece_Untold := eq5_8,
    ki_SamePiece_NoLetter := eq5_9,
    ki_SamePiece_BadText := eq5_10,
    ki_SamePiece_UntrueNet := eq5_11,
    ki_SamePiece_OpenWalk := eq5_12,
    ki_SamePiece_WalksApart := eq5_13,
    ki_SamePiece_NoOrder := eq5_14,
    ki_SamePiece_BadDeed := eq5_15,
    ki_SamePiece_NothingToUndo := eq5_16,
    ki_SamePiece_NothingToRedo := eq5_17,
    ki_SamePiece_RingError := eq5_18,
    ki_SamePiece_ValueError := eqV5,
    ox_NotQuiet := ⟨⟨nm6, q6, N6, bs6, _, sn6, sub6, ab6, col6, dd6, m06, m16, m26, m36, m56, eL6, by first | rfl | decide +kernel⟩, es6, eb6, et6, ek6⟩,
    er_NotQuiet := errC_mk ec6 eg6 eh6 eb6 ed6 ee6 ecn ect em6,
    mi_NotQuiet := ei6,
    ti_NotQuiet := ej6,
    na_NotQuiet_place := en6_0,
    ki_NotQuiet_OffCircle := eq6_0,
    ki_NotQuiet_NoHouse := eq6_1,
    ki_NotQuiet_TakenPlace := eq6_2,
    ki_NotQuiet_StillNamed := eq6_3,
    ki_NotQuiet_NotBetween := eq6_4,
    ki_NotQuiet_SamePiece := eq6_5,
    ki_NotQuiet_NotQuiet := eq6_6,
    ki_NotQuiet_NotAtRest := eq6_7,
    ki_NotQuiet_Untold := eq6_8,
    ki_NotQuiet_NoLetter := eq6_9,
    ki_NotQuiet_BadText := eq6_10,
    ki_NotQuiet_UntrueNet := eq6_11,
    ki_NotQuiet_OpenWalk := eq6_12,
    ki_NotQuiet_WalksApart := eq6_13,
    ki_NotQuiet_NoOrder := eq6_14,
    ki_NotQuiet_BadDeed := eq6_15,
    ki_NotQuiet_NothingToUndo := eq6_16,
    ki_NotQuiet_NothingToRedo := eq6_17,
    ki_NotQuiet_RingError := eq6_18,
    ki_NotQuiet_ValueError := eqV6,
    ox_NotAtRest := ⟨⟨nm7, q7, N7, bs7, _, sn7, sub7, ab7, col7, dd7, m07, m17, m27, m37, m57, eL7, by first | rfl | decide +kernel⟩, es7, eb7, et7, ek7⟩,
    er_NotAtRest := errC_mk ec7 eg7 eh7 eb7 ed7 ee7 ecn ect em7,
    mi_NotAtRest := ei7,
    ti_NotAtRest := ej7,
    na_NotAtRest_place := en7_0,
    ki_NotAtRest_OffCircle := eq7_0,
    ki_NotAtRest_NoHouse := eq7_1,
    ki_NotAtRest_TakenPlace := eq7_2,
    ki_NotAtRest_StillNamed := eq7_3,
    ki_NotAtRest_NotBetween := eq7_4,
    ki_NotAtRest_SamePiece := eq7_5,
    ki_NotAtRest_NotQuiet := eq7_6,
    ki_NotAtRest_NotAtRest := eq7_7,
    ki_NotAtRest_Untold := eq7_8,
    ki_NotAtRest_NoLetter := eq7_9,
    ki_NotAtRest_BadText := eq7_10,
    ki_NotAtRest_UntrueNet := eq7_11,
    ki_NotAtRest_OpenWalk := eq7_12,
    ki_NotAtRest_WalksApart := eq7_13,
    ki_NotAtRest_NoOrder := eq7_14,
    ki_NotAtRest_BadDeed := eq7_15,
    ki_NotAtRest_NothingToUndo := eq7_16,
    ki_NotAtRest_NothingToRedo := eq7_17,
    ki_NotAtRest_RingError := eq7_18,
    ki_NotAtRest_ValueError := eqV7,
    ox_Untold := ⟨⟨nm8, q8, N8, bs8, _, sn8, sub8, ab8, col8, dd8, m08, m18, m28, m38, m58, eL8, by first | rfl | decide +kernel⟩, es8, eb8, et8, ek8⟩,
    er_Untold := errC_mk ec8 eg8 eh8 eb8 ed8 ee8 ecn ect em8,
    mi_Untold := ei8,
    ti_Untold := ej8,
    na_Untold_place := en8_0,
    ki_Untold_OffCircle := eq8_0,
    ki_Untold_NoHouse := eq8_1,
    ki_Untold_TakenPlace := eq8_2,
    ki_Untold_StillNamed := eq8_3,
    ki_Untold_NotBetween := eq8_4,
    ki_Untold_SamePiece := eq8_5,
    ki_Untold_NotQuiet := eq8_6,
    ki_Untold_NotAtRest := eq8_7,
    ki_Untold_Untold := eq8_8,
    ki_Untold_NoLetter := eq8_9,
    ki_Untold_BadText := eq8_10,
    ki_Untold_UntrueNet := eq8_11,
    ki_Untold_OpenWalk := eq8_12,
    ki_Untold_WalksApart := eq8_13,
    ki_Untold_NoOrder := eq8_14,
    ki_Untold_BadDeed := eq8_15,
    ki_Untold_NothingToUndo := eq8_16,
    ki_Untold_NothingToRedo := eq8_17,
    ki_Untold_RingError := eq8_18,
    ki_Untold_ValueError := eqV8,
    ox_NoLetter := ⟨⟨nm9, q9, N9, bs9, _, sn9, sub9, ab9, col9, dd9, m09, m19, m29, m39, m59, eL9, by first | rfl | decide +kernel⟩, es9, eb9, et9, ek9⟩,
    er_NoLetter := errC_mk ec9 eg9 eh9 eb9 ed9 ee9 ecn ect em9,
    mi_NoLetter := ei9,
    ti_NoLetter := ej9,
    na_NoLetter_at := en9_0,
    ki_NoLetter_OffCircle := eq9_0,
    ki_NoLetter_NoHouse := eq9_1,
    ki_NoLetter_TakenPlace := eq9_2,
    ki_NoLetter_StillNamed := eq9_3,
    ki_NoLetter_NotBetween := eq9_4,
    ki_NoLetter_SamePiece := eq9_5,
    ki_NoLetter_NotQuiet := eq9_6,
    ki_NoLetter_NotAtRest := eq9_7,
    ki_NoLetter_Untold := eq9_8,
    ki_NoLetter_NoLetter := eq9_9,
    ki_NoLetter_BadText := eq9_10,
    ki_NoLetter_UntrueNet := eq9_11,
    ki_NoLetter_OpenWalk := eq9_12,
    ki_NoLetter_WalksApart := eq9_13,
    ki_NoLetter_NoOrder := eq9_14,
    ki_NoLetter_BadDeed := eq9_15,
    ki_NoLetter_NothingToUndo := eq9_16,
    ki_NoLetter_NothingToRedo := eq9_17,
    ki_NoLetter_RingError := eq9_18,
    ki_NoLetter_ValueError := eqV9,
    ox_BadText := ⟨⟨nm10, q10, N10, bs10, _, sn10, sub10, ab10, col10, dd10, m010, m110, m210, m310, m510, eL10, by first | rfl | decide +kernel⟩, es10, eb10, et10, ek10⟩,
    er_BadText := errC_mk ec10 eg10 eh10 eb10 ed10 ee10 ecn ect em10,
    mi_BadText := ei10,
    ti_BadText := ej10,
    na_BadText_line := en10_0,
    ki_BadText_OffCircle := eq10_0,
    ki_BadText_NoHouse := eq10_1,
    ki_BadText_TakenPlace := eq10_2,
    ki_BadText_StillNamed := eq10_3,
    ki_BadText_NotBetween := eq10_4,
    ki_BadText_SamePiece := eq10_5,
    ki_BadText_NotQuiet := eq10_6,
    ki_BadText_NotAtRest := eq10_7,
    ki_BadText_Untold := eq10_8,
    ki_BadText_NoLetter := eq10_9,
    ki_BadText_BadText := eq10_10,
    ki_BadText_UntrueNet := eq10_11,
    ki_BadText_OpenWalk := eq10_12,
    ki_BadText_WalksApart := eq10_13,
    ki_BadText_NoOrder := eq10_14,
    ki_BadText_BadDeed := eq10_15,
    ki_BadText_NothingToUndo := eq10_16,
    ki_BadText_NothingToRedo := eq10_17,
    ki_BadText_RingError := eq10_18,
    ki_BadText_ValueError := eqV10,
    ox_UntrueNet := ⟨⟨nm11, q11, N11, bs11, _, sn11, sub11, ab11, col11, dd11, m011, m111, m211, m311, m511, eL11, by first | rfl | decide +kernel⟩, es11, eb11, et11, ek11⟩,
    er_UntrueNet := errC_mk ec11 eg11 eh11 eb11 ed11 ee11 ecn ect em11,
    mi_UntrueNet := ei11,
    ti_UntrueNet := ej11,
    na_UntrueNet_saying := en11_0,
    ki_UntrueNet_OffCircle := eq11_0,
    ki_UntrueNet_NoHouse := eq11_1,
    ki_UntrueNet_TakenPlace := eq11_2,
    ki_UntrueNet_StillNamed := eq11_3,
    ki_UntrueNet_NotBetween := eq11_4,
    ki_UntrueNet_SamePiece := eq11_5,
    ki_UntrueNet_NotQuiet := eq11_6,
    ki_UntrueNet_NotAtRest := eq11_7,
    ki_UntrueNet_Untold := eq11_8,
    ki_UntrueNet_NoLetter := eq11_9,
    ki_UntrueNet_BadText := eq11_10,
    ki_UntrueNet_UntrueNet := eq11_11,
    ki_UntrueNet_OpenWalk := eq11_12,
    ki_UntrueNet_WalksApart := eq11_13,
    ki_UntrueNet_NoOrder := eq11_14,
    ki_UntrueNet_BadDeed := eq11_15,
    ki_UntrueNet_NothingToUndo := eq11_16,
    ki_UntrueNet_NothingToRedo := eq11_17,
    ki_UntrueNet_RingError := eq11_18,
    ki_UntrueNet_ValueError := eqV11,
    ox_OpenWalk := ⟨⟨nm12, q12, N12, bs12, _, sn12, sub12, ab12, col12, dd12, m012, m112, m212, m312, m512, eL12, by first | rfl | decide +kernel⟩, es12, eb12, et12, ek12⟩,
    er_OpenWalk := errC_mk ec12 eg12 eh12 eb12 ed12 ee12 ecn ect em12,
    mi_OpenWalk := ei12,
    ti_OpenWalk := ej12,
    na_OpenWalk_first := en12_0,
    na_OpenWalk_last := en12_1,
    ki_OpenWalk_OffCircle := eq12_0,
    ki_OpenWalk_NoHouse := eq12_1,
    ki_OpenWalk_TakenPlace := eq12_2,
    ki_OpenWalk_StillNamed := eq12_3,
    ki_OpenWalk_NotBetween := eq12_4,
    ki_OpenWalk_SamePiece := eq12_5,
    ki_OpenWalk_NotQuiet := eq12_6,
    ki_OpenWalk_NotAtRest := eq12_7,
    ki_OpenWalk_Untold := eq12_8,
    ki_OpenWalk_NoLetter := eq12_9,
    ki_OpenWalk_BadText := eq12_10,
    ki_OpenWalk_UntrueNet := eq12_11,
    ki_OpenWalk_OpenWalk := eq12_12,
    ki_OpenWalk_WalksApart := eq12_13,
    ki_OpenWalk_NoOrder := eq12_14,
    ki_OpenWalk_BadDeed := eq12_15,
    ki_OpenWalk_NothingToUndo := eq12_16,
    ki_OpenWalk_NothingToRedo := eq12_17,
    ki_OpenWalk_RingError := eq12_18,
    ki_OpenWalk_ValueError := eqV12,
    ox_WalksApart := ⟨⟨nm13, q13, N13, bs13, _, sn13, sub13, ab13, col13, dd13, m013, m113, m213, m313, m513, eL13, by first | rfl | decide +kernel⟩, es13, eb13, et13, ek13⟩,
    er_WalksApart := errC_mk ec13 eg13 eh13 eb13 ed13 ee13 ecn ect em13,
    mi_WalksApart := ei13,
    ti_WalksApart := ej13,
    na_WalksApart_end := en13_0,
    na_WalksApart_start := en13_1,
    ki_WalksApart_OffCircle := eq13_0,
    ki_WalksApart_NoHouse := eq13_1,
    ki_WalksApart_TakenPlace := eq13_2,
    ki_WalksApart_StillNamed := eq13_3,
    ki_WalksApart_NotBetween := eq13_4,
    ki_WalksApart_SamePiece := eq13_5,
    ki_WalksApart_NotQuiet := eq13_6,
    ki_WalksApart_NotAtRest := eq13_7,
    ki_WalksApart_Untold := eq13_8,
    ki_WalksApart_NoLetter := eq13_9,
    ki_WalksApart_BadText := eq13_10,
    ki_WalksApart_UntrueNet := eq13_11,
    ki_WalksApart_OpenWalk := eq13_12,
    ki_WalksApart_WalksApart := eq13_13,
    ki_WalksApart_NoOrder := eq13_14,
    ki_WalksApart_BadDeed := eq13_15,
    ki_WalksApart_NothingToUndo := eq13_16,
    ki_WalksApart_NothingToRedo := eq13_17,
    ki_WalksApart_RingError := eq13_18,
    ki_WalksApart_ValueError := eqV13,
    ox_NoOrder := ⟨⟨nm14, q14, N14, bs14, _, sn14, sub14, ab14, col14, dd14, m014, m114, m214, m314, m514, eL14, by first | rfl | decide +kernel⟩, es14, eb14, et14, ek14⟩,
    er_NoOrder := errC_mk ec14 eg14 eh14 eb14 ed14 ee14 ecn ect em14,
    mi_NoOrder := ei14,
    ti_NoOrder := ej14,
    na_NoOrder_turns := en14_0,
    na_NoOrder_index := en14_1,
    ki_NoOrder_OffCircle := eq14_0,
    ki_NoOrder_NoHouse := eq14_1,
    ki_NoOrder_TakenPlace := eq14_2,
    ki_NoOrder_StillNamed := eq14_3,
    ki_NoOrder_NotBetween := eq14_4,
    ki_NoOrder_SamePiece := eq14_5,
    ki_NoOrder_NotQuiet := eq14_6,
    ki_NoOrder_NotAtRest := eq14_7,
    ki_NoOrder_Untold := eq14_8,
    ki_NoOrder_NoLetter := eq14_9,
    ki_NoOrder_BadText := eq14_10,
    ki_NoOrder_UntrueNet := eq14_11,
    ki_NoOrder_OpenWalk := eq14_12,
    ki_NoOrder_WalksApart := eq14_13,
    ki_NoOrder_NoOrder := eq14_14,
    ki_NoOrder_BadDeed := eq14_15,
    ki_NoOrder_NothingToUndo := eq14_16,
    ki_NoOrder_NothingToRedo := eq14_17,
    ki_NoOrder_RingError := eq14_18,
    ki_NoOrder_ValueError := eqV14,
    ox_BadDeed := ⟨⟨nm15, q15, N15, bs15, _, sn15, sub15, ab15, col15, dd15, m015, m115, m215, m315, m515, eL15, by first | rfl | decide +kernel⟩, es15, eb15, et15, ek15⟩,
    er_BadDeed := errC_mk ec15 eg15 eh15 eb15 ed15 ee15 ecn ect em15,
    mi_BadDeed := ei15,
    ti_BadDeed := ej15,
    na_BadDeed_deed := en15_0,
    ki_BadDeed_OffCircle := eq15_0,
    ki_BadDeed_NoHouse := eq15_1,
    ki_BadDeed_TakenPlace := eq15_2,
    ki_BadDeed_StillNamed := eq15_3,
    ki_BadDeed_NotBetween := eq15_4,
    ki_BadDeed_SamePiece := eq15_5,
    ki_BadDeed_NotQuiet := eq15_6,
    ki_BadDeed_NotAtRest := eq15_7,
    ki_BadDeed_Untold := eq15_8,
    ki_BadDeed_NoLetter := eq15_9,
    ki_BadDeed_BadText := eq15_10,
    ki_BadDeed_UntrueNet := eq15_11,
    ki_BadDeed_OpenWalk := eq15_12,
    ki_BadDeed_WalksApart := eq15_13,
    ki_BadDeed_NoOrder := eq15_14,
    ki_BadDeed_BadDeed := eq15_15,
    ki_BadDeed_NothingToUndo := eq15_16,
    ki_BadDeed_NothingToRedo := eq15_17,
    ki_BadDeed_RingError := eq15_18,
    ki_BadDeed_ValueError := eqV15 }
  exact ⟨T.fd_law, fun s v => .of_eq rfl, fun base _ _ => T.ok_law⟩
end Z
open PySem PySem.W PyProof.Rows
set_option maxHeartbeats 0 in
theorem PySem.Challenge.cw_ringlaps_k22_errors_stand_apart_holds : PySem.Challenge.rw_ringlaps_k22_errors_stand_apart.Holds := by
  w_on; o_law; k_head; (case hw => w_witness2)
  k_fill
  refine L2.walk_of (l := PySem.Challenge.rw_ringlaps_k22_errors_stand_apart) (n := 63) (k := 5) (x := "script") (CX := fun _ => L2.CX0) (sp := fun w => Z.sp_law _) rfl (by decide) rfl ⟨rfl, by decide, by decide⟩ (fun w h Y => PySem.W.kIn_of Y) ?F (fun _ _ a ns hl _ hS => ⟨a, ns, rfl, hS, hl, fun _ => rfl⟩) (fun _ _ _ _ _ h => h)
  case F =>
    intro w mg fa h KX G hmg
    refine' Z.all_mk (l := PySem.Challenge.rw_ringlaps_k22_errors_stand_apart) KX G hmg ?a0 ?l0 ?c0 ?k0 ?a1 ?l1 ?c1 ?k1 ?a2 ?l2 ?c2 ?k2 ?l3 ?c3 ?k3 ?l4 ?c4 ?k4 ?l5 ?c5 ?k5 ?l6 ?c6 ?k6 ?l7 ?c7 ?k7 ?l8 ?c8 ?k8 ?l9 ?c9 ?k9 ?l10 ?c10 ?k10 ?l11 ?c11 ?k11 ?l12 ?c12 ?k12 ?l13 ?c13 ?k13 ?l14 ?c14 ?k14 ?l15 ?c15 ?k15 ?l16 ?c16 ?k16 ?l17 ?c17 ?k17 ?l18 ?c18 ?k18 ?a19 ?l19 ?c19 ?k19 ?a20 ?l20 ?c20 ?k20 ?a21 ?l21 ?c21 ?k21 ?a22 ?l22 ?c22 ?k22 ?a23 ?l23 ?c23 ?k23 ?a24 ?l24 ?c24 ?k24 ?aE0 ?eb0 ?ec0 ?et0 ?aE1 ?eb1 ?ec1 ?et1 ?aE2 ?eb2 ?ec2 ?et2 ?aE3 ?eb3 ?ec3 ?et3 ?aE4 ?eb4 ?ec4 ?et4 ?aE5 ?eb5 ?ec5 ?et5 ?aE6 ?eb6 ?ec6 ?et6 ?aE7 ?eb7 ?ec7 ?et7 ?aE8 ?eb8 ?ec8 ?et8 ?aE9 ?eb9 ?ec9 ?et9 ?aE10 ?eb10 ?ec10 ?et10 ?aE11 ?eb11 ?ec11 ?et11 ?aE12 ?eb12 ?ec12 ?et12 ?aE13 ?eb13 ?ec13 ?et13 ?aE14 ?eb14 ?ec14 ?et14 ?aE15 ?eb15 ?ec15 ?et15 ?aE16 ?eb16 ?ec16 ?et16 ?aE17 ?eb17 ?ec17 ?et17 ?aE18 ?eb18 ?ec18 ?et18 ?ecn ?ect ?ek0 ?eg0 ?eh0 ?ed0 ?ee0 ?em0 ?eq0_0 ?eq0_1 ?eq0_2 ?eq0_3 ?eq0_4 ?eq0_5 ?eq0_6 ?eq0_7 ?eq0_8 ?eq0_9 ?eq0_10 ?eq0_11 ?eq0_12 ?eq0_13 ?eq0_14 ?eq0_15 ?eq0_16 ?eq0_17 ?eq0_18 ?eqV0 ?eL0 ?es0 ?ei0 ?ej0 ?en0_0 ?ek1 ?eg1 ?eh1 ?ed1 ?ee1 ?em1 ?eq1_0 ?eq1_1 ?eq1_2 ?eq1_3 ?eq1_4 ?eq1_5 ?eq1_6 ?eq1_7 ?eq1_8 ?eq1_9 ?eq1_10 ?eq1_11 ?eq1_12 ?eq1_13 ?eq1_14 ?eq1_15 ?eq1_16 ?eq1_17 ?eq1_18 ?eqV1 ?eL1 ?es1 ?ei1 ?ej1 ?en1_0 ?ek2 ?eg2 ?eh2 ?ed2 ?ee2 ?em2 ?eq2_0 ?eq2_1 ?eq2_2 ?eq2_3 ?eq2_4 ?eq2_5 ?eq2_6 ?eq2_7 ?eq2_8 ?eq2_9 ?eq2_10 ?eq2_11 ?eq2_12 ?eq2_13 ?eq2_14 ?eq2_15 ?eq2_16 ?eq2_17 ?eq2_18 ?eqV2 ?eL2 ?es2 ?ei2 ?ej2 ?en2_0 ?ek3 ?eg3 ?eh3 ?ed3 ?ee3 ?em3 ?eq3_0 ?eq3_1 ?eq3_2 ?eq3_3 ?eq3_4 ?eq3_5 ?eq3_6 ?eq3_7 ?eq3_8 ?eq3_9 ?eq3_10 ?eq3_11 ?eq3_12 ?eq3_13 ?eq3_14 ?eq3_15 ?eq3_16 ?eq3_17 ?eq3_18 ?eqV3 ?eL3 ?es3 ?ei3 ?ej3 ?en3_0 ?ek4 ?eg4 ?eh4 ?ed4 ?ee4 ?em4 ?eq4_0 ?eq4_1 ?eq4_2 ?eq4_3 ?eq4_4 ?eq4_5 ?eq4_6 ?eq4_7 ?eq4_8 ?eq4_9 ?eq4_10 ?eq4_11 ?eq4_12 ?eq4_13 ?eq4_14 ?eq4_15 ?eq4_16 ?eq4_17 ?eq4_18 ?eqV4 ?eL4 ?es4 ?ei4 ?ej4 ?en4_0 ?ek5 ?eg5 ?eh5 ?ed5 ?ee5 ?em5 ?eq5_0 ?eq5_1 ?eq5_2 ?eq5_3 ?eq5_4 ?eq5_5 ?eq5_6 ?eq5_7 ?eq5_8 ?eq5_9 ?eq5_10 ?eq5_11 ?eq5_12 ?eq5_13 ?eq5_14 ?eq5_15 ?eq5_16 ?eq5_17 ?eq5_18 ?eqV5 ?eL5 ?es5 ?ei5 ?ej5 ?en5_0 ?ek6 ?eg6 ?eh6 ?ed6 ?ee6 ?em6 ?eq6_0 ?eq6_1 ?eq6_2 ?eq6_3 ?eq6_4 ?eq6_5 ?eq6_6 ?eq6_7 ?eq6_8 ?eq6_9 ?eq6_10 ?eq6_11 ?eq6_12 ?eq6_13 ?eq6_14 ?eq6_15 ?eq6_16 ?eq6_17 ?eq6_18 ?eqV6 ?eL6 ?es6 ?ei6 ?ej6 ?en6_0 ?ek7 ?eg7 ?eh7 ?ed7 ?ee7 ?em7 ?eq7_0 ?eq7_1 ?eq7_2 ?eq7_3 ?eq7_4 ?eq7_5 ?eq7_6 ?eq7_7 ?eq7_8 ?eq7_9 ?eq7_10 ?eq7_11 ?eq7_12 ?eq7_13 ?eq7_14 ?eq7_15 ?eq7_16 ?eq7_17 ?eq7_18 ?eqV7 ?eL7 ?es7 ?ei7 ?ej7 ?en7_0 ?ek8 ?eg8 ?eh8 ?ed8 ?ee8 ?em8 ?eq8_0 ?eq8_1 ?eq8_2 ?eq8_3 ?eq8_4 ?eq8_5 ?eq8_6 ?eq8_7 ?eq8_8 ?eq8_9 ?eq8_10 ?eq8_11 ?eq8_12 ?eq8_13 ?eq8_14 ?eq8_15 ?eq8_16 ?eq8_17 ?eq8_18 ?eqV8 ?eL8 ?es8 ?ei8 ?ej8 ?en8_0 ?ek9 ?eg9 ?eh9 ?ed9 ?ee9 ?em9 ?eq9_0 ?eq9_1 ?eq9_2 ?eq9_3 ?eq9_4 ?eq9_5 ?eq9_6 ?eq9_7 ?eq9_8 ?eq9_9 ?eq9_10 ?eq9_11 ?eq9_12 ?eq9_13 ?eq9_14 ?eq9_15 ?eq9_16 ?eq9_17 ?eq9_18 ?eqV9 ?eL9 ?es9 ?ei9 ?ej9 ?en9_0 ?ek10 ?eg10 ?eh10 ?ed10 ?ee10 ?em10 ?eq10_0 ?eq10_1 ?eq10_2 ?eq10_3 ?eq10_4 ?eq10_5 ?eq10_6 ?eq10_7 ?eq10_8 ?eq10_9 ?eq10_10 ?eq10_11 ?eq10_12 ?eq10_13 ?eq10_14 ?eq10_15 ?eq10_16 ?eq10_17 ?eq10_18 ?eqV10 ?eL10 ?es10 ?ei10 ?ej10 ?en10_0 ?ek11 ?eg11 ?eh11 ?ed11 ?ee11 ?em11 ?eq11_0 ?eq11_1 ?eq11_2 ?eq11_3 ?eq11_4 ?eq11_5 ?eq11_6 ?eq11_7 ?eq11_8 ?eq11_9 ?eq11_10 ?eq11_11 ?eq11_12 ?eq11_13 ?eq11_14 ?eq11_15 ?eq11_16 ?eq11_17 ?eq11_18 ?eqV11 ?eL11 ?es11 ?ei11 ?ej11 ?en11_0 ?ek12 ?eg12 ?eh12 ?ed12 ?ee12 ?em12 ?eq12_0 ?eq12_1 ?eq12_2 ?eq12_3 ?eq12_4 ?eq12_5 ?eq12_6 ?eq12_7 ?eq12_8 ?eq12_9 ?eq12_10 ?eq12_11 ?eq12_12 ?eq12_13 ?eq12_14 ?eq12_15 ?eq12_16 ?eq12_17 ?eq12_18 ?eqV12 ?eL12 ?es12 ?ei12 ?ej12 ?en12_0 ?en12_1 ?ek13 ?eg13 ?eh13 ?ed13 ?ee13 ?em13 ?eq13_0 ?eq13_1 ?eq13_2 ?eq13_3 ?eq13_4 ?eq13_5 ?eq13_6 ?eq13_7 ?eq13_8 ?eq13_9 ?eq13_10 ?eq13_11 ?eq13_12 ?eq13_13 ?eq13_14 ?eq13_15 ?eq13_16 ?eq13_17 ?eq13_18 ?eqV13 ?eL13 ?es13 ?ei13 ?ej13 ?en13_0 ?en13_1 ?ek14 ?eg14 ?eh14 ?ed14 ?ee14 ?em14 ?eq14_0 ?eq14_1 ?eq14_2 ?eq14_3 ?eq14_4 ?eq14_5 ?eq14_6 ?eq14_7 ?eq14_8 ?eq14_9 ?eq14_10 ?eq14_11 ?eq14_12 ?eq14_13 ?eq14_14 ?eq14_15 ?eq14_16 ?eq14_17 ?eq14_18 ?eqV14 ?eL14 ?es14 ?ei14 ?ej14 ?en14_0 ?en14_1 ?ek15 ?eg15 ?eh15 ?ed15 ?ee15 ?em15 ?eq15_0 ?eq15_1 ?eq15_2 ?eq15_3 ?eq15_4 ?eq15_5 ?eq15_6 ?eq15_7 ?eq15_8 ?eq15_9 ?eq15_10 ?eq15_11 ?eq15_12 ?eq15_13 ?eq15_14 ?eq15_15 ?eq15_16 ?eq15_17 ?eq15_18 ?eqV15 ?eL15 ?es15 ?ei15 ?ej15 ?en15_0 ?ek16 ?eg16 ?eh16 ?ed16 ?ee16 ?em16 ?eq16_0 ?eq16_1 ?eq16_2 ?eq16_3 ?eq16_4 ?eq16_5 ?eq16_6 ?eq16_7 ?eq16_8 ?eq16_9 ?eq16_10 ?eq16_11 ?eq16_12 ?eq16_13 ?eq16_14 ?eq16_15 ?eq16_16 ?eq16_17 ?eq16_18 ?eqV16 ?ey16 ?ek17 ?eg17 ?eh17 ?ed17 ?ee17 ?em17 ?eq17_0 ?eq17_1 ?eq17_2 ?eq17_3 ?eq17_4 ?eq17_5 ?eq17_6 ?eq17_7 ?eq17_8 ?eq17_9 ?eq17_10 ?eq17_11 ?eq17_12 ?eq17_13 ?eq17_14 ?eq17_15 ?eq17_16 ?eq17_17 ?eq17_18 ?eqV17 ?ey17 ?z0 ?z1 ?z2 ?z3 ?z4 ?z5 ?z6 ?z7 ?z8 ?z9 ?z10
    (case a0 => k_is); (case a1 => k_is); (case a2 => k_is); (case a19 => k_is); (case a20 => k_is); (case a21 => k_is); (case a22 => k_is); (case a23 => k_is); (case a24 => k_is); (case aE0 => k_is); (case aE1 => k_is); (case aE2 => k_is); (case aE3 => k_is); (case aE4 => k_is); (case aE5 => k_is); (case aE6 => k_is); (case aE7 => k_is); (case aE8 => k_is); (case aE9 => k_is); (case aE10 => k_is); (case aE11 => k_is); (case aE12 => k_is); (case aE13 => k_is); (case aE14 => k_is); (case aE15 => k_is); (case aE16 => k_is); (case aE17 => k_is); (case aE18 => k_is); (case ei0 => k_is); (case ei1 => k_is); (case ei2 => k_is); (case ei3 => k_is); (case ei4 => k_is); (case ei5 => k_is); (case ei6 => k_is); (case ei7 => k_is); (case ei8 => k_is); (case ei9 => k_is); (case ei10 => k_is); (case ei11 => k_is); (case ei12 => k_is); (case ei13 => k_is); (case ei14 => k_is); (case ei15 => k_is); (case l0 => k_is); (case l1 => k_is); (case l2 => k_is); (case l3 => k_is); (case l4 => k_is); (case l5 => k_is); (case l6 => k_is); (case l7 => k_is); (case l8 => k_is); (case l9 => k_is); (case l10 => k_is); (case l11 => k_is); (case l12 => k_is); (case l13 => k_is); (case l14 => k_is); (case l15 => k_is); (case l16 => k_is); (case l17 => k_is); (case l18 => k_is); (case l19 => k_is); (case l20 => k_is); (case l21 => k_is); (case l22 => k_is); (case l23 => k_is); (case l24 => k_is); (case c0 => k_is); (case k0 => k_is); (case c1 => k_is); (case k1 => k_is); (case c2 => k_is); (case k2 => k_is); (case c3 => k_is); (case k3 => k_is); (case c4 => k_is); (case k4 => k_is); (case c5 => k_is); (case k5 => k_is); (case c6 => k_is); (case k6 => k_is); (case c7 => k_is); (case k7 => k_is); (case c8 => k_is); (case k8 => k_is); (case c9 => k_is); (case k9 => k_is); (case c10 => k_is); (case k10 => k_is); (case c11 => k_is); (case k11 => k_is); (case c12 => k_is); (case k12 => k_is); (case c13 => k_is); (case k13 => k_is); (case c14 => k_is); (case k14 => k_is); (case c15 => k_is); (case k15 => k_is); (case c16 => k_is); (case k16 => k_is); (case c17 => k_is); (case k17 => k_is); (case c18 => k_is); (case k18 => k_is); (case c19 => k_is); (case k19 => k_is); (case c20 => k_is); (case k20 => k_is); (case c21 => k_is); (case k21 => k_is); (case c22 => k_is); (case k22 => k_is); (case c23 => k_is); (case k23 => k_is); (case c24 => k_is); (case k24 => k_is); (case eb0 => k_is); (case ec0 => k_is); (case et0 => k_is); (case eb1 => k_is); (case ec1 => k_is); (case et1 => k_is); (case eb2 => k_is); (case ec2 => k_is); (case et2 => k_is); (case eb3 => k_is); (case ec3 => k_is); (case et3 => k_is); (case eb4 => k_is); (case ec4 => k_is); (case et4 => k_is); (case eb5 => k_is); (case ec5 => k_is); (case et5 => k_is); (case eb6 => k_is); (case ec6 => k_is); (case et6 => k_is); (case eb7 => k_is); (case ec7 => k_is); (case et7 => k_is); (case eb8 => k_is); (case ec8 => k_is); (case et8 => k_is); (case eb9 => k_is); (case ec9 => k_is); (case et9 => k_is); (case eb10 => k_is); (case ec10 => k_is); (case et10 => k_is); (case eb11 => k_is); (case ec11 => k_is); (case et11 => k_is); (case eb12 => k_is); (case ec12 => k_is); (case et12 => k_is); (case eb13 => k_is); (case ec13 => k_is); (case et13 => k_is); (case eb14 => k_is); (case ec14 => k_is); (case et14 => k_is); (case eb15 => k_is); (case ec15 => k_is); (case et15 => k_is); (case eb16 => k_is); (case ec16 => k_is); (case et16 => k_is); (case eb17 => k_is); (case ec17 => k_is); (case et17 => k_is); (case eb18 => k_is); (case ec18 => k_is); (case et18 => k_is); (case ecn => k_is); (case ect => k_is); (case ek0 => k_is); (case eg0 => k_is); (case eh0 => k_is); (case ed0 => k_is); (case ee0 => k_is); (case em0 => k_is); (case eq0_0 => first | kit_is | k_is); (case eq0_1 => first | kit_is | k_is); (case eq0_2 => first | kit_is | k_is); (case eq0_3 => first | kit_is | k_is); (case eq0_4 => first | kit_is | k_is); (case eq0_5 => first | kit_is | k_is); (case eq0_6 => first | kit_is | k_is); (case eq0_7 => first | kit_is | k_is); (case eq0_8 => first | kit_is | k_is); (case eq0_9 => first | kit_is | k_is); (case eq0_10 => first | kit_is | k_is); (case eq0_11 => first | kit_is | k_is); (case eq0_12 => first | kit_is | k_is); (case eq0_13 => first | kit_is | k_is); (case eq0_14 => first | kit_is | k_is); (case eq0_15 => first | kit_is | k_is); (case eq0_16 => first | kit_is | k_is); (case eq0_17 => first | kit_is | k_is); (case eq0_18 => first | kit_is | k_is); (case eqV0 => first | kit_is | k_is); (case eL0 => k_is); (case es0 => k_is); (case ej0 => k_is); (case en0_0 => k_is); (case ek1 => k_is); (case eg1 => k_is); (case eh1 => k_is); (case ed1 => k_is); (case ee1 => k_is); (case em1 => k_is); (case eq1_0 => first | kit_is | k_is); (case eq1_1 => first | kit_is | k_is); (case eq1_2 => first | kit_is | k_is); (case eq1_3 => first | kit_is | k_is); (case eq1_4 => first | kit_is | k_is); (case eq1_5 => first | kit_is | k_is); (case eq1_6 => first | kit_is | k_is); (case eq1_7 => first | kit_is | k_is); (case eq1_8 => first | kit_is | k_is); (case eq1_9 => first | kit_is | k_is); (case eq1_10 => first | kit_is | k_is); (case eq1_11 => first | kit_is | k_is); (case eq1_12 => first | kit_is | k_is); (case eq1_13 => first | kit_is | k_is); (case eq1_14 => first | kit_is | k_is); (case eq1_15 => first | kit_is | k_is); (case eq1_16 => first | kit_is | k_is); (case eq1_17 => first | kit_is | k_is); (case eq1_18 => first | kit_is | k_is); (case eqV1 => first | kit_is | k_is); (case eL1 => k_is); (case es1 => k_is); (case ej1 => k_is); (case en1_0 => k_is); (case ek2 => k_is); (case eg2 => k_is); (case eh2 => k_is); (case ed2 => k_is); (case ee2 => k_is); (case em2 => k_is); (case eq2_0 => first | kit_is | k_is); (case eq2_1 => first | kit_is | k_is); (case eq2_2 => first | kit_is | k_is); (case eq2_3 => first | kit_is | k_is); (case eq2_4 => first | kit_is | k_is); (case eq2_5 => first | kit_is | k_is); (case eq2_6 => first | kit_is | k_is); (case eq2_7 => first | kit_is | k_is); (case eq2_8 => first | kit_is | k_is); (case eq2_9 => first | kit_is | k_is); (case eq2_10 => first | kit_is | k_is); (case eq2_11 => first | kit_is | k_is); (case eq2_12 => first | kit_is | k_is); (case eq2_13 => first | kit_is | k_is); (case eq2_14 => first | kit_is | k_is); (case eq2_15 => first | kit_is | k_is); (case eq2_16 => first | kit_is | k_is); (case eq2_17 => first | kit_is | k_is); (case eq2_18 => first | kit_is | k_is); (case eqV2 => first | kit_is | k_is); (case eL2 => k_is); (case es2 => k_is); (case ej2 => k_is); (case en2_0 => k_is); (case ek3 => k_is); (case eg3 => k_is); (case eh3 => k_is); (case ed3 => k_is); (case ee3 => k_is); (case em3 => k_is); (case eq3_0 => first | kit_is | k_is); (case eq3_1 => first | kit_is | k_is); (case eq3_2 => first | kit_is | k_is); (case eq3_3 => first | kit_is | k_is); (case eq3_4 => first | kit_is | k_is); (case eq3_5 => first | kit_is | k_is); (case eq3_6 => first | kit_is | k_is); (case eq3_7 => first | kit_is | k_is); (case eq3_8 => first | kit_is | k_is); (case eq3_9 => first | kit_is | k_is); (case eq3_10 => first | kit_is | k_is); (case eq3_11 => first | kit_is | k_is); (case eq3_12 => first | kit_is | k_is); (case eq3_13 => first | kit_is | k_is); (case eq3_14 => first | kit_is | k_is); (case eq3_15 => first | kit_is | k_is); (case eq3_16 => first | kit_is | k_is); (case eq3_17 => first | kit_is | k_is); (case eq3_18 => first | kit_is | k_is); (case eqV3 => first | kit_is | k_is); (case eL3 => k_is); (case es3 => k_is); (case ej3 => k_is); (case en3_0 => k_is); (case ek4 => k_is); (case eg4 => k_is); (case eh4 => k_is); (case ed4 => k_is); (case ee4 => k_is); (case em4 => k_is); (case eq4_0 => first | kit_is | k_is); (case eq4_1 => first | kit_is | k_is); (case eq4_2 => first | kit_is | k_is); (case eq4_3 => first | kit_is | k_is); (case eq4_4 => first | kit_is | k_is); (case eq4_5 => first | kit_is | k_is); (case eq4_6 => first | kit_is | k_is); (case eq4_7 => first | kit_is | k_is); (case eq4_8 => first | kit_is | k_is); (case eq4_9 => first | kit_is | k_is); (case eq4_10 => first | kit_is | k_is); (case eq4_11 => first | kit_is | k_is); (case eq4_12 => first | kit_is | k_is); (case eq4_13 => first | kit_is | k_is); (case eq4_14 => first | kit_is | k_is); (case eq4_15 => first | kit_is | k_is); (case eq4_16 => first | kit_is | k_is); (case eq4_17 => first | kit_is | k_is); (case eq4_18 => first | kit_is | k_is); (case eqV4 => first | kit_is | k_is); (case eL4 => k_is); (case es4 => k_is); (case ej4 => k_is); (case en4_0 => k_is); (case ek5 => k_is); (case eg5 => k_is); (case eh5 => k_is); (case ed5 => k_is); (case ee5 => k_is); (case em5 => k_is); (case eq5_0 => first | kit_is | k_is); (case eq5_1 => first | kit_is | k_is); (case eq5_2 => first | kit_is | k_is); (case eq5_3 => first | kit_is | k_is); (case eq5_4 => first | kit_is | k_is); (case eq5_5 => first | kit_is | k_is); (case eq5_6 => first | kit_is | k_is); (case eq5_7 => first | kit_is | k_is); (case eq5_8 => first | kit_is | k_is); (case eq5_9 => first | kit_is | k_is); (case eq5_10 => first | kit_is | k_is); (case eq5_11 => first | kit_is | k_is); (case eq5_12 => first | kit_is | k_is); (case eq5_13 => first | kit_is | k_is); (case eq5_14 => first | kit_is | k_is); (case eq5_15 => first | kit_is | k_is); (case eq5_16 => first | kit_is | k_is); (case eq5_17 => first | kit_is | k_is); (case eq5_18 => first | kit_is | k_is); (case eqV5 => first | kit_is | k_is); (case eL5 => k_is); (case es5 => k_is); (case ej5 => k_is); (case en5_0 => k_is); (case ek6 => k_is); (case eg6 => k_is); (case eh6 => k_is); (case ed6 => k_is); (case ee6 => k_is); (case em6 => k_is); (case eq6_0 => first | kit_is | k_is); (case eq6_1 => first | kit_is | k_is); (case eq6_2 => first | kit_is | k_is); (case eq6_3 => first | kit_is | k_is); (case eq6_4 => first | kit_is | k_is); (case eq6_5 => first | kit_is | k_is); (case eq6_6 => first | kit_is | k_is); (case eq6_7 => first | kit_is | k_is); (case eq6_8 => first | kit_is | k_is); (case eq6_9 => first | kit_is | k_is); (case eq6_10 => first | kit_is | k_is); (case eq6_11 => first | kit_is | k_is); (case eq6_12 => first | kit_is | k_is); (case eq6_13 => first | kit_is | k_is); (case eq6_14 => first | kit_is | k_is); (case eq6_15 => first | kit_is | k_is); (case eq6_16 => first | kit_is | k_is); (case eq6_17 => first | kit_is | k_is); (case eq6_18 => first | kit_is | k_is); (case eqV6 => first | kit_is | k_is); (case eL6 => k_is); (case es6 => k_is); (case ej6 => k_is); (case en6_0 => k_is); (case ek7 => k_is); (case eg7 => k_is); (case eh7 => k_is); (case ed7 => k_is); (case ee7 => k_is); (case em7 => k_is); (case eq7_0 => first | kit_is | k_is); (case eq7_1 => first | kit_is | k_is); (case eq7_2 => first | kit_is | k_is); (case eq7_3 => first | kit_is | k_is); (case eq7_4 => first | kit_is | k_is); (case eq7_5 => first | kit_is | k_is); (case eq7_6 => first | kit_is | k_is); (case eq7_7 => first | kit_is | k_is); (case eq7_8 => first | kit_is | k_is); (case eq7_9 => first | kit_is | k_is); (case eq7_10 => first | kit_is | k_is); (case eq7_11 => first | kit_is | k_is); (case eq7_12 => first | kit_is | k_is); (case eq7_13 => first | kit_is | k_is); (case eq7_14 => first | kit_is | k_is); (case eq7_15 => first | kit_is | k_is); (case eq7_16 => first | kit_is | k_is); (case eq7_17 => first | kit_is | k_is); (case eq7_18 => first | kit_is | k_is); (case eqV7 => first | kit_is | k_is); (case eL7 => k_is); (case es7 => k_is); (case ej7 => k_is); (case en7_0 => k_is); (case ek8 => k_is); (case eg8 => k_is); (case eh8 => k_is); (case ed8 => k_is); (case ee8 => k_is); (case em8 => k_is); (case eq8_0 => first | kit_is | k_is); (case eq8_1 => first | kit_is | k_is); (case eq8_2 => first | kit_is | k_is); (case eq8_3 => first | kit_is | k_is); (case eq8_4 => first | kit_is | k_is); (case eq8_5 => first | kit_is | k_is); (case eq8_6 => first | kit_is | k_is); (case eq8_7 => first | kit_is | k_is); (case eq8_8 => first | kit_is | k_is); (case eq8_9 => first | kit_is | k_is); (case eq8_10 => first | kit_is | k_is); (case eq8_11 => first | kit_is | k_is); (case eq8_12 => first | kit_is | k_is); (case eq8_13 => first | kit_is | k_is); (case eq8_14 => first | kit_is | k_is); (case eq8_15 => first | kit_is | k_is); (case eq8_16 => first | kit_is | k_is); (case eq8_17 => first | kit_is | k_is); (case eq8_18 => first | kit_is | k_is); (case eqV8 => first | kit_is | k_is); (case eL8 => k_is); (case es8 => k_is); (case ej8 => k_is); (case en8_0 => k_is); (case ek9 => k_is); (case eg9 => k_is); (case eh9 => k_is); (case ed9 => k_is); (case ee9 => k_is); (case em9 => k_is); (case eq9_0 => first | kit_is | k_is); (case eq9_1 => first | kit_is | k_is); (case eq9_2 => first | kit_is | k_is); (case eq9_3 => first | kit_is | k_is); (case eq9_4 => first | kit_is | k_is); (case eq9_5 => first | kit_is | k_is); (case eq9_6 => first | kit_is | k_is); (case eq9_7 => first | kit_is | k_is); (case eq9_8 => first | kit_is | k_is); (case eq9_9 => first | kit_is | k_is); (case eq9_10 => first | kit_is | k_is); (case eq9_11 => first | kit_is | k_is); (case eq9_12 => first | kit_is | k_is); (case eq9_13 => first | kit_is | k_is); (case eq9_14 => first | kit_is | k_is); (case eq9_15 => first | kit_is | k_is); (case eq9_16 => first | kit_is | k_is); (case eq9_17 => first | kit_is | k_is); (case eq9_18 => first | kit_is | k_is); (case eqV9 => first | kit_is | k_is); (case eL9 => k_is); (case es9 => k_is); (case ej9 => k_is); (case en9_0 => k_is); (case ek10 => k_is); (case eg10 => k_is); (case eh10 => k_is); (case ed10 => k_is); (case ee10 => k_is); (case em10 => k_is); (case eq10_0 => first | kit_is | k_is); (case eq10_1 => first | kit_is | k_is); (case eq10_2 => first | kit_is | k_is); (case eq10_3 => first | kit_is | k_is); (case eq10_4 => first | kit_is | k_is); (case eq10_5 => first | kit_is | k_is); (case eq10_6 => first | kit_is | k_is); (case eq10_7 => first | kit_is | k_is); (case eq10_8 => first | kit_is | k_is); (case eq10_9 => first | kit_is | k_is); (case eq10_10 => first | kit_is | k_is); (case eq10_11 => first | kit_is | k_is); (case eq10_12 => first | kit_is | k_is); (case eq10_13 => first | kit_is | k_is); (case eq10_14 => first | kit_is | k_is); (case eq10_15 => first | kit_is | k_is); (case eq10_16 => first | kit_is | k_is); (case eq10_17 => first | kit_is | k_is); (case eq10_18 => first | kit_is | k_is); (case eqV10 => first | kit_is | k_is); (case eL10 => k_is); (case es10 => k_is); (case ej10 => k_is); (case en10_0 => k_is); (case ek11 => k_is); (case eg11 => k_is); (case eh11 => k_is); (case ed11 => k_is); (case ee11 => k_is); (case em11 => k_is); (case eq11_0 => first | kit_is | k_is); (case eq11_1 => first | kit_is | k_is); (case eq11_2 => first | kit_is | k_is); (case eq11_3 => first | kit_is | k_is); (case eq11_4 => first | kit_is | k_is); (case eq11_5 => first | kit_is | k_is); (case eq11_6 => first | kit_is | k_is); (case eq11_7 => first | kit_is | k_is); (case eq11_8 => first | kit_is | k_is); (case eq11_9 => first | kit_is | k_is); (case eq11_10 => first | kit_is | k_is); (case eq11_11 => first | kit_is | k_is); (case eq11_12 => first | kit_is | k_is); (case eq11_13 => first | kit_is | k_is); (case eq11_14 => first | kit_is | k_is); (case eq11_15 => first | kit_is | k_is); (case eq11_16 => first | kit_is | k_is); (case eq11_17 => first | kit_is | k_is); (case eq11_18 => first | kit_is | k_is); (case eqV11 => first | kit_is | k_is); (case eL11 => k_is); (case es11 => k_is); (case ej11 => k_is); (case en11_0 => k_is); (case ek12 => k_is); (case eg12 => k_is); (case eh12 => k_is); (case ed12 => k_is); (case ee12 => k_is); (case em12 => k_is); (case eq12_0 => first | kit_is | k_is); (case eq12_1 => first | kit_is | k_is); (case eq12_2 => first | kit_is | k_is); (case eq12_3 => first | kit_is | k_is); (case eq12_4 => first | kit_is | k_is); (case eq12_5 => first | kit_is | k_is); (case eq12_6 => first | kit_is | k_is); (case eq12_7 => first | kit_is | k_is); (case eq12_8 => first | kit_is | k_is); (case eq12_9 => first | kit_is | k_is); (case eq12_10 => first | kit_is | k_is); (case eq12_11 => first | kit_is | k_is); (case eq12_12 => first | kit_is | k_is); (case eq12_13 => first | kit_is | k_is); (case eq12_14 => first | kit_is | k_is); (case eq12_15 => first | kit_is | k_is); (case eq12_16 => first | kit_is | k_is); (case eq12_17 => first | kit_is | k_is); (case eq12_18 => first | kit_is | k_is); (case eqV12 => first | kit_is | k_is); (case eL12 => k_is); (case es12 => k_is); (case ej12 => k_is); (case en12_0 => k_is); (case en12_1 => k_is); (case ek13 => k_is); (case eg13 => k_is); (case eh13 => k_is); (case ed13 => k_is); (case ee13 => k_is); (case em13 => k_is); (case eq13_0 => first | kit_is | k_is); (case eq13_1 => first | kit_is | k_is); (case eq13_2 => first | kit_is | k_is); (case eq13_3 => first | kit_is | k_is); (case eq13_4 => first | kit_is | k_is); (case eq13_5 => first | kit_is | k_is); (case eq13_6 => first | kit_is | k_is); (case eq13_7 => first | kit_is | k_is); (case eq13_8 => first | kit_is | k_is); (case eq13_9 => first | kit_is | k_is); (case eq13_10 => first | kit_is | k_is); (case eq13_11 => first | kit_is | k_is); (case eq13_12 => first | kit_is | k_is); (case eq13_13 => first | kit_is | k_is); (case eq13_14 => first | kit_is | k_is); (case eq13_15 => first | kit_is | k_is); (case eq13_16 => first | kit_is | k_is); (case eq13_17 => first | kit_is | k_is); (case eq13_18 => first | kit_is | k_is); (case eqV13 => first | kit_is | k_is); (case eL13 => k_is); (case es13 => k_is); (case ej13 => k_is); (case en13_0 => k_is); (case en13_1 => k_is); (case ek14 => k_is); (case eg14 => k_is); (case eh14 => k_is); (case ed14 => k_is); (case ee14 => k_is); (case em14 => k_is); (case eq14_0 => first | kit_is | k_is); (case eq14_1 => first | kit_is | k_is); (case eq14_2 => first | kit_is | k_is); (case eq14_3 => first | kit_is | k_is); (case eq14_4 => first | kit_is | k_is); (case eq14_5 => first | kit_is | k_is); (case eq14_6 => first | kit_is | k_is); (case eq14_7 => first | kit_is | k_is); (case eq14_8 => first | kit_is | k_is); (case eq14_9 => first | kit_is | k_is); (case eq14_10 => first | kit_is | k_is); (case eq14_11 => first | kit_is | k_is); (case eq14_12 => first | kit_is | k_is); (case eq14_13 => first | kit_is | k_is); (case eq14_14 => first | kit_is | k_is); (case eq14_15 => first | kit_is | k_is); (case eq14_16 => first | kit_is | k_is); (case eq14_17 => first | kit_is | k_is); (case eq14_18 => first | kit_is | k_is); (case eqV14 => first | kit_is | k_is); (case eL14 => k_is); (case es14 => k_is); (case ej14 => k_is); (case en14_0 => k_is); (case en14_1 => k_is); (case ek15 => k_is); (case eg15 => k_is); (case eh15 => k_is); (case ed15 => k_is); (case ee15 => k_is); (case em15 => k_is); (case eq15_0 => first | kit_is | k_is); (case eq15_1 => first | kit_is | k_is); (case eq15_2 => first | kit_is | k_is); (case eq15_3 => first | kit_is | k_is); (case eq15_4 => first | kit_is | k_is); (case eq15_5 => first | kit_is | k_is); (case eq15_6 => first | kit_is | k_is); (case eq15_7 => first | kit_is | k_is); (case eq15_8 => first | kit_is | k_is); (case eq15_9 => first | kit_is | k_is); (case eq15_10 => first | kit_is | k_is); (case eq15_11 => first | kit_is | k_is); (case eq15_12 => first | kit_is | k_is); (case eq15_13 => first | kit_is | k_is); (case eq15_14 => first | kit_is | k_is); (case eq15_15 => first | kit_is | k_is); (case eq15_16 => first | kit_is | k_is); (case eq15_17 => first | kit_is | k_is); (case eq15_18 => first | kit_is | k_is); (case eqV15 => first | kit_is | k_is); (case eL15 => k_is); (case es15 => k_is); (case ej15 => k_is); (case en15_0 => k_is); (case ek16 => k_is); (case eg16 => k_is); (case eh16 => k_is); (case ed16 => k_is); (case ee16 => k_is); (case em16 => k_is); (case eq16_0 => first | kit_is | k_is); (case eq16_1 => first | kit_is | k_is); (case eq16_2 => first | kit_is | k_is); (case eq16_3 => first | kit_is | k_is); (case eq16_4 => first | kit_is | k_is); (case eq16_5 => first | kit_is | k_is); (case eq16_6 => first | kit_is | k_is); (case eq16_7 => first | kit_is | k_is); (case eq16_8 => first | kit_is | k_is); (case eq16_9 => first | kit_is | k_is); (case eq16_10 => first | kit_is | k_is); (case eq16_11 => first | kit_is | k_is); (case eq16_12 => first | kit_is | k_is); (case eq16_13 => first | kit_is | k_is); (case eq16_14 => first | kit_is | k_is); (case eq16_15 => first | kit_is | k_is); (case eq16_16 => first | kit_is | k_is); (case eq16_17 => first | kit_is | k_is); (case eq16_18 => first | kit_is | k_is); (case eqV16 => first | kit_is | k_is); (case ey16 => k_exc); (case ek17 => k_is); (case eg17 => k_is); (case eh17 => k_is); (case ed17 => k_is); (case ee17 => k_is); (case em17 => k_is); (case eq17_0 => first | kit_is | k_is); (case eq17_1 => first | kit_is | k_is); (case eq17_2 => first | kit_is | k_is); (case eq17_3 => first | kit_is | k_is); (case eq17_4 => first | kit_is | k_is); (case eq17_5 => first | kit_is | k_is); (case eq17_6 => first | kit_is | k_is); (case eq17_7 => first | kit_is | k_is); (case eq17_8 => first | kit_is | k_is); (case eq17_9 => first | kit_is | k_is); (case eq17_10 => first | kit_is | k_is); (case eq17_11 => first | kit_is | k_is); (case eq17_12 => first | kit_is | k_is); (case eq17_13 => first | kit_is | k_is); (case eq17_14 => first | kit_is | k_is); (case eq17_15 => first | kit_is | k_is); (case eq17_16 => first | kit_is | k_is); (case eq17_17 => first | kit_is | k_is); (case eq17_18 => first | kit_is | k_is); (case eqV17 => first | kit_is | k_is); (case ey17 => k_exc); (case z0 => k_is); (case z1 => k_is); (case z2 => k_is); (case z3 => k_is); (case z4 => k_is); (case z5 => k_is); (case z6 => k_is); (case z7 => k_is); (case z8 => k_is); (case z9 => k_is); (case z10 => k_is)
#print axioms PySem.Challenge.cw_ringlaps_k22_errors_stand_apart_holds
