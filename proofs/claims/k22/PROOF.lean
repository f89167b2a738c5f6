import PyProof.Rows.All
import Wide.All
import OpenK.AllK
import Wide.FinOn
import KE.KStateDown
import HandS.Head0
import HandS.Head1
import HandS.Head2
import HandS.HeadEnd
import HandS.HeadHook1
import HandS.HeadHook2
import HandS.ExcInit
import HandS.ForMost
import HandS.DictComp
import HandS.DictTup
import HandS.TupLen
import HandS.Conv
import KE.KDictPairs
import KE.KDictZip
import KE.KDictCopyH
import KE.KDictDisplayH
import KE.SortData
import KE.KEqDict
import HandS.SetBool
import HandS.Walk
import HandS.Set
import PyProof.Rows.SortShellAny
import PyProof.StrBlock2
import PyProof.ListStr
import KE.KMulAny
import HandS.Wide
import HandS.WideBits
import HandS.Defaults
import HandS.Style
import HandS.More
import HandS.Text
import HandS.IsInst
import HandS.Zip
import HandS.OwnEq
import HandS.MakeKwOnly
import PyProof.InstEq
import HandS.SetFor
import HandS.ListItems
import KE.KDictList
import HandS.RevRange
import HandS.WordsDict
import HandS.NoneIn
import HandS.Finally
import PyProof.EqAt
import PyProof.EqKinds
import HandS.Base
import HandS.Call
import HandS.List
import HandS.Dict
import HandS.Exc
import HandS.ExcOwn
import HandS.ExcValue
import HandS.TryMany
import HandS.ExcCtx
import HandS.Hot
import HandS.HotCalls
import KE.KExcIs
import HandS.ExcField
import HandS.MakeKw
import HandS.ExcInitHot
import HandS.Deep
import PySem.Challenge.RW_kindtwice_k22_endless_refused_and_by_nam
set_option Elab.async false
set_option maxRecDepth 100000
namespace KT
open PySem L2 PyProof.Rows
def top (i : Nat) : Stmt := PySem.Challenge.pw_kindtwice_k22_endless_refused_and_by_nam.main.body.getD i (.Pass ⟨0, 0, 0, 0⟩)
abbrev sPurse : Stmt := top 49
abbrev sMixed : Stmt := top 50
abbrev sDraw : Stmt := top 51
abbrev sPurses : Stmt := top 52
abbrev sOneOf : Stmt := top 53
abbrev sWord : Stmt := top 55
abbrev sExact : Stmt := top 54
abbrev sWords : Stmt := top 56
abbrev sPlain : Stmt := top 57
abbrev sWide : Stmt := top 58
abbrev sTwofold : Stmt := top 59
abbrev sTwin : Stmt := top 60
abbrev sLeading : Stmt := top 61
abbrev sCyclic : Stmt := top 62
abbrev sAny : Stmt := top 63
abbrev sTable : Stmt := top 64
abbrev pIsWord : Stmt := top 15
abbrev pIsTable : Stmt := top 22
abbrev pIsPair : Stmt := top 23
abbrev pIsFull : Stmt := top 24
abbrev pIsFree : Stmt := top 25
abbrev pIsKind : Stmt := top 26
abbrev pIsKinds : Stmt := top 27
abbrev pCheckKinds : Stmt := top 28
abbrev pCheckKind : Stmt := top 29
abbrev pOwnSquares : Stmt := top 30
abbrev kInit : Stmt := inClass (top 21) 0
abbrev kTable : Stmt := inClass (top 21) 1
abbrev kWords : Stmt := inClass (top 21) 2
abbrev kPut : Stmt := inClass (top 21) 3
abbrev kEq : Stmt := inClass (top 21) 4
abbrev sKindsOf : Stmt := top 65
abbrev sSquares : Stmt := top 66
abbrev sLaw : Stmt := top 77
abbrev pIsAsc : Stmt := top 18
abbrev sInit : Stmt := inClass (top 32) 0
abbrev sKinds : Stmt := inClass (top 32) 1
abbrev sDeeds : Stmt := inClass (top 32) 2
abbrev sTwice : Stmt := inClass (top 32) 3
abbrev sEq : Stmt := inClass (top 32) 4
abbrev pAreDeeds : Stmt := top 33
abbrev pIsTwice : Stmt := top 34
abbrev pCheckSetting : Stmt := top 35
abbrev pWithTwice : Stmt := top 36
abbrev sSetting : Stmt := top 67
abbrev sMade : Stmt := top 69
abbrev pIsCount : Stmt := top 16
abbrev pOpenK : Stmt := top 42
abbrev pEndless : Stmt := top 43
abbrev pCntDeeds : Stmt := top 44
abbrev pCntStore : Stmt := top 45
abbrev pClosed : Stmt := top 46
abbrev pOpened : Stmt := top 47
abbrev pCheckCnt : Stmt := top 17
abbrev pCntWords : Stmt := top 19
abbrev pLeads : Stmt := top 39
abbrev pAreMoves : Stmt := top 40
abbrev gInit : Stmt := inClass (top 38) 0
abbrev gMoves : Stmt := inClass (top 38) 1
abbrev sClosed : Stmt := top 68
abbrev sAsked : Stmt := top 72
abbrev sTel : Stmt := top 73
abbrev sSpare : Stmt := top 70
abbrev sVery : Stmt := top 74
abbrev sOddS : Stmt := top 71
abbrev sFalls : Stmt := top 75
abbrev sRef : Stmt := top 76
end KT
set_option Elab.async false
set_option linter.all false
set_option maxRecDepth 100000
set_option maxHeartbeats 0
namespace KT
open PySem PySem.Spec PyProof.Rows L2
def kC (K : PySem.W.Frag) : Addr := He.ga K "Kinds"
def sC (K : PySem.W.Frag) : Addr := He.ga K "Setting"
def goC (K : PySem.W.Frag) : Addr := He.ga K "Store"
def oneB (K : PySem.W.Frag) (x : Str) : Bool :=
  He.eqO (PySem.W.findIn K (.ref (He.ga K x)) "__class__") (some (some (.builtin "object.__class__"))) && (decide (PySem.W.mroIn K (He.ga K x) (.type "object") = some true) && (decide (PySem.W.kitOne K (.ref (He.ga K x)) (.ref (He.ga K x)) = some true) &&
  (He.eqO (PySem.W.findIn K (.ref (He.ga K x)) "__eq__") (some (some (.ref (He.fAd K (x, some "__eq__"))))) && (PySem.W.isFn K (.ref (He.fAd K (x, some "__eq__"))) && (He.eqO (PySem.W.findIn K (.ref (He.ga K x)) "__ne__") (some (some (.builtin "object.__ne__"))) &&
  PySem.W.notFirst K (He.ga K x) (.ref (He.ga K x)))))))
def kitB2 (K : PySem.W.Frag) : Bool := [Value.type "NoneType", .type "int", .type "dict", .type "list", .type "tuple", .ref (kC K)].all fun t => decide (PySem.W.kitOne K t (.ref (sC K)) = some false) && PySem.W.notFirst K (sC K) t
/-- an exception class of the text -/
def oexB (K : PySem.W.Frag) (C : Addr) : Bool := match K.lookup C with
  | some ⟨.type t, _, .cls cd, sl⟩ => (match cd.mro, sl.toList with
    | .ref C2 :: bm, [_, _, _, _, some (.builtin n), _] => decide (t = "type") && (decide (C2 = C) && (decide (n = "ValueError.__new__") && (!cd.hasDel && (cd.hasDict && PySem.HandSPX.refsVE bm))))
    | _, _ => false)
  | _ => false
theorem oexB_ok {K : PySem.W.Frag} {C : Addr} (h : oexB K C = true) : ∃ nm q N bs bm sn sub ab col dd k0 k1 k2 k3 k5, K.lookup C = some (excClassObj nm q C N bs bm true sn sub ab col dd k0 k1 k2 k3 k5 "ValueError.__new__") ∧ PySem.HandSPX.refsVE bm = true := by
  unfold oexB at h
  split at h
  · rename_i t od cd sl lo
    split at h
    · rename_i C2 bm k0 k1 k2 k3 n k5 hm hs
      simp only [Bool.and_eq_true, decide_eq_true_eq, Bool.not_eq_true'] at h
      obtain ⟨rfl, rfl, rfl, h4, h5, h6⟩ := h
      obtain ⟨nm, bs, mro, ns, qn, hd, sn, sub, ab, col, del⟩ := cd
      dsimp only at hm h4 h5
      subst hm h4 h5
      have es : sl = #[k0, k1, k2, k3, some (.builtin "ValueError.__new__"), k5] := by
        obtain ⟨z⟩ := sl
        simp only at hs
        rw [hs]
      rw [es] at lo
      exact ⟨nm, qn, ns, bs, bm, sn, sub, ab, col, od, k0, k1, k2, k3, k5, lo, h6⟩
    · cases h
  · cases h
def oex2B (K : PySem.W.Frag) (C : Addr) : Bool := oexB K C && (He.eqO (PySem.W.findIn K (.ref C) "__setattr__") (some (some (.builtin "object.__setattr__"))) && (decide (PySem.W.subIn K (.ref C) (.type "BaseException") = some true) && (decide (PySem.W.typeIn K (.ref C) = some (.type "type")) && PySem.W.keepIn K (.ref C))))
theorem oex2B_ok {K : PySem.W.Frag} {C : Addr} (h : oex2B K C = true) : OexC K C := by
  unfold oex2B at h
  simp only [Bool.and_eq_true, decide_eq_true_eq] at h
  obtain ⟨h1, h2, h3, h4, h5⟩ := h
  exact ⟨oexB_ok h1, He.eqO_ok h2, h3, h4, h5⟩
def errIB (K : PySem.W.Frag) (C : Addr) : Bool := He.eqO (PySem.W.findIn K (.ref C) "__getattribute__") (some (some (.builtin "BaseException.__getattribute__"))) && (He.eqO (PySem.W.findIn K (.ref C) "__getattr__") (some none) && (decide (PySem.W.subIn K (.ref C) (.type "BaseException") = some true) &&
  ((PySem.W.clsIn K C).isSome && (He.eqO (PySem.W.findIn K (.ref C) "__class__") (some (some (.builtin "object.__class__"))) && (He.eqO (PySem.W.specialIn K (.builtin "object.__class__") "__get__") (some (some (.builtin "getset_descriptor.__get__"))) &&
  (decide (PySem.W.takesIn K (.builtin "object.__class__") = some true) && (decide (PySem.W.mroIn K C (.type "object") = some true) && PySem.W.hasDictIn K C)))))))
def kB (K : PySem.W.Frag) (C : Addr) (c : Value) (b : Bool) : Bool := decide (PySem.W.kitOne K (.ref C) c = some b)
def initB (K : PySem.W.Frag) (C : Addr) (f : Addr) : Bool := He.eqO (PySem.W.findIn K (.ref C) "__init__") (some (some (.ref f))) && decide (PySem.W.typeIn K (.ref f) = some (.type "function"))
def excN : List Str := ["InvalidSetting", "InvalidDeed", "InvalidCount", "InvalidKind", "Refused"]
def excOne (K : PySem.W.Frag) (x : Str) : Bool := oex2B K (He.ga K x) && (errIB K (He.ga K x) && (He.eqO (PySem.W.findIn K (.ref (He.ga K x)) "value") (some none) && (initB K (He.ga K x) (He.fAd K (x, some "__init__")) && (kB K (He.ga K x) (.ref (He.ga K "TwiceError")) true && kB K (He.ga K x) (.type "ValueError") true))))
def exB (K : PySem.W.Frag) (x y : Str) (b : Bool) : Bool := decide (PySem.W.exmOne K (.ref (He.ga K x)) (.ref (He.ga K y)) = some b)
def noBB (K : PySem.W.Frag) (C : Addr) : Bool := (["list", "tuple", "dict", "int", "bool"].all fun t => decide (PySem.W.kitOne K (.ref C) (.type t) = some false)) && PySem.W.notFirst K C (.ref C)
def excB (K : PySem.W.Frag) : Bool := (excN.all fun x => excOne K x) && (((List.range excN.length).all fun i => (List.range (i + 1)).all fun j => exB K (excN.getD i "") (excN.getD j "") (decide (i = j))) && (noBB K (kC K) && (noBB K (sC K) &&
  ((["NoneType", "bool", "int", "str", "list", "tuple", "dict"].all fun t => decide (PySem.W.kitOne K (.type t) (.ref (sC K)) = some false)) && decide (PySem.W.kitOne K (.ref (kC K)) (.ref (sC K)) = some false)))))
def myB (K : PySem.W.Frag) : Bool :=
  He.eqO (PySem.W.specialIn K (.builtin "object.__class__") "__get__") (some (some (.builtin "getset_descriptor.__get__"))) && (decide (PySem.W.takesIn K (.builtin "object.__class__") = some true) && (kitB2 K && (oneB K "Kinds" && (oneB K "Setting" && excB K))))
abbrev AlX : Type := He.AlD × Bool
def frX (g : Addr → Option Obj) : PySem.W.Frag := He.frG g (He.asD g 5)
def obsX (fa : List He.Fa) (fn : List He.DefD) (g : Addr → Option Obj) : AlX := (He.obsD fa fn (frX g), myB (frX g))
def hookX (fa : List He.Fa) (fn : List He.DefD) : PySem.W.Hook where
  α := AlX
  obs := fun s => obsX fa fn s.heap.get?
  val := fun _ => (He.valD fn, true)
  says := fun _ h => ∃ K : PySem.W.Frag, K.In h ∧ He.SaysD fa fn K ∧ myB K = true
  of := fun _ _ e => ⟨_, He.frG_in, congrArg Prod.fst e, congrArg Prod.snd e⟩
  keeps := fun _ _ _ ⟨K, hK, c⟩ k => ⟨K, PySem.W.Frag.In.keeps hK k, c⟩
theorem obsX_eq {fa : List He.Fa} {fn : List He.DefD} {g : Addr → Option Obj} {s : Shared} (h : ∀ a, g a = s.heap.get? a) : obsX fa fn g = (hookX fa fn).obs s := by
  have e : g = s.heap.get? := funext h
  rw [e] <;> rfl
end KT
set_option Elab.async false
set_option linter.all false
set_option maxRecDepth 100000
set_option maxHeartbeats 0
namespace KT
open PySem PySem.Spec PyProof.Rows L2
def lawD (x : Str) (st : Stmt) : He.DefD := ⟨(x, none), x, x, defArgs st, defBody st, defScope st, [], []⟩
def mthD (cls m qual : Str) (st : Stmt) : He.DefD := ⟨(cls, some m), m, qual, defArgs st, defBody st, defScope st, [], []⟩
def fn1 : List He.DefD := [lawD "is_word" pIsWord,
  lawD "is_ascending" pIsAsc,
  lawD "_is_pair" pIsPair,
  lawD "_is_full" pIsFull,
  lawD "_is_free_of_brackets" pIsFree,
  lawD "_is_table" pIsTable,
  mthD "Kinds" "__init__" "Kinds.__init__" kInit,
  mthD "Kinds" "table" "Kinds.table" kTable,
  mthD "Kinds" "words" "Kinds.words" kWords,
  lawD "is_kind" pIsKind,
  lawD "check_kind" pCheckKind,
  lawD "check_kinds" pCheckKinds,
  mthD "Kinds" "put" "Kinds.put" kPut,
  mthD "Kinds" "__eq__" "Kinds.__eq__" kEq,
  lawD "is_list_of_kinds" pIsKinds,
  lawD "own_squares" pOwnSquares,
  lawD "_are_deeds" pAreDeeds,
  lawD "_is_twice" pIsTwice,
  mthD "Setting" "__init__" "Setting.__init__" sInit,
  mthD "Setting" "kinds" "Setting.kinds" sKinds,
  mthD "Setting" "deeds" "Setting.deeds" sDeeds,
  mthD "Setting" "twice" "Setting.twice" sTwice,
  mthD "Setting" "__eq__" "Setting.__eq__" sEq,
  lawD "check_setting" pCheckSetting,
  lawD "is_count" pIsCount,
  lawD "check_count" pCheckCnt,
  lawD "counting_words" pCntWords,
  lawD "with_twice" pWithTwice,
  lawD "_leads_from_words" pLeads,
  lawD "_are_moves" pAreMoves,
  mthD "Store" "__init__" "Store.__init__" gInit,
  mthD "Store" "moves" "Store.moves" gMoves,
  lawD "open_kinds" pOpenK]
def fn2 : List He.DefD := [lawD "is_endless" pEndless,
  lawD "counting_deeds" pCntDeeds,
  lawD "counting_store" pCntStore,
  lawD "closed" pClosed,
  lawD "opened" pOpened,
  lawD "_law_purse" sPurse,
  lawD "_law_mixed" sMixed,
  lawD "_law_draw" sDraw,
  lawD "_law_purses" sPurses,
  lawD "_law_one_of" sOneOf,
  lawD "_law_exact" sExact,
  lawD "_law_word" sWord,
  lawD "_law_words" sWords,
  lawD "_law_plain_table" sPlain,
  lawD "_law_wide_table" sWide,
  lawD "_law_twofold_table" sTwofold,
  lawD "_law_twin_table" sTwin,
  lawD "_law_leading_table" sLeading,
  lawD "_law_cyclic_table" sCyclic,
  lawD "_law_any_table" sAny,
  lawD "_law_table" sTable,
  lawD "_law_kinds_of" sKindsOf,
  lawD "_law_squares" sSquares,
  lawD "_law_setting" sSetting,
  lawD "_law_made" sMade,
  lawD "_law_closed" sClosed,
  lawD "_law_spare_words" sSpare,
  lawD "_law_odd_settings" sOddS,
  lawD "_law_asked" sAsked,
  lawD "_law_told" sTel,
  lawD "_law_very" sVery,
  lawD "_law_falls" sFalls,
  lawD "_law_refused_right" sRef]
def fn3 : List He.DefD := [lawD "law" sLaw]
def errD (x qual : Str) (i : Nat) : He.DefD := ⟨(x, some "__init__"), "__init__", qual, defArgs (inClass (top i) 0), defBody (inClass (top i) 0), defScope (inClass (top i) 0), [.non], []⟩
def fnE : List He.DefD := [errD "InvalidSetting" "InvalidSetting.__init__" 8, errD "InvalidDeed" "InvalidDeed.__init__" 6, errD "InvalidCount" "InvalidCount.__init__" 9, errD "InvalidKind" "InvalidKind.__init__" 3, errD "Refused" "Refused.__init__" 11]
def fn : List He.DefD := fn1 ++ fn2 ++ fn3 ++ fnE
def fa0 : List He.Fa := [.glo "is_word", .glo "is_ascending", .glo "_is_pair", .glo "_is_full", .glo "_is_free_of_brackets", .glo "_is_table", .glo "is_kind", .glo "check_kind", .glo "check_kinds", .glo "is_list_of_kinds", .glo "own_squares", .glo "_are_deeds", .glo "_is_twice", .glo "check_setting", .glo "is_count", .glo "check_count", .glo "counting_words", .glo "with_twice", .glo "_leads_from_words", .glo "_are_moves", .glo "open_kinds", .glo "is_endless", .glo "counting_deeds", .glo "counting_store", .glo "closed", .glo "opened", .glo "_law_purse", .glo "_law_mixed", .glo "_law_draw", .glo "_law_purses"]
def fa1 : List He.Fa := [.glo "_law_one_of", .glo "_law_exact", .glo "_law_word", .glo "_law_words", .glo "_law_plain_table", .glo "_law_wide_table", .glo "_law_twofold_table", .glo "_law_twin_table", .glo "_law_leading_table", .glo "_law_cyclic_table", .glo "_law_any_table", .glo "_law_table", .glo "_law_kinds_of", .glo "_law_squares", .glo "_law_setting", .glo "_law_made", .glo "_law_closed", .glo "_law_spare_words", .glo "_law_odd_settings", .glo "_law_asked", .glo "_law_told", .glo "_law_very", .glo "_law_falls", .glo "_law_refused_right", .glo "law", .glo "Kinds", .cls "Kinds", .noat "Kinds" "_table", .noat "Kinds" "_words", .meth "Kinds" "table"]
def fa2 : List He.Fa := [.meth "Kinds" "words", .meth "Kinds" "put", .mkr "Kinds", .glo "Setting", .cls "Setting", .noat "Setting" "_kinds", .noat "Setting" "_deeds", .noat "Setting" "_twice", .meth "Setting" "kinds", .meth "Setting" "deeds", .meth "Setting" "twice", .mkr "Setting", .str "LETTERS" "abcdefghijklmnopqrstuvwxyz", .int "LONGEST_WORD" 8, .free "int", .free "max", .free "min", .free "sum", .free "len", .free "range", .free "isinstance", .free "all", .free "sorted", .free "str", .free "bool", .free "tuple", .free "list", .free "dict", .free "zip", .free "any"]
def fa3 : List He.Fa := [.free "set", .free "reversed", .free "enumerate", .glo "InvalidSetting", .glo "InvalidDeed", .glo "InvalidCount", .glo "InvalidKind", .glo "Refused", .glo "TwiceError", .free "ValueError", .glo "Store", .cls "Store", .noat "Store" "_moves", .mkr "Store", .meth "Store" "moves"]
def fa : List He.Fa := fa0 ++ fa1 ++ fa2 ++ fa3
abbrev R : PySem.W.OpenRow := PySem.W.OpenLaw.row PySem.Challenge.rw_kindtwice_k22_endless_refused_and_by_nam
abbrev hk : PySem.W.Hook := hookX fa fn
def ob (s : PySem.W.SharedT) : AlX := obsX fa fn (HandSHeadRun.getT s)
theorem ob_eq (s : PySem.W.SharedT) : ob s = hk.obs s.abs := obsX_eq (HandSHeadRun.getT_eq s)
def loose0 : List Str := ["TwiceError", "InvalidTable", "InvalidKind", "InvalidKinds", "InvalidDeeds", "InvalidDeed", "InvalidTwice", "InvalidSetting", "InvalidCount", "InvalidMoves", "Refused", "LETTERS", "LONGEST_WORD", "is_word", "is_count", "check_count"]
def loose1 : List Str := ["is_ascending", "counting_words", "Kinds", "_is_table", "_is_pair", "_is_full", "_is_free_of_brackets", "is_kind", "is_list_of_kinds", "check_kinds", "check_kind", "own_squares", "Setting", "_are_deeds", "_is_twice", "check_setting"]
def loose2 : List Str := ["with_twice", "Store", "_leads_from_words", "_are_moves", "open_kinds", "is_endless", "counting_deeds", "counting_store", "closed", "opened", "_law_purse", "_law_mixed", "_law_draw", "_law_purses", "_law_one_of", "_law_exact"]
def loose3 : List Str := ["_law_word", "_law_words", "_law_plain_table", "_law_wide_table", "_law_twofold_table", "_law_twin_table", "_law_leading_table", "_law_cyclic_table", "_law_any_table", "_law_table", "_law_kinds_of", "_law_squares", "_law_setting", "_law_closed", "_law_made", "_law_spare_words"]
def loose4 : List Str := ["_law_odd_settings", "_law_asked", "_law_told", "_law_very", "_law_falls", "_law_refused_right"]
abbrev loose : List Str := loose0 ++ loose1 ++ loose2 ++ loose3 ++ loose4
theorem run (w : World) : HandSHeadRun.RunEq R (PySem.W.view R.prog [77]) hk ob 60000 loose w := by
  intro os
  kernel_rfl
end KT
set_option Elab.async false
set_option linter.all false
set_option maxRecDepth 100000
set_option maxHeartbeats 2000000
namespace DTp
open PySem PySem.Spec PySem.W PyProof.Rows L2
def mergeT (kvs more : List (List Key × V)) : List (List Key × V) := more.foldl (fun acc kv => putK acc kv.1 kv.2) kvs
theorem length_mergeT : ∀ (more kvs : List (List Key × V)), (mergeT kvs more).length ≤ kvs.length + more.length
  | [], kvs => Nat.le_refl _
  | p :: r, kvs => by
    have a := length_mergeT r (putK kvs p.1 p.2); have b := length_putK kvs p.1 p.2
    show (mergeT (putK kvs p.1 p.2) r).length ≤ _
    rw [List.length_cons]; omega
theorem KT.merge {H : Hp} : ∀ {more : List (List Key × V)} {rs : List (List Key × Addr × Value)} {kvs : List (List Key × V)} {xs : List (List Key × Addr × Value)}, KT H more rs → KT H kvs xs → KT H (mergeT kvs more) (storedAllH xs rs)
  | _, _, _, _, .nil, h => h
  | _, _, _, _, .cons (a := p) (b := q) r t, h => by
    show KT H (mergeT (putK _ p.1 p.2) _) (storedAllH (storedH _ q.1 q.2.1 q.2.2) _)
    refine KT.merge t ?_
    rw [← r.1]
    exact h.put p.1 r.2.1 r.2.2
section
variable {X : Cx}
/-- what the pairs of a list are -/
def PrT (K : PySem.W.Frag) (H : Hp) : List Addr → List (List Key × V) → Prop := Paired fun p kv => ∃ b, SqT K H p [.ref b, kv.2] ∧ H b = some (.tup (kv.1.map kV))
theorem prs_of {pins : List (Addr × Obj)} {σ : L2.St} {H : Hp} {s : Shared} (I : Inv X pins σ H s) : ∀ {ps : List Addr} {kvs : List (List Key × V)}, PrT X.K H ps kvs → ∃ xs : List (List Key × Addr × Value), KT H kvs xs ∧ Paired (fun p (x : List Key × Addr × Value) => s.heap.IsTuple p #[.ref x.2.1, x.2.2]) ps xs
  | _, _, .nil => ⟨[], .nil, .nil⟩
  | _, _, .cons (a := p) (b := kv) r t => by
    obtain ⟨b, hp, hb⟩ := r
    obtain ⟨xs, h1, h2⟩ := prs_of I t
    obtain ⟨its, rv, ht, _⟩ := I.tuple hp
    obtain ⟨u, y, rfl, ru, ry⟩ := vals2 rv
    cases (show u = Value.ref b from ru)
    exact ⟨(kv.1, b, y) :: xs, .cons ⟨rfl, hb, ry⟩ h1, .cons ht h2⟩
theorem kt_is {pins : List (Addr × Obj)} {σ : L2.St} {H : Hp} {s : Shared} (I : Inv X pins σ H s) : ∀ {kvs : List (List Key × V)} {xs : List (List Key × Addr × Value)}, KT H kvs xs → ∀ x ∈ xs, H x.2.1 = some (.tup (x.1.map kV)) ∧ (tupleKind (mixKind X.prog X.w)).is s.heap x.1 x.2.1
  | _, _, .cons r t, x, hx => by
    rcases List.mem_cons.mp hx with rfl | hx
    · have e : H x.2.1 = some (.tup (x.1.map kV)) := by rw [← r.1]; exact r.2.1
      exact ⟨e, key_of I.hok e⟩
    · exact kt_is I t x hx
theorem paired_at {α β : Type} {F : α → β → Prop} : ∀ {xs : List α} {ys : List β}, Paired F xs ys → ∀ {i : Nat} {y : β}, ys[i]? = some y → ∃ x, xs[i]? = some x ∧ F x y
  | _, _, .nil, i, y, h => by cases h
  | _, _, .cons r t, 0, y, h => ⟨_, rfl, by cases h; exact r⟩
  | _, _, .cons r t, i + 1, y, h => paired_at t (i := i) h
theorem is_keeps {P : Program} {w : World} {h h' : Heap} {k : List Key} {b : Addr} (x : (tupleKind (mixKind P w)).is h k b) (e : ∀ o, h.get? b = some o → h'.get? b = some o) : (tupleKind (mixKind P w)).is h' k b := let ⟨o, its, n, ho, r⟩ := x; ⟨o, its, n, e _ ho, r⟩
/-- dict(xs), a list of pairs (tuple, value) -/
def rDictT (K : PySem.W.Frag) : List V → Hp → VK → Prop := fun vs H Q => ∃ (a : Addr) (ps : List Addr) (kvs : List (List Key × V)), vs = [.ref a] ∧ SqL K H a (ps.map V.ref) ∧ PrT K H ps kvs ∧ ∀ p, H p = none → Q (.ref p) (upd H p (.dT (mergeT [] kvs)))
theorem cr_dictT (hc : X.calm = true) (hu : X.A.units + 2 < cLine) : CallR X (.type "dict") (rDictT X.K) := by
  intro pins s σ H vs us Q I r h
  obtain ⟨a, ps, kvs, rfl, hq, hp, q⟩ := h
  rw [Vals.ref1 r]
  obtain ⟨its, rv, pl, hz⟩ := I.list hq
  have ei := refs_at rv
  subst ei
  rw [List.length_map] at hz
  obtain ⟨xs, kt, tp⟩ := prs_of I hp
  have l1 : kvs.length = xs.length := Paired.length kt
  have l2 : ps.length = xs.length := Paired.length tp
  let prs : List (Value × Value) := xs.map fun x => (Value.ref x.2.1, x.2.2)
  have lp : prs.length = xs.length := List.length_map _
  obtain ⟨o, n, ho, hcl, hd, hdat⟩ := pl
  have PA := PairArg.list (prog := X.prog) (w := X.w) a (ps.map Value.ref).toArray (fun j => ps.getD j 0) prs
  have at_ : ∀ j k v, prs[j]? = some (k, v) → ∃ (x : List Key × Addr × Value) (p : Addr), xs[j]? = some x ∧ ps[j]? = some p ∧ k = Value.ref x.2.1 ∧ v = x.2.2 ∧ s.heap.IsTuple p #[Value.ref x.2.1, x.2.2] := fun j k v e => by
    rw [List.getElem?_map] at e
    cases ex : xs[j]? with
    | none => rw [ex] at e; cases e
    | some x =>
      rw [ex] at e
      have e : (Value.ref x.2.1, x.2.2) = (k, v) := Option.some.inj e
      obtain ⟨p, hp1, hp2⟩ := paired_at tp ex
      exact ⟨x, p, ex, hp1, (congrArg Prod.fst e).symm, (congrArg Prod.snd e).symm, hp2⟩
  have ok : PlainSeq "list" s.heap a (ps.map Value.ref).toArray ∧ PairItems s.heap (ps.map Value.ref).toArray (fun j => ps.getD j 0) prs := by
    refine ⟨⟨o, n, ho, hcl, hd, hdat⟩, by rw [List.size_toArray, List.length_map, lp]; exact l2, fun j k v e => ?_⟩
    obtain ⟨x, p, e1, e2, rfl, rfl, e5⟩ := at_ j k v e
    have eg : ps.getD j 0 = p := by rw [List.getD_eq_getElem?_getD, e2]; rfl
    refine ⟨?_, ?_⟩
    · show (ps.map Value.ref).toArray[j]? = some (.ref (ps.getD j 0))
      rw [eg, List.getElem?_toArray, List.getElem?_map, e2]; rfl
    · show PairAt s.heap (ps.getD j 0) _ _
      rw [eg]; exact .inl e5
  refine call_dict_pairsH (knd := tupleKind (mixKind X.prog X.w)) (ps := xs) PA (I.ok.hd hc) hu ok ⟨lp.symm, fun i key v e => ?_⟩ (fun h' hk x hx => ?_) (by rw [lp, ← l2]; exact hz) fun h' tk hd' hk => ?_
  · obtain ⟨x, p, e1, e2, rfl, rfl, e5⟩ := at_ i key v e
    exact ⟨x.1, x.2.1, by rw [e1], rfl⟩
  · have k := (kt_is I kt x hx).2
    exact is_keeps k fun o e => hk _ _ (Nat.ne_of_lt (Heap.lt_size e)) (by simp) e
  · have hm : (s.heap.objs.size == sysModules) = false := beq_eq_false_iff_ne.mpr (Nat.ne_of_gt I.big)
    have hn : H s.heap.objs.size = none := I.hok.fresh (Nat.le_refl _)
    have hlen : (mergeT [] kvs).length ≤ sizeLine := by
      have e := length_mergeT kvs []
      rw [List.length_nil] at e
      omega
    obtain ⟨o', es, ep, h1, h2, h3, h4, _, h5⟩ := hd'
    refine ⟨.ref s.heap.objs.size, upd H s.heap.objs.size (.dT (mergeT [] kvs)), I.laid (t' := tk) (fun b o e => hk b o (by simp) e) (Nat.le_refl _) ⟨hlen, hm, storedAllH [] xs, (KT.merge kt .nil).keeps fun b ys e => ?_, o', es, ep, h1, h2, h3, h4, h5⟩, rfl, q _ hn⟩
    rw [upd_ne (ne_of_none e hn)]
    exact e
abbrev ltT (x y : Str) : Prop := x.cps.toList < y.cps.toList
theorem dataLt_ss (x y x' y' : Str) : dataLt (.tuple [.str x, .str y]) (.tuple [.str x', .str y']) = decide (ltT x x' ∨ (x = x' ∧ ltT y y')) := by
  rw [dataLt_pair (by simp [alike]) (by simp [alike]), dataLt_str, dataLt_str]
  simp only [PyData.eqv, beq_iff_eq]
  have irr : ∀ l : List Nat, ¬ l < l := fun l => List.lt_irrefl l
  by_cases h1 : x = x' <;> by_cases h2 : y = y' <;> simp [h1, h2, irr]
def encS (p : Addr × Str × Str) : PyData := .tuple [.str p.2.1, .str p.2.2]
/-- the order of pairs of texts -/
def leP (p q : Str × Str) : Prop := ¬ (ltT q.1 p.1 ∨ (q.1 = p.1 ∧ ltT q.2 p.2))
theorem leB (p q : Addr × Str × Str) : dataLe false encS p q = true ↔ leP p.2 q.2 := by
  rw [dataLe_eq]
  show (!dataLt (encS q) (encS p)) = true ↔ _
  unfold encS leP
  rw [dataLt_ss, Bool.not_eq_true', decide_eq_false_iff_not]
theorem str_ext {x y : Str} (h : x.cps.toList = y.cps.toList) : x = y := by
  cases x; cases y
  simp only at h
  congr
  exact Array.ext' h
theorem ltT_trans {x y z : Str} (a : ltT x y) (b : ltT y z) : ltT x z := List.lt_trans a b
theorem ltT_tri (x y : Str) : ltT x y ∨ x = y ∨ ltT y x := by
  rcases Classical.em (ltT x y) with h | h
  · exact .inl h
  rcases Classical.em (ltT y x) with k | k
  · exact .inr (.inr k)
  · exact .inr (.inl (str_ext (List.le_antisymm (List.not_lt.mp k) (List.not_lt.mp h))))
theorem ltT_irr (x : Str) : ¬ ltT x x := List.lt_irrefl _
theorem leP_trans {p q r : Str × Str} (a : leP p q) (b : leP q r) : leP p r := by
  unfold leP at *
  rintro (h | ⟨h, k⟩)
  · rcases ltT_tri p.1 q.1 with c | c | c
    · exact b (.inl (ltT_trans h c))
    · exact b (.inl (c ▸ h))
    · exact a (.inl c)
  · rcases ltT_tri p.1 q.1 with c | c | c
    · exact b (.inl (h ▸ c))
    · rcases ltT_tri p.2 q.2 with d | d | d
      · exact b (.inr ⟨h.trans c, ltT_trans k d⟩)
      · exact b (.inr ⟨h.trans c, d ▸ k⟩)
      · exact a (.inr ⟨c.symm, d⟩)
    · exact a (.inl c)
theorem leP_total (p q : Str × Str) : leP p q ∨ leP q p := by
  rcases Classical.em (leP p q) with h | h
  · exact .inl h
  · right
    unfold leP at *
    rintro (k | ⟨k, l⟩)
    · refine h ?_
      rintro (m | ⟨m, _⟩)
      · exact ltT_irr _ (ltT_trans k m)
      · rw [m] at k; exact ltT_irr _ k
    · refine h ?_
      rintro (m | ⟨m, n⟩)
      · rw [k] at m; exact ltT_irr _ m
      · exact ltT_irr _ (ltT_trans l n)
def keyP (p : Str × Str) : List Key := [.inr p.1, .inr p.2]
def rSortT : List V → Hp → VK → Prop := fun vs H Q => ∃ (a : Addr) (kvs : List (List Key × V)) (ps : List (Str × Str)), vs = [.ref a] ∧ Rd H a (.dT kvs) ∧ kvs.map (·.1) = ps.map keyP ∧ ps.length ≤ 1000 ∧
  ∀ (qs : List (Addr × Str × Str)) (p : Addr), (qs.map (·.2)).Perm ps → (qs.map (·.2)).Pairwise leP → (∀ q ∈ qs, H q.1 = some (.tup [.str q.2.1, .str q.2.2])) → H p = none → Q (.ref p) (upd H p (.lst (qs.map fun q => V.ref q.1)))
theorem each_of {α β : Type} {R : α → β → Prop} (f : β → α) (h : ∀ b, R (f b) b → R (f b) b) : ∀ (bs : List β), (∀ b ∈ bs, R (f b) b) → EachIs R (bs.map f) bs
  | [], _ => .nil
  | b :: bs, k => .cons (k b List.mem_cons_self) (each_of f h bs fun c hc => k c (List.mem_cons_of_mem _ hc))
theorem each_eq {β : Type} (f : β → Value) : ∀ {as : List Value} {bs : List β}, EachIs (fun v b => v = f b) as bs → as = bs.map f
  | _, _, .nil => rfl
  | _, _, .cons h t => by rw [List.map_cons, ← each_eq f t, h]
theorem vals_qs : ∀ qs : List (Addr × Str × Str), Vals (qs.map fun q => V.ref q.1) (qs.map fun b => Value.ref b.1)
  | [] => .nil
  | q :: qs => .cons (show RelV (V.ref q.1) (Value.ref q.1) from rfl) (vals_qs qs)
theorem cr_sortT (hc : X.calm = true) (hu : X.A.units + 64 < cLine) : CallR X (.builtin "sorted") rSortT := by
  intro pins s σ H vs us Q I r h
  obtain ⟨a, kvs, ps, rfl, ha, hks, few, q⟩ := h
  rw [Vals.ref1 r]
  obtain ⟨z, lo, xs, rel, dd⟩ := dt_rd I.hok ha
  obtain ⟨o, es, ep, ho, hex, hdat, hes, his, hnd⟩ := id dd
  have l1 : kvs.length = xs.length := Paired.length rel
  have l2 : kvs.length = ps.length := by
    have e := congrArg List.length hks
    rwa [List.length_map, List.length_map] at e
  have le : es.size = xs.length := size_of_entries hes
  -- the keys with their places
  let bs : List (Addr × Str × Str) := (xs.map fun x => x.2.1).zip ps
  have lb : bs.length = ps.length := by show (List.zip _ _).length = _; rw [List.length_zip, List.length_map]; omega
  have bat : ∀ (i : Nat) (b : Addr × Str × Str), bs[i]? = some b → ∃ x, xs[i]? = some x ∧ x.2.1 = b.1 ∧ ps[i]? = some b.2 ∧ H b.1 = some (.tup [.str b.2.1, .str b.2.2]) := fun i b e => by
    obtain ⟨e1, e2⟩ := List.getElem?_zip_eq_some.mp e
    rw [List.getElem?_map] at e1
    cases ex : xs[i]? with
    | none => rw [ex] at e1; cases e1
    | some x =>
      rw [ex] at e1
      have e1 : x.2.1 = b.1 := Option.some.inj e1
      obtain ⟨kv, hk, r1, r2, r3⟩ := paired_at rel ex
      have ek : (kvs.map (·.1))[i]? = some kv.1 := by rw [List.getElem?_map, hk]; rfl
      rw [hks, List.getElem?_map, e2] at ek
      have ek : keyP b.2 = kv.1 := Option.some.inj ek
      refine ⟨x, rfl, e1, e2, ?_⟩
      rw [← ek, e1] at r2
      exact r2
  have bmem : ∀ b ∈ bs, H b.1 = some (.tup [.str b.2.1, .str b.2.2]) := fun b hb => by
    obtain ⟨i, hi⟩ := List.mem_iff_getElem?.mp hb
    obtain ⟨_, _, _, _, h⟩ := bat i b hi
    exact h
  refine Calls.call_function_entry PyProof.Rows.kind_sorted PyProof.Rows.plain_sorted PyProof.Rows.entry_sorted (PyProof.Rows.args_sorted1 _) ?_
  unfold Builtin.«sorted»
  refine wpAny_bind (m := checkCount "sorted" 1 1 _) (wpAny_pure (wpAny_bind (kdu_collect (A := X.A.in1) (KdlSrc.rawDict (es := es) (ep := ep) lo) (I.ok.hd hc) ⟨o, ho, hex, hdat⟩ (by rw [le, ← l1]; exact z) fun h' tk acc hk hacc => ?_)))
  have eacc : acc.toList = bs.map fun b => Value.ref b.1 := by
    apply List.ext_getElem?
    intro i
    rw [Array.getElem?_toList, List.getElem?_map]
    cases e : acc[i]? with
    | none =>
      have h1 : acc.size ≤ i := Array.getElem?_eq_none_iff.mp e
      rw [List.getElem?_eq_none (by rw [lb, ← l2, l1, ← le, ← hacc.1]; exact h1)]
      rfl
    | some v =>
      obtain ⟨hi, hv⟩ := hacc.2 i v e
      have hib : i < bs.length := by rw [lb, ← l2, l1, ← le]; exact hi
      rw [List.getElem?_eq_getElem hib]
      obtain ⟨x, hx, e1, _, _⟩ := bat i bs[i] (List.getElem?_eq_getElem hib)
      have en := entry_at hes i
      rw [hx, Array.getElem?_eq_getElem hi] at en
      have en := Option.some.inj en
      rw [hv, en]
      show some (Value.ref x.2.1) = some (Value.ref bs[i].1)
      rw [e1]
  have I1 : Inv X pins σ H { s with heap := h', toks := tk } := I.kept (t' := tk) hk
  refine wpAny_bind (wpAny_newList ?_ (by rw [eacc, List.length_map, lb, sizeLine_eq]; omega))
  show wpAny _ _ _ _ _ { s with heap := h'.push (seqObj "list" acc.toList.toArray 0), toks := tk }
  have hoL : (h'.push (seqObj "list" acc.toList.toArray 0)).get? h'.objs.size = some (seqObj "list" acc.toList.toArray 0) := Heap.get?_push_size _ rfl
  have I2 : Inv X pins σ H { s with heap := h'.push (seqObj "list" acc.toList.toArray 0), toks := tk } := I1.kept (t' := tk) fun b u e => Heap.get?_push_of_some _ e
  have rd : ∀ b ∈ bs, ∃ as, Reads (h'.push (seqObj "list" acc.toList.toArray 0)) (.ref b.1) (encS b) as ∧ h'.objs.size ∉ as := fun b hb => by
    obtain ⟨its, rv, ⟨ot, hot, hct, nt, hdt⟩, _⟩ := I2.tuple (SqT.of (bmem b hb))
    obtain ⟨u, y, rfl, ⟨t1, rfl⟩, ⟨t2, rfl⟩⟩ := vals2 rv
    exact ⟨_, .tuple hot hct hdt (.cons (.str _ _) (.cons (.str _ _) .nil)), by simp⟩
  refine wpAny_bind (wpAny_holding (list_sort_data (s := { s with heap := h'.push (seqObj "list" acc.toList.toArray 0), toks := tk }) (R := fun v b => v = .ref b.1 ∧ b ∈ bs) (bs := bs) (enc := encS) hoL ?_ ?_ (.of fun b b' => by simp [encS, alike, alikeAll]) (.tuples fun b => ⟨_, _, rfl⟩) (by rw [lb, sizeLine_eq]; omega) (fun b hb => ?_) fun out ho' hs => ?_))
  · rw [eacc]; exact each_of _ (fun _ h => h) bs fun b hb => ⟨rfl, hb⟩
  · have rd' := each_of (R := fun v b => ∃ as, Reads (h'.push (seqObj "list" acc.toList.toArray 0)) v (encS b) as ∧ h'.objs.size ∉ as) (fun b : Addr × Str × Str => Value.ref b.1) (fun _ h => h) bs rd
    rw [← eacc] at rd'
    exact rd'
  · show X.A.in1.units + 1 + (encS b).depth < cLine
    have e : (encS b).depth ≤ 2 := by simp [encS, PyData.depth, PyData.depthAll]
    have e2 : X.A.in1.units = X.A.units + 1 := rfl
    omega
  · let qs := bs.mergeSort (dataLe false encS)
    have pq : qs.Perm bs := List.mergeSort_perm _ _
    have eo : out = qs.map fun b => Value.ref b.1 := each_eq _ (hs.mono fun v b h => h.1)
    have p2 : (qs.map (·.2)).Perm ps := by
      have e := pq.map (·.2)
      have m2 : bs.map (·.2) = ps := List.map_snd_zip (by rw [List.length_map]; omega)
      rw [m2] at e
      exact e
    have so : (qs.map (·.2)).Pairwise leP := by
      rw [List.pairwise_map]
      have w := List.pairwise_mergeSort (le := dataLe false encS) (fun a b c h k => (leB a c).mpr (leP_trans ((leB a b).mp h) ((leB b c).mp k))) (fun a b => by
        rcases leP_total a.2 b.2 with h | h
        · rw [(leB a b).mpr h]; rfl
        · rw [(leB b a).mpr h, Bool.or_true]) bs
      exact w.imp fun h => (leB _ _).mp h
    have hn : H h'.objs.size = none := I1.hok.fresh (Nat.le_refl _)
    obtain ⟨c, hcc⟩ := sortedHeap_at (vs := acc.toList) (out := out.toArray) hoL
    have lq : (qs.map fun q => V.ref q.1).length ≤ sizeLine := by rw [List.length_map, pq.length_eq, lb, sizeLine_eq]; omega
    refine wpAny_pure ⟨_, rfl, ?_⟩
    refine ⟨.ref h'.objs.size, upd H h'.objs.size (.lst (qs.map fun q => V.ref q.1)), I1.laid (o := .lst (qs.map fun q => V.ref q.1)) (t' := tk) (h' := sortedHeap (h'.push (seqObj "list" acc.toList.toArray 0)) h'.objs.size acc.toList out.toArray) (fun b u e => ?_) (Nat.le_refl _) ⟨lq, out, c, ?_, hcc⟩, rfl, q qs h'.objs.size p2 so (fun q' hq' => bmem q' (pq.mem_iff.mp hq')) hn⟩
    · have hlt := Heap.lt_size e
      rw [sortedHeap_old (Nat.ne_of_lt hlt) (by rw [Heap.size_push]; exact Nat.lt_succ_of_lt hlt)]
      exact Heap.get?_push_of_some _ e
    · rw [eo]
      exact vals_qs qs
end
end DTp
set_option Elab.async false
set_option linter.all false
set_option maxRecDepth 100000
set_option maxHeartbeats 2000000
namespace DTp
open PySem PySem.Spec PySem.W PyProof.Rows L2
def eqTx : Value → Value → Bool
  | .str x _, .str y _ => decide (x = y)
  | _, _ => false
/-- the entry's value is that of the other dict -/
def hitT (kb : List (List Key × Addr × Value)) (x : List Key × Addr × Value) : Bool := match atKey kb x.1 with
  | some p => eqTx x.2.2 p.2
  | none => false
section
variable {prog : Program} {w : World} {A : Around} {E : Value → Shared → Prop} {s : Shared}
abbrev TkK (prog : Program) (w : World) := tupleKind (mixKind prog w)
theorem range_next {n i x : Nat} {rest : List Nat} (e : x :: rest = List.range' i (n - i)) : x = i ∧ i < n ∧ rest = List.range' (i + 1) (n - (i + 1)) := by
  rcases Nat.lt_or_ge i n with h | h
  · have z : n - i = n - (i + 1) + 1 := by omega
    rw [z, List.range'_succ] at e
    injection e with e1 e2
    exact ⟨e1, h, e2⟩
  · rw [Nat.sub_eq_zero_of_le h] at e
    cases e
theorem same_dT {nm : String} {a b : Addr} {ka kb : List (List Key × Addr × Value)} {Q : Bool → Shared → Prop} (hu : A.units < cLine) (ha : (a == sysModules) = false) (hb : (b == sysModules) = false) (da : s.heap.DictOfH (TkK prog w) a ka) (db : s.heap.DictOfH (TkK prog w) b kb)
    (ta : ∀ x ∈ ka, ∃ y t, x.2.2 = .str y t) (tb : ∀ x ∈ kb, ∃ y t, x.2.2 = .str y t) (h : Q (ka.length == kb.length && ka.all (hitT kb)) s) : wpAny (model prog w) A (Builtin.Dict.samePairs nm a b) Q E s := by
  obtain ⟨oa, es, ep, hoa, _, hda, hea, hia, hna⟩ := da
  obtain ⟨ob, es', ep', hob, _, hdb, heb, hib, hnb⟩ := db
  have la : es.size = ka.length := size_of_entries hea
  have lb : es'.size = kb.length := size_of_entries heb
  unfold Builtin.Dict.samePairs Builtin.Dict.showsAll
  rw [if_neg (show ¬ (a == sysModules) = true by rw [ha]; exact Bool.false_ne_true), if_neg (show ¬ (b == sysModules) = true by rw [hb]; exact Bool.false_ne_true)]
  refine wpAny_bind (wpAny_pure (wpAny_bind (wpAny_pure (wpAny_bind (wpAny_dictEntries hoa hda ?_)))))
  dsimp only
  refine wpAny_bind (wpAny_dictEntries hob hdb ?_)
  rcases Classical.em (ka.length = kb.length) with hsz | hsz
  · have hz : es.size = es'.size := by rw [la, lb, hsz]
    rw [if_neg (by rw [hz]; simp)]
    have h' : Q (ka.all (hitT kb)) s := by simpa [hsz] using h
    refine wpAny_bind (wpAny_dictEpoch hoa hda (wpAny_bind ?_))
    rw [Std.Legacy.Range.forIn_eq_forIn_range']
    simp only [Std.Legacy.Range.size, Nat.sub_zero, Nat.add_sub_cancel, Nat.div_one]
    refine wpAny_forIn_list _ (fun rest q s' => s' = s ∧ q = (none, ()) ∧ ∃ i, rest = List.range' i (es.size - i) ∧ i ≤ es.size ∧ Q ((ka.drop i).all (hitT kb)) s) _ ?_ ?_ _ _ ⟨rfl, rfl, 0, by simp, Nat.zero_le _, h'⟩
    · rintro x rest q s' ⟨rfl, rfl, i, hr, hi, hq⟩
      obtain ⟨rfl, hlt, hrest⟩ := range_next hr
      refine wpAny_bind (wpAny_dictEntries hoa hda ?_)
      have hk : x < ka.length := la ▸ hlt
      have en : es[x]? = some (entryOfKey (TkK prog w) ka[x]) := by rw [entry_at hea, List.getElem?_eq_getElem hk]; rfl
      have hd : ka.drop x = ka[x] :: ka.drop (x + 1) := List.drop_eq_getElem_cons hk
      rw [hd, List.all_cons] at hq
      rw [en]
      generalize hx : ka[x] = e at hq
      have me : e ∈ ka := hx ▸ List.getElem_mem hk
      obtain ⟨y, ty, ey⟩ := ta e me
      show wpAny _ _ (holding [Value.ref e.2.1, e.2.2] _ >>= _) _ _ _
      refine wpAny_bind (wpAny_holding ?_)
      show wpAny _ _ (dictFind b (.ref e.2.1) ((TkK prog w).hash e.1) >>= _) _ _ _
      refine wpAny_bind (wpAny_dictFind_heap (knd := TkK prog w) hu (hia e me) hob hdb heb hib hnb (fun hno => ?_) fun j p hj => ?_)
      · have hm : hitT kb e = false := by unfold hitT; rw [atKey_none_of_get hno]
        rw [hm, Bool.false_and] at hq
        refine wpAny_pure ?_
        show wpAny _ _ (if (!false) = true then _ else _) _ _ _
        rw [if_pos (by decide)]
        exact wpAny_pure (wpAny_pure hq)
      · refine wpAny_bind (wpAny_dictEntries hob hdb ?_)
        rw [entry_at heb, hj]
        obtain ⟨z, tz, ez⟩ := tb _ (List.mem_of_getElem? hj)
        have hm : hitT kb e = decide (y = z) := by
          unfold hitT
          rw [atKey_of_get hnb hj, ey]
          show eqTx (.str y ty) p.2 = _
          rw [show p.2 = Value.str z tz from ez]
          rfl
        rw [hm] at hq
        show wpAny _ _ (holding [p.2] (eqBool e.2.2 p.2)) _ _ _
        rw [ey, show p.2 = Value.str z tz from ez]
        refine wpAny_holding (wpAny_eqBool_str ?_)
        cases hyz : decide (y = z) with
        | false =>
          rw [hyz, Bool.false_and] at hq
          show wpAny _ _ (if (!false) = true then _ else _) _ _ _
          rw [if_pos (by decide)]
          exact wpAny_pure (wpAny_pure hq)
        | true =>
          rw [hyz, Bool.true_and] at hq
          show wpAny _ _ (if (!true) = true then _ else _) _ _ _
          rw [if_neg (by decide)]
          refine wpAny_bind (wpAny_dictEpoch hoa hda ?_)
          rw [if_neg (by simp)]
          exact wpAny_pure ⟨rfl, rfl, x + 1, hrest, hlt, hq⟩
    · rintro q s' ⟨rfl, rfl, i, hr, hi, hq⟩
      have hin : i = es.size := by
        rcases Nat.lt_or_ge i es.size with k | k
        · have z : es.size - i = es.size - (i + 1) + 1 := by omega
          rw [z, List.range'_succ] at hr
          cases hr
        · omega
      rw [hin, la, List.drop_length] at hq
      exact wpAny_pure hq
  · have hz : ¬ es.size = es'.size := by rw [la, lb]; exact hsz
    rw [if_pos (by simpa using hz)]
    have hf : (ka.length == kb.length) = false := by simpa using hsz
    rw [hf, Bool.false_and] at h
    exact wpAny_bind (wpAny_rule (wpAny_pure h))
theorem eq_dT {a b : Addr} {ka kb : List (List Key × Addr × Value)} {Q : Value → Shared → Prop} (hu : A.units + 1 < cLine) (ha : (a == sysModules) = false) (hb : (b == sysModules) = false) (da : s.heap.DictOfH (TkK prog w) a ka) (db : s.heap.DictOfH (TkK prog w) b kb)
    (ta : ∀ x ∈ ka, ∃ y t, x.2.2 = .str y t) (tb : ∀ x ∈ kb, ∃ y t, x.2.2 = .str y t) (h : Q (.bool (ka.length == kb.length && ka.all (hitT kb))) s) : wpAny (model prog w) A (compareOp .Eq (.ref a) (.ref b)) Q E s := by
  refine wpAny_richCompare_same_room (op := .Eq) da.typeIs db.typeIs PySem.F.slot_dict_eq (wpAny_call_entry PySem.F.slot_dict_eq da.typeIs PySem.F.entry_dict_eq ?_ (PySem.F.args_dict_eq_2 _ _)) (by omega)
  refine wpAny_bind (m := Builtin.Dict.dictSlotArgs "__eq__" ⟨[.ref a, .ref b], []⟩) ?_
  unfold Builtin.Dict.dictSlotArgs
  refine wpAny_bind (wpAny_notOrdered_dict da.typeIs (wpAny_pure ?_))
  refine wpAny_bind (wpAny_isInstance (T := "dict") db.typeIs PySem.F.sub_dict_dict ?_)
  simp only [Bool.not_true, Bool.false_eq_true, if_false]
  refine wpAny_bind (wpAny_pure (wpAny_bind (wpAny_pure (wpAny_bind (same_dT hu ha hb da db ta tb (wpAny_pure ⟨_, rfl, ?_, ?_⟩))))))
  · exact fun x => nomatch x
  · simpa using h
end
/-- whether two dicts with texts as values are the same, whatever the order -/
def sameT (ks ls : List (List Key × V)) : Bool := ks.length == ls.length && ks.all fun p => decide (valV ls p.1 = some p.2)
def TxV (kvs : List (List Key × V)) : Prop := ∀ p ∈ kvs, ∃ x, p.2 = .str x
section
variable {X : Cx}
theorem kt_txt {H : Hp} : ∀ {kvs : List (List Key × V)} {xs : List (List Key × Addr × Value)}, KT H kvs xs → TxV kvs → ∀ x ∈ xs, ∃ y t, x.2.2 = .str y t
  | _, _, .cons (a := p) r t, h, x, hx => by
    rcases List.mem_cons.mp hx with rfl | hx
    · obtain ⟨y, e⟩ := h p List.mem_cons_self
      have q := r.2.2
      rw [e] at q
      obtain ⟨t, e⟩ := q
      exact ⟨y, t, e⟩
    · exact kt_txt t (fun q hq => h q (List.mem_cons_of_mem _ hq)) x hx
theorem hit_all {H : Hp} {ls : List (List Key × V)} {ys : List (List Key × Addr × Value)} (rl : KT H ls ys) (hl : TxV ls) : ∀ {ks : List (List Key × V)} {xs : List (List Key × Addr × Value)}, KT H ks xs → TxV ks → xs.all (hitT ys) = ks.all fun p => decide (valV ls p.1 = some p.2)
  | _, _, .nil, _ => rfl
  | _, _, .cons (a := p) (b := q) r t, h => by
    rw [List.all_cons, List.all_cons, hit_all rl hl t fun q hq => h q (List.mem_cons_of_mem _ hq)]
    congr 1
    obtain ⟨x, ex⟩ := h p List.mem_cons_self
    have r2 := r.2.2
    rw [ex] at r2
    obtain ⟨tx, eq⟩ := r2
    have rv := rl.val p.1
    unfold hitT
    rw [← r.1, ex]
    cases ea : atKey ys p.1 with
    | none =>
      rw [ea] at rv
      cases ev : valV ls p.1 with
      | none => simp
      | some v => rw [ev] at rv; exact rv.elim
    | some a =>
      rw [ea] at rv
      cases ev : valV ls p.1 with
      | none => rw [ev] at rv; exact rv.elim
      | some v =>
        rw [ev] at rv
        have mv : ∃ p' ∈ ls, p'.2 = v := by
          unfold valV at ev
          obtain ⟨p', h1, h2⟩ := Option.map_eq_some_iff.mp ev
          exact ⟨p', List.mem_of_find?_eq_some h1, h2⟩
        obtain ⟨p', m1, m2⟩ := mv
        obtain ⟨y, ey⟩ := hl p' m1
        rw [m2] at ey
        subst ey
        obtain ⟨ty, et⟩ := rv
        have et : a.2 = Value.str y ty := et
        show eqTx q.2.2 a.2 = _
        rw [eq, et]
        show decide (x = y) = _
        by_cases e : x = y
        · simp [e]
        · have e' : ¬ y = x := fun z => e z.symm
          simp [e, e']
def rEqT (neg : Bool) : R2 := fun x y H Q => ∃ a b ks ls, x = .ref a ∧ y = .ref b ∧ Rd H a (.dT ks) ∧ Rd H b (.dT ls) ∧ TxV ks ∧ TxV ls ∧ Q (.bl (if neg = true then !sameT ks ls else sameT ks ls)) H
theorem sameT_eq {H : Hp} {ks ls : List (List Key × V)} {xs ys : List (List Key × Addr × Value)} (rk : KT H ks xs) (rl : KT H ls ys) (hk : TxV ks) (hl : TxV ls) : (xs.length == ys.length && xs.all (hitT ys)) = sameT ks ls := by
  unfold sameT
  rw [hit_all rl hl rk hk, ← Paired.length rk, ← Paired.length rl]
theorem op_eqT (hu : X.A.units + 1 < cLine) : OpR X (compareOp .Eq) (rEqT false) := by
  intro pins s σ H x y v u Q I rx ry h
  obtain ⟨a, b, ks, ls, rfl, rfl, ea, eb, hk, hl, q⟩ := h
  cases rx; cases ry
  obtain ⟨_, ya, va, ra, da⟩ := dt_rd I.hok ea
  obtain ⟨_, yb, vb, rb, db⟩ := dt_rd I.hok eb
  refine eq_dT hu ya yb da db (kt_txt ra hk) (kt_txt rb hl) ?_
  rw [sameT_eq ra rb hk hl]
  exact ⟨.bl (sameT ks ls), H, I, rfl, q⟩
end
end DTp
set_option Elab.async false
set_option linter.all false
set_option maxRecDepth 100000
namespace GC
open PySem PySem.Spec PyProof.Rows L2
abbrev NoE : Value → Shared → Prop := fun _ _ => False
section
variable {prog : Program} {w : World} {A : Around} {R : Result → Shared → Prop} {s : Shared} {env : Env} {it acc : Value}
/-- what the last clause of a comprehension does with an item that passed the tests -/
def Emit (prog : Program) (w : World) (A : Around) (env : Env) (acc : Value) : Expr → (Shared → Prop) → Shared → Prop
  | .ListComp elt _ _ _, Q, s => wpAny (model prog w) A (eval elt env) (fun x s => wpAny (model prog w) A (call (.builtin "list.append") [acc, x]) (fun _ s => Q s) NoE s) NoE s
  | .SetComp elt _ _ _, Q, s => wpAny (model prog w) A (eval elt env) (fun x s => wpAny (model prog w) A (call (.builtin "set.add") [acc, x]) (fun _ s => Q s) NoE s) NoE s
  | .DictComp k v _ _ _, Q, s => ∃ D, acc = .ref D ∧ wpAny (model prog w) A (eval k env) (fun x s => wpAny (model prog w) A (eval v env) (fun y s => wpAny (model prog w) A (dictSet D x y) (fun _ s => Q s) NoE s) NoE s) NoE s
  | _, _, _ => False
/-- what one turn of a clause comes to, D what follows the tests -/
def Turned (prog : Program) (w : World) (A : Around) (env : Env) (it : Value) (tg : Expr) (ifs : List Expr) (Done : Shared → Prop) (Dp : (Shared → Prop) → Shared → Prop) (Nx : Shared → Prop) (s : Shared) : Prop :=
  wpAny (model prog w) A (pyNext it) (fun r s₁ => match r with
    | none => Done s₁
    | some v => wpAny (model prog w) A (letOwnedTupleGo tg it v) (fun _ s₂ => wpAny (model prog w) A (assign tg env v) (fun _ s₃ =>
        wpAny (model prog w) A (forIn ifs true fun c r => if r = true then do let ok ← isTrue c env (eval c env); pure (ForInStep.yield ok) else pure (ForInStep.yield r)) (fun ok s₄ => if ok = true then Dp Nx s₄ else Nx s₄) NoE s₃) NoE s₂) NoE s₁) NoE s
def Deep (prog : Program) (w : World) (A : Around) (env : Env) (acc : Value) (e : Expr) (d : Nat) (g : Comprehension) (Nx : Shared → Prop) (s : Shared) : Prop :=
  wpAny (model prog w) A (eval g.iter env) (fun x s => wpAny (model prog w) A (pyIter x) (fun it1 s => codeAny (model prog w) A (.compStart e (d + 1) it1 acc env) (fun r s' => match r with
    | .ok _ => Nx s'
    | .error _ => False) s) NoE s) NoE s
inductive Kd : Expr → List Comprehension → Prop
  | l (elt gens scope pos) : Kd (.ListComp elt gens scope pos) gens
  | s (elt gens scope pos) : Kd (.SetComp elt gens scope pos) gens
  | d (k v gens scope pos) : Kd (.DictComp k v gens scope pos) gens
theorem nf {α : Type} {M : Model} {t : Sem α} {Q : α → Shared → Prop} {E : Value → Shared → Prop} (h : wpAny M A t Q NoE s) : wpAny M A t Q E s := wpAny_mono h (fun _ _ q => q) fun _ _ z => z.elim
theorem loop_last {e : Expr} {gens : List Comprehension} {d : Nat} {tg iter : Expr} {ifs : List Expr} (K : Kd e gens) (hd : gens[d]? = some ⟨tg, iter, ifs, 0⟩) (hl : gens[d + 1]? = none) (I : Nat → Shared → Prop)
    (turn : ∀ n s, I n s → Turned prog w A env it tg ifs (R (.ok .next)) (Emit prog w A env acc e) (fun s' => ∃ m, m < n ∧ I m s') s) (n : Nat) (h : I n s) : codeAny (model prog w) A (.compLoop e d it acc env) R s := by
  cases K
  all_goals
    refine codeAny_loop rfl I (fun n s hI => ?_) n h
    refine wpAny_noted (M := model prog w) ?_
    unfold compTurn; dsimp only; rw [hd, hl]; dsimp only
    refine wpAny_bind (wpAny_standAt (wpAny_bind (wpAny_mono (turn n s hI) (fun r s₁ h₁ => ?_) fun _ _ z => z.elim)))
    cases r with
    | none => exact wpAny_pure h₁
    | some v =>
      refine wpAny_bind (wpAny_mono h₁ (fun _ s₂ h₂ => wpAny_bind (wpAny_mono h₂ (fun _ s₃ h₃ => wpAny_bind (wpAny_mono h₃ (fun ok s₄ h₄ => ?_) fun _ _ z => z.elim)) fun _ _ z => z.elim)) fun _ _ z => z.elim)
      cases ok with
      | false => exact wpAny_pure ⟨rfl, h₄⟩
      | true =>
        first
          | exact wpAny_bind (wpAny_bind (wpAny_mono h₄ (fun x s₄ h₄ => wpAny_bind (wpAny_mono h₄ (fun _ s₅ h₅ => wpAny_pure (wpAny_pure ⟨rfl, h₅⟩)) fun _ _ z => z.elim)) fun _ _ z => z.elim))
          | exact wpAny_bind (wpAny_bind (wpAny_mono h₄ (fun x s₄ h₄ => wpAny_bind (wpAny_standAt (wpAny_bind (wpAny_mono h₄ (fun _ s₅ h₅ => wpAny_pure (wpAny_pure ⟨rfl, h₅⟩)) fun _ _ z => z.elim)))) fun _ _ z => z.elim))
          | (obtain ⟨D, rfl, h₅⟩ := h₄
             exact wpAny_bind (wpAny_bind (wpAny_mono h₅ (fun x s₄ h₄ => wpAny_bind (wpAny_holding (wpAny_mono h₄ (fun y s₅ h₅ => wpAny_bind (wpAny_standAt (wpAny_holding (wpAny_mono h₅ (fun _ s₆ h₆ => wpAny_pure ⟨rfl, h₆⟩) fun _ _ z => z.elim)))) fun _ _ z => z.elim))) fun _ _ z => z.elim)))
theorem loop_more {e : Expr} {gens : List Comprehension} {d : Nat} {tg iter tg1 iter1 : Expr} {ifs ifs1 : List Expr} (K : Kd e gens) (hd : gens[d]? = some ⟨tg, iter, ifs, 0⟩) (hl : gens[d + 1]? = some ⟨tg1, iter1, ifs1, 0⟩) (hs : ∀ x, foldedSetIterable iter1 env x = pure x) (I : Nat → Shared → Prop)
    (turn : ∀ n s, I n s → Turned prog w A env it tg ifs (R (.ok .next)) (Deep prog w A env acc e d ⟨tg1, iter1, ifs1, 0⟩) (fun s' => ∃ m, m < n ∧ I m s') s) (n : Nat) (h : I n s) : codeAny (model prog w) A (.compLoop e d it acc env) R s := by
  cases K
  all_goals
    refine codeAny_loop rfl I (fun n s hI => ?_) n h
    refine wpAny_noted (M := model prog w) ?_
    unfold compTurn; dsimp only; rw [hd, hl]; dsimp only
    refine wpAny_bind (wpAny_standAt (wpAny_bind (wpAny_mono (turn n s hI) (fun r s₁ h₁ => ?_) fun _ _ z => z.elim)))
    cases r with
    | none => exact wpAny_pure h₁
    | some v =>
      refine wpAny_bind (wpAny_mono h₁ (fun _ s₂ h₂ => wpAny_bind (wpAny_mono h₂ (fun _ s₃ h₃ => wpAny_bind (wpAny_mono h₃ (fun ok s₄ h₄ => ?_) fun _ _ z => z.elim)) fun _ _ z => z.elim)) fun _ _ z => z.elim)
      cases ok with
      | false => exact wpAny_pure ⟨rfl, h₄⟩
      | true =>
        unfold Deep at h₄
        refine wpAny_bind (wpAny_mono h₄ (fun x s₅ h₅ => ?_) fun _ _ z => z.elim)
        refine wpAny_bind (wpAny_standAt (wpAny_bind (wpAny_of_eq (hs x) (wpAny_bind (wpAny_holding (wpAny_mono h₅ (fun it1 s₆ h₆ => ?_) fun _ _ z => z.elim))))))
        refine wpAny_bind (wpAny_runOwn ?_)
        rw [Around.mark_none]
        refine codeAny_mono h₆ fun r s' hr => ?_
        cases r with
        | ok f =>
          first
            | exact wpAny_pure ⟨rfl, hr⟩
            | exact wpAny_bind (wpAny_pure (wpAny_pure ⟨rfl, hr⟩))
        | error e => exact hr.elim
theorem start_any {e : Expr} {gens : List Comprehension} {d : Nat} {tg iter : Expr} {ifs : List Expr} (K : Kd e gens) (hd : gens[d]? = some ⟨tg, iter, ifs, 0⟩) (h0 : codeAny (model prog w) A (.compLoop e d it acc env) R s)
    (h : wpAny (model prog w) A (pyIter it) (fun it' s' => codeAny (model prog w) A (.compLoop e d it' acc env) R s') NoE s) : codeAny (model prog w) A (.compStart e d it acc env) R s := by
  cases K
  all_goals
    refine codeAny_of_tree ?_
    refine wpAny_notedAt (M := model prog w) ?_
    unfold compStart clausesOf
    rw [hd]
    refine wpAny_bind (wpAny_askSetting (wpAny_ite ?_))
    split
    · first
        | exact wpAny_bind (wpAny_pure (wpAny_pure (And.intro rfl h0)))
        | exact wpAny_pure (And.intro rfl h0)
    · first
        | exact wpAny_bind (wpAny_rule (wpAny_bind (wpAny_standAt (wpAny_bind (wpAny_mono h (fun it' s' h' => wpAny_pure (And.intro rfl h')) fun _ _ x => x.elim)))))
        | (refine wpAny_bind (wpAny_rule ?_); show wpAny _ _ (standAt iter.pos >>= _) _ _ s; exact wpAny_bind (wpAny_standAt (wpAny_bind (wpAny_mono h (fun it' s' h' => wpAny_pure (And.intro rfl h')) fun _ _ x => x.elim))))
end
/-- one clause: target, source, tests, with their readings and the places that the target stores to -/
structure Cl where
  tg : Expr
  iter : Expr
  ifs : List Expr
  wi : TI
  g : TG
  tt : TT
  vs : List Nat
def Cl.c (c : Cl) : Comprehension := ⟨c.tg, c.iter, c.ifs, 0⟩
/-- a clause's loop from the heap H: W by the turn and a measure; D what an item that passes comes to; End what stands at the end -/
def Lp (J : It) (g : TG) (tt : TT) (vs : List Nat) (D : L2.St → Hp → (Hp → Prop) → Prop) (σ : L2.St) (H : Hp) (End : Hp → Prop) : Prop :=
  ∃ W : Nat → Nat → Hp → Prop, (∃ m, W 0 m H) ∧ ∀ i m H, W i m H → (J.stop i H ∧ End H) ∨ (J.go i H ∧ ∃ Nx : Hp → Prop, (∀ H', Nx H' → ∃ m', m' < m ∧ W (i + 1) m' H') ∧
    ∀ x H', J.yld i H x H' → g x (wipe σ vs) H' fun σ2 H2 => wipe σ2 vs = wipe σ vs ∧ tt σ2 H2 fun b H3 => if b = true then D σ2 H3 Nx else Nx H3)
/-- what stands behind a clause's tests: the further clauses, at last the item's taking -/
def Rest (em : L2.St → Hp → (Hp → Prop) → Prop) : List Cl → L2.St → Hp → (Hp → Prop) → Prop
  | [], σ, H, Nx => em σ H Nx
  | c :: cs, σ, H, Nx => c.wi σ H fun J H1 => Lp J c.g c.tt c.vs (Rest em cs) σ H1 Nx
section
variable {X : Cx}
/-- what holds of each clause within the block B -/
structure ClOk (B : Cx) (c : Cl) : Prop where
  pg : PG B c.tg c.g
  pt : PTs B c.ifs c.tt
  hs : ∀ x, foldedSetIterable c.iter B.env x = pure x
abbrev EmOk (B : Cx) (acc : Value) (e : Expr) (em : L2.St → Hp → (Hp → Prop) → Prop) : Prop :=
  ∀ (pins : List (Addr × Obj)) (s : Shared) (σ : L2.St) (H : Hp) (Nx : Hp → Prop), Inv B pins σ H s → em σ H Nx → Emit B.prog B.w B.A B.env acc e (fun s' => ∃ H', Inv B pins σ H' s' ∧ Nx H') s
abbrev Knows (τ σ : L2.St) : Prop := τ.length = σ.length ∧ ∀ (j : Nat) v, τ[j]? = some (some v) → σ[j]? = some (some v)
theorem Knows.refl (σ : L2.St) : Knows σ σ := ⟨rfl, fun _ _ h => h⟩
theorem wipe_knows (σ : L2.St) (vs : List Nat) : Knows (wipe σ vs) σ := ⟨wipe_length _ _, fun _ _ e => (wipe_some e).1⟩
theorem wipe_wipe {σ : L2.St} {vs vs1 : List Nat} (h : ∀ i ∈ vs1, i ∈ vs) : Knows (wipe σ vs) (wipe σ vs1) := ⟨(wipe_length _ _).trans (wipe_length _ _).symm, fun j v e => by
  obtain ⟨e1, e2⟩ := wipe_some e
  rw [wipe_out fun z => e2 (h j z)]
  exact e1⟩
theorem Knows.trans {a b c : L2.St} (h : Knows a b) (k : Knows b c) : Knows a c := ⟨h.1.trans k.1, fun j v e => k.2 j v (h.2 j v e)⟩
/-- one turn of a clause -/
theorem turn_ok {B : Cx} {tg : Expr} {ifs : List Expr} {g : TG} {tt : TT} {vs : List Nat} {D : L2.St → Hp → (Hp → Prop) → Prop} {Dp : (Shared → Prop) → Shared → Prop} {σ : L2.St} {J : It} {fp : List Addr} {it : Addr} {tn : Nat → Heap → Prop} {End : Hp → Prop} {R : Result → Shared → Prop} {pins : List (Addr × Obj)}
    (hc : B.calm = true) (b1 : B.xe = NoE) (pg : PG B tg g) (pt : PTs B ifs tt) (T : Turn B.prog B.w B.K tg J fp it tn) (ffp : ∀ b ∈ fp, ∀ H', H' b = none → FpOk B pins H' b) (mono : ∀ {Q Q' : Shared → Prop} {s}, (∀ s', Q s' → Q' s') → Dp Q s → Dp Q' s)
    (deep : ∀ (pins' : List (Addr × Obj)) (s : Shared) (σ2 : L2.St) (H3 : Hp) (Nx : Hp → Prop), Inv B pins' σ2 H3 s → D σ2 H3 Nx → Dp (fun s' => ∃ σ9 H', Inv B pins' σ9 H' s' ∧ Knows (wipe σ2 vs) σ9 ∧ Nx H') s)
    {W : Nat → Nat → Hp → Prop} (turn : ∀ i m H, W i m H → (J.stop i H ∧ End H) ∨ (J.go i H ∧ ∃ Nx : Hp → Prop, (∀ H', Nx H' → ∃ m', m' < m ∧ W (i + 1) m' H') ∧
      ∀ x H', J.yld i H x H' → g x (wipe σ vs) H' fun σ2 H2 => wipe σ2 vs = wipe σ vs ∧ tt σ2 H2 fun b H3 => if b = true then D σ2 H3 Nx else Nx H3))
    (hR : ∀ s' H', Inv B pins (wipe σ vs) H' s' → End H' → R (.ok .next) s') (n : Nat) (s : Shared) (hI : ∃ i H', Inv B pins (wipe σ vs) H' s ∧ tn i s.heap ∧ (∀ b ∈ fp, H' b = none) ∧ W i n H') :
    Turned B.prog B.w B.A B.env (.ref it) tg ifs (R (.ok .next)) Dp (fun s' => ∃ m, m < n ∧ ∃ i H', Inv B pins (wipe σ vs) H' s' ∧ tn i s'.heap ∧ (∀ b ∈ fp, H' b = none) ∧ W i m H') s := by
  obtain ⟨i, H5, I5, st5, n5, w5⟩ := hI
  have stat : ∀ {H' : Hp}, (∀ b ∈ fp, H' b = none) → ∀ b ∈ fp, FpOk B pins H' b := fun hn b hb => ffp b hb _ (hn b hb)
  unfold Turned
  rcases turn i n H5 w5 with ⟨stop, qq⟩ | ⟨go, Nx, hNx, step⟩
  · refine thnF (T.done B rfl rfl rfl hc i pins s _ H5 NoE I5 (stat n5) st5 stop) fun r s6 ⟨hr, I6⟩ => ?_
    subst hr
    exact hR s6 H5 I6 qq
  · refine thnF (T.item B rfl rfl rfl hc i pins s _ H5 NoE I5 (stat n5) st5 go) fun r s6 ⟨u, hr, h6⟩ => ?_
    subst hr
    refine thnF h6 fun _ s7 ⟨x, H7, I7, r7, y7, st7, n7⟩ => ?_
    have I7' := I7.pinned (stat n7) (T.obj _ _ st7)
    have run1 := pg.run _ s7 _ H7 x u _ I7' r7 (step x H7 y7)
    rw [b1] at run1
    refine thnF run1 fun _ s8 ⟨σ8, H8, I8, hw8, q8⟩ => ?_
    have run2 := pt.run _ s8 σ8 H8 _ I8 q8
    rw [b1] at run2
    refine thnF run2 fun b s9 ⟨H9, I9, q9⟩ => ?_
    have fin : ∀ {σ9 : L2.St} {s' : Shared} {H' : Hp}, Inv B (pins ++ pinsAt fp s7.heap) σ9 H' s' → Knows (wipe σ vs) σ9 → Nx H' → ∃ m, m < n ∧ ∃ i H', Inv B pins (wipe σ vs) H' s' ∧ tn i s'.heap ∧ (∀ b ∈ fp, H' b = none) ∧ W i m H' := fun {σ9 s' H'} I' kn nx => by
      obtain ⟨m', hm, w'⟩ := hNx H' nx
      have pin' : ∀ b ∈ fp, ∀ o, s7.heap.get? b = some o → s'.heap.get? b = some o ∧ H' b = none := fun b hb o e =>
        let z := I'.pin (b, o) (List.mem_append_right _ (List.mem_append_right _ (mem_pinsAt hb e))); ⟨z.1, z.2.1⟩
      refine ⟨m', hm, i + 1, H', (I'.unpinned (pins := pins)).weak kn.1 kn.2, T.keep _ _ _ st7 fun b hb o e => (pin' b hb o e).1, fun b hb => ?_, w'⟩
      obtain ⟨o, e, _⟩ := T.obj _ _ st7 b hb
      exact (pin' b hb o e).2
    have k8 : Knows (wipe σ vs) σ8 := by
      rw [← hw8]
      exact wipe_knows σ8 vs
    cases b with
    | false => exact fin I9 k8 q9
    | true =>
      refine mono (fun s' h => ?_) (deep _ s9 σ8 H9 Nx I9 q9)
      obtain ⟨σ9, H', I', kn, nx⟩ := h
      rw [hw8] at kn
      exact fin I' kn nx
theorem emit_mono {prog : Program} {w : World} {A : Around} {env : Env} {acc : Value} {e : Expr} {Q Q' : Shared → Prop} {s : Shared} (h : ∀ s', Q s' → Q' s') (k : Emit prog w A env acc e Q s) : Emit prog w A env acc e Q' s := by
  unfold Emit at k ⊢
  split at k
  · exact wpAny_mono k (fun _ _ z => wpAny_mono z (fun _ _ q => h _ q) fun _ _ z => z) fun _ _ z => z
  · exact wpAny_mono k (fun _ _ z => wpAny_mono z (fun _ _ q => h _ q) fun _ _ z => z) fun _ _ z => z
  · obtain ⟨D, e, k⟩ := k
    exact ⟨D, e, wpAny_mono k (fun _ _ z => wpAny_mono z (fun _ _ q => wpAny_mono q (fun _ _ q => h _ q) fun _ _ z => z) fun _ _ z => z) fun _ _ z => z⟩
  · exact k
theorem deep_mono {prog : Program} {w : World} {A : Around} {env : Env} {acc : Value} {e : Expr} {d : Nat} {g : Comprehension} {Q Q' : Shared → Prop} {s : Shared} (h : ∀ s', Q s' → Q' s') (k : Deep prog w A env acc e d g Q s) : Deep prog w A env acc e d g Q' s := by
  unfold Deep at k ⊢
  refine wpAny_mono k (fun _ _ z => wpAny_mono z (fun _ _ q => codeAny_mono q fun r s' hr => ?_) fun _ _ z => z) fun _ _ z => z
  cases r with
  | ok f => exact h _ hr
  | error x => exact hr
def Nested : List Cl → Prop
  | c :: c1 :: cs => (∀ i ∈ c1.vs, i ∈ c.vs) ∧ Nested (c1 :: cs)
  | _ => True
theorem loop_ok {B : Cx} {e : Expr} {gens : List Comprehension} {acc : Value} {em : L2.St → Hp → (Hp → Prop) → Prop} (hc : B.calm = true) (b1 : B.xe = NoE) (K : Kd e gens) (he : EmOk B acc e em) :
    ∀ (cs : List Cl) (c : Cl) (d : Nat), gens.drop d = (c :: cs).map Cl.c → Nested (c :: cs) → (∀ x ∈ c :: cs, ClOk B x) → (∀ x ∈ cs, PI B x.tg x.iter x.wi) → ∀ (pins : List (Addr × Obj)) (s : Shared) (σ : L2.St) (H : Hp) (it : Addr) (fp : List Addr) (tn : Nat → Heap → Prop) (J : It) (End : Hp → Prop) (R : Result → Shared → Prop),
      Turn B.prog B.w B.K c.tg J fp it tn → Inv B pins (wipe σ c.vs) H s → tn 0 s.heap → (∀ b ∈ fp, ∀ H', H' b = none → FpOk B pins H' b) → (∀ b ∈ fp, H b = none) → Lp J c.g c.tt c.vs (Rest em cs) σ H End →
      (∀ s' H', Inv B pins (wipe σ c.vs) H' s' → End H' → R (.ok .next) s') → codeAny (model B.prog B.w) B.A (.compLoop e d (.ref it) acc B.env) R s := by
  intro cs
  induction cs with
  | nil =>
    intro c d hdr _ hok _ pins s σ H it fp tn J End R T I st ffp nfp lp hR
    have k := hok c (List.mem_singleton.mpr rfl)
    have g0 : gens[d]? = some ⟨c.tg, c.iter, c.ifs, 0⟩ := by
      have q := congrArg (·[0]?) hdr
      rw [List.getElem?_drop] at q
      exact q
    have g1 : gens[d + 1]? = none := by
      have q := congrArg (·[1]?) hdr
      rw [List.getElem?_drop] at q
      exact q
    obtain ⟨W, ⟨m0, w0⟩, turn⟩ := lp
    refine loop_last K g0 g1 (fun n s' => ∃ i H', Inv B pins (wipe σ c.vs) H' s' ∧ tn i s'.heap ∧ (∀ b ∈ fp, H' b = none) ∧ W i n H') (fun n s' h => ?_) m0 ⟨0, H, I, st, nfp, w0⟩
    exact turn_ok (Dp := Emit B.prog B.w B.A B.env acc e) hc b1 k.pg k.pt T ffp (fun h k => emit_mono h k) (fun pins' s σ2 H3 Nx I q => emit_mono (Q := fun s' => ∃ H', Inv B pins' σ2 H' s' ∧ Nx H') (fun s' h => by obtain ⟨H', I', nx⟩ := h; exact ⟨σ2, H', I', wipe_knows σ2 c.vs, nx⟩) (he pins' s σ2 H3 Nx I q)) turn hR n s' h
  | cons c1 cs ih =>
    intro c d hdr nst hok hpi pins s σ H it fp tn J End R T I st ffp nfp lp hR
    have k := hok c List.mem_cons_self
    have k1 := hok c1 (List.mem_cons_of_mem _ List.mem_cons_self)
    have g0 : gens[d]? = some ⟨c.tg, c.iter, c.ifs, 0⟩ := by
      have q := congrArg (·[0]?) hdr
      rw [List.getElem?_drop] at q
      exact q
    have g1 : gens[d + 1]? = some ⟨c1.tg, c1.iter, c1.ifs, 0⟩ := by
      have q := congrArg (·[1]?) hdr
      rw [List.getElem?_drop] at q
      exact q
    have dr1 : gens.drop (d + 1) = (c1 :: cs).map Cl.c := by
      rw [← List.tail_drop, hdr]
      rfl
    obtain ⟨W, ⟨m0, w0⟩, turn⟩ := lp
    refine loop_more K g0 g1 k1.hs (fun n s' => ∃ i H', Inv B pins (wipe σ c.vs) H' s' ∧ tn i s'.heap ∧ (∀ b ∈ fp, H' b = none) ∧ W i n H') (fun n s' h => ?_) m0 ⟨0, H, I, st, nfp, w0⟩
    refine turn_ok (Dp := Deep B.prog B.w B.A B.env acc e d ⟨c1.tg, c1.iter, c1.ifs, 0⟩) hc b1 k.pg k.pt T ffp (fun h k => deep_mono h k) (fun pins' s9 σ8 H9 Nx I9 q9 => ?_) turn hR n s' h
    unfold Deep
    have run := (hpi c1 List.mem_cons_self).run pins' s9 σ8 H9 _ I9 q9
    rw [b1] at run
    refine thnF run fun xv s10 hx => thnF hx fun itv s11 h11 => ?_
    obtain ⟨it1, fp1, tn1, J1, H11, e1, I11, T1, st11, f11, lp1⟩ := h11
    subst e1
    have lp1' := ih c1 (d + 1) dr1 nst.2 (fun x hx => hok x (List.mem_cons_of_mem _ hx)) (fun x hx => hpi x (List.mem_cons_of_mem _ hx)) pins' s11 σ8 H11 it1 fp1 tn1 J1 Nx
      (fun r s' => match r with
        | .ok _ => ∃ σ9 H', Inv B pins' σ9 H' s' ∧ Knows (wipe σ8 c.vs) σ9 ∧ Nx H'
        | .error _ => False) T1 (I11.weak (wipe_length _ _) fun j v e => (wipe_some e).1) st11 (fun b hb H' hn => ⟨hn, (f11 b hb).2⟩) (fun b hb => (f11 b hb).1) lp1
      (fun s' H' I' nx => ⟨wipe σ8 c1.vs, H', I', wipe_wipe nst.1, nx⟩)
    exact start_any K g1 lp1' (T1.self B.A 0 _ _ _ st11 lp1')
end
end GC
set_option Elab.async false
set_option linter.all false
set_option maxRecDepth 100000
namespace GC
open PySem PySem.Spec PyProof.Rows L2
section
variable {X : Cx}
/-- a new object of a comprehension: o0 at its address -/
def NewOk (prog : Program) (w : World) (new : Sem Value) (o0 : Addr → HO) : Prop :=
  ∀ (A : Around) (E : Value → Shared → Prop) (s : Shared) (Q : Value → Shared → Prop), (∀ ob : Obj, (∀ H', sysModules < s.heap.objs.size → ObjOk prog w H' (s.heap.push ob) s.heap.objs.size (o0 s.heap.objs.size)) → Q (.ref s.heap.objs.size) { s with heap := s.heap.push ob }) →
    wpAny (model prog w) A new Q E s
/-- the reading: D the new object -/
def tCo (o0 : Addr → HO) (c : Cl) (cs : List Cl) (em : Addr → L2.St → Hp → (Hp → Prop) → Prop) : TE := fun σ H Q => c.wi σ H fun J H1 => ∀ D, H1 D = none → Lp J c.g c.tt c.vs (Rest (em D) cs) σ (upd H1 D (o0 D)) (fun H' => Q (.ref D) H')
abbrev Blk (X : Cx) (scope : Scope) (F : Cx → Prop) : Prop := ∀ (s : Shared) (H : Hp) (C : Addr) (cl : List (Str × Addr)) (fp : List Addr), F (X.blk s H scope (compEnvC scope cl C X.env) fp)
theorem core {pins : List (Addr × Obj)} {s : Shared} {σ : L2.St} {H : Hp} {Q : VK} {e : Expr} {scope : Scope} {own : List (Str × Nat)} {pos' : Pos} {new : Sem Value} {o0 : Addr → HO} {c : Cl} {cs : List Cl} {em : Addr → L2.St → Hp → (Hp → Prop) → Prop} {use : Option (Value → Sem Unit)} {Qf : Value → Shared → Prop}
    (K : Kd e ((c :: cs).map Cl.c)) (hnew : NewOk X.prog X.w new o0) (hc : X.calm = true) (hN : X.N.Nodup) (I : Inv X pins σ H s) (hi : PI X c.tg c.iter c.wi) (ok : BlkOk X.N X.env.scope scope own) (hvs : c.vs = own.map (·.2)) (hs : ∀ x, foldedSetIterable c.iter X.env x = pure x)
    (nst : Nested (c :: cs)) (hok : ∀ x ∈ c :: cs, Blk X scope fun B => ClOk B x) (hpi : ∀ x ∈ cs, Blk X scope fun B => PI B x.tg x.iter x.wi) (hem : ∀ D, Blk X scope fun B => EmOk B (.ref D) e (em D))
    (h : tCo o0 c cs em σ H Q) (hRR : ∀ D C s' m H', Inv X pins σ H' s' → Q (.ref D) H' → s'.heap.Ns C m → FpOk X pins H' C → compPost (model X.prog X.w) X.A X.xe use Qf (.ref D) C (.ok .next) s') :
    wpAny (model X.prog X.w) X.A (comprehension e scope X.env pos' new false (eval c.iter X.env) use) Qf X.xe s := by
  have clE : clausesOf e = c.c :: cs.map Cl.c := by cases K <;> rfl
  have hfree : ∀ y ∈ scope.names, y.2 = .free → ∃ a, X.env.cells.lookup y.1 = some a := fun y hy q => (ok.free y hy q).elim (fun k => I.ok.has _ (.inl k)) fun k => I.ok.has _ (.inr k)
  refine wpAny_comprehension_free (use := use) clE hs (closure_ok hfree) ok.kind (fun y hy q => by rw [ok.uniq y hy, q]) (thn (hi.run pins s σ H _ I h) fun xv s1 hx => thn hx fun itv s2 h2 => ?_)
  obtain ⟨it, fp, tn, J, H2, rfl, I2, T, st2, f2, q⟩ := h2
  refine hnew _ _ s2 _ fun ob hob => newEnv_comp ?_
  generalize hD : s2.heap.objs.size = D
  have hDn : H2 D = none := I2.hok.fresh (Nat.le_of_eq hD)
  have lp := q D hDn
  generalize hs3 : ({ s2 with heap := s2.heap.push ob } : Shared) = s3
  have h3 : s3.heap = s2.heap.push ob := by rw [← hs3]
  have I3 : Inv X pins σ (upd H2 D (o0 D)) s3 := by
    rw [← hs3]
    refine I2.laid (t' := s2.toks) (fun b o z => Heap.get?_push_of_some _ z) (Nat.le_of_eq hD) ?_
    rw [← hD]
    exact hob _ I2.big
  have sz : ∀ b ∈ fp, b < s2.heap.objs.size := fun b hb => let ⟨o, z, _⟩ := T.obj _ _ st2 b hb; Heap.lt_size z
  have f3 : ∀ b ∈ fp, FpOk X pins (upd H2 D (o0 D)) b ∧ b < s3.heap.objs.size := fun b hb => by
    refine ⟨⟨?_, (f2 b hb).2⟩, by rw [h3, Heap.size_push]; exact Nat.lt_succ_of_lt (sz b hb)⟩
    rw [upd_ne (by rw [← hD]; exact Nat.ne_of_lt (sz b hb))]
    exact (f2 b hb).1
  have I4 := block_start I3 ok hN f3
  have aok := fun x hx => hok x hx s3 (upd H2 D (o0 D)) s3.heap.objs.size (cellsFrom (s3.heap.objs.size + 1) scope.names (cloFrom X.env.cells scope.names [])) fp
  have api := fun x hx => hpi x hx s3 (upd H2 D (o0 D)) s3.heap.objs.size (cellsFrom (s3.heap.objs.size + 1) scope.names (cloFrom X.env.cells scope.names [])) fp
  have aem := hem D s3 (upd H2 D (o0 D)) s3.heap.objs.size (cellsFrom (s3.heap.objs.size + 1) scope.names (cloFrom X.env.cells scope.names [])) fp
  have nfp : ∀ b ∈ fp, (upd H2 D (o0 D)) b = none := fun b hb => (f3 b hb).1.1
  have cL : (compEnvC scope (cellsFrom (s3.heap.objs.size + 1) scope.names (cloFrom X.env.cells scope.names [])) s3.heap.objs.size X.env).locals = s3.heap.objs.size := rfl
  have h3z : ({ s2 with heap := s2.heap.push ob } : Shared).heap.objs.size = s3.heap.objs.size := by rw [hs3]
  have goal : codeAny (model X.prog X.w) X.A (.compStart e 0 (.ref it) (.ref D) (compEnvC scope (cellsFrom (s3.heap.objs.size + 1) scope.names (cloFrom X.env.cells scope.names [])) s3.heap.objs.size X.env)) (compPost (model X.prog X.w) X.A X.xe use Qf (.ref D) s3.heap.objs.size)
      { s3 with heap := pushCells (s3.heap.push { cls := .type "dict", data := .dict #[] }) scope.names } := by
    generalize compEnvC scope (cellsFrom (s3.heap.objs.size + 1) scope.names (cloFrom X.env.cells scope.names [])) s3.heap.objs.size X.env = ce at I4 aok api aem cL ⊢
    have st4 : tn 0 (pushCells (s3.heap.push { cls := .type "dict", data := .dict #[] }) scope.names) := T.keep _ _ _ st2 fun b _ o z => pushCells_keeps _ _ _ _ (Heap.get?_push_of_some _ (by rw [h3]; exact Heap.get?_push_of_some _ z))
    generalize hs4 : ({ s3 with heap := pushCells (s3.heap.push { cls := .type "dict", data := .dict #[] }) scope.names } : Shared) = s4 at I4 ⊢
    have st5 : tn 0 s4.heap := by rw [← hs4]; exact st4
    rw [← hvs] at I4
    have stat : ∀ b ∈ fp, ∀ H', H' b = none → FpOk (X.blk s3 (upd H2 D (o0 D)) scope ce fp) [] H' b := fun b hb H' hn => ⟨hn, (I4.ok.exf b hb).1, I4.ok.exfs b hb, .inl hb, fun x a z => (I4.ok.exf b hb).2 x a z, fun p hp => absurd (show p ∈ ([] : List (Addr × Obj)) ++ [] from hp) (by simp)⟩
    have loop := loop_ok (B := X.blk s3 (upd H2 D (o0 D)) scope ce fp) (acc := .ref D) hc rfl K aem cs c 0 rfl nst aok api [] s4 σ _ it fp tn J _ (compPost (model X.prog X.w) X.A X.xe use Qf (.ref D) s3.heap.objs.size) T I4 st5 stat nfp lp fun s6 H5 I6 qq => by
      have I7 : Inv X pins σ H5 s6 := I3.call' (ch := fp) I6.os I6.base I6.hok I6.bare fun b hb => ⟨(f3 b hb).1.2.2.2.1, (f3 b hb).1.2.1, (f3 b hb).1.2.2.2.2.1, (f3 b hb).1.2.2.2.2.2⟩
      have nC : H5 ce.locals = none := I6.free
      rw [cL] at nC
      obtain ⟨m, hn, _⟩ := I6.loc
      have hn : s6.heap.Ns ce.locals m := hn
      rw [cL] at hn
      exact hRR D s3.heap.objs.size s6 m H5 I7 qq hn (I3.fpOk (Nat.le_refl _) nC)
    exact start_any K rfl loop (T.self X.A 0 _ _ _ st5 loop)
  subst hs3 hD
  exact goal
theorem new_list {P : Program} {w : World} : NewOk P w (newList []) fun _ => .lst [] := fun A E s Q h =>
  wpAny_newObj_type (h _ fun H' _ => ⟨Nat.zero_le _, [], 0, .nil, Heap.get?_push_size _ rfl⟩) (by show 0 ≤ sizeLine; decide)
theorem new_dT {P : Program} {w : World} : NewOk P w newDict fun _ => .dT [] := fun A E s Q h => wpAny_newObj_type (h _ fun H' hb => dt_empty s.heap hb)
theorem new_dK {P : Program} {w : World} : NewOk P w newDict fun _ => .dK [] := fun A E s Q h => wpAny_newObj_type (h _ fun H' hb => dk_empty s.heap hb)
/-- the end of a comprehension as a value -/
theorem back {pins : List (Addr × Obj)} {σ : L2.St} {Q : VK} (D C : Addr) (s' : Shared) (m : _) (H' : Hp) (I' : Inv X pins σ H' s') (q : Q (.ref D) H') (hn : s'.heap.Ns C m) (f : FpOk X pins H' C) :
    compPost (model X.prog X.w) X.A X.xe none (EP X pins σ Q) (.ref D) C (.ok .next) s' := by
  obtain ⟨f0, f1, f2, f3, f4, f5⟩ := f
  exact ⟨m, hn, fun h'' sb => ⟨.ref D, H', I'.turned (t' := s'.toks) (fun b o hb e => (sb.2 b hb).trans e) f0 f1 f3 f4 f5, rfl, q⟩⟩
/-- an item goes to the new list -/
def emL (te : TE) (D : Addr) : L2.St → Hp → (Hp → Prop) → Prop := fun σ H Nx => te σ H fun y H1 => ∃ acc, H1 D = some (.lst acc) ∧ acc.length < sizeLine ∧ Nx (upd H1 D (.lst (acc ++ [y])))
/-- an entry goes to the new dict with tuple keys -/
def emT (tk tv : TE) (D : Addr) : L2.St → Hp → (Hp → Prop) → Prop := fun σ H Nx => tk σ H fun y H1 => tv σ H1 fun z H2 => ∃ kvs k b, y = .ref b ∧ H2 b = some (.tup (k.map kV)) ∧ H2 D = some (.dT kvs) ∧ kvs.length < sizeLine ∧ Nx (upd H2 D (.dT (putK kvs k z)))
/-- one whose keys are ints and texts -/
def emK (tk tv : TE) (D : Addr) : L2.St → Hp → (Hp → Prop) → Prop := fun σ H Nx => tk σ H fun y H1 => tv σ H1 fun z H2 => ∃ kvs k, y = kV k ∧ H2 D = some (.dK kvs) ∧ kvs.length < sizeLine ∧ Nx (upd H2 D (.dK (putK kvs k z)))
theorem d_setT {pins : List (Addr × Obj)} {σ : L2.St} {H : Hp} {s : Shared} {E : Value → Shared → Prop} {D b : Addr} {kvs : List (List Key × V)} {k : List Key} {v : V} {r : Value} {Q : Unit → Shared → Prop} (hu : X.A.units < cLine) (I : Inv X pins σ H s) (hD : H D = some (.dT kvs)) (hb : H b = some (.tup (k.map kV)))
    (hz : kvs.length < sizeLine) (rv : RelV v r) (h : ∀ s', Inv X pins σ (upd H D (.dT (putK kvs k v))) s' → Q () s') : wpAny (model X.prog X.w) X.A (dictSet D (.ref b) r) Q E s := by
  obtain ⟨z, hd, xs, rel, dd⟩ := dt_of I.hok hD
  have hzx : xs.length ≤ sizeLine := by rw [← Paired.length rel]; exact z
  have hl : (putK kvs k v).length ≤ sizeLine := Nat.le_trans (length_putK kvs k v) hz
  refine wpAny_dictSet_heap (hsz := hzx) (knd := tupleKind (mixKind X.prog X.w)) hu (key_of I.hok hb) dd fun h' dd' sb => h _ ?_
  obtain ⟨o, es, ep, ho, e1, e2, e3, _, e4⟩ := dd'
  exact d_write I (by rw [hD]; exact True.intro) sb ⟨o, ho⟩ ⟨hl, hd, _, (rel.put k hb rv).keeps fun a ys q => (by rw [upd_ne (ne_of q hD (fun z => nomatch z))]; exact q), o, es, ep, ho, e1, e2, e3, e4⟩
theorem emL_ok {B : Cx} {D : Addr} {elt : Expr} {gens : List Comprehension} {scope : Scope} {pos : Pos} {te : TE} (b1 : B.xe = NoE) (he : PE B elt te) : EmOk B (.ref D) (.ListComp elt gens scope pos) (emL te D) := by
  intro pins s σ H Nx I q
  have r := he.run pins s σ H _ I q
  rw [b1] at r
  refine thnF r fun x s1 h => ?_
  obtain ⟨y, H1, I1, r1, acc, hD, hz, nx⟩ := h
  exact app_ok I1 hD hz r1 fun s2 I2 => ⟨_, I2, nx⟩
theorem emT_ok {B : Cx} {D : Addr} {k v : Expr} {gens : List Comprehension} {scope : Scope} {pos : Pos} {tk tv : TE} (b1 : B.xe = NoE) (hu : B.A.units < cLine) (hk : PE B k tk) (hv : PE B v tv) : EmOk B (.ref D) (.DictComp k v gens scope pos) (emT tk tv D) := by
  intro pins s σ H Nx I q
  have r := hk.run pins s σ H _ I q
  rw [b1] at r
  refine ⟨D, rfl, thnF r fun x s1 h => ?_⟩
  obtain ⟨y, H1, I1, r1, q1⟩ := h
  have r := hv.run pins s1 σ H1 _ I1 q1
  rw [b1] at r
  refine thnF r fun x2 s2 h => ?_
  obtain ⟨z, H2, I2, r2, kvs, kk, b, rfl, hb, hD, hz, nx⟩ := h
  cases r1
  exact d_setT hu I2 hD hb hz r2 fun s3 I3 => ⟨_, I3, nx⟩
theorem emK_ok {B : Cx} {D : Addr} {k v : Expr} {gens : List Comprehension} {scope : Scope} {pos : Pos} {tk tv : TE} (b1 : B.xe = NoE) (hk : PE B k tk) (hv : PE B v tv) : EmOk B (.ref D) (.DictComp k v gens scope pos) (emK tk tv D) := by
  intro pins s σ H Nx I q
  have r := hk.run pins s σ H _ I q
  rw [b1] at r
  refine ⟨D, rfl, thnF r fun x s1 h => ?_⟩
  obtain ⟨y, H1, I1, r1, q1⟩ := h
  have r := hv.run pins s1 σ H1 _ I1 q1
  rw [b1] at r
  refine thnF r fun x2 s2 h => ?_
  obtain ⟨z, H2, I2, r2, kvs, kk, rfl, hD, hz, nx⟩ := h
  exact d_dictSet I2 hD hz r1 r2 fun s3 I3 => ⟨_, I3, nx⟩
end
end GC
set_option Elab.async false
set_option linter.all false
set_option maxRecDepth 100000
namespace GC
open PySem PySem.Spec PyProof.Rows L2
section
variable {X : Cx}
/-- the clauses behind the first -/
structure Cls (X : Cx) (scope : Scope) (gens : List Comprehension) (cs : List Cl) : Prop where
  eq : gens = cs.map Cl.c
  ok : ∀ x ∈ cs, Blk X scope fun B => ClOk B x
  pi : ∀ x ∈ cs, Blk X scope fun B => PI B x.tg x.iter x.wi
theorem cl0 {scope : Scope} : Cls X scope [] [] := ⟨rfl, fun _ h => (by cases h), fun _ h => by cases h⟩
theorem cl1 {scope : Scope} {tg iter : Expr} {ifs : List Expr} {gens : List Comprehension} {cs : List Cl} {wi : TI} {g : TG} {tt : TT} (vs : List Nat) (hi : Blk X scope fun B => PI B tg iter wi) (hg : Blk X scope fun B => PG B tg g) (ht : Blk X scope fun B => PTs B ifs tt) (r : Cls X scope gens cs)
    (hs : ∀ env x, foldedSetIterable iter env x = pure x := by intro _ _; rfl) : Cls X scope (⟨tg, iter, ifs, 0⟩ :: gens) (⟨tg, iter, ifs, wi, g, tt, vs⟩ :: cs) where
  eq := by rw [r.eq]; rfl
  ok := fun x hx => by
    rcases List.mem_cons.mp hx with rfl | hx
    · exact fun s H C cl fp => ⟨hg s H C cl fp, ht s H C cl fp, hs _⟩
    · exact r.ok x hx
  pi := fun x hx => by
    rcases List.mem_cons.mp hx with rfl | hx
    · exact hi
    · exact r.pi x hx
theorem pe_co {e tg iter : Expr} {ifs : List Expr} {gens : List Comprehension} {scope : Scope} {own : List (Str × Nat)} {pos : Pos} {new : Sem Value} {o0 : Addr → HO} {wi : TI} {g : TG} {tt : TT} {cs : List Cl} {em : Addr → L2.St → Hp → (Hp → Prop) → Prop} (hev : eval e X.env = comprehension e scope X.env pos new false (eval iter X.env) none)
    (K : Kd e (⟨tg, iter, ifs, 0⟩ :: gens)) (hnew : NewOk X.prog X.w new o0) (hc : X.calm = true) (hN : X.N.Nodup) (hi : PI X tg iter wi) (ok : BlkOk X.N X.env.scope scope own) (hg : Blk X scope fun B => PG B tg g) (ht : Blk X scope fun B => PTs B ifs tt) (r : Cls X scope gens cs)
    (nst : Nested (⟨tg, iter, ifs, wi, g, tt, own.map (·.2)⟩ :: cs)) (hem : ∀ D, Blk X scope fun B => EmOk B (.ref D) e (em D)) (hs : ∀ env x, foldedSetIterable iter env x = pure x) :
    PE X e (tCo o0 ⟨tg, iter, ifs, wi, g, tt, own.map (·.2)⟩ cs em) := by
  refine ⟨fun pins s σ H Q I h => ?_⟩
  rw [hev]
  have K' : Kd e ((⟨tg, iter, ifs, wi, g, tt, own.map (·.2)⟩ :: cs : List Cl).map Cl.c) := by
    have q := r.eq
    subst q
    exact K
  refine core K' hnew hc hN I hi ok rfl (hs _) nst (fun x hx => ?_) r.pi hem h fun D C s' m H' I' q hn f => back D C s' m H' I' q hn f
  rcases List.mem_cons.mp hx with rfl | hx
  · exact fun s H C cl fp => ⟨hg s H C cl fp, ht s H C cl fp, hs _⟩
  · exact r.ok x hx
/-- a list comprehension of any number of clauses -/
theorem pe_lcs {elt tg iter : Expr} {ifs : List Expr} {gens : List Comprehension} {scope : Scope} {own : List (Str × Nat)} {pos : Pos} {wi : TI} {g : TG} {tt : TT} {te : TE} {cs : List Cl} (hc : X.calm = true) (hN : X.N.Nodup) (hi : PI X tg iter wi) (ok : BlkOk X.N X.env.scope scope own)
    (hg : Blk X scope fun B => PG B tg g) (ht : Blk X scope fun B => PTs B ifs tt) (r : Cls X scope gens cs) (nst : Nested (⟨tg, iter, ifs, wi, g, tt, own.map (·.2)⟩ :: cs)) (he : Blk X scope fun B => PE B elt te) (hs : ∀ env x, foldedSetIterable iter env x = pure x := by intro _ _; rfl) :
    PE X (.ListComp elt (⟨tg, iter, ifs, 0⟩ :: gens) scope pos) (tCo (fun _ => .lst []) ⟨tg, iter, ifs, wi, g, tt, own.map (·.2)⟩ cs (emL te)) :=
  pe_co rfl (.l ..) new_list hc hN hi ok hg ht r nst (fun D s H C cl fp => emL_ok rfl (he s H C cl fp)) hs
/-- a dict comprehension, the keys tuples -/
theorem pe_dcT {k v tg iter : Expr} {ifs : List Expr} {gens : List Comprehension} {scope : Scope} {own : List (Str × Nat)} {pos : Pos} {wi : TI} {g : TG} {tt : TT} {tk tv : TE} {cs : List Cl} (hu : X.A.units < cLine) (hc : X.calm = true) (hN : X.N.Nodup) (hi : PI X tg iter wi) (ok : BlkOk X.N X.env.scope scope own)
    (hg : Blk X scope fun B => PG B tg g) (ht : Blk X scope fun B => PTs B ifs tt) (r : Cls X scope gens cs) (nst : Nested (⟨tg, iter, ifs, wi, g, tt, own.map (·.2)⟩ :: cs)) (hk : Blk X scope fun B => PE B k tk) (hv : Blk X scope fun B => PE B v tv) (hs : ∀ env x, foldedSetIterable iter env x = pure x := by intro _ _; rfl) :
    PE X (.DictComp k v (⟨tg, iter, ifs, 0⟩ :: gens) scope pos) (tCo (fun _ => .dT []) ⟨tg, iter, ifs, wi, g, tt, own.map (·.2)⟩ cs (emT tk tv)) :=
  pe_co rfl (.d ..) new_dT hc hN hi ok hg ht r nst (fun D s H C cl fp => emT_ok rfl hu (hk s H C cl fp) (hv s H C cl fp)) hs
/-- the keys ints and texts -/
theorem pe_dcK {k v tg iter : Expr} {ifs : List Expr} {gens : List Comprehension} {scope : Scope} {own : List (Str × Nat)} {pos : Pos} {wi : TI} {g : TG} {tt : TT} {tk tv : TE} {cs : List Cl} (hc : X.calm = true) (hN : X.N.Nodup) (hi : PI X tg iter wi) (ok : BlkOk X.N X.env.scope scope own)
    (hg : Blk X scope fun B => PG B tg g) (ht : Blk X scope fun B => PTs B ifs tt) (r : Cls X scope gens cs) (nst : Nested (⟨tg, iter, ifs, wi, g, tt, own.map (·.2)⟩ :: cs)) (hk : Blk X scope fun B => PE B k tk) (hv : Blk X scope fun B => PE B v tv) (hs : ∀ env x, foldedSetIterable iter env x = pure x := by intro _ _; rfl) :
    PE X (.DictComp k v (⟨tg, iter, ifs, 0⟩ :: gens) scope pos) (tCo (fun _ => .dK []) ⟨tg, iter, ifs, wi, g, tt, own.map (·.2)⟩ cs (emK tk tv)) :=
  pe_co rfl (.d ..) new_dK hc hN hi ok hg ht r nst (fun D s H C cl fp => emK_ok rfl (hk s H C cl fp) (hv s H C cl fp)) hs
/-- a clause's loop over a walk -/
theorem lp_it {J : It} {n : Nat} {G : Hp → Prop} {Y : Nat → Hp → V → Hp → Prop} (w : Walk J n G Y) {g : TG} {tt : TT} {vs : List Nat} {D : L2.St → Hp → (Hp → Prop) → Prop} {σ : L2.St} {H : Hp} {End : Hp → Prop} (Pv : Nat → Hp → Prop) (h0 : Pv 0 H) (hG : ∀ i H, i ≤ n → Pv i H → G H)
    (hs : ∀ i x H H', i < n → Pv i H → Y i H x H' → g x (wipe σ vs) H' fun σ2 H2 => wipe σ2 vs = wipe σ vs ∧ tt σ2 H2 fun b H3 => if b = true then D σ2 H3 (Pv (i + 1)) else Pv (i + 1) H3) (hd : ∀ H, Pv n H → End H) : Lp J g tt vs D σ H End := by
  refine ⟨fun i m H => m = n - i ∧ i ≤ n ∧ Pv i H, ⟨n, by simp, Nat.zero_le _, h0⟩, ?_⟩
  rintro i m H ⟨rfl, hi, p⟩
  have q := hG i H hi p
  rcases Nat.lt_or_ge i n with hlt | hge
  · exact .inr ⟨w.goes i H hlt q, Pv (i + 1), fun H' p' => ⟨n - (i + 1), by omega, rfl, hlt, p'⟩, fun x H' y => hs i x H H' hlt p (w.yields i H x H' hlt q y)⟩
  · obtain rfl : i = n := by omega
    exact .inl ⟨w.stops H q, hd H p⟩
end
end GC
set_option Elab.async false
set_option linter.all false
set_option maxRecDepth 100000
set_option maxHeartbeats 2000000
namespace TxS
open PySem PySem.Spec PyProof.Rows L2
/-- the entry of a text -/
def Ent (w : World) (e : Int × Value) (x : Str) : Prop := ∃ t, e = (hashStr w x, Value.str x t)
def TxSet (w : World) (h : Heap) (a : Addr) (L : List Str) : Prop :=
  ∃ (o : Obj) (es : Array (Int × Value)) (ep : Nat) (t : SetTable) (ks : List Str), h.get? a = some o ∧ o.ExactSet ∧ o.data = .set es ep t ∧ Paired (Ent w) es.toList ks ∧ ks.Perm L ∧ L.Nodup ∧ es.size < scanBound ∧ t.fits es.size = true ∧
    Ris t.place.toList ∧ (w.params.followText "set-order" = true ∨ t.led = true)
theorem paired_perm {α β : Type} {F : α → β → Prop} {xs ys : List α} (p : ys.Perm xs) : ∀ {ks : List β}, Paired F xs ks → ∃ ls, Paired F ys ls ∧ ls.Perm ks := by
  induction p with
  | nil => exact fun h => ⟨_, h, .refl _⟩
  | cons x _ ih =>
    intro ks h
    cases h with
    | cons r t =>
      obtain ⟨ls, a, b⟩ := ih t
      exact ⟨_, .cons r a, b.cons _⟩
  | swap x y l =>
    intro ks h
    cases h with
    | cons r t => cases t with
      | cons r2 t2 => exact ⟨_, .cons r2 (.cons r t2), .swap _ _ _⟩
  | trans _ _ ih1 ih2 =>
    intro ks h
    obtain ⟨ls, a, b⟩ := ih2 h
    obtain ⟨ms, c, d⟩ := ih1 a
    exact ⟨ms, c, d.trans b⟩
theorem ent_mem {w : World} : ∀ {es : List (Int × Value)} {ks : List Str}, Paired (Ent w) es ks → ∀ e ∈ es, ∃ x ∈ ks, Ent w e x
  | _, _, .cons r t, e, he => by
    rcases List.mem_cons.mp he with rfl | he
    · exact ⟨_, List.mem_cons_self, r⟩
    · obtain ⟨x, h1, h2⟩ := ent_mem t e he
      exact ⟨x, List.mem_cons_of_mem _ h1, h2⟩
theorem mem_ent {w : World} : ∀ {es : List (Int × Value)} {ks : List Str}, Paired (Ent w) es ks → ∀ x ∈ ks, ∃ e ∈ es, Ent w e x
  | _, _, .cons r t, x, hx => by
    rcases List.mem_cons.mp hx with rfl | hx
    · exact ⟨_, List.mem_cons_self, r⟩
    · obtain ⟨e, h1, h2⟩ := mem_ent t x hx
      exact ⟨e, List.mem_cons_of_mem _ h1, h2⟩
theorem elems {P : Program} {w : World} {es : List (Int × Value)} {ks : List Str} (h : Paired (Ent w) es ks) : ElemsOf (PySem.strKind P w) es := fun e he => by
  obtain ⟨x, _, t, rfl⟩ := ent_mem h e he
  exact ⟨⟨x, strKind_is P w x t, rfl⟩, rfl⟩
section
variable {P : Program} {w : World} {A : Around} {E : Value → Shared → Prop} {s : Shared} {a : Addr} {L : List Str}
theorem TxSet.lt {h : Heap} (R : TxSet w h a L) : a < h.objs.size := let ⟨_, _, _, _, _, ho, _⟩ := R; Heap.lt_size ho
theorem TxSet.at {h h' : Heap} (R : TxSet w h a L) (k : ∀ o, h.get? a = some o → h'.get? a = some o) : TxSet w h' a L := let ⟨o, es, ep, t, ks, ho, r⟩ := R; ⟨o, es, ep, t, ks, k o ho, r⟩
theorem TxSet.typeIs (R : TxSet w s.heap a L) : s.TypeIs (.ref a) "set" := let ⟨o, _, _, _, _, ho, hx, _⟩ := R; ⟨o, ho, hx.1⟩
/-- the new entries are laid, the table perhaps grown -/
theorem tail_ok {g : Bool → Sem Unit} (hg : ∀ (b : Bool) (s₁ : Shared) (Q' : Unit → Shared → Prop), Q' () s₁ → wpAny (model P w) A (g b) Q' E s₁) {o : Obj} {es es1 : Array (Int × Value)} {ep : Nat} {t t2 : SetTable} {ks : List Str} {wd : Bool} {R : Option Bool → Shared → Prop}
    (ho : s.heap.get? a = some o) (hex : o.ExactSet) (hd : o.data = .set es ep t) (hp : Paired (Ent w) es1.toList ks) (pm0 : ks.Perm L) (nd : L.Nodup) (hb1 : es1.size < scanBound) (hf2 : t2.fits es1.size = true) (hr : Ris t2.place.toList) (hl : w.params.followText "set-order" = true ∨ t2.led = true)
    (hR : ∀ h', Heap.SameBut a s.heap h' → TxSet w h' a L → R (some true) { s with heap := h' }) :
    wpAny (model P w) A (do
        storeSet a es1 t2
        if (!wd && t2.tooFull) = true then do
            g (relayAll t2 es1 (SetTable.grown es1.size)).2.2
            storeSet a (relayAll t2 es1 (SetTable.grown es1.size)).1 (relayAll t2 es1 (SetTable.grown es1.size)).2.1
            pure (some true)
          else pure (some true)) R E s := by
  refine wpAny_bind (wpAny_storeSet_of ho hd ?_ (fits_of_scanBound hb1))
  have o1 := storeB_at' ho hd es1 t2; have sb1 := Heap.SameBut.update s.heap a (Obj.putSet es1 t2)
  split
  · have pm := relayAll_perm t2 es1 (SetTable.grown es1.size); have f3 := relayAll_fits t2 es1 (SetTable.grown es1.size); have r3 := relayAll_ris t2 es1 (SetTable.grown es1.size); have l3 := relayAll_led t2 es1 (SetTable.grown es1.size)
    generalize relayAll t2 es1 (SetTable.grown es1.size) = Z at pm f3 r3 l3 ⊢
    obtain ⟨es2, t3, gave⟩ := Z
    dsimp only at pm f3 r3 l3 ⊢
    have z2 : es2.size = es1.size := by rw [← Array.length_toList, pm.length_eq, Array.length_toList]
    have b2 : es2.size < scanBound := z2 ▸ hb1
    obtain ⟨ls, p2, q2⟩ := paired_perm pm hp
    refine wpAny_bind (hg _ _ _ (wpAny_bind (wpAny_storeSet_of o1 rfl (wpAny_pure (hR _ (sb1.trans (Heap.SameBut.update _ a _)) ?_)) (fits_of_scanBound b2))))
    exact ⟨_, es2, _, t3, ls, storeB_at' o1 rfl es2 t3, hex, rfl, p2, q2.trans pm0, nd, b2, f3, r3, hl.imp id fun z => l3 ▸ z⟩
  · exact wpAny_pure (hR _ sb1 ⟨_, es1, _, t2, ks, o1, hex, rfl, hp, pm0, nd, hb1, hf2, hr, hl⟩)
where storeB_at' {h : Heap} {a : Addr} {o : Obj} {es : Array (Int × Value)} {ep : Nat} {t : SetTable} (ho : h.get? a = some o) (hd : o.data = .set es ep t) (es' : Array (Int × Value)) (t' : SetTable) : (h.update a (Obj.putSet es' t')).get? a = some { o with data := .set es' (ep + 1) t' } :=
  L2.store_at (es' := es') (t' := t') ho hd
/-- what the set holds behind an add -/
def added (L : List Str) (k : Str) : List Str := if k ∈ L then L else L ++ [k]
theorem add_hashed {k : Str} {tk : Tok} {Q : Bool → Shared → Prop} (R : TxSet w s.heap a L) (room : L.length + 1 < scanBound) (hQ : ∀ h', Heap.SameBut a s.heap h' → TxSet w h' a (added L k) → Q (!decide (k ∈ L)) { s with heap := h' }) :
    wpAny (model P w) A (setAddHashed a (.str k tk) ((PySem.strKind P w).hash k)) Q E s := by
  obtain ⟨o, es, ep, t, ks, ho, hex, hd, hp, pk, nd, hb, hf, hr, hl⟩ := R
  have hkey : (PySem.strKind P w).is k (.str k tk) = true := strKind_is P w k tk
  have hsc : (Value.str k tk).scannable = true := rfl
  have hel : ElemsOf (PySem.strKind P w) es.toList := elems hp
  have is_iff : ∀ (e : Int × Value) (x : Str), Ent w e x → ((PySem.strKind P w).is k e.2 = true ↔ x = k) := fun e x hx => by
    obtain ⟨tx, rfl⟩ := hx
    show (x == k) = true ↔ x = k
    exact beq_iff_eq
  unfold setAddHashed setAddHashedIn
  refine wpAny_holding (wpAny_bind (wpAny_setState_of ho hd hf ?_))
  dsimp only
  rw [byScan_of hsc hb hel]
  simp only [↓reduceIte]
  unfold setAddByScan
  refine wpAny_bind (wpAny_bind (wpAny_rule (wpAny_bind (wpAny_setScan_of hkey ho hd hf hel ?_))))
  cases hfi : List.findIdx? (fun e => (PySem.strKind P w).is k e.2) es.toList with
  | some j =>
    dsimp only
    obtain ⟨hj, pj, _⟩ := List.findIdx?_eq_some_iff_getElem.mp hfi
    obtain ⟨x, hx, ex⟩ := ent_mem hp _ (List.getElem_mem hj)
    have hk : k ∈ L := by
      rw [← (is_iff _ x ex).mp pj]
      exact pk.mem_iff.mp hx
    have q := hQ s.heap (Heap.SameBut.refl a s.heap) (by unfold added; rw [if_pos hk]; exact ⟨o, es, ep, t, ks, ho, hex, hd, hp, pk, nd, hb, hf, hr, hl⟩)
    rw [decide_eq_true hk] at q
    exact wpAny_pure (wpAny_pure q)
  | none =>
    dsimp only
    have hk : k ∉ L := fun z => by
      obtain ⟨e, he, ex⟩ := mem_ent hp k (pk.mem_iff.mpr z)
      have c := List.findIdx?_eq_none_iff.mp hfi e he
      rw [(is_iff e k ex).mpr rfl] at c
      cases c
    have hgw : ∀ (b : Bool) {s₁ : Shared} {Q' : Unit → Shared → Prop}, Q' () s₁ → wpAny (model P w) A (match b with | true => rule "set.scan.the-table-gave-way" | false => pure ()) Q' E s₁ := fun b s₁ Q' q => by cases b <;> first | exact wpAny_pure q | exact wpAny_rule q
    have pm := layNew_perm t es ((PySem.strKind P w).hash k) (.str k tk); have f1 := layNew_fits t es ((PySem.strKind P w).hash k) (.str k tk)
    have r1 := layNew_ris t es ((PySem.strKind P w).hash k) (.str k tk) hr; have l1 := layNew_led t es ((PySem.strKind P w).hash k) (.str k tk)
    generalize layNew t es ((PySem.strKind P w).hash k) (.str k tk) = Z at pm f1 r1 l1 ⊢
    obtain ⟨es1, t1, wasDummy, gave⟩ := Z
    dsimp only at pm f1 r1 l1 ⊢
    rw [Array.toList_push] at pm
    have pc : es1.toList.Perm (((PySem.strKind P w).hash k, Value.str k tk) :: es.toList) := pm.trans (List.perm_append_singleton _ _)
    obtain ⟨ls, p1, q1⟩ := paired_perm pc (Paired.cons (show Ent w ((PySem.strKind P w).hash k, Value.str k tk) k from ⟨tk, rfl⟩) hp)
    have qL : ls.Perm (L ++ [k]) := q1.trans ((pk.cons k).trans (List.perm_append_singleton _ _).symm)
    have ndL : (L ++ [k]).Nodup := (List.perm_append_singleton k L).nodup_iff.mpr (List.nodup_cons.mpr ⟨hk, nd⟩)
    have esz : es.size = L.length := by rw [← Array.length_toList, Paired.length hp, pk.length_eq]
    have z1 : es1.size = L.length + 1 := by rw [← Array.length_toList, pc.length_eq, List.length_cons, Array.length_toList, esz]
    have b1 : es1.size < scanBound := z1 ▸ room
    have hled : w.params.followText "set-order" = true ∨ t1.led = true := hl.imp id fun z => l1 ▸ z
    have fin : ∀ h', Heap.SameBut a s.heap h' → TxSet w h' a (L ++ [k]) → Q true { s with heap := h' } := fun h' sb r => by
      have q := hQ h' sb (by unfold added; rw [if_neg hk]; exact r)
      rw [decide_eq_false hk] at q
      exact q
    refine wpAny_bind (hgw _ ?_)
    split
    · refine wpAny_bind ?_
      rw [hashByValue_scannable 8 hsc]
      refine wpAny_pure (tail_ok ?_ ho hex hd p1 qL ndL b1 ?_ ?_ ?_ ?_)
      · intro b s₁ Q' q; cases b <;> first | exact wpAny_pure q | exact wpAny_rule q
      · first | (split <;> first | exact f1 | exact SetTable.fits_plain_off f1) | exact f1
      · first | (split <;> exact r1) | exact r1
      · first | (split <;> exact hled) | exact hled
      · intro h' sb r; dsimp only; exact wpAny_pure (fin h' sb r)
    · refine wpAny_bind (wpAny_pure ?_)
      simp only [↓reduceIte]
      refine tail_ok ?_ ho hex hd p1 qL ndL b1 f1 r1 hled ?_
      · intro b s₁ Q' q; cases b <;> first | exact wpAny_pure q | exact wpAny_rule q
      · intro h' sb r; dsimp only; exact wpAny_pure (fin h' sb r)
theorem add_ok {k : Str} {tk : Tok} {Q : Value → Shared → Prop} (R : TxSet w s.heap a L) (room : L.length + 1 < scanBound) (hQ : ∀ h' tk', Heap.SameBut a s.heap h' → TxSet w h' a (added L k) → Q .none { s with heap := h', toks := tk' }) :
    wpAny (model P w) A (call (.builtin "set.add") [.ref a, .str k tk]) Q E s := by
  refine wpAny_call_entry F.slot_set_add R.typeIs F.entry_set_add ?_ (F.args_set_add_2 _ _)
  unfold Builtin.«set.add» Builtin.Frozenset.oneOther
  simp only [List.isEmpty_nil, bind_assoc]
  unfold Builtin.Frozenset.addrOf setAdd
  refine wpAny_bind (wpAny_pure ?_); try dsimp only
  refine wpAny_bind (wpAny_pure ?_); try dsimp only
  refine wpAny_bind (wpAny_holding (wpAny_bind ((PySem.strKind P w).pyHash (strKind_is P w k tk) ?_)))
  refine add_hashed R room fun h' sb r => ?_
  show wpAny _ _ (ret Value.none) _ _ _
  exact wpAny_pure ⟨_, rfl, hQ h' _ sb r⟩
theorem fresh {h : Heap} (w : World) : TxSet w (h.push { cls := .type "set", dict := none, data := .set #[] 0 (.fresh 0 0 (!w.params.followText "set-order")) }) h.objs.size [] :=
  ⟨_, #[], 0, _, [], Heap.get?_push_size _ rfl, ⟨rfl, rfl, rfl⟩, rfl, .nil, .refl _, .nil, by decide, by rfl, List.Pairwise.nil, by
    show _ ∨ (!w.params.followText "set-order") = true
    cases w.params.followText "set-order" <;> simp⟩
theorem paired_strs {w : World} : ∀ {es : List (Int × Value)} {ks : List Str}, Paired (Ent w) es ks → StrsAre (es.map (·.2)) ks
  | _, _, .nil => .nil
  | _, _, .cons r t => by
    obtain ⟨tk, rfl⟩ := r
    exact .cons _ tk (paired_strs t)
theorem strs_perm : ∀ {us vs : List Value} (p : us.Perm vs) {ks : List Str}, StrsAre vs ks → ∃ ls, StrsAre us ls ∧ ls.Perm ks := by
  intro us vs p
  induction p with
  | nil => exact fun h => ⟨_, h, .refl _⟩
  | cons x _ ih =>
    intro ks h
    cases h with
    | cons n t r =>
      obtain ⟨ls, a, b⟩ := ih r
      exact ⟨_, .cons n t a, b.cons _⟩
  | swap x y l =>
    intro ks h
    cases h with
    | cons n t r => cases r with
      | cons n2 t2 r2 => exact ⟨_, .cons n2 t2 (.cons n t r2), .swap _ _ _⟩
  | trans _ _ ih1 ih2 =>
    intro ks h
    obtain ⟨ls, a, b⟩ := ih2 h
    obtain ⟨ms, c, d⟩ := ih1 a
    exact ⟨ms, c, d.trans b⟩
/-- sorted(of a set) -/
theorem sorted_ok {Q : Value → Shared → Prop} (R : TxSet w s.heap a L) (hh : A.handled = none) (h64 : L.length < 64)
    (hQ : ∀ s' p (out : Array Value) (c : Nat) (ys : List Str), (∀ b o, s.heap.get? b = some o → s'.heap.get? b = some o) → s'.gens = s.gens → s'.os = s.os → s.heap.objs.size ≤ p → s'.heap.get? p = some (seqObj "list" out c) → StrsAre out.toList ys → ys.Perm L → sortedS ys = true → Q (.ref p) s') :
    wpAny (model P w) A (call (.builtin "sorted") [.ref a]) Q E s := by
  obtain ⟨o, es, ep, t, ks, ho, hex, hd, hp, pk, nd, hb, hf, hr, hl⟩ := R
  refine Calls.call_function_entry kind_sorted plain_sorted entry_sorted (args_sorted1 _) ?_
  unfold Builtin.«sorted»
  refine wpAny_bind (m := checkCount "sorted" 1 1 _) (wpAny_pure (wpAny_bind (collect_set (A := A.in1) hh ⟨o, ho, hex.1, hd⟩ hf hb hr hl fun s1 vs k1 hz g1 o1 pm => ?_)))
  obtain ⟨ls, hS, q⟩ := strs_perm pm (paired_strs hp)
  have lL : ls.Perm L := q.trans pk
  have lv : vs.length = L.length := by rw [hS.length, lL.length_eq]
  refine wpAny_bind (wpAny_newList ?_ (by rw [lv, sizeLine_eq]; omega))
  have hoL : (s1.heap.push (seqObj "list" vs.toArray 0)).get? s1.heap.objs.size = some (seqObj "list" vs.toArray 0) := Heap.get?_push_size _ rfl
  refine wpAny_bind (wpAny_holding (wpAny_call_entry slot_list_sort ⟨_, hoL, rfl⟩ entry_list_sort (list_sort_treeKAny strKind_oneLt hoL hS.keysOf (fun v₁ v₂ rest e => keyKind_strs (by rw [← e]; exact hS)) (by rw [lv, sizeLine_eq]; omega) fun st' hpm hs => ⟨_, rfl, ?_⟩) (args_list_sort _)))
  obtain ⟨ys, y1, y2, y3⟩ := sorted_out_str hS hpm hs
  obtain ⟨c, hc⟩ := sortedHeap_at (vs := vs) (out := (arrOf st').map (·.2)) hoL
  refine wpAny_pure ⟨_, rfl, hQ _ s1.heap.objs.size _ c ys (fun b u e => ?_) g1 o1 hz hc y1 (y2.trans lL) y3⟩
  have e1 := k1 b u e
  have hlt := Heap.lt_size e1
  show (sortedHeap (s1.heap.push (seqObj "list" vs.toArray 0)) s1.heap.objs.size vs _).get? b = some u
  rw [sortedHeap_old (Nat.ne_of_lt hlt) (by rw [size_push']; exact Nat.lt_succ_of_lt hlt)]
  exact Heap.get?_push_of_some _ e1
end
def SetX (w : World) (a : Addr) (L : List Str) : HO := .ext fun h => TxSet w h a L
theorem setX_new {w : World} {P : Program} {H : Hp} {h : Heap} {a : Addr} {L : List Str} (R : TxSet w h a L) : ObjOk P w H h a (SetX w a L) := let ⟨o, _, _, _, _, ho, _⟩ := id R; ⟨R, ⟨o, ho⟩, fun h1 h2 p k => p.at k⟩
section
variable {X : Cx}
theorem setX_get {pins : List (Addr × Obj)} {σ : L2.St} {H : Hp} {s : Shared} {a : Addr} {L : List Str} (I : Inv X pins σ H s) (ha : H a = some (SetX X.w a L)) : TxSet X.w s.heap a L := (I.hok a _ ha).1
/-- sorted(set), fewer than 64 texts -/
def rSortX (w : World) : List V → Hp → VK → Prop := fun vs H Q => ∃ (a : Addr) (L : List Str), vs = [.ref a] ∧ H a = some (SetX w a L) ∧ L.length < 64 ∧ ∀ (ys : List Str) (p : Addr), ys.Perm L → sortedS ys = true → H p = none → Q (.ref p) (upd H p (.lst (ys.map V.str)))
theorem cr_sortX (hc : X.calm = true) : CallR X (.builtin "sorted") (rSortX X.w) := by
  intro pins s σ H vs us Q I r h
  obtain ⟨a, L, rfl, ha, h64, q⟩ := h
  rw [Vals.ref1 r]
  refine sorted_ok (setX_get I ha) (I.ok.hd hc) h64 fun s' p out c ys k g o hp hg hS pm so => ?_
  have hlen : (ys.map V.str).length ≤ sizeLine := by rw [List.length_map, pm.length_eq, sizeLine_eq]; omega
  have hn : H p = none := I.hok.fresh hp
  have J : Inv X pins σ (upd H p (.lst (ys.map V.str))) s' := by
    have z : s' = { s with heap := s'.heap, gens := s'.gens, drawn := s'.drawn, toks := s'.toks } := by cases s'; cases s; cases o; rfl
    rw [z]
    exact I.call (ch := []) (Un.laid k hp hn) (I.hok.laid k hp ⟨hlen, out.toList, c, vals_of_strs hS, hg⟩) (by rw [g]; exact I.bare) fun _ z => nomatch z
  exact ⟨.ref p, _, J, rfl, q ys p pm so hn⟩
/-- an item goes to the new set -/
def emX (w : World) (te : TE) (D : Addr) : L2.St → Hp → (Hp → Prop) → Prop := fun σ H Nx => te σ H fun y H1 => ∃ (x : Str) (L : List Str), y = .str x ∧ H1 D = some (SetX w D L) ∧ L.length + 1 < scanBound ∧ Nx (upd H1 D (SetX w D (added L x)))
theorem emX_ok {B : Cx} {D : Addr} {elt : Expr} {gens : List Comprehension} {scope : Scope} {pos : Pos} {te : TE} (b1 : B.xe = GC.NoE) (he : PE B elt te) : GC.EmOk B (.ref D) (.SetComp elt gens scope pos) (emX B.w te D) := by
  intro pins s σ H Nx I q
  have r := he.run pins s σ H _ I q
  rw [b1] at r
  refine thnF r fun x s1 h => ?_
  obtain ⟨y, H1, I1, r1, z, L, rfl, hD, room, nx⟩ := h
  obtain ⟨t, rfl⟩ := r1
  refine add_ok (setX_get I1 hD) room fun h' tk' sb R => ⟨_, I1.write (e := D) (t' := tk') (by rw [hD]; trivial) (.inl rfl) (fun b u hb hu => (sb.2 b hb).trans hu) ?_ (setX_new R), nx⟩
  obtain ⟨o, _, _, _, _, ho, _⟩ := id R
  exact ⟨o, ho⟩
theorem new_set {P : Program} {w : World} : GC.NewOk P w (newSet (.type "set")) fun D => SetX w D [] := fun A E s Q h => PpSet.newSet_ok (h _ fun H' _ => setX_new (fresh w))
/-- a set comprehension of texts -/
theorem pe_scX {elt tg iter : Expr} {ifs : List Expr} {gens : List Comprehension} {scope : Scope} {own : List (Str × Nat)} {pos : Pos} {wi : TI} {g : TG} {tt : TT} {te : TE} {cs : List GC.Cl} (hc : X.calm = true) (hN : X.N.Nodup) (hi : PI X tg iter wi) (ok : BlkOk X.N X.env.scope scope own)
    (hg : GC.Blk X scope fun B => PG B tg g) (ht : GC.Blk X scope fun B => PTs B ifs tt) (r : GC.Cls X scope gens cs) (nst : GC.Nested (⟨tg, iter, ifs, wi, g, tt, own.map (·.2)⟩ :: cs)) (he : GC.Blk X scope fun B => PE B elt te) (hs : ∀ env x, foldedSetIterable iter env x = pure x := by intro _ _; rfl) :
    PE X (.SetComp elt (⟨tg, iter, ifs, 0⟩ :: gens) scope pos) (GC.tCo (fun D => SetX X.w D []) ⟨tg, iter, ifs, wi, g, tt, own.map (·.2)⟩ cs (emX X.w te)) :=
  GC.pe_co rfl (.s ..) new_set hc hN hi ok hg ht r nst (fun D s H C cl fp => emX_ok rfl (he s H C cl fp)) hs
end
end TxS
set_option Elab.async false
set_option linter.all false
set_option maxRecDepth 100000
set_option maxHeartbeats 2000000
namespace SmR
open PySem PySem.Spec PySem.W PyProof.Rows L2
section
variable {X : Cx}
/-- the signs of a text, each a text -/
def signs (z : Str) : List Str := z.cps.toList.map fun c => ⟨#[c]⟩
theorem vals_signs {z : Str} : ∀ {us : List Value} {cs : List Nat}, us.length = cs.length → (∀ (j : Nat) v, us[j]? = some v → ∃ c u, cs[j]? = some c ∧ v = Value.str ⟨#[c]⟩ u) → Vals ((cs.map fun c => (⟨#[c]⟩ : Str)).map V.str) us
  | [], [], _, _ => .nil
  | [], _ :: _, h, _ => by cases h
  | _ :: _, [], h, _ => by cases h
  | u :: us, c :: cs, h, k => by
    obtain ⟨c', t, e1, e2⟩ := k 0 u rfl
    cases e1
    exact .cons ⟨t, e2⟩ (vals_signs (z := z) (Nat.succ.inj h) fun j v e => k (j + 1) v e)
theorem cr_listStr (hc : X.calm = true) : CallR X (.type "list") (fun vs H Q => ∃ z : Str, vs = [.str z] ∧ z.length ≤ 1000 ∧ ∀ p, H p = none → Q (.ref p) (upd H p (.lst ((signs z).map V.str)))) := by
  intro pins s σ H vs us Q I r h
  obtain ⟨z, rfl, few, q⟩ := h
  obtain ⟨u, rfl, t, rfl⟩ := vals1 r
  have hz : z.cps.size ≤ sizeLine := by
    rw [sizeLine_eq]
    exact Nat.le_trans few (by decide)
  refine call_list_str (hn := hz) (I.ok.hd hc) z t fun h' tk acc c hk hS hacc => ?_
  have hn : H s.heap.objs.size = none := I.hok.fresh (Nat.le_refl _)
  have lz : ((signs z).map V.str).length = z.cps.size := by unfold signs; rw [List.length_map, List.length_map, Array.length_toList]
  refine ⟨.ref s.heap.objs.size, _, I.laid (o := .lst ((signs z).map V.str)) (t' := tk) (fun b o e => hk b o e) (Nat.le_refl _) ⟨by rw [lz]; exact hz, acc.toList, c, ?_, by rw [Array.toArray_toList]; exact hS⟩, rfl, q _ hn⟩
  refine vals_signs (z := z) (by rw [Array.length_toList, Array.length_toList]; exact hacc.1) fun j v e => ?_
  obtain ⟨cc, u, e1, e2⟩ := hacc.2 j v (by rw [← Array.getElem?_toList]; exact e)
  exact ⟨cc, u, by rw [Array.getElem?_toList]; exact e1, e2⟩
theorem op_mulSI : OpR X (binaryOp .Mult) (fun x y H Q => ∃ (z : Str) (n : Int), x = .str z ∧ y = .int n ∧ MulOk z n ∧ Q (.str (Txt.mul z n)) H) := by
  intro pins s σ H x y v u Q I rx ry h
  obtain ⟨z, n, rfl, rfl, ok, q⟩ := h
  obtain ⟨t, rfl⟩ := rx
  obtain ⟨t2, rfl⟩ := ry
  exact SB.mul ok fun t' k => ⟨.str (Txt.mul z n), H, I.tok k, ⟨t', rfl⟩, q⟩
theorem vals_rep {xs : List V} {us : List Value} (r : Vals xs us) : ∀ k : Nat, Vals (List.replicate k xs).flatten (List.replicate k us).flatten
  | 0 => .nil
  | k + 1 => by
    rw [List.replicate_succ, List.replicate_succ, List.flatten_cons, List.flatten_cons]
    exact r.append (vals_rep r k)
theorem op_mulLI : OpR X (binaryOp .Mult) (fun x y H Q => ∃ (a : Addr) (xs : List V) (n : Int), x = .ref a ∧ y = .int n ∧ SqL X.K H a xs ∧ -(2 ^ 63 : Int) ≤ n ∧ n < 2 ^ 63 ∧ xs.length * n.toNat ≤ 256 ∧ ∀ p, H p = none → Q (.ref p) (upd H p (.lst (List.replicate n.toNat xs).flatten))) := by
  intro pins s σ H x y v u Q I rx ry h
  obtain ⟨a, xs, n, rfl, rfl, hs, lo, hi, few, q⟩ := h
  obtain rfl : v = Value.ref a := rx
  obtain ⟨t, rfl⟩ := ry
  obtain ⟨its, rv, ⟨⟨cls, dd, data, sl⟩, k, ho, hc, hdn, hd⟩, hlen⟩ := I.list hs
  have hc1 : cls = Value.type "list" := hc
  have hd1 : data = Data.seq its.toArray k := hd
  subst hc1 hd1
  have lv := rv.length
  have hsz' : its.toArray.size * n.toNat ≤ 256 := by rw [List.size_toArray, ← lv]; exact few
  have hsz2 : its.length * n.toNat ≤ 256 := by rw [← lv]; exact few
  refine wpAny_binaryOp_repeat_ref (T := "list") (U := "int") (by decide) ⟨_, ho, rfl⟩ (fun s' => typeIs_int s' n t) noFill_list_mul F.fills_int_mul F.slot_int_rmul repeat_list F.slot_int_index.lookup
    (call_meets F.slot_int_rmul (typeIs_int s n t) F.entry_int_rmul (F.args_int_rmul_2 _ _) (lm_int_rmul_list_any n t a its.toArray k dd sl)
      ⟨ho, rfl, ⟨_, ho, rfl⟩, call_meets F.slot_list_mul ⟨_, ho, rfl⟩ F.entry_list_mul (F.args_list_mul_2 _ _)
        (lm_list_mul_any a its.toArray k dd sl n t (by simp [Builtin.List.listFitsIndex]; omega) (by omega) (by simp [Builtin.List.listTooLong, sizeLine]; omega)) ⟨ho, ?_⟩⟩)
  rw [listMul_foldl_if]
  have hn : H s.heap.objs.size = none := I.hok.fresh (Nat.le_refl _)
  have vr := vals_rep rv n.toNat
  have lz : (List.replicate n.toNat xs).flatten.length ≤ sizeLine := by
    have e : (List.replicate n.toNat xs).flatten.length = n.toNat * xs.length := by simp
    rw [e, Nat.mul_comm, sizeLine_eq]; omega
  exact ⟨.ref s.heap.objs.size, _, I.laid (o := .lst (List.replicate n.toNat xs).flatten) (t' := s.toks) (fun b o e => Heap.get?_push_of_some _ e) (Nat.le_refl _) ⟨lz, _, 0, vr, Heap.get?_push_size _ rfl⟩, rfl, q _ hn⟩
end
end SmR
set_option Elab.async false
set_option maxRecDepth 100000
namespace KT
open PySem L2 PyProof.Rows
/-- the built-in names that the law leaves alone -/
structure Blt (mg : Str → Option Value) : Prop where
  int : mg "int" = none
  max : mg "max" = none
  min : mg "min" = none
  sum : mg "sum" = none
  len : mg "len" = none
  range : mg "range" = none
/-- a def of the text as its callers know it -/
structure Cee (P : Program) (w : World) (K : PySem.W.Frag) (mg : Str → Option Value) (base : Heap) (k : Nat) (x : Str) (ps : List Str) (sp : Sp) : Prop where
  ex : ∃ (f : Addr) (fd : FuncData), FnOk P w K mg base CX0 k f fd ps sp ∧ mg x = some (.ref f) ∧ PySem.W.keepIn K (.ref f) = true ∧ Binds K fd ps []
section
variable {X : Cx} {k j : Nat} {x : Str} {ps : List Str} {sp : Sp} {p pos : Pos} {e : Expr} {es : List Expr} {t : TA}
theorem pe_c (C : Cee X.prog X.w X.K X.mg X.base k x ps sp) (hr : Room j X.A) (hg : Gl X x) (ha : PA X (e :: es) t) (hkj : k ≤ j := by decide)
    (hdb : (x == ("__debug__" : Str)) = false := by decide) (he : starEach (e :: es) X.env = (false, eval e X.env) :: starEach es X.env := by rfl) (hpl : (backTo pos (starEach es X.env)).any (·.1) = false := by rfl) :
    PE X (.Call (.Name x p) (e :: es) [] pos) (tCall sp [] E0 t) := by
  obtain ⟨f, fd, F, m, kp, b⟩ := C.ex
  exact pe_call F (hr.mono hkj) hg m kp b .nil pass0 ha hdb he hpl
/-- ** of an int of any size to a written power -/
theorem op_powW : OpR X (binaryOp .Pow) (rI (fun i j => 0 ≤ j ∧ (Builtin.Int.intBits i : Int) * j ≤ 2 ^ 27) fun i j => .int (i ^ j.toNat)) := opI fun _ _ _ _ _ _ _ hc q => pow_int hc.1 hc.2 q
end
def PurseAt (H : Hp) (p : Addr) (B : Int) : Prop := ∃ a b c d : Int, H p = some (.lst [.int a, .int b, .int c, .int d]) ∧ 0 ≤ b ∧ b < 2147483629 ∧ 0 ≤ c ∧ c ≤ B
/-- all but what stands at p is as it was -/
def But (p : Addr) (H H' : Hp) : Prop := ∀ b o, b ≠ p → H b = some o → H' b = some o
theorem But.refl (p : Addr) (H : Hp) : But p H H := fun _ _ _ h => h
theorem But.trans {p : Addr} {H H1 H2 : Hp} (a : But p H H1) (b : But p H1 H2) : But p H H2 := fun c o n h => b c o n (a c o n h)
theorem But.upd {p : Addr} {H H1 : Hp} {o : HO} (a : But p H H1) : But p H (upd H1 p o) := fun c u n h => by
  rw [upd_ne n]
  exact a c u n h
theorem But.new {p q : Addr} {H H1 : Hp} {o : HO} (a : But p H H1) (hq : H1 q = none) : But p H (L2.upd H1 q o) := fun c u n h => by
  rw [upd_ne (ne_of_none (a c u n h) hq)]
  exact a c u n h
def spPurse (K : PySem.W.Frag) : Sp := fun vs H Q _ => ∃ (a : Addr) (ns : List Int) (i : Nat), vs = [.ref a, .int i] ∧ SqL K H a (ns.map V.int) ∧ i ≤ 63 ∧ ∀ (p : Addr) (H' : Hp), Same H H' → H p = none → PurseAt H' p 0 → Q (.ref p) H'
def spMixed : Sp := fun vs H Q _ => ∃ s n t : Int, vs = [.int s, .int n, .int t] ∧ -(2 ^ 64) < n ∧ n < 2 ^ 64 ∧ ∀ r : Int, Q (.int r) H
def spDraw : Sp := fun vs H Q _ => ∃ (p : Addr) (m B : Int), vs = [.ref p, .int m] ∧ PurseAt H p B ∧ 0 ≤ B ∧ B ≤ 1000000 ∧ 0 < m ∧ m < 2 ^ 110 ∧ ∀ (r : Int) (H' : Hp), But p H H' → PurseAt H' p (B + 4) → 0 ≤ r → r < m → Q (.int r) H'
section
variable {P : Program} {w : World} {K : PySem.W.Frag} {mg : Str → Option Value} {base : Heap}
theorem scMixed : FnScope ["_law_seed", "_law_spin", "_law_at", "_law_mixed_here"] ["_law_seed", "_law_spin", "_law_at"] (defScope sMixed) := ⟨rfl, rfl, rfl, by decide +kernel, rfl, by decide +kernel, by decide +kernel⟩
theorem ok_mixed {f : Addr} {fd : FuncData} (F : Fun K "_law_mixed" "_law_mixed" sMixed f fd) (T : Blt mg) : FnOk P w K mg base CX0 1 f fd ["_law_seed", "_law_spin", "_law_at"] spMixed := by
  refine F.ok scMixed (fun vs H Q E h => ?_) (fun cdv A outer s H vs Q E hr h => ?_)
  · obtain ⟨s, n, t, rfl, _⟩ := h
    rfl
  · obtain ⟨s, n, t, rfl, n1, n2, k⟩ := h
    refine ⟨_, pss_cons (ps_set (i := 3) scMixed.nd rfl (Or.inl rfl) (pe_op op_add (pe_op op_mul (pv 0) pe_int) (pe_op op_mul (pe_op op_mul pe_int (pv 1)) (pv 1))))
      (pss_cons (ps_set (i := 3) scMixed.nd rfl (Or.inl rfl) (pe_op op_mod (pe_callTy call_int1 (by rfl) T.int boot_int (pa_cons (pe_op op_add (pe_op op_add (pv 3) (pe_op op_mul pe_int (pv 2))) (pv 1)) pa_nil)) pe_int))
      (pss_cons (ps_set (i := 3) scMixed.nd rfl (Or.inl rfl) (pe_op op_mod (pe_callTy call_int1 (by rfl) T.int boot_int (pa_cons (pe_op op_add (pe_op op_mul (pv 3) (pv 3)) pe_int) pa_nil)) pe_int))
      (pss_one (ps_ret (pe_op op_mod (pe_callTy call_int1 (by rfl) T.int boot_int (pa_cons (pe_op op_mul (pv 3) pe_int) pa_nil)) pe_int))))), ?_⟩
    refine ⟨_, rfl, _, _, rfl, rfl, .inr (by decide), _, rfl, _, _, rfl, rfl, .inl (by decide), _, rfl, _, _, rfl, rfl, .inr ⟨n1, n2⟩, _, _, rfl, rfl, ?_⟩
    refine ⟨_, rfl, _, rfl, _, _, rfl, rfl, .inl (by decide), _, _, rfl, rfl, _, rfl, _, _, rfl, rfl, .inl ⟨_, rfl, _, _, rfl, rfl, (by show (0 : Int) < 2147483647; decide), ?_⟩⟩
    generalize hx : (s * 69069 + 104729 * n * n + 7919 * t + n) % 2147483647 = x
    have x1 : 0 ≤ x ∧ x < 2147483647 := by subst hx; omega
    refine ⟨_, rfl, _, rfl, _, _, rfl, rfl, .inl (by omega), _, _, rfl, rfl, .inl ⟨_, rfl, _, _, rfl, rfl, (by show (0 : Int) < 2147483629; decide), ?_⟩⟩
    exact ⟨_, rfl, _, _, rfl, rfl, .inr (by decide), .inl ⟨_, rfl, _, _, rfl, rfl, (by show (0 : Int) < 2147483587; decide), k _⟩⟩
theorem intBits_le110 {m : Int} (h : 0 < m) (h2 : m < 2 ^ 110) : (Builtin.Int.intBits m : Nat) / 28 ≤ 3 := by
  have b := PyProof.Rows.intBits_le (a := m) (k := 110) (by omega)
  omega
theorem scDraw : FnScope ["_law_purse_here", "_law_many", "_law_drawn", "_law_found", "_law_piece"] ["_law_purse_here", "_law_many"] (defScope sDraw) := ⟨rfl, rfl, rfl, by decide +kernel, rfl, by decide +kernel, by decide +kernel⟩
theorem ok_draw {f : Addr} {fd : FuncData} (F : Fun K "_law_draw" "_law_draw" sDraw f fd) (T : Blt mg) (M : Cee P w K mg base 1 "_law_mixed" ["_law_seed", "_law_spin", "_law_at"] spMixed) : FnOk P w K mg base CX0 2 f fd ["_law_purse_here", "_law_many"] spDraw := by
  refine F.ok scDraw (fun vs H Q E h => ?_) (fun cdv A outer s H vs Q E hr h => ?_)
  · obtain ⟨p, m, B, rfl, _⟩ := h
    rfl
  · obtain ⟨p, m, B, rfl, ⟨a, b, c, d, hp, b0, b1, c0, c1⟩, B0, B1, m0, m1, k⟩ := h
    have nd := scDraw.nd
    refine ⟨_, pss_cons (ps_if (pt_cmpR op_gt (pe_ix ix_list (pv 0) pe_int (fun _ _ => rfl)) pe_int (nomark _))
        (pss_cons (ps_set (i := 2) nd rfl (Or.inl rfl) (pe_op op_mod (pe_callTy call_int1 (by rfl) T.int boot_int (pa_cons (pe_ix ix_list (pv 0) pe_int (fun _ _ => rfl)) pa_nil)) (pv 1)))
          (pss_cons (ps_asg (pe_op op_fdivW (pe_ix ix_list (pv 0) pe_int (fun _ _ => rfl)) (pv 1)) (pg_sub (pv 0) pe_int set_list))
            (pss_one (ps_ret (pv 2)))))
        pss_nil)
      (pss_cons (ps_set (i := 3) nd rfl (Or.inl rfl) pe_int)
      (pss_cons (ps_for PassesOwn.never rfl (pi_range1 rfl T.range (pa_cons (pe_op op_add pe_int (pe_op op_fdiv (pe_bits (pv 1)) pe_int)) pa_nil)) (pg_name (i := 4) nd rfl (Or.inl rfl))
        (pss_cons (ps_asg (pe_op op_add (pe_ix ix_list (pv 0) pe_int (fun _ _ => rfl)) pe_int) (pg_sub (pv 0) pe_int set_list))
          (pss_one (ps_set (i := 3) nd rfl (Or.inl rfl) (pe_op op_add (pe_op op_mul (pv 3) pe_int)
            (pe_c M hr rfl (pa_cons (pe_ix ix_list (pv 0) pe_int (fun _ _ => rfl)) (pa_cons (pe_ix ix_list (pv 0) pe_int (fun _ _ => rfl)) (pa_cons (pe_ix ix_list (pv 0) pe_int (fun _ _ => rfl)) pa_nil)))))))))
      (pss_one (ps_ret (pe_op op_mod (pe_callTy call_int1 (by rfl) T.int boot_int (pa_cons (pv 3) pa_nil)) (pv 1)))))), ?_⟩
    have hS : SqL K H p [.int a, .int b, .int c, .int d] := SqL.of hp
    refine ⟨_, rfl, _, _, _, _, rfl, rfl, hS, atI_nat (j := 0) rfl, _, _, rfl, rfl, _, rfl, ?_⟩
    refine ite2 (fun _ => ?_) (fun _ => ?_)
    · refine ⟨_, rfl, _, _, _, _, rfl, rfl, hS, atI_nat (j := 0) rfl, .inl ⟨_, rfl, _, rfl, _, _, rfl, rfl, m0, ?_⟩⟩
      refine ⟨_, rfl, _, _, _, _, rfl, rfl, hS, atI_nat (j := 0) rfl, _, rfl, _, _, rfl, rfl, ⟨m0, ?_⟩, ?_⟩
      · exact Nat.lt_of_lt_of_le (PySem.Flt.log2_lt_of (k := 110) (by decide) (by omega)) (by decide)
      refine ⟨_, rfl, _, _, _, 0, rfl, rfl, hp, rfl, ?_⟩
      refine ⟨_, rfl, k _ _ ?_ ?_ ?_ ?_⟩
      · exact (But.refl p H).upd
      · exact ⟨_, _, _, _, upd_same, b0, b1, c0, by omega⟩
      · exact Int.emod_nonneg _ (by omega)
      · exact Int.emod_lt_of_pos _ m0
    · refine ⟨_, rfl, _, rfl, _, _, rfl, rfl, (by show (0 : Int) < 28 ∧ (28 : Int) < 1073741824; decide), _, _, rfl, rfl, _, rfl, ?_⟩
      have hb := intBits_le110 m0 m1
      generalize hn : (1 + ((Builtin.Int.intBits m : Nat) : Int) / 28) = n
      have n4 : n ≤ 4 := by omega
      have n0 : 0 ≤ n := by omega
      refine ⟨by omega, by omega, ?_⟩
      refine for_range (lo := 0) (n := n.toNat) (fun i σ H' => ∃ (fo : Int) (x2 x4 : Option V), σ = [some (.ref p), some (.int m), x2, some (.int fo), x4] ∧ But p H H' ∧ i ≤ 4 ∧
        ∃ a2 c2 : Int, H' p = some (.lst [.int a2, .int b, .int c2, .int d]) ∧ 0 ≤ c2 ∧ c2 ≤ c + i) ?_ ?_ ?_
      · exact ⟨0, _, _, rfl, But.refl p H, by omega, a, c, hp, c0, by omega⟩
      · rintro i σ H1 hi ⟨fo, x2, x4, rfl, bt, i4, a2, c2, h1, c20, c21⟩
        have h1S : SqL K H1 p [.int a2, .int b, .int c2, .int d] := SqL.of h1
        refine ⟨_, rfl, _, _, _, _, rfl, rfl, h1S, atI_nat (j := 2) rfl, _, _, rfl, rfl, _, rfl, _, _, _, 2, rfl, rfl, h1, rfl, ?_⟩
        have h2 : upd H1 p (.lst [.int a2, .int b, .int (c2 + 1), .int d]) p = some (.lst [.int a2, .int b, .int (c2 + 1), .int d]) := upd_same
        have h2S : SqL K (upd H1 p (.lst [.int a2, .int b, .int (c2 + 1), .int d])) p [.int a2, .int b, .int (c2 + 1), .int d] := SqL.of h2
        refine ⟨_, rfl, _, _, rfl, rfl, .inr (by decide), ?_⟩
        refine ⟨_, rfl, _, _, _, _, rfl, rfl, h2S, atI_nat (j := 1) rfl, ?_⟩
        refine ⟨_, rfl, _, _, _, _, rfl, rfl, h2S, atI_nat (j := 2) rfl, ?_⟩
        refine ⟨_, rfl, _, _, _, _, rfl, rfl, h2S, atI_nat (j := 3) rfl, ?_⟩
        refine ⟨_, _, _, rfl, by omega, by omega, fun r => ⟨_, _, rfl, rfl, ?_⟩⟩
        exact ⟨_, _, _, rfl, bt.upd, by omega, a2, c2 + 1, h2, by omega, by omega⟩
      · rintro σ H1 ⟨fo, x2, x4, rfl, bt, _, a2, c2, h1, c20, c21⟩
        refine ⟨_, rfl, .inl ⟨_, rfl, _, rfl, _, _, rfl, rfl, m0, ?_⟩⟩
        refine k _ _ bt ⟨_, _, _, _, h1, b0, b1, c20, by omega⟩ ?_ ?_
        · exact Int.emod_nonneg _ (by omega)
        · exact Int.emod_lt_of_pos _ m0
theorem cut_ints (ns : List Int) (lo hi : Option Int) : ∃ ms : List Int, cutV (ns.map V.int) lo hi = ms.map V.int := by
  unfold cutV
  rw [← List.map_drop, ← List.map_take]
  exact ⟨_, rfl⟩
theorem scPurse : FnScope ["_law_script", "_law_at", "_law_seed"] ["_law_script", "_law_at"] (defScope sPurse) := ⟨rfl, rfl, rfl, by decide +kernel, rfl, by decide +kernel, by decide +kernel⟩
theorem pow18 : CPow 10 18 := ⟨by decide, by decide, by decide⟩
theorem pow60 : CPow 10 60 := ⟨by decide, by decide, by decide⟩
theorem pow480 : (0 : Int) ≤ 8 ∧ (Builtin.Int.intBits ((10 : Int) ^ (60 : Int).toNat) : Int) * 8 ≤ 2 ^ 27 := by
  have b := PyProof.Rows.intBits_le (a := (10 : Int) ^ (60 : Int).toNat) (k := 300) (by decide +kernel)
  omega
theorem pos480 : (0 : Int) < ((10 : Int) ^ (60 : Int).toNat) ^ (8 : Int).toNat := by decide +kernel
theorem ok_purse {f : Addr} {fd : FuncData} (F : Fun K "_law_purse" "_law_purse" sPurse f fd) (T : Blt mg) : FnOk P w K mg base CX0 1 f fd ["_law_script", "_law_at"] (spPurse K) := by
  refine F.ok scPurse (fun vs H Q E h => ?_) (fun cdv A outer s H vs Q E hr h => ?_)
  · obtain ⟨a, ns, i, rfl, _⟩ := h
    rfl
  · obtain ⟨a, ns, i, rfl, hS, hi, k⟩ := h
    have nd := scPurse.nd
    refine ⟨_, pss_cons (ps_set (i := 2) nd rfl (Or.inl rfl) (pe_callB (cr_sum rfl) (by rfl) T.sum (by decide +kernel) (pa_cons (pe_slice sl_list (pv 0) (po_some (pv 1)) (po_some (pe_op op_add (pv 1) pe_int))) pa_nil)))
      (pss_one (ps_ret (pe_lst
        (pa_cons (pe_op op_mod (pe_callTy call_int1 (by rfl) T.int boot_int (pa_cons (pe_callB (call_max2 rfl) (by rfl) T.max boot_max (pa_cons (pe_op op_sub (pv 2) (pe_op op_pow pe_int pe_int)) (pa_cons pe_int pa_nil))) pa_nil)) (pe_op op_powW (pe_op op_pow pe_int pe_int) pe_int))
        (pa_cons (pe_op op_mod (pe_callTy call_int1 (by rfl) T.int boot_int (pa_cons (pv 2) pa_nil)) pe_int)
        (pa_cons pe_int (pa_cons (pv 1) pa_nil))))))), ?_⟩
    refine ⟨_, rfl, _, rfl, _, rfl, _, rfl, _, _, rfl, rfl, _, rfl, a, _, rfl, hS, fun p hp => ?_⟩
    obtain ⟨ms, hm⟩ := cut_ints ns (some (i : Int)) (some ((i : Int) + 1))
    have hpS : SqL K (upd H p (.lst (cutV (ns.map V.int) (some (i : Int)) (some ((i : Int) + 1))))) p (ms.map V.int) := SqL.of (by rw [← hm]; exact upd_same)
    refine ⟨p, ms, rfl, hpS, ?_⟩
    refine ⟨_, rfl, _, _, rfl, rfl, pow18, _, _, rfl, rfl, _, _, rfl, .inl ⟨_, rfl, ?_⟩⟩
    refine ⟨_, _, rfl, rfl, pow60, _, _, rfl, rfl, pow480, _, _, rfl, rfl, pos480, ?_⟩
    refine ⟨_, rfl, .inl ⟨_, rfl, _, _, rfl, rfl, (by show (0 : Int) < 2147483629; decide), ?_⟩⟩
    refine ⟨_, rfl, (by show 4 ≤ sizeLine; decide), fun q hq => ?_⟩
    have np : q ≠ p := fun e => by
      rw [e, upd_same] at hq
      cases hq
    have hq0 : H q = none := by
      rw [upd_ne np] at hq
      exact hq
    refine k q _ (fun b o e => ?_) hq0 ⟨_, _, _, _, upd_same, ?_, ?_, by decide, by decide⟩
    · rw [upd_ne (ne_of_none e hq0), upd_ne (ne_of_none e hp)]
      exact e
    · exact Int.emod_nonneg _ (by decide)
    · exact Int.emod_lt_of_pos _ (by decide)
def spOneOf : Sp := fun vs H Q _ => ∃ (p l : Addr) (xs : List V) (B : Int), vs = [.ref p, .ref l] ∧ p ≠ l ∧ PurseAt H p B ∧ 0 ≤ B ∧ B ≤ 1000000 ∧ H l = some (.lst xs) ∧ 0 < xs.length ∧ xs.length ≤ 1000 ∧
  ∀ (x : V) (H' : Hp), x ∈ xs → But p H H' → PurseAt H' p (B + 4) → Q x H'
theorem scOneOf : FnScope ["_law_purse_here", "_law_some"] ["_law_purse_here", "_law_some"] (defScope sOneOf) := ⟨rfl, rfl, rfl, by decide +kernel, rfl, by decide +kernel, by decide +kernel⟩
theorem ok_oneof {f : Addr} {fd : FuncData} (F : Fun K "_law_one_of" "_law_one_of" sOneOf f fd) (T : Blt mg) (D : Cee P w K mg base 2 "_law_draw" ["_law_purse_here", "_law_many"] spDraw) : FnOk P w K mg base CX0 3 f fd ["_law_purse_here", "_law_some"] spOneOf := by
  refine F.ok scOneOf (fun vs H Q E h => ?_) (fun cdv A outer s H vs Q E hr h => ?_)
  · obtain ⟨p, l, xs, B, rfl, _⟩ := h
    rfl
  · obtain ⟨p, l, xs, B, rfl, npl, hP, B0, B1, hl, l0, l1, k⟩ := h
    refine ⟨_, pss_one (ps_ret (pe_ix ix_list (pv 1) (pe_c D hr rfl (pa_cons (pv 0) (pa_cons (pe_callB call_len_seq (by rfl) T.len PySem.boot_len (pa_cons (pv 1) pa_nil)) pa_nil))) (fun _ _ => rfl))), ?_⟩
    refine ⟨_, rfl, _, rfl, _, rfl, l, _, rfl, .inl (SqL.of hl), ?_⟩
    refine ⟨p, _, B, rfl, hP, B0, B1, by omega, by omega, fun r H' bt hP' r0 r1 => ?_⟩
    obtain ⟨j, rfl⟩ : ∃ j : Nat, r = j := ⟨r.toNat, by omega⟩
    have hj : j < xs.length := by omega
    exact ⟨l, xs, _, xs[j], rfl, rfl, SqL.of (bt l _ npl.symm hl), atI_nat (by simp [hj]), k _ _ (List.getElem_mem hj) bt hP'⟩
/-- a word: one to eight letters from a to z -/
def Wd (x : Str) : Prop := 1 ≤ x.length ∧ x.length ≤ 8 ∧ ∀ c ∈ x.cps.toList, 97 ≤ c ∧ c ≤ 122
def Letter (x : Str) : Prop := ∃ c : Nat, x = ⟨#[c]⟩ ∧ 97 ≤ c ∧ c ≤ 122
theorem wd_join : ∀ ys : List Str, (∀ y ∈ ys, Letter y) → (Str.join ⟨#[]⟩ ys).length = ys.length ∧ ∀ c ∈ (Str.join ⟨#[]⟩ ys).cps.toList, 97 ≤ c ∧ c ≤ 122 := by
  intro ys
  induction ys with
  | nil => intro _; exact ⟨rfl, fun c hc => by cases hc⟩
  | cons y ys ih =>
    intro h
    obtain ⟨c, rfl, c1, c2⟩ := h y List.mem_cons_self
    obtain ⟨e1, e2⟩ := ih fun z hz => h z (List.mem_cons_of_mem _ hz)
    cases ys with
    | nil => exact ⟨rfl, fun d hd => by
        have : d = c := by simpa [Str.join] using hd
        omega⟩
    | cons z zs =>
      have e : Str.join ⟨#[]⟩ (⟨#[c]⟩ :: z :: zs) = (⟨#[c]⟩ : Str) ++ (⟨#[]⟩ : Str) ++ Str.join ⟨#[]⟩ (z :: zs) := rfl
      rw [e]
      refine ⟨?_, fun d hd => ?_⟩
      · rw [strLen_append, strLen_append, e1]
        show 1 + 0 + _ = _
        simp only [List.length_cons]
        omega
      · have hd' : d ∈ (c :: (Str.join ⟨#[]⟩ (z :: zs)).cps.toList) := by
          have : (((⟨#[c]⟩ : Str) ++ (⟨#[]⟩ : Str) ++ Str.join ⟨#[]⟩ (z :: zs)) : Str).cps.toList = c :: (Str.join ⟨#[]⟩ (z :: zs)).cps.toList := by
            show ((#[c] ++ #[]) ++ (Str.join ⟨#[]⟩ (z :: zs)).cps).toList = _
            simp
          rw [this] at hd
          exact hd
        rcases List.mem_cons.mp hd' with q | q
        · omega
        · exact e2 d q
theorem yes_if {σ : L2.St} {H : Hp} {A B : Hp → Prop} (h : A H) : tYes σ H (fun b H3 => if b = true then A H3 else B H3) := by
  unfold tYes
  dsimp only
  rw [if_pos rfl]
  exact h
def spWord : Sp := fun vs H Q _ => ∃ (p : Addr) (B : Int), vs = [.ref p] ∧ PurseAt H p B ∧ 0 ≤ B ∧ B ≤ 999000 ∧ ∀ (x : Str) (H' : Hp), Wd x → But p H H' → PurseAt H' p (B + 40) → Q (.str x) H'
theorem scWord : FnScope ["_law_purse_here", "_law_size", "_law_spin"] ["_law_purse_here"] (defScope sWord) := ⟨rfl, rfl, rfl, by decide +kernel, rfl, by decide +kernel, by decide +kernel⟩
theorem abc_at {j : Nat} (h : j < 26) : ∃ c, atI ("abcdefghijklmnopqrstuvwxyz" : Str).cps.toList (j : Int) = some c ∧ 97 ≤ c ∧ c ≤ 122 := by
  have e : ("abcdefghijklmnopqrstuvwxyz" : Str).cps.toList = (List.range 26).map (· + 97) := by decide +kernel
  refine ⟨j + 97, ?_, by omega, by omega⟩
  rw [e]
  exact atI_nat (by simp [h])
theorem ok_word {f : Addr} {fd : FuncData} (F : Fun K "_law_word" "_law_word" sWord f fd) (T : Blt mg) (D : Cee P w K mg base 2 "_law_draw" ["_law_purse_here", "_law_many"] spDraw) : FnOk P w K mg base CX0 3 f fd ["_law_purse_here"] spWord := by
  refine F.ok scWord (fun vs H Q E h => ?_) (fun cdv A outer s H vs Q E hr h => ?_)
  · obtain ⟨p, B, rfl, _⟩ := h
    rfl
  · obtain ⟨p, B, rfl, hP, B0, B1, k⟩ := h
    have nd := scWord.nd
    refine ⟨_, pss_cons (ps_set (i := 1) nd rfl (Or.inl rfl) (pe_op op_add pe_int (pe_c D hr rfl (pa_cons (pv 0) (pa_cons
        (pe_ifExp (pt_cmpR op_eq (pe_c D hr rfl (pa_cons (pv 0) (pa_cons pe_int pa_nil))) pe_int (nomark _)) pe_int pe_int) pa_nil)))))
      (pss_one (ps_ret (pe_join pe_str
        (pe_lc (own := [("_law_spin", 2)]) (g := gName 2) (tt := tYes) rfl nd (pi_range1 (by rfl) T.range (pa_cons (pv 1) pa_nil)) (blkOk_by (own := [("_law_spin", 2)]) (N := ["_law_purse_here", "_law_size", "_law_spin"]) (sc := defScope sWord) (by decide +kernel))
          (fun _ _ _ _ _ => pg_name (i := 2) nd rfl (Or.inl rfl)) (fun _ _ _ _ _ => pts_nil)
          (fun _ _ _ _ _ => pe_ix ix_str pe_str (pe_c D hr rfl (pa_cons (pv 0) (pa_cons pe_int pa_nil))) (fun _ _ => rfl)))))), ?_⟩
    refine ⟨_, rfl, _, rfl, p, 3, B, rfl, hP, B0, by omega, by decide, by decide, fun r1 H1 bt1 P1 r10 r11 => ?_⟩
    refine ⟨rfl, _, rfl, ?_⟩
    have B0' : (0 : Int) ≤ B + 4 := by omega
    refine ite2 (fun _ => ?_) (fun _ => ?_)
    all_goals
      refine ⟨p, _, B + 4, rfl, P1, B0', by omega, by decide, by decide, fun r2 H2 bt2 P2 r20 r21 => ?_⟩
      refine ⟨_, _, rfl, rfl, ⟨_, rfl⟩, _, rfl, _, rfl, by omega, by omega, fun D hD => ?_⟩
      have ndp : D ≠ p := fun e => by
        obtain ⟨_, _, _, _, q, _⟩ := P2
        rw [← e, hD] at q
        cases q
      refine lc_range (lo := 0) (n := (1 + r2).toNat) (fun i H' => But p H H' ∧ i ≤ 8 ∧ PurseAt H' p (B + 8 + 4 * i) ∧ ∃ ys : List Str, ys.length = i ∧ (∀ y ∈ ys, Letter y) ∧ H' D = some (.lst (ys.map V.str))) ?_ ?_ ?_
      · refine ⟨(bt1.trans bt2).new hD, by omega, ?_, [], rfl, fun y hy => by (cases hy), upd_same⟩
        obtain ⟨a, b, c, d, q, q1, q2, q3, q4⟩ := P2
        exact ⟨a, b, c, d, by rw [upd_ne ndp.symm]; exact q, q1, q2, q3, by omega⟩
      · rintro i H3 hi ⟨bt3, i8, P3, ys, yl, yL, hD3⟩
        refine ⟨rfl, yes_if ?_⟩
        refine ⟨_, rfl, p, 26, _, rfl, P3, by omega, by omega, by decide, by decide, fun r H4 bt4 P4 r0 r1 => ?_⟩
        obtain ⟨j, rfl⟩ : ∃ j : Nat, r = j := ⟨r.toNat, by omega⟩
        obtain ⟨c, hc, c1, c2⟩ := abc_at (j := j) (by omega)
        refine ⟨_, _, c, rfl, rfl, (by decide +kernel), hc, _, bt4 D _ ndp hD3, ?_, ?_⟩
        · rw [List.length_map, yl]
          exact small1000 (by omega)
        · refine ⟨?_, by omega, ?_, ys ++ [⟨#[c]⟩], by simp [yl], ?_, ?_⟩
          · intro b o n h
            have h4 := bt4 b o n (bt3 b o n h)
            have nbD : b ≠ D := ne_of_none ((bt1.trans bt2) b o n h) hD
            rw [upd_ne nbD]
            exact h4
          · obtain ⟨a, b, c, d, q, q1, q2, q3, q4⟩ := P4
            exact ⟨a, b, c, d, by rw [upd_ne ndp.symm]; exact q, q1, q2, q3, by omega⟩
          · intro y hy
            rcases List.mem_append.mp hy with h | h
            · exact yL y h
            · exact ⟨c, List.mem_singleton.mp h, c1, c2⟩
          · rw [List.map_append]
            exact upd_same
      · rintro H3 ⟨bt3, i8, P3, ys, yl, yL, hD3⟩
        obtain ⟨w1, w2⟩ := wd_join ys yL
        refine ⟨_, D, ys, rfl, rfl, .inl (SqL.of hD3), ?_, ?_⟩
        · have e : ∀ zs : List Str, (∀ y ∈ zs, Letter y) → (zs.map (·.length)).sum = zs.length := by
            intro zs
            induction zs with
            | nil => intro _; rfl
            | cons z zs ih =>
              intro h
              obtain ⟨c, rfl, _⟩ := h z List.mem_cons_self
              rw [List.map_cons, List.sum_cons, ih fun y hy => h y (List.mem_cons_of_mem _ hy), List.length_cons]
              show 1 + _ = _
              omega
          rw [e ys yL]
          show ys.length + ys.length * 0 ≤ _
          omega
        · have ej : Txt.join ("" : Str) ys = Str.join ⟨#[]⟩ ys := TL.join_eq _ _
          show Q (.str (Txt.join ("" : Str) ys)) H3
          rw [ej]
          refine k _ _ ⟨by omega, by omega, w2⟩ bt3 ?_
          obtain ⟨a, b, c, d, q, q1, q2, q3, q4⟩ := P3
          exact ⟨a, b, c, d, q, q1, q2, q3, by omega⟩
end
theorem Same.new {H : Hp} {p : Addr} {o : HO} (h : H p = none) : L2.Same H (upd H p o) := fun b u e => by
  rw [upd_ne (ne_of_none e h)]
  exact e
def spPurses (K : PySem.W.Frag) : Sp := fun vs H Q _ => ∃ (a : Addr) (ns : List Int) (m : Int), vs = [.ref a, .int m] ∧ SqL K H a (ns.map V.int) ∧ ns.length ≤ 63 ∧ 1 ≤ m ∧ m ≤ 60 ∧
  ∀ (l : Addr) (ps : List Addr) (H' : Hp), L2.Same H H' → H' l = some (.lst (ps.map V.ref)) → (∀ p ∈ ps, PurseAt H' p 0 ∧ H p = none ∧ p ≠ l) → ps.Nodup → ps ≠ [] → (ps.length : Int) ≤ m → Q (.ref l) H'
section
variable {P : Program} {w : World} {K : PySem.W.Frag} {mg : Str → Option Value} {base : Heap}
theorem PurseAt.mono {H H' : Hp} {p : Addr} {B : Int} (s : L2.Same H H') (h : PurseAt H p B) : PurseAt H' p B := by
  obtain ⟨a, b, c, d, q, r⟩ := h
  exact ⟨a, b, c, d, s _ _ q, r⟩
theorem scPurses : FnScope ["_law_script", "_law_few", "_law_at"] ["_law_script", "_law_few"] (defScope sPurses) := ⟨rfl, rfl, rfl, by decide +kernel, rfl, by decide +kernel, by decide +kernel⟩
theorem ok_purses {f : Addr} {fd : FuncData} (F : Fun K "_law_purses" "_law_purses" sPurses f fd) (B : Blt mg) (Pu : Cee P w K mg base 1 "_law_purse" ["_law_script", "_law_at"] (spPurse K)) : FnOk P w K mg base CX0 2 f fd ["_law_script", "_law_few"] (spPurses K) := by
  refine F.ok scPurses (fun vs H Q E h => ?_) (fun cdv A outer s H vs Q E hr h => ?_)
  · obtain ⟨a, ns, m, rfl, _⟩ := h
    rfl
  · obtain ⟨a, ns, m, rfl, hS, few, m1, m2, k⟩ := h
    have nd := scPurses.nd
    refine ⟨_, pss_one (ps_ret (pe_lc (own := [("_law_at", 2)]) (g := gName 2) (tt := tYes) (te := tCall (spPurse K) [] E0 (tCons (tVar 0) (tCons (tVar 2) tNil))) rfl nd
      (pi_range1 (by rfl) B.range (pa_cons (pe_callB (call_max2 rfl) (by rfl) B.max boot_max (pa_cons pe_int (pa_cons (pe_callB (call_min2 rfl) (by rfl) B.min (by decide +kernel) (pa_cons (pv 1) (pa_cons (pe_callB call_len_seq (by rfl) B.len PySem.boot_len (pa_cons (pv 0) pa_nil)) pa_nil))) pa_nil))) pa_nil))
      (blkOk_by (own := [("_law_at", 2)]) (N := ["_law_script", "_law_few", "_law_at"]) (sc := defScope sPurses) (by decide +kernel))
      (fun _ _ _ _ _ => pg_name (i := 2) nd rfl (Or.inl rfl)) (fun _ _ _ _ _ => pts_nil) (fun _ _ _ _ _ => pe_c Pu hr rfl (pa_cons (pv 0) (pa_cons (pv 2) pa_nil))))), ?_⟩
    refine ⟨_, rfl, _, rfl, _, _, rfl, .inl hS, _, _, rfl, _, _, rfl, ?_⟩
    generalize hn : (if (if (((ns.map V.int).length : Nat) : Int) < m then (((ns.map V.int).length : Nat) : Int) else m) > 1 then (if (((ns.map V.int).length : Nat) : Int) < m then (((ns.map V.int).length : Nat) : Int) else m) else 1) = n
    have n1 : 1 ≤ n ∧ n ≤ m := by
      subst hn
      split <;> split <;> omega
    refine ⟨_, rfl, by omega, by omega, fun R hR => ?_⟩
    refine lc_range (lo := 0) (n := n.toNat) (fun i H' => L2.Same H H' ∧ ∃ ps : List Addr, ps.length = i ∧ H' R = some (.lst (ps.map V.ref)) ∧ (∀ p ∈ ps, PurseAt H' p 0 ∧ H p = none ∧ p ≠ R) ∧ ps.Nodup) ?_ ?_ ?_
    · exact ⟨Same.new hR, [], rfl, upd_same, fun p hp => by (cases hp), List.nodup_nil⟩
    · rintro i H1 hi ⟨s1, ps, pl, h1, hp, pnd⟩
      refine ⟨rfl, yes_if ?_⟩
      refine ⟨_, rfl, _, rfl, a, ns, i, ?_, s1.seq hS, by omega, fun p H2 s2 hp0 P2 => ?_⟩
      · rw [Int.zero_add]
        rfl
      · have hH : H p = none := s1.free hp0
        have pR : p ≠ R := fun e => by
          rw [e, h1] at hp0
          cases hp0
        have hR2 : H2 R = some (.lst (ps.map V.ref)) := s2 _ _ h1
        refine ⟨_, hR2, ?_, ?_, ps ++ [p], by simp [pl], ?_, ?_, ?_⟩
        · rw [List.length_map, pl]
          exact small1000 (by omega)
        · intro b o e
          rw [upd_ne (ne_of_none e hR)]
          exact s2 _ _ (s1 _ _ e)
        · rw [List.map_append]
          exact upd_same
        · intro q hq
          have keep : ∀ {q : Addr}, PurseAt H2 q 0 → q ≠ R → PurseAt (upd H2 R (.lst (ps.map V.ref ++ [.ref p]))) q 0 := by
            rintro q ⟨a, b, c, d, e, r⟩ nq
            exact ⟨a, b, c, d, by rw [upd_ne nq]; exact e, r⟩
          rcases List.mem_append.mp hq with h | h
          · obtain ⟨x1, x2, x3⟩ := hp q h
            exact ⟨keep (x1.mono s2) x3, x2, x3⟩
          · have e := List.mem_singleton.mp h
            subst e
            exact ⟨keep P2 pR, hH, pR⟩
        · refine List.nodup_append.mpr ⟨pnd, by simp, fun x hx y hy e => ?_⟩
          have e2 := List.mem_singleton.mp hy
          subst e2
          subst e
          obtain ⟨⟨a1, b1, c1, d1, q, _⟩, _⟩ := hp x hx
          rw [q] at hp0
          cases hp0
    · rintro H1 ⟨s1, ps, pl, h1, hp, pnd⟩
      refine k R ps H1 s1 h1 hp pnd (fun e => ?_) (by omega)
      rw [e] at pl
      simp at pl
      omega
end
end KT
set_option Elab.async false
set_option linter.all false
set_option maxRecDepth 100000
set_option maxHeartbeats 4000000
namespace KT
open PySem L2 PyProof.Rows
theorem But.fresh {p q : Addr} {H H1 : Hp} {o : HO} (a : But p H H1) (hq : H q = none) : But p H (L2.upd H1 q o) := fun c u n h => by
  rw [upd_ne (ne_of_none h hq)]
  exact a c u n h
theorem But.same {p : Addr} {H H1 H2 : Hp} (a : But p H H1) (s : L2.Same H1 H2) : But p H H2 := fun c u n h => s _ _ (a c u n h)
theorem Same.but {p : Addr} {H H1 H2 : Hp} (s : L2.Same H H1) (a : But p H1 H2) : But p H H2 := fun c u n h => a c u n (s _ _ h)
theorem PurseAt.le {H : Hp} {p : Addr} {B B' : Int} (h : PurseAt H p B) (k : B ≤ B') : PurseAt H p B' := by
  obtain ⟨a, b, c, d, q, q1, q2, q3, q4⟩ := h
  exact ⟨a, b, c, d, q, q1, q2, q3, by omega⟩
theorem PurseAt.at {H H' : Hp} {p : Addr} {B : Int} (e : H' p = H p) (h : PurseAt H p B) : PurseAt H' p B := by
  obtain ⟨a, b, c, d, q, r⟩ := h
  exact ⟨a, b, c, d, by rw [e]; exact q, r⟩
theorem PurseAt.upd {H : Hp} {p q : Addr} {o : HO} {B : Int} (h : PurseAt H p B) (n : p ≠ q) : PurseAt (L2.upd H q o) p B := h.at (upd_ne n)
theorem PurseAt.ne {H : Hp} {p q : Addr} {B : Int} (h : PurseAt H p B) (n : H q = none) : p ≠ q := by
  obtain ⟨a, b, c, d, q, r⟩ := h
  exact ne_of_none q n
theorem But.free {p q : Addr} {H H' : Hp} {B : Int} (a : But p H H') (hp : PurseAt H' p B) (h : H' q = none) : H q = none := by
  have n := hp.ne h
  cases e : H q with
  | none => rfl
  | some o =>
    rw [a q o n.symm e] at h
    cases h
/-- a draw of a number told by a Nat -/
theorem nat_of {r m : Int} (h : 0 ≤ r) : ∃ j : Nat, r = j := ⟨r.toNat, by omega⟩
section
variable {P : Program} {w : World} {K : PySem.W.Frag} {mg : Str → Option Value} {base : Heap}
abbrev DrawC (P : Program) (w : World) (K : PySem.W.Frag) (mg : Str → Option Value) (base : Heap) : Prop := Cee P w K mg base 2 "_law_draw" ["_law_purse_here", "_law_many"] spDraw
theorem take_next' {α : Type} {l : List α} {i : Nat} {x : α} (h : l[i]? = some x) : l.take (i + 1) = l.take i ++ [x] := by
  rw [List.take_add_one, h]
  rfl
end
end KT
set_option Elab.async false
set_option linter.all false
set_option maxRecDepth 100000
set_option maxHeartbeats 4000000
namespace KT
open PySem L2 PyProof.Rows
theorem at_slots {t : TS} {D : Ends} {σ σ' : L2.St} {H : Hp} (e : σ = σ') (h : t D σ' H) : t D σ H := by
  subst e
  exact h
theorem at_name {i : Nat} {v : V} {σ σ' : L2.St} {H : Hp} {Q : L2.St → Hp → Prop} (e : σ.set i (some v) = σ') (h : Q σ' H) : gName i v σ H Q := by
  subst e
  exact h
section
variable {P : Program} {w : World} {K : PySem.W.Frag} {mg : Str → Option Value} {base : Heap}
def spWords : Sp := fun vs H Q _ => ∃ (p : Addr) (m B : Int), vs = [.ref p, .int m] ∧ PurseAt H p B ∧ 0 ≤ B ∧ B ≤ 980000 ∧ 1 ≤ m ∧ m ≤ 12 ∧
  ∀ (q : Addr) (ws : List Str) (H' : Hp), H q = none → But p H H' → PurseAt H' p (B + 1000) → H' q = some (.lst (ws.map V.str)) → (ws.length : Int) = m → (∀ x ∈ ws, Wd x) → ws.Nodup → Q (.ref q) H'
abbrev nWords : List Str := ["_law_purse_here", "_law_many", "_law_base", "_law_near", "_law_spot", "_law_found", "_law_spin", "_law_word_here", "_law_letter"]
theorem scWords : FnScope nWords ["_law_purse_here", "_law_many"] (defScope sWords) := ⟨rfl, rfl, rfl, by decide +kernel, rfl, by decide +kernel, by decide +kernel⟩
theorem abc_signs : SmR.signs "abcdefghijklmnopqrstuvwxyz" = (List.range 26).map fun j => (⟨#[97 + j]⟩ : Str) := by decide +kernel
theorem inV_strs (x : Str) (ws : List Str) : inV (.str x) (ws.map V.str) = decide (x ∈ ws) := by
  unfold inV
  rw [List.any_map]
  induction ws with
  | nil => rfl
  | cons y ys ih =>
    rw [List.any_cons, ih]
    show ((y == x) || _) = _
    by_cases e : y = x
    · subst e; simp
    · have e2 : ¬ x = y := fun z => e z.symm
      simp [e, e2]
theorem flat_strs (ws : List Str) : (ws.map V.str).all flatV = true := by
  rw [List.all_map]
  exact List.all_eq_true.mpr fun _ _ => rfl
theorem abc_nodup : (SmR.signs "abcdefghijklmnopqrstuvwxyz").Nodup := by rw [abc_signs]; decide +kernel
theorem abc_len : (SmR.signs "abcdefghijklmnopqrstuvwxyz").length = 26 := by decide +kernel
theorem abc_wd : ∀ x ∈ SmR.signs "abcdefghijklmnopqrstuvwxyz", Wd x := by
  intro x hx
  rw [abc_signs] at hx
  obtain ⟨j, hj, rfl⟩ := List.mem_map.mp hx
  have h26 := List.mem_range.mp hj
  refine ⟨by show 1 ≤ 1; decide, by show 1 ≤ 8; decide, fun c hc => ?_⟩
  have e : c = 97 + j := by simpa using hc
  omega
/-- a letter that is no word yet -/
theorem abc_free {ws : List Str} (h : ws.length < 26) : ∃ y ys, (SmR.signs "abcdefghijklmnopqrstuvwxyz").filter (fun y => decide (y ∉ ws)) = y :: ys ∧ Wd y ∧ y ∉ ws := by
  cases e : (SmR.signs "abcdefghijklmnopqrstuvwxyz").filter (fun y => decide (y ∉ ws)) with
  | nil =>
    have := List.Nodup.length_le_of_subset abc_nodup (l₂ := ws) fun x hx => Classical.byContradiction fun n => by
      have m : x ∈ (SmR.signs "abcdefghijklmnopqrstuvwxyz").filter (fun y => decide (y ∉ ws)) := List.mem_filter.mpr ⟨hx, decide_eq_true n⟩
      rw [e] at m
      cases m
    rw [abc_len] at this
    omega
  | cons y ys =>
    have m : y ∈ (SmR.signs "abcdefghijklmnopqrstuvwxyz").filter (fun y => decide (y ∉ ws)) := by rw [e]; exact List.mem_cons_self
    obtain ⟨m1, m2⟩ := List.mem_filter.mp m
    exact ⟨y, ys, rfl, abc_wd y m1, of_decide_eq_true m2⟩
/-- a word with one letter changed -/
theorem near_wd {z : Str} {j c : Nat} (h : Wd z) (hj : j < z.length) (c1 : 97 ≤ c) (c2 : c ≤ 122) : Wd (cutS z none (some (j : Int)) ++ ⟨#[c]⟩ ++ cutS z (some ((j : Int) + 1)) none) ∧ (cutS z none (some (j : Int))).length = j ∧ (cutS z (some ((j : Int) + 1)) none).length = z.length - (j + 1) := by
  obtain ⟨h1, h2, h3⟩ := h
  have zl : z.cps.toList.length = z.length := Array.length_toList
  have e1 : (cutS z none (some (j : Int))).cps.toList = z.cps.toList.take j := by
    unfold cutS
    show (z.cps.toList.drop 0).take (HT.sIx z.length z.length (some (j : Int)) - 0) = _
    rw [HT.sIx_nat, List.drop_zero, Nat.sub_zero, Nat.min_eq_left (by omega)]
  have e2 : (cutS z (some ((j : Int) + 1)) none).cps.toList = z.cps.toList.drop (j + 1) := by
    unfold cutS
    show (z.cps.toList.drop (HT.sIx z.length 0 (some ((j : Int) + 1)))).take (HT.sIx z.length z.length none - HT.sIx z.length 0 (some ((j : Int) + 1))) = _
    have ej : ((j : Int) + 1) = ((j + 1 : Nat) : Int) := by omega
    rw [ej, HT.sIx_nat, Nat.min_eq_left (by omega)]
    show (z.cps.toList.drop (j + 1)).take (z.length - (j + 1)) = _
    rw [List.take_of_length_le (by rw [List.length_drop, zl]; omega)]
  have l1 : (cutS z none (some (j : Int))).length = j := by
    show (cutS z none (some (j : Int))).cps.size = j
    rw [← Array.length_toList, e1, List.length_take, zl]; omega
  have l2 : (cutS z (some ((j : Int) + 1)) none).length = z.length - (j + 1) := by
    show (cutS z (some ((j : Int) + 1)) none).cps.size = _
    rw [← Array.length_toList, e2, List.length_drop, zl]
  refine ⟨⟨?_, ?_, fun d hd => ?_⟩, l1, l2⟩
  · rw [strLen_append, strLen_append, l1, l2]
    show 1 ≤ j + 1 + _
    omega
  · rw [strLen_append, strLen_append, l1, l2]
    show j + 1 + (z.length - (j + 1)) ≤ 8
    omega
  · have e : (cutS z none (some (j : Int)) ++ (⟨#[c]⟩ : Str) ++ cutS z (some ((j : Int) + 1)) none).cps.toList = z.cps.toList.take j ++ [c] ++ z.cps.toList.drop (j + 1) := by
      show (((cutS z none (some (j : Int))).cps ++ #[c]) ++ (cutS z (some ((j : Int) + 1)) none).cps).toList = _
      rw [Array.toList_append, Array.toList_append, e1, e2]
    rw [e] at hd
    rcases List.mem_append.mp hd with q | q
    · rcases List.mem_append.mp q with q | q
      · exact h3 d (List.mem_of_mem_take q)
      · have := List.mem_singleton.mp q
        omega
    · exact h3 d (List.mem_of_mem_drop q)
theorem ok_words {f : Addr} {fd : FuncData} (F : Fun K "_law_words" "_law_words" sWords f fd) (T : Blt mg) (hl : mg "list" = none) (D : DrawC P w K mg base) (W : Cee P w K mg base 3 "_law_word" ["_law_purse_here"] spWord) : FnOk P w K mg base CX0 4 f fd ["_law_purse_here", "_law_many"] spWords := by
  refine F.ok scWords (fun vs H Q E h => ?_) (fun cdv A outer s H vs Q E hr h => ?_)
  · obtain ⟨p, m, B, rfl, _⟩ := h
    rfl
  · obtain ⟨p, m, B, rfl, hP, B0, B1, m1, m2, k⟩ := h
    have nd := scWords.nd
    refine ⟨_, pss_cons (ps_par (i := 2) (j := 3) rfl nd rfl rfl (by decide) rfl rfl (pa_cons (pe_c W hr rfl (pa_cons (pv 0) pa_nil)) (pa_cons (pe_cmpR op_eq (pe_c D hr rfl (pa_cons (pv 0) (pa_cons pe_int pa_nil))) pe_int (nomark _)) pa_nil)) (by rfl))
      (pss_cons (ps_asg (pe_tup (pa_cons (pe_c D hr rfl (pa_cons (pv 0) (pa_cons (pe_callB call_len (by rfl) T.len PySem.boot_len (pa_cons (pv 2) pa_nil)) pa_nil))) (pa_cons (pe_lst pa_nil) pa_nil))) (pg_tup rfl (pgs_cons (pg_name (i := 4) nd rfl (Or.inl rfl)) (pgs_cons (pg_name (i := 5) nd rfl (Or.inr rfl)) pgs_nil))))
      (pss_cons (ps_for PassesOwn.never rfl (pi_range1 rfl T.range (pa_cons (pv 1) pa_nil)) (pg_name (i := 6) nd rfl (Or.inl rfl))
        (pss_cons (ps_set (i := 7) nd rfl (Or.inl rfl) (pe_op op_add_str (pe_op op_add_str (pe_slice sl_str (pv 2) po_none (po_some (pv 4))) (pe_ix ix_str pe_str (pe_c D hr rfl (pa_cons (pv 0) (pa_cons pe_int pa_nil))) (fun _ _ => rfl)))
            (pe_slice sl_str (pv 2) (po_some (pe_op op_add (pv 4) pe_int)) po_none)))
        (pss_cons (ps_if (pt_not (pt_val (pv 3))) (pss_one (ps_set (i := 7) nd rfl (Or.inl rfl) (pe_c W hr rfl (pa_cons (pv 0) pa_nil)))) pss_nil)
        (pss_cons (ps_if (pt_cmpR op_in_seq (pv 7) (pv 5) (by rfl)) (pss_one (ps_set (i := 7) nd rfl (Or.inl rfl) (pe_ix ix_list
            (pe_lc (own := [("_law_letter", 8)]) (g := gName 8) (tt := tTest (tOp (rIn K true) (tVar 8) (tVar 5))) (te := tVar 8) rfl nd (pi_list (pe_callTy (SmR.cr_listStr rfl) (by rfl) hl (by decide +kernel) (pa_cons pe_str pa_nil))) (blkOk_by (own := [("_law_letter", 8)]) (N := nWords) (sc := defScope sWords) (by decide +kernel))
              (fun _ _ _ _ _ => pg_name (i := 8) nd rfl (Or.inl rfl)) (fun _ _ _ _ _ => pts_one (pt_cmpR op_notIn_seq (pv 8) (pv 5) (by rfl))) (fun _ _ _ _ _ => pv 8)) pe_int (fun _ _ => rfl)))) pss_nil)
        (pss_one (ps_expr (pe_bm PySem.F.plainAttrs_list PySem.F.slot_list_append PySem.F.type_list_append mt_append (pv 5) (pa_cons (pv 7) pa_nil))))))))
      (pss_one (ps_ret (pv 5))))), ?_⟩
    refine ⟨_, rfl, p, B, rfl, hP, B0, by omega, fun base H1 hbase bt1 hP1 => ?_⟩
    refine ⟨_, rfl, p, 3, _, rfl, hP1, by omega, by omega, by decide, by decide, fun r1 H2 bt2 hP2 _ _ => ?_⟩
    refine ⟨rfl, _, _, rfl, ?_⟩
    generalize hnear : decide (V.int r1 = V.int 0) = near
    refine at_slots (σ' := [some (.ref p), some (.int m), some (.str base), some (.bl near), none, none, none, none, none]) rfl ?_
    have lb := hbase.2.1
    refine ⟨_, rfl, _, rfl, _, base.length, rfl, ⟨by rw [sizeLine_eq]; omega, rfl⟩, ?_⟩
    refine ⟨p, base.length, _, rfl, hP2, by omega, by omega, ?_, by omega, fun r2 H3 bt3 hP3 r20 r21 => ?_⟩
    · have := hbase.1
      omega
    refine ⟨(by show 0 ≤ sizeLine; decide), fun q hq => ?_⟩
    have bt := bt1.trans (bt2.trans bt3)
    have hq0 : H q = none := bt.free hP3 hq
    have hP4 := hP3.upd (q := q) (o := .lst []) (hP3.ne hq)
    have e4 : upd H3 q (.lst []) q = some (.lst []) := upd_same
    have bt4 : But p H (upd H3 q (.lst [])) := bt.new hq
    generalize upd H3 q (.lst []) = G4 at hP4 e4 bt4 ⊢
    refine ⟨(by show 2 ≤ sizeLine; decide), fun t ht => ?_⟩
    have hP5 := hP4.upd (q := t) (o := .tup [.int r2, .ref q]) (hP4.ne ht)
    have e5 : upd G4 t (.tup [.int r2, .ref q]) q = some (.lst []) := (upd_ne (ne_of_none e4 ht)).trans e4
    have e6 : upd G4 t (.tup [.int r2, .ref q]) t = some (.tup [.int r2, .ref q]) := upd_same
    have bt5 : But p H (upd G4 t (.tup [.int r2, .ref q])) := bt4.new ht
    generalize upd G4 t (.tup [.int r2, .ref q]) = G5 at hP5 e5 e6 bt5 ⊢
    refine ⟨t, _, rfl, SqT.of e6, rfl, _, _, rfl, ?_⟩
    refine at_name (σ' := [some (.ref p), some (.int m), some (.str base), some (.bl near), some (.int r2), none, none, none, none]) rfl ?_
    refine ⟨_, _, rfl, ?_⟩
    refine at_name (σ' := [some (.ref p), some (.int m), some (.str base), some (.bl near), some (.int r2), some (.ref q), none, none, none]) rfl ?_
    refine ⟨rfl, ?_⟩
    refine ⟨_, rfl, m, rfl, by omega, by omega, ?_⟩
    obtain ⟨sp, rfl⟩ := nat_of (m := 0) r20
    refine for_range (lo := 0) (n := m.toNat) (fun i σ H' => ∃ (x6 x7 x8 : Option V) (ws : List Str), σ = [some (.ref p), some (.int m), some (.str base), some (.bl near), some (.int sp), some (.ref q), x6, x7, x8] ∧ But p H H' ∧ PurseAt H' p (B + 48 + 44 * i) ∧ H' q = some (.lst (ws.map V.str)) ∧ ws.length = i ∧ (∀ x ∈ ws, Wd x) ∧ ws.Nodup) ?_ ?_ ?_
    · exact ⟨_, _, _, [], rfl, bt5, hP5.le (by omega), e5, rfl, fun x hx => by (cases hx), List.nodup_nil⟩
    · rintro i σ H6 hi ⟨x6, x7, x8, ws, rfl, bt6, hP6, hq6, lw, wd, ndw⟩
      have npq : p ≠ q := fun e => by
        obtain ⟨a, b, c, d, h1, _⟩ := hP6
        rw [e, hq6] at h1
        have e1 := congrArg (fun o => match o with | some (.lst xs) => xs.head? | _ => none) h1
        cases ws <;> cases e1
      refine ⟨_, rfl, _, rfl, _, rfl, _, rfl, by rw [sizeLine_eq]; omega, ?_⟩
      refine ⟨_, rfl, p, 26, _, rfl, hP6, by omega, by omega, by decide, by decide, fun r3 H7 bt7 hP7 r30 r31 => ?_⟩
      obtain ⟨j, rfl⟩ := nat_of (m := 0) r30
      obtain ⟨c, hc, c1, c2⟩ := abc_at (j := j) (by omega)
      refine ⟨_, _, c, rfl, rfl, by decide +kernel, hc, ?_⟩
      obtain ⟨wn, ln⟩ := near_wd hbase (j := sp) (by omega) c1 c2
      have l1c : (⟨#[c]⟩ : Str).length = 1 := rfl
      refine ⟨_, _, rfl, rfl, by rw [sizeLine_eq, l1c, ln.1]; omega, ?_⟩
      refine ⟨_, rfl, _, rfl, _, _, rfl, rfl, _, rfl, _, rfl, by rw [sizeLine_eq]; omega, ?_⟩
      refine ⟨_, _, rfl, rfl, by rw [sizeLine_eq, strLen_append, l1c, ln.1, ln.2]; omega, ?_⟩
      generalize hw0 : cutS base none (some (sp : Int)) ++ (⟨#[c]⟩ : Str) ++ cutS base (some ((sp : Int) + 1)) none = w0 at wn ⊢
      refine at_name (σ' := [some (.ref p), some (.int m), some (.str base), some (.bl near), some (.int sp), some (.ref q), some (.int (0 + i)), some (.str w0), x8]) rfl ?_
      have hq7 : H7 q = some (.lst (ws.map V.str)) := bt7 q _ npq.symm hq6
      have bt67 := bt6.trans bt7
      refine ⟨_, rfl, near, rfl, ?_⟩
      cases near
      · refine iteT ?_
        refine ⟨_, rfl, p, _, rfl, hP7, by omega, by omega, fun w1 H8 wd1 bt8 hP8' => ?_⟩
        refine at_name (σ' := [some (.ref p), some (.int m), some (.str base), some (.bl false), some (.int sp), some (.ref q), some (.int (0 + i)), some (.str w1), x8]) rfl ?_
        have hP8 : PurseAt H8 p (B + 48 + 44 * i + 44) := hP8'.le (by omega)
        have hq8 : H8 q = some (.lst (ws.map V.str)) := bt8 q _ npq.symm hq7
        have btH := bt67.trans bt8
        refine ⟨_, rfl, _, rfl, q, _, rfl, .inl (SqL.of hq8), rfl, flat_strs ws, _, rfl, ?_⟩
        rw [if_neg Bool.false_ne_true, inV_strs]
        refine ite2 (fun hin => ?_) (fun hin => ?_)
        · refine ⟨"abcdefghijklmnopqrstuvwxyz", rfl, by decide +kernel, fun L hL => ?_⟩
          have hP9 := hP8.upd (q := L) (o := .lst ((SmR.signs "abcdefghijklmnopqrstuvwxyz").map V.str)) (hP8.ne hL)
          have hq9 : upd H8 L (.lst ((SmR.signs "abcdefghijklmnopqrstuvwxyz").map V.str)) q = some (.lst (ws.map V.str)) := (upd_ne (ne_of_none hq8 hL)).trans hq8
          have hL9 : upd H8 L (.lst ((SmR.signs "abcdefghijklmnopqrstuvwxyz").map V.str)) L = _ := upd_same
          have bt9 : But p H (upd H8 L (.lst ((SmR.signs "abcdefghijklmnopqrstuvwxyz").map V.str))) := btH.new hL
          generalize upd H8 L (.lst ((SmR.signs "abcdefghijklmnopqrstuvwxyz").map V.str)) = H9 at hP9 hq9 hL9 bt9 ⊢
          refine ⟨L, rfl, ⟨_, SqL.of hL9⟩, fun D hD => ?_⟩
          refine lc_list (K := K) (a := L) (xs := (SmR.signs "abcdefghijklmnopqrstuvwxyz").map V.str) (fun n H' => L2.Same H9 H' ∧ H' D = some (.lst ((((SmR.signs "abcdefghijklmnopqrstuvwxyz").take n).filter fun y => decide (y ∉ ws)).map V.str))) ?_ ?_ ?_ ?_
          · exact ⟨Same.new hD, upd_same⟩
          · rintro n H' _ ⟨sm, _⟩
            exact SqL.of (sm _ _ hL9)
          · rintro n x H' hx ⟨sm, hD'⟩
            obtain ⟨y, hy, rfl⟩ : ∃ y, (SmR.signs "abcdefghijklmnopqrstuvwxyz")[n]? = some y ∧ x = .str y := by
              rw [List.getElem?_map] at hx
              cases e : (SmR.signs "abcdefghijklmnopqrstuvwxyz")[n]? with
              | none => rw [e] at hx; cases hx
              | some y => rw [e] at hx; exact ⟨y, rfl, (Option.some.inj hx).symm⟩
            refine ⟨rfl, ?_⟩
            refine ⟨_, rfl, _, rfl, q, _, rfl, .inl (SqL.of (sm _ _ hq9)), rfl, flat_strs ws, _, rfl, ?_⟩
            rw [if_pos rfl, inV_strs]
            rw [take_next' hy, List.filter_append]
            by_cases hy2 : y ∈ ws
            · refine iteNS hy2 ⟨sm, ?_⟩
              rw [List.filter_cons_of_neg (by simpa using hy2), List.filter_nil, List.append_nil]
              exact hD'
            · rw [decide_eq_false hy2]
              refine ⟨_, rfl, _, hD', ?_, ?_, ?_⟩
              · rw [List.length_map]
                refine small1000 (Nat.le_trans (List.length_filter_le _ _) ?_)
                rw [List.length_take, abc_len]; omega
              · intro b o e
                rw [upd_ne (fun z => by rw [z, hD] at e; cases e)]
                exact sm _ _ e
              · rw [List.filter_cons_of_pos (by simpa using hy2), List.filter_nil, List.map_append]
                exact upd_same
          · rintro H' ⟨sm, hD'⟩
            rw [List.length_map, List.take_length] at hD'
            obtain ⟨y, ys, ey, wy, ny⟩ := abc_free (ws := ws) (by omega)
            rw [ey] at hD'
            refine ⟨D, _, 0, .str y, rfl, rfl, SqL.of hD', atI_nat (j := 0) rfl, ?_⟩
            refine at_name (σ' := [some (.ref p), some (.int m), some (.str base), some (.bl false), some (.int sp), some (.ref q), some (.int (0 + i)), some (.str y), x8]) rfl ?_
            have hqE := sm _ _ hq9
            have hPE := hP9.mono sm
            refine ⟨_, rfl, .inl ⟨rfl, _, SqL.of hqE⟩, _, rfl, q, _, _, rfl, rfl, hqE, by rw [List.length_map]; exact small1000 (by omega), ?_⟩
            refine ⟨_, _, _, ws ++ [y], rfl, (bt9.same sm).fresh hq0, (hPE.upd npq).le (by omega), by rw [List.map_append]; exact upd_same, by simp [lw], ?_, ?_⟩
            · intro x hx
              rcases List.mem_append.mp hx with h | h
              · exact wd x h
              · rw [List.mem_singleton.mp h]; exact wy
            · exact List.nodup_append.mpr ⟨ndw, by simp, fun a ha b hb e => ny (by rw [← List.mem_singleton.mp hb, ← e]; exact ha)⟩
        · refine ⟨_, rfl, .inl ⟨rfl, _, SqL.of hq8⟩, _, rfl, q, _, _, rfl, rfl, hq8, by rw [List.length_map]; exact small1000 (by omega), ?_⟩
          refine ⟨_, _, _, ws ++ [w1], rfl, btH.fresh hq0, (hP8.upd npq).le (by omega), by rw [List.map_append]; exact upd_same, by simp [lw], ?_, ?_⟩
          · intro x hx
            rcases List.mem_append.mp hx with h | h
            · exact wd x h
            · rw [List.mem_singleton.mp h]; exact wd1
          · exact List.nodup_append.mpr ⟨ndw, by simp, fun a ha b hb e => (fun m => hin (decide_eq_true m)) (by rw [← List.mem_singleton.mp hb, ← e]; exact ha)⟩
      · refine iteF ?_
        obtain ⟨w1, rfl⟩ : ∃ z, z = w0 := ⟨_, rfl⟩
        obtain ⟨H8, rfl⟩ : ∃ z, z = H7 := ⟨_, rfl⟩
        have wd1 := wn
        have hP8 : PurseAt H8 p (B + 48 + 44 * i + 44) := hP7.le (by omega)
        have hq8 := hq7
        have btH := bt67
        refine ⟨_, rfl, _, rfl, q, _, rfl, .inl (SqL.of hq8), rfl, flat_strs ws, _, rfl, ?_⟩
        rw [if_neg Bool.false_ne_true, inV_strs]
        refine ite2 (fun hin => ?_) (fun hin => ?_)
        · refine ⟨"abcdefghijklmnopqrstuvwxyz", rfl, by decide +kernel, fun L hL => ?_⟩
          have hP9 := hP8.upd (q := L) (o := .lst ((SmR.signs "abcdefghijklmnopqrstuvwxyz").map V.str)) (hP8.ne hL)
          have hq9 : upd H8 L (.lst ((SmR.signs "abcdefghijklmnopqrstuvwxyz").map V.str)) q = some (.lst (ws.map V.str)) := (upd_ne (ne_of_none hq8 hL)).trans hq8
          have hL9 : upd H8 L (.lst ((SmR.signs "abcdefghijklmnopqrstuvwxyz").map V.str)) L = _ := upd_same
          have bt9 : But p H (upd H8 L (.lst ((SmR.signs "abcdefghijklmnopqrstuvwxyz").map V.str))) := btH.new hL
          generalize upd H8 L (.lst ((SmR.signs "abcdefghijklmnopqrstuvwxyz").map V.str)) = H9 at hP9 hq9 hL9 bt9 ⊢
          refine ⟨L, rfl, ⟨_, SqL.of hL9⟩, fun D hD => ?_⟩
          refine lc_list (K := K) (a := L) (xs := (SmR.signs "abcdefghijklmnopqrstuvwxyz").map V.str) (fun n H' => L2.Same H9 H' ∧ H' D = some (.lst ((((SmR.signs "abcdefghijklmnopqrstuvwxyz").take n).filter fun y => decide (y ∉ ws)).map V.str))) ?_ ?_ ?_ ?_
          · exact ⟨Same.new hD, upd_same⟩
          · rintro n H' _ ⟨sm, _⟩
            exact SqL.of (sm _ _ hL9)
          · rintro n x H' hx ⟨sm, hD'⟩
            obtain ⟨y, hy, rfl⟩ : ∃ y, (SmR.signs "abcdefghijklmnopqrstuvwxyz")[n]? = some y ∧ x = .str y := by
              rw [List.getElem?_map] at hx
              cases e : (SmR.signs "abcdefghijklmnopqrstuvwxyz")[n]? with
              | none => rw [e] at hx; cases hx
              | some y => rw [e] at hx; exact ⟨y, rfl, (Option.some.inj hx).symm⟩
            refine ⟨rfl, ?_⟩
            refine ⟨_, rfl, _, rfl, q, _, rfl, .inl (SqL.of (sm _ _ hq9)), rfl, flat_strs ws, _, rfl, ?_⟩
            rw [if_pos rfl, inV_strs]
            rw [take_next' hy, List.filter_append]
            by_cases hy2 : y ∈ ws
            · refine iteNS hy2 ⟨sm, ?_⟩
              rw [List.filter_cons_of_neg (by simpa using hy2), List.filter_nil, List.append_nil]
              exact hD'
            · rw [decide_eq_false hy2]
              refine ⟨_, rfl, _, hD', ?_, ?_, ?_⟩
              · rw [List.length_map]
                refine small1000 (Nat.le_trans (List.length_filter_le _ _) ?_)
                rw [List.length_take, abc_len]; omega
              · intro b o e
                rw [upd_ne (fun z => by rw [z, hD] at e; cases e)]
                exact sm _ _ e
              · rw [List.filter_cons_of_pos (by simpa using hy2), List.filter_nil, List.map_append]
                exact upd_same
          · rintro H' ⟨sm, hD'⟩
            rw [List.length_map, List.take_length] at hD'
            obtain ⟨y, ys, ey, wy, ny⟩ := abc_free (ws := ws) (by omega)
            rw [ey] at hD'
            refine ⟨D, _, 0, .str y, rfl, rfl, SqL.of hD', atI_nat (j := 0) rfl, ?_⟩
            refine at_name (σ' := [some (.ref p), some (.int m), some (.str base), some (.bl true), some (.int sp), some (.ref q), some (.int (0 + i)), some (.str y), x8]) rfl ?_
            have hqE := sm _ _ hq9
            have hPE := hP9.mono sm
            refine ⟨_, rfl, .inl ⟨rfl, _, SqL.of hqE⟩, _, rfl, q, _, _, rfl, rfl, hqE, by rw [List.length_map]; exact small1000 (by omega), ?_⟩
            refine ⟨_, _, _, ws ++ [y], rfl, (bt9.same sm).fresh hq0, (hPE.upd npq).le (by omega), by rw [List.map_append]; exact upd_same, by simp [lw], ?_, ?_⟩
            · intro x hx
              rcases List.mem_append.mp hx with h | h
              · exact wd x h
              · rw [List.mem_singleton.mp h]; exact wy
            · exact List.nodup_append.mpr ⟨ndw, by simp, fun a ha b hb e => ny (by rw [← List.mem_singleton.mp hb, ← e]; exact ha)⟩
        · refine ⟨_, rfl, .inl ⟨rfl, _, SqL.of hq8⟩, _, rfl, q, _, _, rfl, rfl, hq8, by rw [List.length_map]; exact small1000 (by omega), ?_⟩
          refine ⟨_, _, _, ws ++ [w1], rfl, btH.fresh hq0, (hP8.upd npq).le (by omega), by rw [List.map_append]; exact upd_same, by simp [lw], ?_, ?_⟩
          · intro x hx
            rcases List.mem_append.mp hx with h | h
            · exact wd x h
            · rw [List.mem_singleton.mp h]; exact wd1
          · exact List.nodup_append.mpr ⟨ndw, by simp, fun a ha b hb e => (fun m => hin (decide_eq_true m)) (by rw [← List.mem_singleton.mp hb, ← e]; exact ha)⟩
    · rintro σ H6 ⟨x6, x7, x8, ws, rfl, bt6, hP6, hq6, lw, wd, ndw⟩
      exact ⟨_, rfl, k q ws H6 hq0 bt6 (hP6.le (by omega)) hq6 (by omega) wd ndw⟩
end
end KT
set_option Elab.async false
set_option linter.all false
set_option maxRecDepth 100000
set_option maxHeartbeats 2000000
namespace DTp
open PySem PySem.Spec PySem.W PyProof.Rows L2
section
variable {prog : Program} {w : World} {A : Around} {E : Value → Shared → Prop} {s : Shared} {r d : Addr} {es : Array DictEntry} {ep : Nat}
theorem listI {Q : Value → Shared → Prop} (hh : A.handled = none) (hv : s.heap.IsItemsView r d) (hm : DT.Raw s.heap d es ep) (hn : es.size ≤ sizeLine)
    (hQ : ∀ h' tk acc c as, (∀ b o, s.heap.get? b = some o → h'.get? b = some o) → h'.get? s.heap.objs.size = some { cls := .type "list", dict := none, data := .seq acc c, slots := #[] } → as.length = es.size → DT.Made es s.heap.objs.size h' as → acc.toList = as.map Value.ref →
      Q (.ref s.heap.objs.size) { s with heap := h', toks := tk }) : wpAny (model prog w) A (call (.type "list") [.ref r]) Q E s := by
  refine callType_codes (Q₁ := fun obj s₁ => obj = .ref s.heap.objs.size ∧ s₁ = { s with heap := s.heap.push { cls := .type "list", data := .seq #[] } }) PySem.F.called_list (PySem.F.typeCall_list_1 _) PySem.F.entry_list_init (code_list_new _ ⟨rfl, rfl⟩) fun obj s₁ h₁ => ?_
  obtain ⟨rfl, rfl⟩ := h₁
  have hS : (s.heap.push { cls := .type "list", data := .seq #[] }).get? s.heap.objs.size = some { cls := .type "list", data := .seq #[] } := Heap.get?_push_size _ rfl
  have hr : r < s.heap.objs.size := let ⟨_, ho, _⟩ := hv; Heap.lt_size ho
  have hd : d < s.heap.objs.size := hm.lt
  have p0 : ∀ b o, s.heap.get? b = some o → (s.heap.push { cls := .type "list", data := .seq #[] }).get? b = some o := fun b o e => Heap.get?_push_of_some _ e
  refine ⟨⟨_, hS, rfl⟩, PySem.F.args_list_init_2 _ _, ?_⟩
  unfold Builtin.«list.__init__»
  refine wpAny_bind ?_
  unfold Builtin.List.listItems
  refine wpAny_bind (wpAny_seqItems hS rfl (wpAny_pure ?_))
  refine wpAny_bind (m := updateSeq s.heap.objs.size fun _ => #[]) (wpAny_updateSeq hS rfl ?_)
  have hS2 := Heap.get?_update_self (Obj.mapSeq (fun _ => (#[] : Array Value))) hS rfl
  have oth : ∀ b o, b ≠ s.heap.objs.size → s.heap.get? b = some o → ((s.heap.push { cls := .type "list", data := .seq #[] }).update s.heap.objs.size (Obj.mapSeq (fun _ => (#[] : Array Value)))).get? b = some o := fun b o hb e => (Heap.get?_update_other _ _ (Ne.symm hb)).trans (p0 b o e)
  refine wpAny_bind (wpAny_letGo ?_)
  refine DT.extI (es := es) (ep := ep) (A := A.in1) hh (let ⟨o, ho, x⟩ := hv; ⟨o, oth r o (Nat.ne_of_lt hr) ho, x⟩) (hm.at' fun o e => oth d o (Nat.ne_of_lt hd) e) _ (Nat.ne_of_gt hr) (Nat.ne_of_lt hd) .none _ hS2 (fun h' tk acc c as hk hS' hl hG hacc => ?_) hn
  exact ⟨rfl, hQ h' tk acc c as (fun b o e => hk b o (Nat.ne_of_lt (Heap.lt_size e)) (oth b o (Nat.ne_of_lt (Heap.lt_size e)) e)) hS' hl (hG.low (Nat.le_of_lt (Heap.lt_size hS2))) hacc⟩
end
/-- the entry's tuple -/
def ItT (H : Hp) : List Addr → List (List Key × V) → Prop := Paired fun t kv => ∃ b, H t = some (.tup [.ref b, kv.2]) ∧ H b = some (.tup (kv.1.map kV))
def rListIt : List V → Hp → VK → Prop := fun vs H Q => ∃ (p a : Addr) (kvs : List (List Key × V)), vs = [.ref p] ∧ H p = some (L2.DX.itemsO p a) ∧ Rd H a (.dT kvs) ∧
  ∀ (H' : Hp) (l : Addr) (ts : List Addr), Same H H' → H l = none → (∀ t ∈ ts, H t = none) → l ∉ ts → ts.Nodup → H' l = some (.lst (ts.map V.ref)) → ItT H' ts kvs → Q (.ref l) H'
section
variable {X : Cx}
theorem paired_of {α β : Type} {F : α → β → Prop} : ∀ {xs : List α} {ys : List β}, xs.length = ys.length → (∀ (i : Nat) (x : α) (y : β), xs[i]? = some x → ys[i]? = some y → F x y) → Paired F xs ys
  | [], [], _, _ => .nil
  | [], _ :: _, h, _ => by cases h
  | _ :: _, [], h, _ => by cases h
  | x :: xs, y :: ys, h, k => .cons (k 0 x y rfl rfl) (paired_of (Nat.succ.inj h) fun i a b e1 e2 => k (i + 1) a b e1 e2)
theorem vals_addrs : ∀ as : List Addr, Vals (as.map V.ref) (as.map Value.ref)
  | [] => .nil
  | a :: as => .cons (show RelV (V.ref a) (Value.ref a) from rfl) (vals_addrs as)
theorem cr_listIt (hc : X.calm = true) : CallR X (.type "list") rListIt := by
  intro pins s σ H vs us Q I r h
  obtain ⟨p, a, kvs, rfl, hp, ha, q⟩ := h
  rw [Vals.ref1 r]
  have view : s.heap.IsItemsView p a := (show ObjOk X.prog X.w H s.heap p (L2.DX.itemsO p a) from I.hok p _ hp).1
  obtain ⟨z, lo, xs, rel, o, es, ep, ho, hex, hdat, hes, his, hnd⟩ := dt_rd I.hok ha
  have l1 : kvs.length = xs.length := Paired.length rel
  have l2 : es.size = xs.length := size_of_entries hes
  refine listI (es := es) (ep := ep) (I.ok.hd hc) view ⟨o, ho, hex, hdat⟩ (by rw [l2, ← l1]; exact z) fun h' tk acc c as hk hS hl hG hacc => ?_
  have nd : as.Nodup := List.Pairwise.imp (fun h => Nat.ne_of_lt h) hG.rise
  have lak : as.length = kvs.length := by omega
  have hn0 : H s.heap.objs.size = none := I.hok.fresh (Nat.le_refl _)
  have up : ∀ b ∈ as, s.heap.objs.size < b := hG.above
  have fr : ∀ b ∈ as, H b = none := fun b hb => I.hok.fresh (Nat.le_of_lt (up b hb))
  -- what was made
  have pr : ∀ (j : Nat) (b : Addr), as[j]? = some b → ∃ (kv : List Key × V) (x : List Key × Addr × Value), kvs[j]? = some kv ∧ H x.2.1 = some (.tup (kv.1.map kV)) ∧ RelV kv.2 x.2.2 ∧ h'.get? b = some { cls := .type "tuple", data := .seq #[Value.ref x.2.1, x.2.2] } := by
    intro j b hj
    obtain ⟨e, he, hg⟩ := hG.pairs j b hj
    rw [entry_at hes j] at he
    cases hx : xs[j]? with
    | none => rw [hx] at he; cases he
    | some x =>
      rw [hx] at he
      have he : entryOfKey (tupleKind (mixKind X.prog X.w)) x = e := Option.some.inj he
      obtain ⟨kv, k1, r1, r2, r3⟩ := paired_at rel hx
      refine ⟨kv, x, k1, r2, r3, ?_⟩
      rw [hg, ← he]
      all_goals rfl
  have I1 : Inv X pins σ H { s with heap := h', toks := tk } := I.kept (t' := tk) hk
  have lz : (as.map V.ref).length ≤ sizeLine := by rw [List.length_map, lak]; exact z
  have I2 : Inv X pins σ (upd H s.heap.objs.size (.lst (as.map V.ref))) { s with heap := h', toks := tk } :=
    I1.take (h' := h') (t' := tk) (fun b ob _ e => e) (I.fpOk (Nat.le_refl _) hn0) ⟨lz, acc.toList, c, by rw [hacc]; exact vals_addrs as, by rw [Array.toArray_toList]; exact hS⟩
  obtain ⟨H2, I3, g, qt⟩ := L2.DX.takeT (P := fun b vs => ∃ (j : Nat) (kv : List Key × V) (kq : Addr), as[j]? = some b ∧ kvs[j]? = some kv ∧ vs = [.ref kq, kv.2] ∧ H kq = some (.tup (kv.1.map kV))) I as _ I2 nd fun b hb => by
    obtain ⟨j, hj⟩ := List.mem_iff_getElem?.mp hb
    obtain ⟨kv, x, k1, k2, k3, hg⟩ := pr j b hj
    refine ⟨Nat.le_of_lt (up b hb), ?_, [.ref x.2.1, kv.2], ⟨j, kv, x.2.1, hj, k1, rfl, k2⟩, fun H3 => ⟨(by rw [sizeLine_eq]; show 2 ≤ 16777216; omega), [Value.ref x.2.1, x.2.2], .cons (show RelV (V.ref x.2.1) (Value.ref x.2.1) from rfl) (.cons k3 .nil), ⟨_, hg, rfl, 0, rfl⟩⟩⟩
    rw [upd_ne (Nat.ne_of_gt (up b hb))]
    exact fr b hb
  have gr : Same H H2 := fun b o e => g b o (by rw [upd_ne (ne_of_none e hn0)]; exact e)
  refine ⟨.ref s.heap.objs.size, H2, I3, rfl, q H2 s.heap.objs.size as gr hn0 fr (fun hm => Nat.lt_irrefl _ (up _ hm)) nd (g _ _ upd_same) (paired_of lak fun i t kv e1 e2 => ?_)⟩
  obtain ⟨vs, ⟨j, kv', kq, j1, j2, ev, hkq⟩, hH⟩ := qt t (List.mem_of_getElem? e1)
  have eij : i = j := (List.getElem?_inj (List.getElem?_eq_some_iff.mp e1).1 nd).mp (e1.trans j1.symm)
  subst eij
  have ee : kv' = kv := Option.some.inj (j2.symm.trans e2)
  subst ee
  rw [ev] at hH
  exact ⟨kq, hH, gr _ _ hkq⟩
end
end DTp
set_option Elab.async false
set_option linter.all false
set_option maxRecDepth 100000
set_option maxHeartbeats 4000000
namespace KT
open PySem L2 DTp
section
variable {ι : Type} {key : ι → List Key} {val : ι → V}
/-- just the entries of the indices in S, each once -/
structure TbG (S : ι → Prop) (key : ι → List Key) (val : ι → V) (kvs : List (List Key × V)) : Prop where
  nd : (kvs.map (·.1)).Nodup
  mem : ∀ e ∈ kvs, ∃ i, S i ∧ e = (key i, val i)
  has : ∀ i, S i → (key i, val i) ∈ kvs
theorem valV_mem {κ : Type} [DecidableEq κ] : ∀ {kvs : List (κ × V)} {k : κ} {v : V}, (kvs.map (·.1)).Nodup → (k, v) ∈ kvs → valV kvs k = some v
  | p :: kvs, k, v, nd, h => by
    rw [List.map_cons, List.nodup_cons] at nd
    rcases List.mem_cons.mp h with e | h
    · subst e
      exact valV_pos rfl
    · have n : ¬ p.1 = k := fun e => nd.1 (e ▸ List.mem_map.mpr ⟨(k, v), h, rfl⟩)
      rw [valV_neg n]
      exact valV_mem nd.2 h
theorem TbG.get {S : ι → Prop} {kvs : List (List Key × V)} (h : TbG S key val kvs) {i : ι} (hi : S i) : valV kvs (key i) = some (val i) := valV_mem h.nd (h.has i hi)
theorem TbG.nil : TbG (fun _ : ι => False) key val [] := ⟨.nil, fun e h => (by cases h), fun i h => h.elim⟩
theorem TbG.congr {S S' : ι → Prop} {kvs : List (List Key × V)} (h : TbG S key val kvs) (e : ∀ i, S i ↔ S' i) : TbG S' key val kvs :=
  ⟨h.nd, fun x hx => let ⟨i, a, b⟩ := h.mem x hx; ⟨i, (e i).mp a, b⟩, fun i hi => h.has i ((e i).mpr hi)⟩
theorem TbG.congrV {S : ι → Prop} {val' : ι → V} {kvs : List (List Key × V)} (h : TbG S key val kvs) (e : ∀ i, S i → val i = val' i) : TbG S key val' kvs :=
  ⟨h.nd, fun x hx => let ⟨i, a, b⟩ := h.mem x hx; ⟨i, a, by rw [← e i a]; exact b⟩, fun i hi => by rw [← e i hi]; exact h.has i hi⟩
theorem any_key {kvs : List (List Key × V)} {k : List Key} : (kvs.any fun kv => decide (kv.1 = k)) = true ↔ k ∈ kvs.map (·.1) := by
  rw [List.any_eq_true, List.mem_map]
  exact ⟨fun ⟨x, h1, h2⟩ => ⟨x, h1, of_decide_eq_true h2⟩, fun ⟨x, h1, h2⟩ => ⟨x, h1, decide_eq_true h2⟩⟩
theorem TbG.put {S : ι → Prop} {kvs : List (List Key × V)} (inj : ∀ i j, key i = key j → i = j) (h : TbG S key val kvs) (i : ι) : TbG (fun j => S j ∨ j = i) key val (putK kvs (key i) (val i)) := by
  unfold putK
  by_cases hk : (kvs.any fun kv => decide (kv.1 = key i)) = true
  · rw [if_pos hk]
    obtain ⟨e, he, ek⟩ := List.mem_map.mp (any_key.mp hk)
    obtain ⟨j, hj, rfl⟩ := h.mem e he
    have eji := inj j i ek
    subst eji
    have same : (kvs.map fun kv => if kv.1 = key j then (kv.1, val j) else kv) = kvs := by
      apply List.ext_getElem?
      intro n
      rw [List.getElem?_map]
      cases hx : kvs[n]? with
      | none => rfl
      | some x =>
        obtain ⟨l, hl, rfl⟩ := h.mem x (List.mem_of_getElem? hx)
        show some (if key l = key j then (key l, val j) else (key l, val l)) = _
        by_cases e : key l = key j
        · rw [if_pos e, inj l j e]
        · rw [if_neg e]
    rw [same]
    exact h.congr fun l => ⟨.inl, fun q => q.elim id fun e => e ▸ hj⟩
  · rw [if_neg hk]
    have nk : key i ∉ kvs.map (·.1) := fun q => hk (any_key.mpr q)
    refine ⟨?_, fun e he => ?_, fun j hj => ?_⟩
    · rw [List.map_append]
      refine List.nodup_append.mpr ⟨h.nd, by simp, fun a ha b hb e => nk ?_⟩
      have : b = key i := by simpa using hb
      rw [← this, ← e]
      exact ha
    · rcases List.mem_append.mp he with q | q
      · obtain ⟨j, a, b⟩ := h.mem e q
        exact ⟨j, .inl a, b⟩
      · exact ⟨i, .inr rfl, List.mem_singleton.mp q⟩
    · rcases hj with q | rfl
      · exact List.mem_append.mpr (.inl (h.has j q))
      · exact List.mem_append.mpr (.inr (List.mem_singleton.mpr rfl))
theorem TbG.merge (inj : ∀ i j, key i = key j → i = j) : ∀ (is : List ι) {S : ι → Prop} {kvs : List (List Key × V)}, TbG S key val kvs → TbG (fun j => S j ∨ j ∈ is) key val (mergeT kvs (is.map fun i => (key i, val i)))
  | [], _, _, h => h.congr fun j => by simp
  | i :: is, S, kvs, h => by
    have := TbG.merge inj is (h.put inj i)
    refine TbG.congr (S := fun j => (S j ∨ j = i) ∨ j ∈ is) this fun j => ?_
    rw [List.mem_cons, or_assoc]
theorem TbG.len {S : ι → Prop} {kvs : List (List Key × V)} (h : TbG S key val kvs) (is : List ι) (k : ∀ i, S i → i ∈ is) : kvs.length ≤ is.length := by
  have e := List.Nodup.length_le_of_subset h.nd (l₂ := is.map key) fun x hx => by
    obtain ⟨e, he, rfl⟩ := List.mem_map.mp hx
    obtain ⟨i, hi, rfl⟩ := h.mem e he
    exact List.mem_map.mpr ⟨i, k i hi, rfl⟩
  rwa [List.length_map, List.length_map] at e
/-- the indices, in the order of the entries -/
theorem TbG.idx {S : ι → Prop} : ∀ {kvs : List (List Key × V)}, TbG S key val kvs → ∃ is : List ι, kvs = is.map (fun i => (key i, val i)) ∧ ∀ i, S i → i ∈ is ∨ ∃ j ∈ is, key j = key i := by
  intro kvs h
  have pick : ∀ l : List (List Key × V), (∀ e ∈ l, ∃ i, S i ∧ e = (key i, val i)) → ∃ is : List ι, l = is.map (fun i => (key i, val i)) ∧ ∀ i ∈ is, S i := by
    intro l
    induction l with
    | nil => exact fun _ => ⟨[], rfl, fun i h => by cases h⟩
    | cons e l ih =>
      intro hm
      obtain ⟨i, hi, rfl⟩ := hm e List.mem_cons_self
      obtain ⟨is, e1, e2⟩ := ih fun x hx => hm x (List.mem_cons_of_mem _ hx)
      refine ⟨i :: is, by rw [e1]; rfl, fun j hj => ?_⟩
      rcases List.mem_cons.mp hj with rfl | q
      · exact hi
      · exact e2 j q
  obtain ⟨is, e1, e2⟩ := pick kvs h.mem
  refine ⟨is, e1, fun i hi => ?_⟩
  have m := h.has i hi
  rw [e1] at m
  obtain ⟨j, hj, ej⟩ := List.mem_map.mp m
  exact .inr ⟨j, hj, congrArg Prod.fst ej⟩
theorem TbG.idxs {S : ι → Prop} {kvs : List (List Key × V)} (inj : ∀ i j, key i = key j → i = j) (h : TbG S key val kvs) : ∃ is : List ι, kvs = is.map (fun i => (key i, val i)) ∧ is.Nodup ∧ ∀ i, S i ↔ i ∈ is := by
  obtain ⟨is, e1, e2⟩ := h.idx
  refine ⟨is, e1, ?_, fun i => ⟨fun hi => ?_, fun hi => ?_⟩⟩
  · have n := h.nd
    rw [e1, List.map_map] at n
    exact List.Pairwise.of_map _ (fun a b hab e => hab (congrArg _ e)) n
  · rcases e2 i hi with q | ⟨j, hj, e⟩
    · exact q
    · exact inj j i e ▸ hj
  · have m : (key i, val i) ∈ kvs := by rw [e1]; exact List.mem_map.mpr ⟨i, hi, rfl⟩
    obtain ⟨j, hj, e⟩ := h.mem _ m
    exact inj i j (congrArg Prod.fst e) ▸ hj
theorem TbG.ofIdx {is : List ι} (inj : ∀ i j, key i = key j → i = j) (nd : is.Nodup) : TbG (fun i => i ∈ is) key val (is.map fun i => (key i, val i)) where
  nd := by
    rw [List.map_map]
    exact List.Pairwise.map _ (fun a b hab e => hab (inj a b e)) nd
  mem := fun e he => let ⟨i, hi, q⟩ := List.mem_map.mp he; ⟨i, hi, q.symm⟩
  has := fun i hi => List.mem_map.mpr ⟨i, hi, rfl⟩
end
/-- a list of entries with different keys, put one by one -/
theorem mergeT_nd : ∀ (more kvs : List (List Key × V)), ((kvs ++ more).map (·.1)).Nodup → mergeT kvs more = kvs ++ more
  | [], kvs, _ => by rw [List.append_nil]; rfl
  | p :: more, kvs, h => by
    have nk : ¬ (kvs.any fun kv => decide (kv.1 = p.1)) = true := fun q => by
      have m := any_key.mp q
      rw [List.map_append] at h
      exact (List.nodup_append.mp h).2.2 _ m p.1 (by simp) rfl
    have e : putK kvs p.1 p.2 = kvs ++ [p] := by unfold putK; rw [if_neg nk]
    show mergeT (putK kvs p.1 p.2) more = _
    rw [e, mergeT_nd more (kvs ++ [p]) (by rw [List.append_assoc]; exact h), List.append_assoc]
    rfl
abbrev Ix := Nat × Nat
def keyI (i : Ix) : List Key := [.inl i.1, .inl i.2]
def valI (t : Nat → Nat → Nat) (i : Ix) : V := .int (t i.1 i.2)
theorem keyI_inj (i j : Ix) (h : keyI i = keyI j) : i = j := by
  obtain ⟨a, b⟩ := i
  obtain ⟨c, d⟩ := j
  simp only [keyI, List.cons.injEq, Sum.inl.injEq, and_true] at h
  obtain ⟨h1, h2⟩ := h
  have e1 : a = c := by omega
  have e2 : b = d := by omega
  rw [e1, e2]
abbrev Sq (n : Nat) : Ix → Prop := fun i => i.1 < n ∧ i.2 < n
/-- the dict at a is the table t of n -/
def TabAt (H : Hp) (a : Addr) (n : Nat) (t : Nat → Nat → Nat) : Prop := ∃ kvs, H a = some (.dT kvs) ∧ TbG (Sq n) keyI (valI t) kvs
/-- t stays below n and is free of brackets -/
structure Free (n : Nat) (t : Nat → Nat → Nat) : Prop where
  lt : ∀ x y, x < n → y < n → t x y < n
  as : ∀ x y z, x < n → y < n → z < n → t (t x y) z = t x (t y z)
def freeB (n : Nat) (t : Nat → Nat → Nat) : Bool := (List.range n).all fun x => (List.range n).all fun y => decide (t x y < n) && (List.range n).all fun z => decide (t (t x y) z = t x (t y z))
theorem free_of {n : Nat} {t : Nat → Nat → Nat} (h : freeB n t = true) : Free n t := by
  unfold freeB at h
  simp only [List.all_eq_true, List.mem_range, Bool.and_eq_true, decide_eq_true_eq] at h
  exact ⟨fun x y hx hy => (h x hx y hy).1, fun x y z hx hy hz => (h x hx y hy).2 z hz⟩
theorem Free.turn {n : Nat} {t : Nat → Nat → Nat} (h : Free n t) : Free n fun x y => t y x := ⟨fun x y hx hy => h.lt y x hy hx, fun x y z hx hy hz => (h.as z y x hz hy hx).symm⟩
theorem sq_list {n : Nat} : ∀ i, Sq n i → i ∈ (List.range n).flatMap fun x => (List.range n).map fun y => (x, y) := fun i h => List.mem_flatMap.mpr ⟨i.1, List.mem_range.mpr h.1, List.mem_map.mpr ⟨i.2, List.mem_range.mpr h.2, rfl⟩⟩
theorem sq_len {n : Nat} {t : Nat → Nat → Nat} {kvs : List (List Key × V)} {S : Ix → Prop} {key : Ix → List Key} {val : Ix → V} (h : TbG S key val kvs) (k : ∀ i, S i → Sq n i) : kvs.length ≤ n * n := by
  refine Nat.le_trans (h.len _ fun i hi => sq_list i (k i hi)) (Nat.le_of_eq ?_)
  simp [List.length_flatMap, List.map_const', List.sum_replicate_nat]
end KT
set_option linter.all false
set_option maxRecDepth 100000
namespace KT
def plainT (way n x y : Nat) : Nat :=
  let f (r : Nat) : Nat := r - (n - 1) * (if r > n then 1 else 0)
  match way with
  | 0 => x
  | 1 => y
  | 2 => 0
  | 3 => min x y
  | 4 => (x + y) % n
  | 5 => min (x + y + 1) (n - 1)
  | 6 => if x = y then x else 0
  | _ => min (f (f (f (f (x + y + 2))))) n - 1
def wideT (t : Nat → Nat → Nat) (n late x y : Nat) : Nat := if x < n ∧ y < n then t x y else if late = 0 then n else if x = n then y else x
def twofoldT (a b : Nat → Nat → Nat) (x y : Nat) : Nat := 2 * a (x / 2) (y / 2) + b (x % 2) (y % 2)
def twinT (t : Nat → Nat → Nat) (n w x y : Nat) : Nat := t (if x < n then x else w) (if y < n then y else w)
def leadT (t : Nat → Nat → Nat) (n x y : Nat) : Nat := if x < n ∧ y < n then t x y else if y = n then (if x = n then n else 0) else y
def cyclicT (n lead x y : Nat) : Nat := (if x + y + 2 ≤ n then x + y + 2 else lead + (x + y + 2 - lead) % (n - lead + 1)) - 1
theorem plain_free : ∀ way, way < 8 → ∀ n, n < 5 → 0 < n → freeB n (plainT way n) = true := by decide +kernel
theorem wide_free : ∀ way, way < 8 → ∀ n, n < 4 → 0 < n → ∀ late, late < 2 → freeB (n + 1) (wideT (plainT way n) n late) = true := by decide +kernel
theorem twofold_free : ∀ way, way < 8 → ∀ v, v < 8 → freeB 4 (twofoldT (plainT way 2) (plainT v 2)) = true := by decide +kernel
theorem twin_free : ∀ way, way < 8 → ∀ n, n < 4 → 0 < n → ∀ w, w < n → freeB (n + 1) (twinT (plainT way n) n w) = true := by decide +kernel
theorem lead_free : ∀ way, way < 3 → 0 < way → ∀ n, n < 4 → 0 < n → freeB (n + 1) (leadT (plainT way n) n) = true := by decide +kernel
theorem cyclic_free : ∀ n, n < 5 → 0 < n → ∀ lead, lead < n + 1 → 0 < lead → freeB n (cyclicT n lead) = true := by decide +kernel
end KT
set_option Elab.async false
set_option linter.all false
set_option maxRecDepth 100000
set_option maxHeartbeats 4000000
namespace KT
open PySem L2 PyProof.Rows DTp
section
variable {P : Program} {w : World} {K : PySem.W.Frag} {mg : Str → Option Value} {base : Heap}
def spPlain : Sp := fun vs H Q _ => ∃ way n : Nat, vs = [.int way, .int n] ∧ way < 8 ∧ 0 < n ∧ n < 5 ∧ ∀ (d : Addr) (H' : Hp), L2.Same H H' → H d = none → TabAt H' d n (plainT way n) → Q (.ref d) H'
abbrev nPlain : List Str := ["_law_way", "_law_many", "_law_told_here", "_law_x", "_law_y", "_law_raised", "_law_spin", "_law_some"]
theorem scPlain : FnScope nPlain ["_law_way", "_law_many"] (defScope sPlain) := ⟨rfl, rfl, rfl, by decide +kernel, rfl, by decide +kernel, by decide +kernel⟩
/-- one entry more, row by row -/
theorem TbG.next {val : Ix → V} {kvs : List (List Key × V)} {n x y : Nat} (h : TbG (fun i : Ix => (i.1 < x ∧ i.2 < n) ∨ (i.1 = x ∧ i.2 < y)) keyI val kvs) : TbG (fun i : Ix => (i.1 < x ∧ i.2 < n) ∨ (i.1 = x ∧ i.2 < y + 1)) keyI val (putK kvs (keyI (x, y)) (val (x, y))) :=
  (h.put keyI_inj (x, y)).congr fun i => by
    obtain ⟨a, b⟩ := i
    simp only [Prod.mk.injEq]
    omega
theorem TbG.row {val : Ix → V} {kvs : List (List Key × V)} {n x : Nat} (h : TbG (fun i : Ix => (i.1 < x ∧ i.2 < n) ∨ (i.1 = x ∧ i.2 < n)) keyI val kvs) : TbG (fun i : Ix => i.1 < x + 1 ∧ i.2 < n) keyI val kvs :=
  h.congr fun i => by
    obtain ⟨a, b⟩ := i
    show (a < x ∧ b < n ∨ a = x ∧ b < n) ↔ (a < x + 1 ∧ b < n)
    omega
theorem TbG.row0 {val : Ix → V} {kvs : List (List Key × V)} {n x : Nat} (h : TbG (fun i : Ix => i.1 < x ∧ i.2 < n) keyI val kvs) : TbG (fun i : Ix => (i.1 < x ∧ i.2 < n) ∨ (i.1 = x ∧ i.2 < 0)) keyI val kvs :=
  h.congr fun i => by
    obtain ⟨a, b⟩ := i
    show (a < x ∧ b < n) ↔ (a < x ∧ b < n ∨ a = x ∧ b < 0)
    omega
theorem TbG.few {val : Ix → V} {kvs : List (List Key × V)} {S : Ix → Prop} (h : TbG S keyI val kvs) (k : ∀ i, S i → i.1 < 5 ∧ i.2 < 5) : kvs.length < sizeLine := by
  have e := sq_len (n := 5) (t := fun _ _ => 0) h k
  rw [sizeLine_eq]; omega
def liftR (n r : Nat) : Nat := r - (n - 1) * (if r > n then 1 else 0)
def plainL (n x y r : Nat) : List Int := [0 + (x : Int), 0 + (y : Int), 0, if (0 + (y : Int)) < 0 + x then 0 + (y : Int) else 0 + x, (0 + (x : Int) + (0 + (y : Int))).fmod n, if (n : Int) - 1 < 0 + x + (0 + y) + 1 then (n : Int) - 1 else 0 + x + (0 + y) + 1,
  if x = y then 0 + (x : Int) else 0, (if (n : Int) < r then (n : Int) else r) - 1]
def plainB : Bool := (List.range 5).all fun n => n == 0 || (List.range n).all fun x => (List.range n).all fun y => (List.range 8).all fun way => decide ((plainL n x y (Nat.repeat (liftR n) 4 (x + y + 2)))[way]? = some ((plainT way n x y : Nat) : Int))
theorem plainB_ok : plainB = true := by decide +kernel
theorem plain_val (n : Nat) (n5 : n < 5) (n0 : 0 < n) (x : Nat) (hx : x < n) (y : Nat) (hy : y < n) (way : Nat) (hw : way < 8) : (plainL n x y (Nat.repeat (liftR n) 4 (x + y + 2)))[way]? = some ((plainT way n x y : Nat) : Int) := by
  have h := plainB_ok
  unfold plainB at h
  simp only [List.all_eq_true, List.mem_range, Bool.or_eq_true, decide_eq_true_eq] at h
  rcases h n n5 with z | z
  · have : n = 0 := by simpa using z
    omega
  · exact z x hx y hy way hw
theorem ok_plain {f : Addr} {fd : FuncData} (F : Fun K "_law_plain_table" "_law_plain_table" sPlain f fd) (T : Blt mg) : FnOk P w K mg base CX0 1 f fd ["_law_way", "_law_many"] spPlain := by
  refine F.ok scPlain (fun vs H Q E h => ?_) (fun cdv A outer s H vs Q E hr h => ?_)
  · obtain ⟨way, n, rfl, _⟩ := h
    rfl
  · obtain ⟨way, n, rfl, hw, n0, n5, k⟩ := h
    have nd := scPlain.nd
    refine ⟨_, pss_cons (ps_set (i := 2) nd rfl (Or.inl rfl) pe_dnewT)
      (pss_cons (ps_for PassesOwn.never rfl (pi_range1 rfl T.range (pa_cons (pv 1) pa_nil)) (pg_name (i := 3) nd rfl (Or.inl rfl))
        (pss_one (ps_for PassesOwn.never rfl (pi_range1 rfl T.range (pa_cons (pv 1) pa_nil)) (pg_name (i := 4) nd rfl (Or.inl rfl))
          (pss_cons (ps_set (i := 5) nd rfl (Or.inl rfl) (pe_op op_add (pe_op op_add (pv 3) (pv 4)) pe_int))
          (pss_cons (ps_for PassesOwn.never rfl (pi_range1 rfl T.range (pa_cons pe_int pa_nil)) (pg_name (i := 6) nd rfl (Or.inl rfl))
            (pss_one (ps_set (i := 5) nd rfl (Or.inl rfl) (pe_op op_sub (pv 5) (pe_op op_mul (pe_op op_sub (pv 1) pe_int) (pe_callTy call_int1 (by rfl) T.int boot_int (pa_cons (pe_cmpR op_gt (pv 5) (pv 1) (nomark _)) pa_nil)))))))
          (pss_cons (ps_set (i := 7) nd rfl (Or.inl rfl) (pe_lst (pa_cons (pv 3) (pa_cons (pv 4) (pa_cons pe_int (pa_cons (pe_callB (call_min2 rfl) (by rfl) T.min (by decide +kernel) (pa_cons (pv 3) (pa_cons (pv 4) pa_nil)))
              (pa_cons (pe_op op_modN (pe_callTy call_int1 (by rfl) T.int boot_int (pa_cons (pe_op op_add (pv 3) (pv 4)) pa_nil)) (pv 1))
              (pa_cons (pe_callB (call_min2 rfl) (by rfl) T.min (by decide +kernel) (pa_cons (pe_op op_add (pe_op op_add (pv 3) (pv 4)) pe_int) (pa_cons (pe_op op_sub (pv 1) pe_int) pa_nil))) pa_nil))))))))
          (pss_one (ps_dput (hu_of hr) (pv 2) (pe_tup (pa_cons (pv 3) (pa_cons (pv 4) pa_nil)))
            (pe_ix ix_list (pe_op op_cat (pv 7) (pe_lst (pa_cons (pe_ifExp (pt_cmpR op_eq (pv 3) (pv 4) (nomark _)) (pv 3) pe_int)
              (pa_cons (pe_op op_sub (pe_callB (call_min2 rfl) (by rfl) T.min (by decide +kernel) (pa_cons (pv 5) (pa_cons (pv 1) pa_nil))) pe_int) pa_nil)))) (pv 0) (fun _ _ => rfl)) rfl))))))))
      (pss_one (ps_ret (pv 2)))), ?_⟩
    refine fun d hd => ?_
    refine ⟨_, rfl, _, rfl, by omega, by omega, ?_⟩
    refine for_range (lo := 0) (n := (n : Int).toNat) (fun x σ H' => ∃ (x3 x4 x5 x6 x7 : Option V) (kvs : List (List Key × V)), σ = [some (.int way), some (.int n), some (.ref d), x3, x4, x5, x6, x7] ∧ L2.Same H H' ∧ H' d = some (.dT kvs) ∧ TbG (fun i : Ix => i.1 < x ∧ i.2 < n) keyI (valI (plainT way n)) kvs) ?_ ?_ ?_
    · exact ⟨_, _, _, _, _, [], rfl, Same.new hd, upd_same, TbG.nil.congr fun i => by simp⟩
    · rintro x σ H1 hx ⟨x3, x4, x5, x6, x7, kvs, rfl, s1, hd1, tb⟩
      refine ⟨_, rfl, _, rfl, by omega, by omega, ?_⟩
      refine for_range (lo := 0) (n := (n : Int).toNat) (fun y σ H' => ∃ (x4 x5 x6 x7 : Option V) (kvs : List (List Key × V)), σ = [some (.int way), some (.int n), some (.ref d), some (.int (0 + x)), x4, x5, x6, x7] ∧ L2.Same H H' ∧ H' d = some (.dT kvs) ∧ TbG (fun i : Ix => (i.1 < x ∧ i.2 < n) ∨ (i.1 = x ∧ i.2 < y)) keyI (valI (plainT way n)) kvs) ?_ ?_ ?_
      · exact ⟨_, _, _, _, kvs, rfl, s1, hd1, tb.row0⟩
      · rintro y σ H2 hy ⟨x4, x5, x6, x7, kvs, rfl, s2, hd2, tb⟩
        have hxn : x < n := by omega
        have hyn : y < n := by omega
        refine ⟨_, rfl, _, rfl, _, _, rfl, rfl, _, _, rfl, rfl, ?_⟩
        refine at_name (σ' := [some (.int way), some (.int n), some (.ref d), some (.int (0 + x)), some (.int (0 + y)), some (.int ((x + y + 2 : Nat) : Int)), x6, x7]) (by
          have e : (0 + (x : Int)) + (0 + (y : Int)) + 2 = ((x + y + 2 : Nat) : Int) := by omega
          rw [← e]
          rfl) ?_
        refine ⟨4, rfl, by decide, by decide, ?_⟩
        refine for_range (lo := 0) (n := 4) (fun j σ H' => H' = H2 ∧ ∃ (x6 : Option V) (r : Nat), σ = [some (.int way), some (.int n), some (.ref d), some (.int (0 + x)), some (.int (0 + y)), some (.int (r : Int)), x6, x7] ∧ r ≤ 10 ∧ 2 ≤ r ∧ r = Nat.repeat (liftR n) j (x + y + 2)) ?_ ?_ ?_
        · exact ⟨rfl, _, _, rfl, by omega, by omega, rfl⟩
        · rintro j σ H3 hj ⟨rfl, x6, r, rfl, r10, r2, er⟩
          refine ⟨_, rfl, _, rfl, _, _, rfl, rfl, _, rfl, _, rfl, _, _, rfl, rfl, .inr ⟨_, rfl, _, _, rfl, rfl, .inl ⟨by omega, by omega⟩, _, _, rfl, rfl, ?_⟩⟩
          have er2 : (r : Int) - ((n : Int) - 1) * (if decide ((r : Int) > n) = true then 1 else 0) = (liftR n r : Int) := by
            unfold liftR
            by_cases z : r > n
            · rw [if_pos (by simpa using z), if_pos z, Nat.mul_one, Int.mul_one]; omega
            · rw [if_neg (by simpa using z), if_neg z]; simp
          refine ⟨rfl, some (.int (0 + (j : Nat))), liftR n r, ?_, ?_, ?_, ?_⟩
          · rw [← er2]; rfl
          · unfold liftR; omega
          · unfold liftR
            split
            · rw [Nat.mul_one]; omega
            · omega
          · rw [er]; rfl
        · rintro σ H3 ⟨rfl, x6, r, rfl, r10, r2, er⟩
          refine ⟨_, rfl, _, rfl, _, rfl, _, rfl, _, _, rfl, ?_⟩
          refine ⟨_, rfl, _, rfl, _, _, rfl, rfl, .inl ⟨_, rfl, _, rfl, _, _, rfl, rfl, by omega, ?_⟩⟩
          refine ⟨_, rfl, _, rfl, _, _, rfl, rfl, _, _, rfl, rfl, _, rfl, _, _, rfl, rfl, _, _, rfl, ?_⟩
          refine ⟨(by show 6 ≤ sizeLine; decide), fun l hl => ?_⟩
          have e3 := Same.new (H := H3) (o := .lst [V.int (0 + x), V.int (0 + y), V.int 0, V.int (if (0 + (y : Int)) < 0 + x then 0 + y else 0 + x), V.int ((0 + (x : Int) + (0 + y)).fmod n), V.int (if (n : Int) - 1 < 0 + x + (0 + y) + 1 then n - 1 else 0 + x + (0 + y) + 1)]) hl
          have e4 : upd H3 l (.lst [V.int (0 + x), V.int (0 + y), V.int 0, V.int (if (0 + (y : Int)) < 0 + x then 0 + y else 0 + x), V.int ((0 + (x : Int) + (0 + y)).fmod n), V.int (if (n : Int) - 1 < 0 + x + (0 + y) + 1 then n - 1 else 0 + x + (0 + y) + 1)]) l = _ := upd_same
          refine at_name (σ' := [some (.int way), some (.int n), some (.ref d), some (.int (0 + x)), some (.int (0 + y)), some (.int (r : Int)), x6, some (.ref l)]) rfl ?_
          generalize upd H3 l (.lst [V.int (0 + x), V.int (0 + y), V.int 0, V.int (if (0 + (y : Int)) < 0 + x then 0 + y else 0 + x), V.int ((0 + (x : Int) + (0 + y)).fmod n), V.int (if (n : Int) - 1 < 0 + x + (0 + y) + 1 then n - 1 else 0 + x + (0 + y) + 1)]) = H4 at e3 e4 ⊢
          have hd4 := e3 _ _ hd2
          refine ⟨_, rfl, _, rfl, _, rfl, rfl, _, rfl, ?_⟩
          have exy : decide (V.int (0 + (x : Int)) = V.int (0 + (y : Int))) = decide (x = y) := by
            rw [Int.zero_add, Int.zero_add]
            by_cases z : x = y
            · simp [z]
            · have : ¬ (x : Int) = (y : Int) := by omega
              simp [z, this]
          rw [exy]
          refine ite2 (fun hxy => ?_) (fun hxy => ?_)
          · refine ⟨_, rfl, ?_⟩
            refine ⟨_, rfl, _, rfl, _, _, rfl, _, _, rfl, rfl, (by show 2 ≤ sizeLine; decide), fun l2 hl2 => ?_⟩
            have f1 := Same.new (H := H4) (o := .lst [V.int (0 + (x : Int)), V.int ((if (n : Int) < r then (n : Int) else r) - 1)]) hl2
            have f2 : upd H4 l2 (.lst [V.int (0 + (x : Int)), V.int ((if (n : Int) < r then (n : Int) else r) - 1)]) l2 = _ := upd_same
            generalize upd H4 l2 (.lst [V.int (0 + (x : Int)), V.int ((if (n : Int) < r then (n : Int) else r) - 1)]) = H5 at f1 f2 ⊢
            refine ⟨l, l2, _, _, rfl, rfl, f1 _ _ e4, f2, (by show 6 + 2 ≤ sizeLine; decide), fun l3 hl3 => ?_⟩
            have g1 := Same.new (H := H5) (o := .lst ((plainL n x y r).map V.int)) hl3
            have g2 : upd H5 l3 (.lst ((plainL n x y r).map V.int)) l3 = _ := upd_same
            have pl := plain_val n n5 n0 x hxn y hyn way hw
            rw [← er] at pl
            have eqL : ([V.int (0 + (x : Int)), V.int (0 + (y : Int)), V.int 0, V.int (if (0 + (y : Int)) < 0 + x then 0 + (y : Int) else 0 + x), V.int ((0 + (x : Int) + (0 + (y : Int))).fmod n), V.int (if (n : Int) - 1 < 0 + x + (0 + y) + 1 then (n : Int) - 1 else 0 + x + (0 + y) + 1)] ++ [V.int (0 + (x : Int)), V.int ((if (n : Int) < r then (n : Int) else r) - 1)] : List V) = (plainL n x y r).map V.int := by
              unfold plainL
              rw [if_pos (of_decide_eq_true hxy)]
              rfl
            rw [eqL]
            generalize upd H5 l3 (.lst ((plainL n x y r).map V.int)) = H6 at g1 g2 ⊢
            refine ⟨_, rfl, l3, _, (way : Int), .int (plainT way n x y), rfl, rfl, SqL.of g2, atI_nat (by rw [List.getElem?_map, pl]; rfl), ?_⟩
            refine ⟨_, rfl, _, rfl, _, rfl, (by show 2 ≤ sizeLine; decide), fun t ht => ?_⟩
            have h1 := Same.new (H := H6) (o := .tup [V.int (0 + x), V.int (0 + y)]) ht
            have h2 : upd H6 t (.tup [V.int (0 + x), V.int (0 + y)]) t = some (.tup ((keyI (x, y)).map kV)) := by
              rw [upd_same]
              show _ = some (HO.tup [V.int (x : Int), V.int (y : Int)])
              rw [Int.zero_add, Int.zero_add]
            have hd6 : upd H6 t (.tup [V.int (0 + x), V.int (0 + y)]) d = some (.dT kvs) := h1 _ _ (g1 _ _ (f1 _ _ hd4))
            refine ⟨d, _, rfl, DPut.t (k := keyI (x, y)) hd6 h2 (tb.few fun i hi => by omega), ?_⟩
            refine ⟨_, _, _, _, _, rfl, fun b o e => ?_, upd_same, tb.next⟩
            rw [upd_ne (ne_of_none e hd)]
            exact h1 _ _ (g1 _ _ (f1 _ _ (e3 _ _ (s2 _ _ e))))
          · refine ⟨_, rfl, _, rfl, _, _, rfl, _, _, rfl, rfl, (by show 2 ≤ sizeLine; decide), fun l2 hl2 => ?_⟩
            have f1 := Same.new (H := H4) (o := .lst [V.int (0 : Int), V.int ((if (n : Int) < r then (n : Int) else r) - 1)]) hl2
            have f2 : upd H4 l2 (.lst [V.int (0 : Int), V.int ((if (n : Int) < r then (n : Int) else r) - 1)]) l2 = _ := upd_same
            generalize upd H4 l2 (.lst [V.int (0 : Int), V.int ((if (n : Int) < r then (n : Int) else r) - 1)]) = H5 at f1 f2 ⊢
            refine ⟨l, l2, _, _, rfl, rfl, f1 _ _ e4, f2, (by show 6 + 2 ≤ sizeLine; decide), fun l3 hl3 => ?_⟩
            have g1 := Same.new (H := H5) (o := .lst ((plainL n x y r).map V.int)) hl3
            have g2 : upd H5 l3 (.lst ((plainL n x y r).map V.int)) l3 = _ := upd_same
            have pl := plain_val n n5 n0 x hxn y hyn way hw
            rw [← er] at pl
            have eqL : ([V.int (0 + (x : Int)), V.int (0 + (y : Int)), V.int 0, V.int (if (0 + (y : Int)) < 0 + x then 0 + (y : Int) else 0 + x), V.int ((0 + (x : Int) + (0 + (y : Int))).fmod n), V.int (if (n : Int) - 1 < 0 + x + (0 + y) + 1 then (n : Int) - 1 else 0 + x + (0 + y) + 1)] ++ [V.int (0 : Int), V.int ((if (n : Int) < r then (n : Int) else r) - 1)] : List V) = (plainL n x y r).map V.int := by
              unfold plainL
              rw [if_neg (fun e => hxy (decide_eq_true e))]
              rfl
            rw [eqL]
            generalize upd H5 l3 (.lst ((plainL n x y r).map V.int)) = H6 at g1 g2 ⊢
            refine ⟨_, rfl, l3, _, (way : Int), .int (plainT way n x y), rfl, rfl, SqL.of g2, atI_nat (by rw [List.getElem?_map, pl]; rfl), ?_⟩
            refine ⟨_, rfl, _, rfl, _, rfl, (by show 2 ≤ sizeLine; decide), fun t ht => ?_⟩
            have h1 := Same.new (H := H6) (o := .tup [V.int (0 + x), V.int (0 + y)]) ht
            have h2 : upd H6 t (.tup [V.int (0 + x), V.int (0 + y)]) t = some (.tup ((keyI (x, y)).map kV)) := by
              rw [upd_same]
              show _ = some (HO.tup [V.int (x : Int), V.int (y : Int)])
              rw [Int.zero_add, Int.zero_add]
            have hd6 : upd H6 t (.tup [V.int (0 + x), V.int (0 + y)]) d = some (.dT kvs) := h1 _ _ (g1 _ _ (f1 _ _ hd4))
            refine ⟨d, _, rfl, DPut.t (k := keyI (x, y)) hd6 h2 (tb.few fun i hi => by omega), ?_⟩
            refine ⟨_, _, _, _, _, rfl, fun b o e => ?_, upd_same, tb.next⟩
            rw [upd_ne (ne_of_none e hd)]
            exact h1 _ _ (g1 _ _ (f1 _ _ (e3 _ _ (s2 _ _ e))))
      · rintro σ H2 ⟨x4, x5, x6, x7, kvs, rfl, s2, hd2, tb⟩
        have hn : (n : Int).toNat = n := by omega
        rw [hn] at tb
        exact ⟨_, _, _, _, _, kvs, rfl, s2, hd2, tb.row⟩
    · rintro σ H1 ⟨x3, x4, x5, x6, x7, kvs, rfl, s1, hd1, tb⟩
      have hn : (n : Int).toNat = n := by omega
      rw [hn] at tb
      exact ⟨_, rfl, k d H1 s1 hd ⟨kvs, hd1, tb⟩⟩
end
end KT
set_option Elab.async false
set_option linter.all false
set_option maxRecDepth 100000
set_option maxHeartbeats 4000000
namespace KT
open PySem L2 PyProof.Rows DTp
section
variable {P : Program} {w : World} {K : PySem.W.Frag} {mg : Str → Option Value} {base : Heap}
section
variable {ι : Type} {key : ι → List Key} {val : ι → V}
/-- each an entry's tuple -/
def PrG (key : ι → List Key) (val : ι → V) (H : Hp) : List Addr → List ι → Prop := Paired fun p i => ∃ b, H p = some (.tup [.ref b, val i]) ∧ H b = some (.tup ((key i).map kV))
theorem PrG.mono {H H' : Hp} (s : L2.Same H H') {ps : List Addr} {is : List ι} (h : PrG key val H ps is) : PrG key val H' ps is := Paired.mapP h fun _ _ ⟨b, h1, h2⟩ => ⟨b, s _ _ h1, s _ _ h2⟩
theorem PrG.prT {H : Hp} : ∀ {ps : List Addr} {is : List ι}, PrG key val H ps is → PrT K H ps (is.map fun i => (key i, val i))
  | _, _, .nil => .nil
  | _, _, .cons ⟨b, h1, h2⟩ t => .cons ⟨b, SqT.of h1, h2⟩ (PrG.prT t)
theorem lc_pairs {J : It} {n : Nat} {G : Hp → Prop} {Y : Nat → Hp → V → Hp → Prop} (W : Walk J n G Y) {g : TG} {te : TE} {vs : List Nat} {σ : L2.St} {H1 : Hp} {D : Addr} {Qd : Hp → Prop} (is : List ι) (hn : is.length = n) (few : n ≤ 1000) (hD : H1 D = none) (stay : ∀ H', L2.Same H1 H' → G H')
    (step : ∀ i x H H' j (R : VK), is[i]? = some j → L2.Same H1 H → Y i H x H' → (∀ t b H3, L2.Same H H3 → H3 t = some (.tup [.ref b, val j]) → H3 b = some (.tup ((key j).map kV)) → R (.ref t) H3) → g x (wipe σ vs) H' fun σ2 H2 => wipe σ2 vs = wipe σ vs ∧ te σ2 H2 R)
    (done : ∀ H' ps, L2.Same H1 H' → H' D = some (.lst (ps.map V.ref)) → PrG key val H' ps is → Qd H') :
    ∃ W : Nat → Nat → Hp → Prop, (∃ m, W 0 m (upd H1 D (.lst []))) ∧ ∀ i m H, W i m H →
      (J.stop i H ∧ Qd H) ∨ (J.go i H ∧ ∃ Nx : Hp → Prop, (∀ H', Nx H' → ∃ m', m' < m ∧ W (i + 1) m' H') ∧ ∀ x H', J.yld i H x H' → g x (wipe σ vs) H' fun σ2 H2 => wipe σ2 vs = wipe σ vs ∧ tYes σ2 H2 fun b H3 =>
        if b = true then te σ2 H3 fun y H4 => ∃ acc, H4 D = some (.lst acc) ∧ acc.length < sizeLine ∧ Nx (upd H4 D (.lst (acc ++ [y]))) else Nx H3) := by
  refine lc_it W (tt := tYes) (fun i H' => L2.Same H1 H' ∧ ∃ ps : List Addr, H' D = some (.lst (ps.map V.ref)) ∧ PrG key val H' ps (is.take i)) ⟨Same.new hD, [], upd_same, .nil⟩ (fun i H' _ h => stay H' h.1) (fun i x H H' hi h y => ?_) (fun H' h => ?_)
  · obtain ⟨s1, ps, hDp, pr⟩ := h
    have hi' : i < is.length := by omega
    have ej : is[i]? = some is[i] := List.getElem?_eq_getElem hi'
    refine step i x H H' is[i] _ ej s1 y fun t b H3 s2 ht hb => ⟨_, s2 _ _ hDp, ?_, ?_, ps ++ [t], ?_, ?_⟩
    · rw [List.length_map, Paired.length pr, List.length_take]
      exact small1000 (by omega)
    · intro c o e
      rw [upd_ne (ne_of_none e hD)]
      exact s2 _ _ (s1 _ _ e)
    · rw [List.map_append]
      exact upd_same
    · rw [take_next' ej]
      have keep : ∀ c u, H3 c = some (.tup u) → (upd H3 D (.lst (ps.map V.ref ++ [V.ref t]))) c = some (.tup u) := fun c u e => by
        rw [upd_ne (ne_of e (s2 _ _ hDp) (fun z => nomatch z))]
        exact e
      exact Paired.snoc (Paired.mapP pr fun p i ⟨b', h1, h2⟩ => ⟨b', keep _ _ (s2 _ _ h1), keep _ _ (s2 _ _ h2)⟩) ⟨b, keep _ _ ht, keep _ _ hb⟩
  · obtain ⟨s1, ps, hDp, pr⟩ := h
    rw [← hn, List.take_length] at pr
    exact done H' ps s1 hDp pr
end
/-- dict([(key, told[key]) for key in told]) -/
theorem rd_copy {ι : Type} {key : ι → List Key} {val : ι → V} {i j : Nat} {σ : L2.St} {H : Hp} {Q : VK} {d : Addr} {S : ι → Prop} {kvs : List (List Key × V)} (inj : ∀ a b, key a = key b → a = b) (hi : σ[i]? = some (some (.ref d))) (hij : i ≠ j) (hj : j < σ.length) (hd : H d = some (.dT kvs)) (tb : TbG S key val kvs) (few : kvs.length ≤ 1000)
    (k : ∀ q H' kvs', L2.Same H H' → H q = none → H' q = some (.dT kvs') → TbG S key val kvs' → Q (.ref q) H') :
    tCB (rDictT K) (tCons (tLockE (tLc (iKeys (tVar i)) (gName j) tYes (tTup (tCons (tVar j) (tCons (tDGet (tVar i) (tVar j)) tNil))) [j])) tNil) σ H Q := by
  obtain ⟨is, e1, ndi, e2⟩ := tb.idxs inj
  have li : is.length = kvs.length := by rw [e1, List.length_map]
  refine ⟨d, .dT kvs, hd, trivial, fun od => ?_⟩
  refine ⟨_, hi, d, od, rfl, .inr ⟨kvs, upd_same, fun D hD => ?_⟩⟩
  have nDd : D ≠ d := fun e => by rw [e, upd_same] at hD; cases hD
  have hD0 : H D = none := by rw [upd_ne nDd] at hD; exact hD
  refine lc_pairs (key := key) (val := val) walk_keysT is li few hD (fun H' s => s _ _ upd_same) ?_ ?_
  · rintro n x H1 H1' a R ha s1 ⟨rfl, kk, v, q, hk, rfl, hq⟩ kR
    have ek : kvs[n]? = some (key a, val a) := by rw [e1, List.getElem?_map, ha]; rfl
    rw [hk] at ek
    have ek := Option.some.inj ek
    obtain ⟨rfl, rfl⟩ : kk = key a ∧ v = val a := ⟨congrArg Prod.fst ek, congrArg Prod.snd ek⟩
    have sj : ((wipe σ [j]).set j (some (V.ref q)))[j]? = some (some (.ref q)) := by
      rw [List.getElem?_set_self (by rw [wipe_length]; exact hj)]
    have si : ((wipe σ [j]).set j (some (V.ref q)))[i]? = some (some (.ref d)) := by
      rw [List.getElem?_set_ne hij.symm, wipe_out (by simpa using hij)]
      exact hi
    refine ⟨?_, ?_⟩
    · show (((σ.set j none).set j (some (V.ref q))).set j none) = σ.set j none
      rw [List.set_set, List.set_set]
    · have gt : valV kvs (key a) = some (val a) := tb.get ((e2 a).mpr (List.mem_of_getElem? ha))
      refine ⟨_, sj, _, si, _, sj, d, val a, rfl, .inr ⟨kvs, key a, q, .inr ⟨od, s1 _ _ upd_same⟩, rfl, hq, gt.symm⟩, (by show 2 ≤ sizeLine; decide), fun t ht => ?_⟩
      exact kR t q _ (Same.new ht) upd_same ((upd_ne (ne_of_none hq ht)).trans hq)
  · intro H1 ps s1 hDp pr
    have hdl : H1 d = some (.frz od (.dT kvs)) := s1 _ _ upd_same
    refine ⟨hdl, D, ps, is.map (fun i => (key i, val i)), rfl, SqL.of ((upd_ne nDd).trans hDp), ?_, fun q hq => ?_⟩
    · refine PrG.prT (key := key) (val := val) (is := is) (Paired.mapP pr fun p a ⟨b, h1, h2⟩ => ⟨b, ?_, ?_⟩)
      · rw [upd_ne (ne_of h1 hdl (fun z => nomatch z))]; exact h1
      · rw [upd_ne (ne_of h2 hdl (fun z => nomatch z))]; exact h2
    · have same : L2.Same H (upd H1 d (.dT kvs)) := fun b o e => by
        by_cases hb : b = d
        · rw [hb] at e ⊢
          rw [hd] at e
          rw [upd_same]; exact e
        · rw [upd_ne hb]
          exact s1 _ _ ((upd_ne hb).trans e)
      have hq0 := same.free hq
      refine k q _ (mergeT [] (is.map fun i => (key i, val i))) (fun b o e => ?_) hq0 upd_same ?_
      · rw [upd_ne (ne_of_none e hq0)]
        exact same _ _ e
      · exact (TbG.merge inj is TbG.nil).congr fun a => by rw [false_or]; exact (e2 a).symm
end
end KT
set_option Elab.async false
set_option linter.all false
set_option maxRecDepth 100000
set_option maxHeartbeats 4000000
namespace KT
open PySem L2 PyProof.Rows DTp
section
variable {P : Program} {w : World} {K : PySem.W.Frag} {mg : Str → Option Value} {base : Heap}
theorem u2 {u : Nat} (h : u + 64 < cLine) : u + 2 < cLine := by omega
/-- d[x, y] of a table -/
theorem TabAt.get {H : Hp} {a b : Addr} {n x y : Nat} {t : Nat → Nat → Nat} (h : TabAt H a n t) (hx : x < n) (hy : y < n) (hb : H b = some (.tup [V.int (x : Int), V.int (y : Int)])) : DGet H a (.ref b) (some (.int (t x y))) := by
  obtain ⟨kvs, h1, h2⟩ := h
  have e := DGet.t (k := keyI (x, y)) h1 hb
  rw [h2.get (i := (x, y)) ⟨hx, hy⟩] at e
  exact e
theorem TabAt.mono {H H' : Hp} {a : Addr} {n : Nat} {t : Nat → Nat → Nat} (s : L2.Same H H') (h : TabAt H a n t) : TabAt H' a n t := let ⟨kvs, h1, h2⟩ := h; ⟨kvs, s _ _ h1, h2⟩
def spWide : Sp := fun vs H Q _ => ∃ (d : Addr) (n late : Nat) (t : Nat → Nat → Nat), vs = [.ref d, .int n, .int late] ∧ 0 < n ∧ n < 4 ∧ TabAt H d n t ∧ ∀ (q : Addr) (H' : Hp), L2.Same H H' → H q = none → TabAt H' q (n + 1) (wideT t n late) → Q (.ref q) H'
abbrev nWide : List Str := ["_law_told_here", "_law_many", "_law_way", "_law_found", "_law_key", "_law_x"]
theorem scWide : FnScope nWide ["_law_told_here", "_law_many", "_law_way"] (defScope sWide) := ⟨rfl, rfl, rfl, by decide +kernel, rfl, by decide +kernel, by decide +kernel⟩
theorem ok_wide {f : Addr} {fd : FuncData} (F : Fun K "_law_wide_table" "_law_wide_table" sWide f fd) (T : Blt mg) (hdi : mg "dict" = none) : FnOk P w K mg base CX0 1 f fd ["_law_told_here", "_law_many", "_law_way"] spWide := by
  refine F.ok scWide (fun vs H Q E h => ?_) (fun cdv A outer s H vs Q E hr h => ?_)
  · obtain ⟨d, n, late, t, rfl, _⟩ := h
    rfl
  · obtain ⟨d, n, late, t, rfl, n0, n4, ⟨kvs, hd, tb⟩, k⟩ := h
    have nd := scWide.nd
    have hun := hr.units
    refine ⟨_, pss_cons (ps_set (i := 3) nd rfl (Or.inl rfl) (pe_callTy (cr_dictT rfl (u2 hr.units)) (by rfl) hdi (by decide +kernel) (pa_cons (pe_lock (pe_lc (own := [("_law_key", 4)]) (g := gName 4) (tt := tYes) (te := tTup (tCons (tVar 4) (tCons (tDGet (tVar 0) (tVar 4)) tNil))) rfl nd (pi_keys (pv 0))
          (blkOk_by (own := [("_law_key", 4)]) (N := nWide) (sc := defScope sWide) (by decide +kernel)) (fun _ _ _ _ _ => pg_name (i := 4) nd rfl (Or.inl rfl)) (fun _ _ _ _ _ => pts_nil) (fun _ _ _ _ _ => pe_tup (pa_cons (pv 4) (pa_cons (pe_dget (hu_of hr) (pv 0) (pv 4) (fun _ _ => rfl)) pa_nil))))) pa_nil)))
      (pss_cons (ps_for PassesOwn.never rfl (pi_range1 rfl T.range (pa_cons (pe_op op_add (pv 1) pe_int) pa_nil)) (pg_name (i := 5) nd rfl (Or.inl rfl))
        (pss_cons (ps_dput (hu_of hr) (pv 3) (pe_tup (pa_cons (pv 5) (pa_cons (pv 1) pa_nil))) (pe_ifExp (pt_cmpR op_eq (pv 2) pe_int (nomark _)) (pv 1) (pv 5)) rfl)
          (pss_one (ps_dput (hu_of hr) (pv 3) (pe_tup (pa_cons (pv 1) (pa_cons (pv 5) pa_nil))) (pe_ifExp (pt_cmpR op_eq (pv 2) pe_int (nomark _)) (pv 1) (pv 5)) rfl))))
      (pss_one (ps_ret (pv 3)))), ?_⟩
    refine rd_copy (key := keyI) (val := valI t) keyI_inj rfl (by decide) (by show 4 < 6; decide) hd tb (by have := tb.few fun i hi => ⟨by omega, by omega⟩; have e := sq_len (n := 4) (t := t) tb fun i hi => ⟨by omega, by omega⟩; omega) fun q H1 kvs1 s1 hq0 hq1 tb1 => ?_
    refine at_name (σ' := [some (.ref d), some (.int n), some (.int late), some (.ref q), none, none]) rfl ?_
    refine ⟨_, rfl, _, _, rfl, rfl, _, rfl, by omega, by omega, ?_⟩
    refine for_range (lo := 0) (n := ((n : Int) + 1).toNat) (fun x σ H' => ∃ (x5 : Option V) (kvs : List (List Key × V)), σ = [some (.ref d), some (.int n), some (.int late), some (.ref q), none, x5] ∧ L2.Same H H' ∧ H' q = some (.dT kvs) ∧ TbG (fun i : Ix => Sq n i ∨ (i.1 < x ∧ i.2 = n) ∨ (i.1 = n ∧ i.2 < x)) keyI (valI (wideT t n late)) kvs) ?_ ?_ ?_
    · refine ⟨_, kvs1, rfl, s1, hq1, (tb1.congrV fun i hi => ?_).congr fun i => ?_⟩
      · show V.int _ = V.int _
        unfold wideT
        rw [if_pos hi]
      · obtain ⟨a, b⟩ := i
        show (a < n ∧ b < n) ↔ ((a < n ∧ b < n) ∨ (a < 0 ∧ b = n) ∨ (a = n ∧ b < 0))
        omega
    · rintro x σ H2 hx ⟨x5, kvs2, rfl, s2, hq2, tb2⟩
      have hxn : x ≤ n := by omega
      have v1 : wideT t n late x n = if late = 0 then n else x := by
        unfold wideT
        rw [if_neg (by omega)]
        split
        · rfl
        · split
          · rename_i e; rw [e]
          · rfl
      have v2 : wideT t n late n x = if late = 0 then n else x := by
        unfold wideT
        rw [if_neg (by omega), if_pos rfl]
      have el : decide (V.int (late : Int) = V.int 0) = decide (late = 0) := by
        by_cases z : late = 0
        · simp [z]
        · have : ¬ (late : Int) = 0 := by omega
          simp [z, this]
      refine at_name (σ' := [some (.ref d), some (.int n), some (.int late), some (.ref q), none, some (.int (x : Int))]) (by rw [Int.zero_add]; rfl) ?_
      refine ⟨_, rfl, rfl, _, rfl, ?_⟩
      rw [el]
      by_cases z : late = 0
      · rw [decide_eq_true z]
        rw [if_pos z] at v1 v2
        refine iteT ⟨_, rfl, ?_⟩
        refine ⟨_, rfl, _, rfl, _, rfl, (by show 2 ≤ sizeLine; decide), fun t1 ht1 => ?_⟩
        have a1 := Same.new (H := H2) (o := .tup [V.int (x : Int), V.int (n : Int)]) ht1
        have a2 : upd H2 t1 (.tup [V.int (x : Int), V.int (n : Int)]) t1 = some (.tup ((keyI (x, n)).map kV)) := upd_same
        generalize upd H2 t1 (.tup [V.int (x : Int), V.int (n : Int)]) = G1 at a1 a2 ⊢
        have tb3 := tb2.put keyI_inj (x, n)
        rw [show valI (wideT t n late) (x, n) = V.int (n : Nat) from congrArg (fun k : Nat => V.int k) v1] at tb3
        refine ⟨q, _, rfl, DPut.t (k := keyI (x, n)) (a1 _ _ hq2) a2 (tb2.few fun i hi => by omega), ?_⟩
        have b1 : upd G1 q (.dT (putK kvs2 (keyI (x, n)) (V.int (n : Nat)))) q = _ := upd_same
        have b2 : L2.Same H (upd G1 q (.dT (putK kvs2 (keyI (x, n)) (V.int (n : Nat))))) := fun b o e => by
          rw [upd_ne (ne_of_none e hq0)]
          exact a1 _ _ (s2 _ _ e)
        generalize putK kvs2 (keyI (x, n)) (V.int (n : Nat)) = kvs3 at tb3 b1 b2 ⊢
        generalize upd G1 q (.dT kvs3) = G2 at b1 b2 ⊢
        refine ⟨_, rfl, rfl, _, rfl, ?_⟩
        rw [el, decide_eq_true z]
        refine iteT ⟨_, rfl, ?_⟩
        refine ⟨_, rfl, _, rfl, _, rfl, (by show 2 ≤ sizeLine; decide), fun t2 ht2 => ?_⟩
        have c1 := Same.new (H := G2) (o := .tup [V.int (n : Int), V.int (x : Int)]) ht2
        have c2 : upd G2 t2 (.tup [V.int (n : Int), V.int (x : Int)]) t2 = some (.tup ((keyI (n, x)).map kV)) := upd_same
        generalize upd G2 t2 (.tup [V.int (n : Int), V.int (x : Int)]) = G3 at c1 c2 ⊢
        have tb4 := tb3.put keyI_inj (n, x)
        rw [show valI (wideT t n late) (n, x) = V.int (n : Nat) from congrArg (fun k : Nat => V.int k) v2] at tb4
        refine ⟨q, _, rfl, DPut.t (k := keyI (n, x)) (c1 _ _ b1) c2 (tb3.few fun i hi => hi.elim (fun h => by omega) fun h => by rw [h]; exact ⟨by show x < 5; omega, by show n < 5; omega⟩), ?_⟩
        refine ⟨_, _, rfl, fun b o e => ?_, upd_same, tb4.congr fun i => ?_⟩
        · rw [upd_ne (ne_of_none e hq0)]
          exact c1 _ _ (b2 _ _ e)
        · obtain ⟨a, b⟩ := i
          simp only [Prod.mk.injEq]
          omega
      · rw [decide_eq_false z]
        rw [if_neg z] at v1 v2
        refine iteF ⟨_, rfl, ?_⟩
        refine ⟨_, rfl, _, rfl, _, rfl, (by show 2 ≤ sizeLine; decide), fun t1 ht1 => ?_⟩
        have a1 := Same.new (H := H2) (o := .tup [V.int (x : Int), V.int (n : Int)]) ht1
        have a2 : upd H2 t1 (.tup [V.int (x : Int), V.int (n : Int)]) t1 = some (.tup ((keyI (x, n)).map kV)) := upd_same
        generalize upd H2 t1 (.tup [V.int (x : Int), V.int (n : Int)]) = G1 at a1 a2 ⊢
        have tb3 := tb2.put keyI_inj (x, n)
        rw [show valI (wideT t n late) (x, n) = V.int (x : Nat) from congrArg (fun k : Nat => V.int k) v1] at tb3
        refine ⟨q, _, rfl, DPut.t (k := keyI (x, n)) (a1 _ _ hq2) a2 (tb2.few fun i hi => by omega), ?_⟩
        have b1 : upd G1 q (.dT (putK kvs2 (keyI (x, n)) (V.int (x : Nat)))) q = _ := upd_same
        have b2 : L2.Same H (upd G1 q (.dT (putK kvs2 (keyI (x, n)) (V.int (x : Nat))))) := fun b o e => by
          rw [upd_ne (ne_of_none e hq0)]
          exact a1 _ _ (s2 _ _ e)
        generalize putK kvs2 (keyI (x, n)) (V.int (x : Nat)) = kvs3 at tb3 b1 b2 ⊢
        generalize upd G1 q (.dT kvs3) = G2 at b1 b2 ⊢
        refine ⟨_, rfl, rfl, _, rfl, ?_⟩
        rw [el, decide_eq_false z]
        refine iteF ⟨_, rfl, ?_⟩
        refine ⟨_, rfl, _, rfl, _, rfl, (by show 2 ≤ sizeLine; decide), fun t2 ht2 => ?_⟩
        have c1 := Same.new (H := G2) (o := .tup [V.int (n : Int), V.int (x : Int)]) ht2
        have c2 : upd G2 t2 (.tup [V.int (n : Int), V.int (x : Int)]) t2 = some (.tup ((keyI (n, x)).map kV)) := upd_same
        generalize upd G2 t2 (.tup [V.int (n : Int), V.int (x : Int)]) = G3 at c1 c2 ⊢
        have tb4 := tb3.put keyI_inj (n, x)
        rw [show valI (wideT t n late) (n, x) = V.int (x : Nat) from congrArg (fun k : Nat => V.int k) v2] at tb4
        refine ⟨q, _, rfl, DPut.t (k := keyI (n, x)) (c1 _ _ b1) c2 (tb3.few fun i hi => hi.elim (fun h => by omega) fun h => by rw [h]; exact ⟨by show x < 5; omega, by show n < 5; omega⟩), ?_⟩
        refine ⟨_, _, rfl, fun b o e => ?_, upd_same, tb4.congr fun i => ?_⟩
        · rw [upd_ne (ne_of_none e hq0)]
          exact c1 _ _ (b2 _ _ e)
        · obtain ⟨a, b⟩ := i
          simp only [Prod.mk.injEq]
          omega
    · rintro σ H2 ⟨x5, kvs2, rfl, s2, hq2, tb2⟩
      refine ⟨_, rfl, k q H2 s2 hq0 ⟨kvs2, hq2, tb2.congr fun i => ?_⟩⟩
      obtain ⟨a, b⟩ := i
      have : ((n : Int) + 1).toNat = n + 1 := by omega
      rw [this]
      show ((a < n ∧ b < n) ∨ (a < n + 1 ∧ b = n) ∨ (a = n ∧ b < n + 1)) ↔ (a < n + 1 ∧ b < n + 1)
      omega
end
end KT
set_option Elab.async false
set_option linter.all false
set_option maxRecDepth 100000
set_option maxHeartbeats 4000000
namespace KT
open PySem L2 PyProof.Rows DTp
section
variable {P : Program} {w : World} {K : PySem.W.Frag} {mg : Str → Option Value} {base : Heap}
def spLead : Sp := fun vs H Q _ => ∃ (d : Addr) (n : Nat) (t : Nat → Nat → Nat), vs = [.ref d, .int n] ∧ 0 < n ∧ n < 4 ∧ TabAt H d n t ∧ ∀ (q : Addr) (H' : Hp), L2.Same H H' → H q = none → TabAt H' q (n + 1) (leadT t n) → Q (.ref q) H'
abbrev nLead : List Str := ["_law_told_here", "_law_many", "_law_found", "_law_key", "_law_x"]
theorem scLead : FnScope nLead ["_law_told_here", "_law_many"] (defScope sLeading) := ⟨rfl, rfl, rfl, by decide +kernel, rfl, by decide +kernel, by decide +kernel⟩
theorem ok_lead {f : Addr} {fd : FuncData} (F : Fun K "_law_leading_table" "_law_leading_table" sLeading f fd) (T : Blt mg) (hdi : mg "dict" = none) : FnOk P w K mg base CX0 1 f fd ["_law_told_here", "_law_many"] spLead := by
  refine F.ok scLead (fun vs H Q E h => ?_) (fun cdv A outer s H vs Q E hr h => ?_)
  · obtain ⟨d, n, t, rfl, _⟩ := h
    rfl
  · obtain ⟨d, n, t, rfl, n0, n4, ⟨kvs, hd, tb⟩, k⟩ := h
    have nd := scLead.nd
    refine ⟨_, pss_cons (ps_set (i := 2) nd rfl (Or.inl rfl) (pe_callTy (cr_dictT rfl (u2 hr.units)) (by rfl) hdi (by decide +kernel) (pa_cons (pe_lock (pe_lc (own := [("_law_key", 3)]) (g := gName 3) (tt := tYes) (te := tTup (tCons (tVar 3) (tCons (tDGet (tVar 0) (tVar 3)) tNil))) rfl nd (pi_keys (pv 0))
          (blkOk_by (own := [("_law_key", 3)]) (N := nLead) (sc := defScope sLeading) (by decide +kernel)) (fun _ _ _ _ _ => pg_name (i := 3) nd rfl (Or.inl rfl)) (fun _ _ _ _ _ => pts_nil) (fun _ _ _ _ _ => pe_tup (pa_cons (pv 3) (pa_cons (pe_dget (hu_of hr) (pv 0) (pv 3) (fun _ _ => rfl)) pa_nil))))) pa_nil)))
      (pss_cons (ps_for PassesOwn.never rfl (pi_range1 rfl T.range (pa_cons (pe_op op_add (pv 1) pe_int) pa_nil)) (pg_name (i := 4) nd rfl (Or.inl rfl))
        (pss_cons (ps_dput (hu_of hr) (pv 2) (pe_tup (pa_cons (pv 4) (pa_cons (pv 1) pa_nil))) (pe_ifExp (pt_cmpR op_eq (pv 4) (pv 1) (nomark _)) (pv 1) pe_int) rfl)
          (pss_one (ps_dput (hu_of hr) (pv 2) (pe_tup (pa_cons (pv 1) (pa_cons (pv 4) pa_nil))) (pv 4) rfl))))
      (pss_one (ps_ret (pv 2)))), ?_⟩
    refine rd_copy (key := keyI) (val := valI t) keyI_inj rfl (by decide) (by show 3 < 5; decide) hd tb (by have e := sq_len (n := 4) (t := t) tb fun i hi => ⟨by omega, by omega⟩; omega) fun q H1 kvs1 s1 hq0 hq1 tb1 => ?_
    refine at_name (σ' := [some (.ref d), some (.int n), some (.ref q), none, none]) rfl ?_
    refine ⟨_, rfl, _, _, rfl, rfl, _, rfl, by omega, by omega, ?_⟩
    refine for_range (lo := 0) (n := ((n : Int) + 1).toNat) (fun x σ H' => ∃ (x5 : Option V) (kvs : List (List Key × V)), σ = [some (.ref d), some (.int n), some (.ref q), none, x5] ∧ L2.Same H H' ∧ H' q = some (.dT kvs) ∧ TbG (fun i : Ix => Sq n i ∨ (i.1 < x ∧ i.2 = n) ∨ (i.1 = n ∧ i.2 < x)) keyI (valI (leadT t n)) kvs) ?_ ?_ ?_
    · refine ⟨_, kvs1, rfl, s1, hq1, (tb1.congrV fun i hi => ?_).congr fun i => ?_⟩
      · show V.int _ = V.int _
        unfold leadT
        rw [if_pos hi]
      · obtain ⟨a, b⟩ := i
        show (a < n ∧ b < n) ↔ ((a < n ∧ b < n) ∨ (a < 0 ∧ b = n) ∨ (a = n ∧ b < 0))
        omega
    · rintro x σ H2 hx ⟨x5, kvs2, rfl, s2, hq2, tb2⟩
      have hxn : x ≤ n := by omega
      have v1 : leadT t n x n = if x = n then n else 0 := by
        unfold leadT
        rw [if_neg (by omega), if_pos rfl]
      have v2 : leadT t n n x = x := by
        unfold leadT
        rw [if_neg (by omega)]
        split
        · rename_i e; rw [if_pos rfl, e]
        · rfl
      have el : decide (V.int (x : Int) = V.int (n : Int)) = decide (x = n) := by
        by_cases z : x = n
        · simp [z]
        · have : ¬ (x : Int) = n := by omega
          simp [z, this]
      refine at_name (σ' := [some (.ref d), some (.int n), some (.ref q), none, some (.int (x : Int))]) (by rw [Int.zero_add]; rfl) ?_
      refine ⟨_, rfl, _, rfl, rfl, _, rfl, ?_⟩
      rw [el]
      by_cases z : x = n
      · rw [decide_eq_true z]
        rw [if_pos z] at v1
        refine iteT ⟨_, rfl, ?_⟩
        refine ⟨_, rfl, _, rfl, _, rfl, (by show 2 ≤ sizeLine; decide), fun t1 ht1 => ?_⟩
        have a1 := Same.new (H := H2) (o := .tup [V.int (x : Int), V.int (n : Int)]) ht1
        have a2 : upd H2 t1 (.tup [V.int (x : Int), V.int (n : Int)]) t1 = some (.tup ((keyI (x, n)).map kV)) := upd_same
        generalize upd H2 t1 (.tup [V.int (x : Int), V.int (n : Int)]) = G1 at a1 a2 ⊢
        have tb3 := tb2.put keyI_inj (x, n)
        rw [show valI (leadT t n) (x, n) = V.int (n : Nat) from congrArg (fun k : Nat => V.int k) v1] at tb3
        refine ⟨q, _, rfl, DPut.t (k := keyI (x, n)) (a1 _ _ hq2) a2 (tb2.few fun i hi => by omega), ?_⟩
        have b1 : upd G1 q (.dT (putK kvs2 (keyI (x, n)) (V.int (n : Nat)))) q = _ := upd_same
        have b2 : L2.Same H (upd G1 q (.dT (putK kvs2 (keyI (x, n)) (V.int (n : Nat))))) := fun b o e => by
          rw [upd_ne (ne_of_none e hq0)]
          exact a1 _ _ (s2 _ _ e)
        have b3 : upd G1 q (.dT (putK kvs2 (keyI (x, n)) (V.int (n : Int)))) = upd G1 q (.dT (putK kvs2 (keyI (x, n)) (V.int (n : Nat)))) := rfl
        rw [b3]
        generalize putK kvs2 (keyI (x, n)) (V.int (n : Nat)) = kvs3 at tb3 b1 b2 ⊢
        generalize upd G1 q (.dT kvs3) = G2 at b1 b2 ⊢
        refine ⟨_, rfl, _, rfl, _, rfl, _, rfl, (by show 2 ≤ sizeLine; decide), fun t2 ht2 => ?_⟩
        have c1 := Same.new (H := G2) (o := .tup [V.int (n : Int), V.int (x : Int)]) ht2
        have c2 : upd G2 t2 (.tup [V.int (n : Int), V.int (x : Int)]) t2 = some (.tup ((keyI (n, x)).map kV)) := upd_same
        generalize upd G2 t2 (.tup [V.int (n : Int), V.int (x : Int)]) = G3 at c1 c2 ⊢
        have tb4 := tb3.put keyI_inj (n, x)
        rw [show valI (leadT t n) (n, x) = V.int (x : Nat) from congrArg (fun k : Nat => V.int k) v2] at tb4
        refine ⟨q, _, rfl, DPut.t (k := keyI (n, x)) (c1 _ _ b1) c2 (tb3.few fun i hi => hi.elim (fun h => by omega) fun h => by rw [h]; exact ⟨by show x < 5; omega, by show n < 5; omega⟩), ?_⟩
        refine ⟨_, _, rfl, fun b o e => ?_, upd_same, tb4.congr fun i => ?_⟩
        · rw [upd_ne (ne_of_none e hq0)]
          exact c1 _ _ (b2 _ _ e)
        · obtain ⟨a, b⟩ := i
          simp only [Prod.mk.injEq]
          omega
      · rw [decide_eq_false z]
        rw [if_neg z] at v1
        refine iteF ?_
        refine ⟨_, rfl, _, rfl, _, rfl, (by show 2 ≤ sizeLine; decide), fun t1 ht1 => ?_⟩
        have a1 := Same.new (H := H2) (o := .tup [V.int (x : Int), V.int (n : Int)]) ht1
        have a2 : upd H2 t1 (.tup [V.int (x : Int), V.int (n : Int)]) t1 = some (.tup ((keyI (x, n)).map kV)) := upd_same
        generalize upd H2 t1 (.tup [V.int (x : Int), V.int (n : Int)]) = G1 at a1 a2 ⊢
        have tb3 := tb2.put keyI_inj (x, n)
        rw [show valI (leadT t n) (x, n) = V.int (0 : Nat) from congrArg (fun k : Nat => V.int k) v1] at tb3
        refine ⟨q, _, rfl, DPut.t (k := keyI (x, n)) (a1 _ _ hq2) a2 (tb2.few fun i hi => by omega), ?_⟩
        have b1 : upd G1 q (.dT (putK kvs2 (keyI (x, n)) (V.int (0 : Nat)))) q = _ := upd_same
        have b2 : L2.Same H (upd G1 q (.dT (putK kvs2 (keyI (x, n)) (V.int (0 : Nat))))) := fun b o e => by
          rw [upd_ne (ne_of_none e hq0)]
          exact a1 _ _ (s2 _ _ e)
        have b3 : upd G1 q (.dT (putK kvs2 (keyI (x, n)) (V.int (0 : Int)))) = upd G1 q (.dT (putK kvs2 (keyI (x, n)) (V.int (0 : Nat)))) := rfl
        rw [b3]
        generalize putK kvs2 (keyI (x, n)) (V.int (0 : Nat)) = kvs3 at tb3 b1 b2 ⊢
        generalize upd G1 q (.dT kvs3) = G2 at b1 b2 ⊢
        refine ⟨_, rfl, _, rfl, _, rfl, _, rfl, (by show 2 ≤ sizeLine; decide), fun t2 ht2 => ?_⟩
        have c1 := Same.new (H := G2) (o := .tup [V.int (n : Int), V.int (x : Int)]) ht2
        have c2 : upd G2 t2 (.tup [V.int (n : Int), V.int (x : Int)]) t2 = some (.tup ((keyI (n, x)).map kV)) := upd_same
        generalize upd G2 t2 (.tup [V.int (n : Int), V.int (x : Int)]) = G3 at c1 c2 ⊢
        have tb4 := tb3.put keyI_inj (n, x)
        rw [show valI (leadT t n) (n, x) = V.int (x : Nat) from congrArg (fun k : Nat => V.int k) v2] at tb4
        refine ⟨q, _, rfl, DPut.t (k := keyI (n, x)) (c1 _ _ b1) c2 (tb3.few fun i hi => hi.elim (fun h => by omega) fun h => by rw [h]; exact ⟨by show x < 5; omega, by show n < 5; omega⟩), ?_⟩
        refine ⟨_, _, rfl, fun b o e => ?_, upd_same, tb4.congr fun i => ?_⟩
        · rw [upd_ne (ne_of_none e hq0)]
          exact c1 _ _ (b2 _ _ e)
        · obtain ⟨a, b⟩ := i
          simp only [Prod.mk.injEq]
          omega
    · rintro σ H2 ⟨x5, kvs2, rfl, s2, hq2, tb2⟩
      refine ⟨_, rfl, k q H2 s2 hq0 ⟨kvs2, hq2, tb2.congr fun i => ?_⟩⟩
      obtain ⟨a, b⟩ := i
      have : ((n : Int) + 1).toNat = n + 1 := by omega
      rw [this]
      show ((a < n ∧ b < n) ∨ (a < n + 1 ∧ b = n) ∨ (a = n ∧ b < n + 1)) ↔ (a < n + 1 ∧ b < n + 1)
      omega
end
end KT
set_option Elab.async false
set_option linter.all false
set_option maxRecDepth 100000
set_option maxHeartbeats 4000000
namespace KT
open PySem L2 PyProof.Rows DTp
section
variable {P : Program} {w : World} {K : PySem.W.Frag} {mg : Str → Option Value} {base : Heap}
def spCyc : Sp := fun vs H Q _ => ∃ n lead : Nat, vs = [.int n, .int lead] ∧ 0 < n ∧ n < 5 ∧ 0 < lead ∧ lead ≤ n ∧ ∀ (q : Addr) (H' : Hp), L2.Same H H' → H q = none → TabAt H' q n (cyclicT n lead) → Q (.ref q) H'
abbrev nCyc : List Str := ["_law_many", "_law_lead", "_law_told_here", "_law_x", "_law_y", "_law_raised"]
theorem scCyc : FnScope nCyc ["_law_many", "_law_lead"] (defScope sCyclic) := ⟨rfl, rfl, rfl, by decide +kernel, rfl, by decide +kernel, by decide +kernel⟩
theorem ok_cyc {f : Addr} {fd : FuncData} (F : Fun K "_law_cyclic_table" "_law_cyclic_table" sCyclic f fd) (T : Blt mg) : FnOk P w K mg base CX0 1 f fd ["_law_many", "_law_lead"] spCyc := by
  refine F.ok scCyc (fun vs H Q E h => ?_) (fun cdv A outer s H vs Q E hr h => ?_)
  · obtain ⟨n, lead, rfl, _⟩ := h
    rfl
  · obtain ⟨n, lead, rfl, n0, n5, l0, ln, k⟩ := h
    have nd := scCyc.nd
    refine ⟨_, pss_cons (ps_set (i := 2) nd rfl (Or.inl rfl) pe_dnewT)
      (pss_cons (ps_for PassesOwn.never rfl (pi_range1 rfl T.range (pa_cons (pv 0) pa_nil)) (pg_name (i := 3) nd rfl (Or.inl rfl))
        (pss_one (ps_for PassesOwn.never rfl (pi_range1 rfl T.range (pa_cons (pv 0) pa_nil)) (pg_name (i := 4) nd rfl (Or.inl rfl))
          (pss_cons (ps_set (i := 5) nd rfl (Or.inl rfl) (pe_op op_add (pe_op op_add (pv 3) (pv 4)) pe_int))
          (pss_one (ps_dput (hu_of hr) (pv 2) (pe_tup (pa_cons (pv 3) (pa_cons (pv 4) pa_nil)))
            (pe_op op_sub (pe_ifExp (pt_cmpR op_le (pv 5) (pv 0) (nomark _)) (pv 5) (pe_op op_add (pv 1) (pe_op op_modN (pe_callTy call_int1 (by rfl) T.int boot_int (pa_cons (pe_op op_sub (pv 5) (pv 1)) pa_nil)) (pe_op op_add (pe_op op_sub (pv 0) (pv 1)) pe_int)))) pe_int) rfl))))))
      (pss_one (ps_ret (pv 2)))), ?_⟩
    refine fun d hd => ?_
    refine ⟨_, rfl, _, rfl, by omega, by omega, ?_⟩
    refine for_range (lo := 0) (n := (n : Int).toNat) (fun x σ H' => ∃ (x3 x4 x5 : Option V) (kvs : List (List Key × V)), σ = [some (.int n), some (.int lead), some (.ref d), x3, x4, x5] ∧ L2.Same H H' ∧ H' d = some (.dT kvs) ∧ TbG (fun i : Ix => i.1 < x ∧ i.2 < n) keyI (valI (cyclicT n lead)) kvs) ?_ ?_ ?_
    · exact ⟨_, _, _, [], rfl, Same.new hd, upd_same, TbG.nil.congr fun i => by simp⟩
    · rintro x σ H1 hx ⟨x3, x4, x5, kvs, rfl, s1, hd1, tb⟩
      refine at_name (σ' := [some (.int n), some (.int lead), some (.ref d), some (.int (x : Int)), x4, x5]) (by rw [Int.zero_add]; rfl) ?_
      refine ⟨_, rfl, _, rfl, by omega, by omega, ?_⟩
      refine for_range (lo := 0) (n := (n : Int).toNat) (fun y σ H' => ∃ (x4 x5 : Option V) (kvs : List (List Key × V)), σ = [some (.int n), some (.int lead), some (.ref d), some (.int (x : Int)), x4, x5] ∧ L2.Same H H' ∧ H' d = some (.dT kvs) ∧ TbG (fun i : Ix => (i.1 < x ∧ i.2 < n) ∨ (i.1 = x ∧ i.2 < y)) keyI (valI (cyclicT n lead)) kvs) ?_ ?_ ?_
      · exact ⟨_, _, kvs, rfl, s1, hd1, tb.row0⟩
      · rintro y σ H2 hy ⟨x4, x5, kvs, rfl, s2, hd2, tb⟩
        have hxn : x < n := by omega
        have hyn : y < n := by omega
        refine at_name (σ' := [some (.int n), some (.int lead), some (.ref d), some (.int (x : Int)), some (.int (y : Int)), x5]) (by rw [Int.zero_add]; rfl) ?_
        refine ⟨_, rfl, _, rfl, _, _, rfl, rfl, _, _, rfl, rfl, ?_⟩
        refine at_name (σ' := [some (.int n), some (.int lead), some (.ref d), some (.int (x : Int)), some (.int (y : Int)), some (.int ((x : Int) + y + 2))]) rfl ?_
        have fin : ∀ z : Int, z = (cyclicT n lead x y : Nat) → ∀ t1, H2 t1 = none → ∃ a H4, (V.ref d) = V.ref a ∧ DPut (upd H2 t1 (.tup [V.int (x : Int), V.int (y : Int)])) a (.ref t1) (.int z) H4 ∧ ∃ (x4 x5 : Option V) (kvs : List (List Key × V)), [some (V.int n), some (.int lead), some (.ref d), some (.int (x : Int)), some (.int (y : Int)), some (.int ((x : Int) + y + 2))] = [some (.int n), some (.int lead), some (.ref d), some (.int (x : Int)), x4, x5] ∧ L2.Same H H4 ∧ H4 d = some (.dT kvs) ∧ TbG (fun i : Ix => (i.1 < x ∧ i.2 < n) ∨ (i.1 = x ∧ i.2 < y + 1)) keyI (valI (cyclicT n lead)) kvs := by
          rintro z rfl t1 ht1
          have h1 := Same.new (H := H2) (o := .tup [V.int (x : Int), V.int (y : Int)]) ht1
          refine ⟨d, _, rfl, DPut.t (k := keyI (x, y)) (h1 _ _ hd2) upd_same (tb.few fun i hi => by omega), _, _, _, rfl, fun b o e => ?_, upd_same, tb.next⟩
          rw [upd_ne (ne_of_none e hd)]
          exact h1 _ _ (s2 _ _ e)
        refine ⟨_, rfl, _, rfl, _, _, rfl, rfl, _, rfl, ?_⟩
        by_cases z : x + y + 2 ≤ n
        · rw [decide_eq_true (show (x : Int) + y + 2 ≤ n by omega)]
          refine iteT ⟨_, rfl, _, _, rfl, rfl, _, rfl, _, rfl, _, rfl, (by show 2 ≤ sizeLine; decide), fun t1 ht1 => fin _ ?_ t1 ht1⟩
          unfold cyclicT
          rw [if_pos z]
          omega
        · rw [decide_eq_false (show ¬ (x : Int) + y + 2 ≤ n by omega)]
          refine iteF ⟨_, rfl, _, rfl, _, rfl, _, _, rfl, rfl, .inl ⟨_, rfl, _, rfl, _, rfl, _, _, rfl, rfl, _, _, rfl, rfl, _, _, rfl, rfl, by omega, _, _, rfl, rfl, _, _, rfl, rfl, _, rfl, _, rfl, _, rfl, (by show 2 ≤ sizeLine; decide), fun t1 ht1 => fin _ ?_ t1 ht1⟩⟩
          unfold cyclicT
          rw [if_neg z]
          have e1 : ((x : Int) + y + 2 - lead).fmod ((n : Int) - lead + 1) = (((x + y + 2 - lead) % (n - lead + 1) : Nat) : Int) := by
            have a1 : ((x : Int) + y + 2 - lead) = ((x + y + 2 - lead : Nat) : Int) := by omega
            have a2 : ((n : Int) - lead + 1) = ((n - lead + 1 : Nat) : Int) := by omega
            rw [a1, a2, Int.fmod_eq_emod_of_nonneg _ (by omega)]
            exact (Int.natCast_emod _ _).symm
          rw [e1]
          omega
      · rintro σ H2 ⟨x4, x5, kvs, rfl, s2, hd2, tb⟩
        have hn : (n : Int).toNat = n := by omega
        rw [hn] at tb
        exact ⟨_, _, _, kvs, rfl, s2, hd2, tb.row⟩
    · rintro σ H1 ⟨x3, x4, x5, kvs, rfl, s1, hd1, tb⟩
      have hn : (n : Int).toNat = n := by omega
      rw [hn] at tb
      exact ⟨_, rfl, k d H1 s1 hd ⟨kvs, hd1, tb⟩⟩
end
end KT
set_option Elab.async false
set_option linter.all false
set_option maxRecDepth 100000
set_option maxHeartbeats 4000000
namespace KT
open PySem L2 PyProof.Rows DTp
section
variable {P : Program} {w : World} {K : PySem.W.Frag} {mg : Str → Option Value} {base : Heap}
def spTwo : Sp := fun vs H Q _ => ∃ (a b : Addr) (t u : Nat → Nat → Nat), vs = [.ref a, .ref b] ∧ TabAt H a 2 t ∧ TabAt H b 2 u ∧ ∀ (q : Addr) (H' : Hp), L2.Same H H' → H q = none → TabAt H' q 4 (twofoldT t u) → Q (.ref q) H'
abbrev nTwo : List Str := ["_law_one", "_law_other", "_law_found", "_law_x", "_law_y"]
theorem scTwo : FnScope nTwo ["_law_one", "_law_other"] (defScope sTwofold) := ⟨rfl, rfl, rfl, by decide +kernel, rfl, by decide +kernel, by decide +kernel⟩
theorem ok_two {f : Addr} {fd : FuncData} (F : Fun K "_law_twofold_table" "_law_twofold_table" sTwofold f fd) (T : Blt mg) : FnOk P w K mg base CX0 1 f fd ["_law_one", "_law_other"] spTwo := by
  refine F.ok scTwo (fun vs H Q E h => ?_) (fun cdv A outer s H vs Q E hr h => ?_)
  · obtain ⟨a, b, t, u, rfl, _⟩ := h
    rfl
  · obtain ⟨a, b, t, u, rfl, ha, hb, k⟩ := h
    have nd := scTwo.nd
    refine ⟨_, pss_cons (ps_set (i := 2) nd rfl (Or.inl rfl) pe_dnewT)
      (pss_cons (ps_for PassesOwn.never rfl (pi_range1 rfl T.range (pa_cons pe_int pa_nil)) (pg_name (i := 3) nd rfl (Or.inl rfl))
        (pss_one (ps_for PassesOwn.never rfl (pi_range1 rfl T.range (pa_cons pe_int pa_nil)) (pg_name (i := 4) nd rfl (Or.inl rfl))
          (pss_one (ps_dput (hu_of hr) (pv 2) (pe_tup (pa_cons (pv 3) (pa_cons (pv 4) pa_nil)))
            (pe_op op_add (pe_op op_mul pe_int (pe_dget (hu_of hr) (pv 0) (pe_tup (pa_cons (pe_op op_fdiv (pv 3) pe_int) (pa_cons (pe_op op_fdiv (pv 4) pe_int) pa_nil))) (fun _ _ => rfl)))
              (pe_dget (hu_of hr) (pv 1) (pe_tup (pa_cons (pe_op op_mod (pe_callTy call_int1 (by rfl) T.int boot_int (pa_cons (pv 3) pa_nil)) pe_int) (pa_cons (pe_op op_mod (pe_callTy call_int1 (by rfl) T.int boot_int (pa_cons (pv 4) pa_nil)) pe_int) pa_nil))) (fun _ _ => rfl))) rfl)))))
      (pss_one (ps_ret (pv 2)))), ?_⟩
    refine fun d hd => ?_
    refine ⟨_, rfl, by decide, by decide, ?_⟩
    refine for_range (lo := 0) (n := 4) (fun x σ H' => ∃ (x3 x4 : Option V) (kvs : List (List Key × V)), σ = [some (.ref a), some (.ref b), some (.ref d), x3, x4] ∧ L2.Same H H' ∧ H' d = some (.dT kvs) ∧ TbG (fun i : Ix => i.1 < x ∧ i.2 < 4) keyI (valI (twofoldT t u)) kvs) ?_ ?_ ?_
    · exact ⟨_, _, [], rfl, Same.new hd, upd_same, TbG.nil.congr fun i => by simp⟩
    · rintro x σ H1 hx ⟨x3, x4, kvs, rfl, s1, hd1, tb⟩
      refine at_name (σ' := [some (.ref a), some (.ref b), some (.ref d), some (.int (x : Int)), x4]) (by rw [Int.zero_add]; rfl) ?_
      refine ⟨_, rfl, by decide, by decide, ?_⟩
      refine for_range (lo := 0) (n := 4) (fun y σ H' => ∃ (x4 : Option V) (kvs : List (List Key × V)), σ = [some (.ref a), some (.ref b), some (.ref d), some (.int (x : Int)), x4] ∧ L2.Same H H' ∧ H' d = some (.dT kvs) ∧ TbG (fun i : Ix => (i.1 < x ∧ i.2 < 4) ∨ (i.1 = x ∧ i.2 < y)) keyI (valI (twofoldT t u)) kvs) ?_ ?_ ?_
      · exact ⟨_, kvs, rfl, s1, hd1, tb.row0⟩
      · rintro y σ H2 hy ⟨x4, kvs, rfl, s2, hd2, tb⟩
        refine at_name (σ' := [some (.ref a), some (.ref b), some (.ref d), some (.int (x : Int)), some (.int (y : Int))]) (by rw [Int.zero_add]; rfl) ?_
        have q1 : (x : Int) / 2 = ((x / 2 : Nat) : Int) := by omega
        have q2 : (y : Int) / 2 = ((y / 2 : Nat) : Int) := by omega
        have q3 : (x : Int) % 2 = ((x % 2 : Nat) : Int) := by omega
        have q4 : (y : Int) % 2 = ((y % 2 : Nat) : Int) := by omega
        refine ⟨_, rfl, _, rfl, _, _, rfl, rfl, (by show (0 : Int) < 2 ∧ (2 : Int) < 1073741824; decide), _, rfl, _, _, rfl, rfl, (by show (0 : Int) < 2 ∧ (2 : Int) < 1073741824; decide), (by show 2 ≤ sizeLine; decide), fun t1 ht1 => ?_⟩
        have a1 := Same.new (H := H2) (o := .tup [V.int ((x : Int) / 2), V.int ((y : Int) / 2)]) ht1
        have a2 : upd H2 t1 (.tup [V.int ((x : Int) / 2), V.int ((y : Int) / 2)]) t1 = some (.tup [V.int ((x / 2 : Nat) : Int), V.int ((y / 2 : Nat) : Int)]) := by rw [upd_same, q1, q2]
        generalize upd H2 t1 (.tup [V.int ((x : Int) / 2), V.int ((y : Int) / 2)]) = G1 at a1 a2 ⊢
        refine ⟨a, _, rfl, ((ha.mono s2).mono a1).get (by omega) (by omega) a2, _, _, rfl, rfl, .inl (by decide), ?_⟩
        refine ⟨_, rfl, _, rfl, .inl ⟨_, rfl, _, _, rfl, rfl, (by show (0 : Int) < 2; decide), _, rfl, .inl ⟨_, rfl, _, _, rfl, rfl, (by show (0 : Int) < 2; decide), (by show 2 ≤ sizeLine; decide), fun t2 ht2 => ?_⟩⟩⟩
        have b1 := Same.new (H := G1) (o := .tup [V.int ((x : Int) % 2), V.int ((y : Int) % 2)]) ht2
        have b2 : upd G1 t2 (.tup [V.int ((x : Int) % 2), V.int ((y : Int) % 2)]) t2 = some (.tup [V.int ((x % 2 : Nat) : Int), V.int ((y % 2 : Nat) : Int)]) := by rw [upd_same, q3, q4]
        generalize upd G1 t2 (.tup [V.int ((x : Int) % 2), V.int ((y : Int) % 2)]) = G2 at b1 b2 ⊢
        refine ⟨b, _, rfl, (((hb.mono s2).mono a1).mono b1).get (by omega) (by omega) b2, _, _, rfl, rfl, ?_⟩
        refine ⟨_, rfl, _, rfl, _, rfl, (by show 2 ≤ sizeLine; decide), fun t3 ht3 => ?_⟩
        have c1 := Same.new (H := G2) (o := .tup [V.int (x : Int), V.int (y : Int)]) ht3
        have ev : (2 * (t (x / 2) (y / 2) : Int) + (u (x % 2) (y % 2) : Int)) = ((twofoldT t u x y : Nat) : Int) := by
          unfold twofoldT
          omega
        refine ⟨d, _, rfl, DPut.t (k := keyI (x, y)) (c1 _ _ (b1 _ _ (a1 _ _ hd2))) upd_same (tb.few fun i hi => by omega), _, _, rfl, fun z o e => ?_, upd_same, ?_⟩
        · rw [upd_ne (ne_of_none e hd)]
          exact c1 _ _ (b1 _ _ (a1 _ _ (s2 _ _ e)))
        · have tn := tb.next
          rw [show valI (twofoldT t u) (x, y) = V.int (2 * (t (x / 2) (y / 2) : Int) + (u (x % 2) (y % 2) : Int)) from congrArg V.int ev.symm] at tn
          exact tn
      · rintro σ H2 ⟨x4, kvs, rfl, s2, hd2, tb⟩
        exact ⟨_, _, kvs, rfl, s2, hd2, tb.row⟩
    · rintro σ H1 ⟨x3, x4, kvs, rfl, s1, hd1, tb⟩
      exact ⟨_, rfl, k d H1 s1 hd ⟨kvs, hd1, tb⟩⟩
def spTwin : Sp := fun vs H Q _ => ∃ (a : Addr) (n v : Nat) (t : Nat → Nat → Nat), vs = [.ref a, .int n, .int v] ∧ 0 < n ∧ n < 4 ∧ v < n ∧ TabAt H a n t ∧ ∀ (q : Addr) (H' : Hp), L2.Same H H' → H q = none → TabAt H' q (n + 1) (twinT t n v) → Q (.ref q) H'
abbrev nTwin : List Str := ["_law_told_here", "_law_many", "_law_twin", "_law_head", "_law_found", "_law_x", "_law_y"]
theorem scTwin : FnScope nTwin ["_law_told_here", "_law_many", "_law_twin"] (defScope sTwin) := ⟨rfl, rfl, rfl, by decide +kernel, rfl, by decide +kernel, by decide +kernel⟩
theorem ok_twin {f : Addr} {fd : FuncData} (F : Fun K "_law_twin_table" "_law_twin_table" sTwin f fd) (T : Blt mg) (hl : mg "list" = none) : FnOk P w K mg base CX0 1 f fd ["_law_told_here", "_law_many", "_law_twin"] spTwin := by
  refine F.ok scTwin (fun vs H Q E h => ?_) (fun cdv A outer s H vs Q E hr h => ?_)
  · obtain ⟨a, n, v, t, rfl, _⟩ := h
    rfl
  · obtain ⟨a, n, v, t, rfl, n0, n4, hv, ha, k⟩ := h
    have nd := scTwin.nd
    refine ⟨_, pss_cons (ps_set (i := 3) nd rfl (Or.inl rfl) (pe_op op_cat (pe_listRg rfl (by rfl) hl (prg_1 (by rfl) T.range (pv 1))) (pe_lst (pa_cons (pv 2) pa_nil))))
      (pss_cons (ps_set (i := 4) nd rfl (Or.inl rfl) pe_dnewT)
      (pss_cons (ps_for PassesOwn.never rfl (pi_range1 rfl T.range (pa_cons (pe_op op_add (pv 1) pe_int) pa_nil)) (pg_name (i := 5) nd rfl (Or.inl rfl))
        (pss_one (ps_for PassesOwn.never rfl (pi_range1 rfl T.range (pa_cons (pe_op op_add (pv 1) pe_int) pa_nil)) (pg_name (i := 6) nd rfl (Or.inl rfl))
          (pss_one (ps_dput (hu_of hr) (pv 4) (pe_tup (pa_cons (pv 5) (pa_cons (pv 6) pa_nil)))
            (pe_dget (hu_of hr) (pv 0) (pe_tup (pa_cons (pe_ix ix_list (pv 3) (pv 5) (fun _ _ => rfl)) (pa_cons (pe_ix ix_list (pv 3) (pv 6) (fun _ _ => rfl)) pa_nil))) (fun _ _ => rfl)) rfl)))))
      (pss_one (ps_ret (pv 4))))), ?_⟩
    refine ⟨_, rfl, _, rfl, ⟨by decide, by decide, by omega, by omega, by omega⟩, fun q1 hq1 => ?_⟩
    have a1 := Same.new (H := H) (o := .lst (rgV 0 n)) hq1
    have a2 : upd H q1 (.lst (rgV 0 n)) q1 = _ := upd_same
    generalize upd H q1 (.lst (rgV 0 n)) = G1 at a1 a2 ⊢
    refine ⟨_, rfl, (by show 1 ≤ sizeLine; decide), fun q2 hq2 => ?_⟩
    have b1 := Same.new (H := G1) (o := .lst [V.int (v : Int)]) hq2
    have b2 : upd G1 q2 (.lst [V.int (v : Int)]) q2 = _ := upd_same
    generalize upd G1 q2 (.lst [V.int (v : Int)]) = G2 at b1 b2 ⊢
    have hlen : (rgV 0 n).length = n := by
      unfold rgV
      rw [List.length_map, List.length_range]
      omega
    refine ⟨q1, q2, _, _, rfl, rfl, b1 _ _ a2, b2, (by rw [hlen]; show n + 1 ≤ sizeLine; rw [sizeLine_eq]; omega), fun q3 hq3 => ?_⟩
    have c1 := Same.new (H := G2) (o := .lst (rgV 0 n ++ [V.int (v : Int)])) hq3
    have c2 : upd G2 q3 (.lst (rgV 0 n ++ [V.int (v : Int)])) q3 = _ := upd_same
    generalize upd G2 q3 (.lst (rgV 0 n ++ [V.int (v : Int)])) = G3 at c1 c2 ⊢
    have hh : ∀ x : Nat, x < n + 1 → (rgV 0 (n : Int) ++ [V.int (v : Int)])[x]? = some (.int ((if x < n then x else v : Nat) : Int)) := by
      intro x hx
      by_cases z : x < n
      · rw [List.getElem?_append_left (by rw [hlen]; exact z), if_pos z]
        unfold rgV
        have e0 : ((n : Int) - 0).toNat = n := by omega
        rw [e0, List.getElem?_map, List.getElem?_range z]
        show some (V.int (0 + (x : Int))) = _
        rw [Int.zero_add]
      · have e1 : x = n := by omega
        subst e1
        rw [List.getElem?_append_right (by rw [hlen]; omega), hlen, if_neg z, Nat.sub_self]
        rfl
    have hs : L2.Same H G3 := fun z o e => c1 _ _ (b1 _ _ (a1 _ _ e))
    refine at_name (σ' := [some (.ref a), some (.int n), some (.int v), some (.ref q3), none, none, none]) rfl ?_
    refine fun d hd => ?_
    have d1 := Same.new (H := G3) (o := .dT []) hd
    have hd0 : H d = none := by
      cases e : H d with
      | none => rfl
      | some o => rw [hs _ _ e] at hd; cases hd
    refine at_name (σ' := [some (.ref a), some (.int n), some (.int v), some (.ref q3), some (.ref d), none, none]) rfl ?_
    have hq3d : upd G3 d (.dT []) q3 = some (.lst (rgV 0 n ++ [V.int (v : Int)])) := d1 _ _ c2
    have d2 : upd G3 d (.dT []) d = some (.dT []) := upd_same
    have hs0 : L2.Same H (upd G3 d (.dT [])) := fun z o e => d1 _ _ (hs _ _ e)
    generalize upd G3 d (.dT []) = G4 at d2 hq3d hs0 ⊢
    refine ⟨_, rfl, _, _, rfl, rfl, _, rfl, by omega, by omega, ?_⟩
    refine for_range (lo := 0) (n := ((n : Int) + 1).toNat) (fun x σ H' => ∃ (x5 x6 : Option V) (kvs : List (List Key × V)), σ = [some (.ref a), some (.int n), some (.int v), some (.ref q3), some (.ref d), x5, x6] ∧ L2.Same H H' ∧ H' q3 = some (.lst (rgV 0 n ++ [V.int (v : Int)])) ∧ H' d = some (.dT kvs) ∧ TbG (fun i : Ix => i.1 < x ∧ i.2 < n + 1) keyI (valI (twinT t n v)) kvs) ?_ ?_ ?_
    · exact ⟨_, _, [], rfl, hs0, hq3d, d2, TbG.nil.congr fun i => by simp⟩
    · rintro x σ H1 hx ⟨x5, x6, kvs, rfl, s1, hq1, hd1, tb⟩
      refine at_name (σ' := [some (.ref a), some (.int n), some (.int v), some (.ref q3), some (.ref d), some (.int (x : Int)), x6]) (by rw [Int.zero_add]; rfl) ?_
      refine ⟨_, rfl, _, _, rfl, rfl, _, rfl, by omega, by omega, ?_⟩
      refine for_range (lo := 0) (n := ((n : Int) + 1).toNat) (fun y σ H' => ∃ (x6 : Option V) (kvs : List (List Key × V)), σ = [some (.ref a), some (.int n), some (.int v), some (.ref q3), some (.ref d), some (.int (x : Int)), x6] ∧ L2.Same H H' ∧ H' q3 = some (.lst (rgV 0 n ++ [V.int (v : Int)])) ∧ H' d = some (.dT kvs) ∧ TbG (fun i : Ix => (i.1 < x ∧ i.2 < n + 1) ∨ (i.1 = x ∧ i.2 < y)) keyI (valI (twinT t n v)) kvs) ?_ ?_ ?_
      · exact ⟨_, kvs, rfl, s1, hq1, hd1, tb.row0⟩
      · rintro y σ H2 hy ⟨x6, kvs, rfl, s2, hq2, hd2, tb⟩
        refine at_name (σ' := [some (.ref a), some (.int n), some (.int v), some (.ref q3), some (.ref d), some (.int (x : Int)), some (.int (y : Int))]) (by rw [Int.zero_add]; rfl) ?_
        have hx' : x < n + 1 := by omega
        have hy' : y < n + 1 := by omega
        refine ⟨_, rfl, _, rfl, _, rfl, q3, _, (x : Int), _, rfl, rfl, SqL.of hq2, atI_nat (hh x hx'), _, rfl, _, rfl, q3, _, (y : Int), _, rfl, rfl, SqL.of hq2, atI_nat (hh y hy'), (by show 2 ≤ sizeLine; decide), fun t1 ht1 => ?_⟩
        have e1 := Same.new (H := H2) (o := .tup [V.int ((if x < n then x else v : Nat) : Int), V.int ((if y < n then y else v : Nat) : Int)]) ht1
        have e2 : upd H2 t1 (.tup [V.int ((if x < n then x else v : Nat) : Int), V.int ((if y < n then y else v : Nat) : Int)]) t1 = _ := upd_same
        generalize upd H2 t1 (.tup [V.int ((if x < n then x else v : Nat) : Int), V.int ((if y < n then y else v : Nat) : Int)]) = G5 at e1 e2 ⊢
        refine ⟨a, _, rfl, ((ha.mono s2).mono e1).get (by split <;> omega) (by split <;> omega) e2, _, rfl, _, rfl, _, rfl, (by show 2 ≤ sizeLine; decide), fun t3 ht3 => ?_⟩
        have f1 := Same.new (H := G5) (o := .tup [V.int (x : Int), V.int (y : Int)]) ht3
        refine ⟨d, _, rfl, DPut.t (k := keyI (x, y)) (f1 _ _ (e1 _ _ hd2)) upd_same (tb.few fun i hi => by omega), _, _, rfl, fun z o e => ?_, ?_, upd_same, tb.next⟩
        · rw [upd_ne (ne_of_none e hd0)]
          exact f1 _ _ (e1 _ _ (s2 _ _ e))
        · rw [upd_ne (ne_of_none c2 hd)]
          exact f1 _ _ (e1 _ _ hq2)
      · rintro σ H2 ⟨x6, kvs, rfl, s2, hq2, hd2, tb⟩
        have hn : ((n : Int) + 1).toNat = n + 1 := by omega
        rw [hn] at tb
        exact ⟨_, _, kvs, rfl, s2, hq2, hd2, tb.row⟩
    · rintro σ H1 ⟨x5, x6, kvs, rfl, s1, hq1, hd1, tb⟩
      have hn : ((n : Int) + 1).toNat = n + 1 := by omega
      rw [hn] at tb
      exact ⟨_, rfl, k d H1 s1 hd0 ⟨kvs, hd1, tb⟩⟩
end
end KT
set_option Elab.async false
set_option linter.all false
set_option maxRecDepth 100000
set_option maxHeartbeats 4000000
namespace KT
open PySem L2 PyProof.Rows DTp
section
variable {P : Program} {w : World} {K : PySem.W.Frag} {mg : Str → Option Value} {base : Heap}
/-- a table that may be read, locked or not -/
def TabRd (H : Hp) (a : Addr) (n : Nat) (t : Nat → Nat → Nat) : Prop := ∃ kvs, Rd H a (.dT kvs) ∧ TbG (Sq n) keyI (valI t) kvs
theorem TabRd.mono {H H' : Hp} {a : Addr} {n : Nat} {t : Nat → Nat → Nat} (s : L2.Same H H') (h : TabRd H a n t) : TabRd H' a n t := by
  obtain ⟨kvs, h1, h2⟩ := h
  rcases h1 with e | ⟨od, e⟩
  · exact ⟨kvs, .inl (s _ _ e), h2⟩
  · exact ⟨kvs, .inr ⟨od, s _ _ e⟩, h2⟩
theorem TabRd.get {H : Hp} {a b : Addr} {n x y : Nat} {t : Nat → Nat → Nat} (h : TabRd H a n t) (hx : x < n) (hy : y < n) (hb : H b = some (.tup [V.int (x : Int), V.int (y : Int)])) : DGet H a (.ref b) (some (.int (t x y))) := by
  obtain ⟨kvs, h1, h2⟩ := h
  have e : DGet H a (.ref b) (valV kvs (keyI (x, y))) := .inr ⟨kvs, keyI (x, y), b, h1, rfl, hb, rfl⟩
  rw [h2.get (i := (x, y)) ⟨hx, hy⟩] at e
  exact e
def spAnyT : Sp := fun vs H Q _ => ∃ (p : Addr) (n : Nat) (B : Int), vs = [.ref p, .int n] ∧ PurseAt H p B ∧ 0 ≤ B ∧ B ≤ 990000 ∧ 0 < n ∧ n < 5 ∧ ∀ (q : Addr) (t : Nat → Nat → Nat) (H' : Hp), H q = none → But p H H' → PurseAt H' p (B + 100) → TabAt H' q n t → Free n t → Q (.ref q) H'
abbrev nAnyT : List Str := ["_law_purse_here", "_law_many", "_law_told_here", "_law_x", "_law_y", "_law_z"]
theorem scAnyT : FnScope nAnyT ["_law_purse_here", "_law_many"] (defScope sAny) := ⟨rfl, rfl, rfl, by decide +kernel, rfl, by decide +kernel, by decide +kernel⟩
theorem ok_anyT {f : Addr} {fd : FuncData} (F : Fun K "_law_any_table" "_law_any_table" sAny f fd) (T : Blt mg) (ha : mg "any" = none) (D : DrawC P w K mg base) (Cy : Cee P w K mg base 1 "_law_cyclic_table" ["_law_many", "_law_lead"] spCyc) : FnOk P w K mg base CX0 3 f fd ["_law_purse_here", "_law_many"] spAnyT := by
  refine F.ok scAnyT (fun vs H Q E h => ?_) (fun cdv A outer s H vs Q E hr h => ?_)
  · obtain ⟨p, n, B, rfl, _⟩ := h
    rfl
  · obtain ⟨p, n, B, rfl, hP, B0, B1, n0, n5, k⟩ := h
    have nd := scAnyT.nd
    refine ⟨_, pss_cons (ps_set (i := 2) nd rfl (Or.inr rfl) pe_dnewT)
      (pss_cons (ps_for PassesOwn.never rfl (pi_range1 rfl T.range (pa_cons (pv 1) pa_nil)) (pg_name (i := 3) nd rfl (Or.inr rfl))
        (pss_one (ps_for PassesOwn.never rfl (pi_range1 rfl T.range (pa_cons (pv 1) pa_nil)) (pg_name (i := 4) nd rfl (Or.inr rfl))
          (pss_one (ps_dput (hu_of hr) (pv 2) (pe_tup (pa_cons (pv 3) (pa_cons (pv 4) pa_nil))) (pe_c D hr rfl (pa_cons (pv 0) (pa_cons (pv 1) pa_nil))) rfl)))))
      (pss_cons (ps_lock (ps_for PassesOwn.never rfl (pi_keys (pv 2)) (pg_tup rfl (pgs_cons (pg_name (i := 3) nd rfl (Or.inr rfl)) (pgs_cons (pg_name (i := 4) nd rfl (Or.inr rfl)) pgs_nil)))
        (pss_one (ps_if (pt_val (pe_callB (cr_any rfl) (by rfl) ha (by decide +kernel) (pa_cons
            (pe_lc (own := [("_law_z", 5)]) (g := gName 5) (tt := tYes)
              (te := tOp rNe (tDGet (tVar 2) (tTup (tCons (tDGet (tVar 2) (tTup (tCons (tVar 3) (tCons (tVar 4) tNil)))) (tCons (tVar 5) tNil)))) (tDGet (tVar 2) (tTup (tCons (tVar 3) (tCons (tDGet (tVar 2) (tTup (tCons (tVar 4) (tCons (tVar 5) tNil)))) tNil)))))
              rfl nd (pi_range1 rfl T.range (pa_cons (pv 1) pa_nil)) (blkOk_by (own := [("_law_z", 5)]) (N := nAnyT) (sc := defScope sAny) (by decide +kernel))
              (fun _ _ _ _ _ => pg_name (i := 5) nd rfl (Or.inl rfl)) (fun _ _ _ _ _ => pts_nil)
              (fun _ _ _ _ _ => pe_cmpR op_ne (pe_dget (hu_of hr) (pv 2) (pe_tup (pa_cons (pe_dget (hu_of hr) (pv 2) (pe_tup (pa_cons (pv 3) (pa_cons (pv 4) pa_nil))) (fun _ _ => rfl)) (pa_cons (pv 5) pa_nil))) (fun _ _ => rfl))
                (pe_dget (hu_of hr) (pv 2) (pe_tup (pa_cons (pv 3) (pa_cons (pe_dget (hu_of hr) (pv 2) (pe_tup (pa_cons (pv 4) (pa_cons (pv 5) pa_nil))) (fun _ _ => rfl)) pa_nil))) (fun _ _ => rfl)) (nomark _))) pa_nil)))
          (pss_one (ps_ret (pe_c Cy hr rfl (pa_cons (pv 1) (pa_cons (pe_op op_add pe_int (pe_c D hr rfl (pa_cons (pv 0) (pa_cons (pv 1) pa_nil)))) pa_nil))))) pss_nil))))
      (pss_one (ps_ret (pv 2))))), ?_⟩
    refine fun d hd => ?_
    have npd : p ≠ d := hP.ne hd
    refine ⟨_, rfl, _, rfl, by omega, by omega, ?_⟩
    refine for_range (lo := 0) (n := (n : Int).toNat) (fun x σ H' => ∃ (x3 x4 : Option V) (kvs : List (List Key × V)) (t : Nat → Nat → Nat), σ = [some (.ref p), some (.int n), some (.ref d), x3, x4, none] ∧ But p H H' ∧ PurseAt H' p (B + 20 * x) ∧ H' d = some (.dT kvs) ∧ TbG (fun i : Ix => i.1 < x ∧ i.2 < n) keyI (valI t) kvs ∧ ∀ i j, t i j < n) ?_ ?_ ?_
    · exact ⟨_, _, [], fun _ _ => 0, rfl, (But.refl p H).new hd, (hP.upd npd).le (by omega), upd_same, TbG.nil.congr fun i => by simp, fun _ _ => n0⟩
    · rintro x σ H1 hx ⟨x3, x4, kvs, t, rfl, bt1, hP1, hd1, tb, tn⟩
      refine at_name (σ' := [some (.ref p), some (.int n), some (.ref d), some (.int (x : Int)), x4, none]) (by rw [Int.zero_add]; rfl) ?_
      refine ⟨_, rfl, _, rfl, by omega, by omega, ?_⟩
      refine for_range (lo := 0) (n := (n : Int).toNat) (fun y σ H' => ∃ (x4 : Option V) (kvs : List (List Key × V)) (t : Nat → Nat → Nat), σ = [some (.ref p), some (.int n), some (.ref d), some (.int (x : Int)), x4, none] ∧ But p H H' ∧ PurseAt H' p (B + 20 * x + 4 * y) ∧ H' d = some (.dT kvs) ∧ TbG (fun i : Ix => (i.1 < x ∧ i.2 < n) ∨ (i.1 = x ∧ i.2 < y)) keyI (valI t) kvs ∧ ∀ i j, t i j < n) ?_ ?_ ?_
      · exact ⟨_, kvs, t, rfl, bt1, hP1.le (by omega), hd1, tb.row0, tn⟩
      · rintro y σ H2 hy ⟨x4, kvs, t, rfl, bt2, hP2, hd2, tb, tn⟩
        refine at_name (σ' := [some (.ref p), some (.int n), some (.ref d), some (.int (x : Int)), some (.int (y : Int)), none]) (by rw [Int.zero_add]; rfl) ?_
        refine ⟨_, rfl, _, rfl, p, n, _, rfl, hP2, by omega, by omega, by omega, by omega, fun r H3 bt3 hP3 r0 r1 => ?_⟩
        obtain ⟨j, rfl⟩ := nat_of (m := 0) r0
        have hd3 : H3 d = some (.dT kvs) := bt3 d _ npd.symm hd2
        refine ⟨_, rfl, _, rfl, _, rfl, (by show 2 ≤ sizeLine; decide), fun t1 ht1 => ?_⟩
        have e1 := Same.new (H := H3) (o := .tup [V.int (x : Int), V.int (y : Int)]) ht1
        have tb2 : TbG (fun i : Ix => (i.1 < x ∧ i.2 < n) ∨ (i.1 = x ∧ i.2 < y)) keyI (valI fun a b => if a = x ∧ b = y then j else t a b) kvs := tb.congrV fun i hi => by
          obtain ⟨a, b⟩ := i
          show V.int ((t a b : Nat) : Int) = V.int ((if a = x ∧ b = y then j else t a b : Nat) : Int)
          rw [if_neg]
          rintro ⟨rfl, rfl⟩
          simp at hi
        have tb3 := tb2.next
        rw [show valI (fun a b => if a = x ∧ b = y then j else t a b) (x, y) = V.int (j : Int) from congrArg (fun z : Nat => V.int (z : Int)) (if_pos ⟨rfl, rfl⟩)] at tb3
        refine ⟨d, _, rfl, DPut.t (k := keyI (x, y)) (e1 _ _ hd3) upd_same (tb.few fun i hi => by omega), _, _, _, rfl, ?_, ?_, upd_same, tb3, fun a b => ?_⟩
        · exact (((bt2.trans bt3).new ht1)).fresh hd
        · exact ((hP3.upd (hP3.ne ht1)).upd npd).le (by omega)
        · split
          · omega
          · exact tn a b
      · rintro σ H2 ⟨x4, kvs, t, rfl, bt2, hP2, hd2, tb, tn⟩
        have hn : (n : Int).toNat = n := by omega
        rw [hn] at tb
        exact ⟨_, _, kvs, t, rfl, bt2, hP2.le (by omega), hd2, tb.row, tn⟩
    · rintro σ H1 ⟨x3, x4, kvs, t, rfl, bt1, hP1, hd1, tb, tn⟩
      have hn : (n : Int).toNat = n := by omega
      rw [hn] at tb
      have tbS : TbG (Sq n) keyI (valI t) kvs := tb
      obtain ⟨is, e1, ndi, e2⟩ := tbS.idxs keyI_inj
      have li : is.length = kvs.length := by rw [e1, List.length_map]
      refine ⟨d, .dT kvs, hd1, trivial, fun od => ?_⟩
      have G0 : ∃ G, G = upd H1 d (.frz od (.dT kvs)) := ⟨_, rfl⟩
      obtain ⟨G, eG⟩ := G0
      have hG : G d = some (.frz od (.dT kvs)) := by rw [eG, upd_same]
      have btG : But p H G := by rw [eG]; exact bt1.fresh hd
      have hPG : PurseAt G p (B + 80) := by rw [eG]; exact (hP1.upd npd).le (by omega)
      have tG : TabRd G d n t := ⟨kvs, .inr ⟨od, hG⟩, tbS⟩
      rw [← eG]
      clear eG
      refine ⟨_, rfl, d, od, rfl, .inr ⟨kvs, hG, ?_⟩⟩
      refine for_it walk_keysT (fun i σ H' => ∃ x3 x4 : Option V, σ = [some (.ref p), some (.int n), some (.ref d), x3, x4, none] ∧ L2.Same G H' ∧ ∀ a ∈ is.take i, ∀ z, z < n → t (t a.1 a.2) z = t a.1 (t a.2 z)) ?_ ?_ ?_ ?_
      · exact ⟨_, _, rfl, fun _ _ e => e, fun a ha => by rw [List.take_zero] at ha; cases ha⟩
      · rintro i σ H2 hi ⟨x3, x4, rfl, s2, _⟩
        exact s2 _ _ hG
      · rintro i v σ H0 H2 hi ⟨x3, x4, rfl, s2, hall⟩ ⟨rfl, kk, vv, q, hk, rfl, hq⟩
        have hi' : i < is.length := by omega
        have ej : is[i]? = some is[i] := List.getElem?_eq_getElem hi'
        have ek : kvs[i]? = some (keyI is[i], valI t is[i]) := by
          have e3 := congrArg (fun l : List (List Key × V) => l[i]?) e1
          simp only [List.getElem?_map, ej] at e3
          exact e3
        rw [hk] at ek
        have ek := Option.some.inj ek
        have hxy : Sq n is[i] := (e2 _).mpr (List.getElem_mem hi')
        obtain ⟨⟨x, y⟩, exy⟩ : ∃ a, a = is[i] := ⟨_, rfl⟩
        rw [← exy] at ek hxy ej
        obtain ⟨rfl, rfl⟩ : kk = keyI (x, y) ∧ vv = valI t (x, y) := ⟨congrArg Prod.fst ek, congrArg Prod.snd ek⟩
        obtain ⟨hx, hy⟩ : x < n ∧ y < n := hxy
        have hq' : H2 q = some (.tup [V.int (x : Int), V.int (y : Int)]) := hq
        refine ⟨q, _, rfl, SqT.of hq', rfl, _, _, rfl, ?_⟩
        refine at_name (σ' := [some (.ref p), some (.int n), some (.ref d), some (.int (x : Int)), x4, none]) rfl ?_
        refine ⟨_, _, rfl, ?_⟩
        refine at_name (σ' := [some (.ref p), some (.int n), some (.ref d), some (.int (x : Int)), some (.int (y : Int)), none]) rfl ?_
        refine ⟨rfl, ?_⟩
        refine ⟨_, rfl, _, rfl, by omega, by omega, fun L hL => ?_⟩
        refine lc_range (lo := 0) (n := (n : Int).toNat) (fun z H' => L2.Same G H' ∧ H' L = some (.lst ((List.map (fun z : Nat => !decide (V.int (t (t x y) z : Nat) = V.int (t x (t y z) : Nat))) (List.range z)).map V.bl))) ?_ ?_ ?_
        · exact ⟨fun b o e => by rw [upd_ne (ne_of_none (s2 _ _ e) hL)]; exact s2 _ _ e, upd_same⟩
        · rintro z H3 hz ⟨s3, hL3⟩
          have hxn : t x y < n := tn _ _
          have hzn : z < n := by omega
          refine ⟨rfl, yes_if ?_⟩
          refine ⟨_, rfl, _, rfl, _, rfl, _, rfl, (by show 2 ≤ sizeLine; decide), fun t1 ht1 => ?_⟩
          have a1 := Same.new (H := H3) (o := .tup [V.int (x : Int), V.int (y : Int)]) ht1
          have a2 : upd H3 t1 (.tup [V.int (x : Int), V.int (y : Int)]) t1 = _ := upd_same
          generalize upd H3 t1 (.tup [V.int (x : Int), V.int (y : Int)]) = G1 at a1 a2 ⊢
          refine ⟨d, _, rfl, ((tG.mono s3).mono a1).get hx hy a2, _, rfl, (by show 2 ≤ sizeLine; decide), fun t2 ht2 => ?_⟩
          rw [Int.zero_add]
          have b1 := Same.new (H := G1) (o := .tup [V.int (t x y : Nat), V.int (z : Int)]) ht2
          have b2 : upd G1 t2 (.tup [V.int (t x y : Nat), V.int (z : Int)]) t2 = _ := upd_same
          generalize upd G1 t2 (.tup [V.int (t x y : Nat), V.int (z : Int)]) = G2 at b1 b2 ⊢
          refine ⟨d, _, rfl, (((tG.mono s3).mono a1).mono b1).get hxn hzn b2, ?_⟩
          refine ⟨_, rfl, _, rfl, _, rfl, _, rfl, _, rfl, (by show 2 ≤ sizeLine; decide), fun t3 ht3 => ?_⟩
          have c1 := Same.new (H := G2) (o := .tup [V.int (y : Int), V.int (z : Int)]) ht3
          have c2 : upd G2 t3 (.tup [V.int (y : Int), V.int (z : Int)]) t3 = _ := upd_same
          generalize upd G2 t3 (.tup [V.int (y : Int), V.int (z : Int)]) = G3 at c1 c2 ⊢
          refine ⟨d, _, rfl, ((((tG.mono s3).mono a1).mono b1).mono c1).get hy hzn c2, (by show 2 ≤ sizeLine; decide), fun t4 ht4 => ?_⟩
          have d1 := Same.new (H := G3) (o := .tup [V.int (x : Int), V.int (t y z : Nat)]) ht4
          have d2 : upd G3 t4 (.tup [V.int (x : Int), V.int (t y z : Nat)]) t4 = _ := upd_same
          generalize upd G3 t4 (.tup [V.int (x : Int), V.int (t y z : Nat)]) = G4 at d1 d2 ⊢
          have al : ∀ b o, H3 b = some o → G4 b = some o := fun b o e => d1 _ _ (c1 _ _ (b1 _ _ (a1 _ _ e)))
          refine ⟨d, _, rfl, (((((tG.mono s3).mono a1).mono b1).mono c1).mono d1).get hx (tn _ _) d2, rfl, ?_⟩
          refine ⟨_, al _ _ hL3, ?_, ?_, ?_⟩
          · rw [List.length_map, List.length_map, List.length_range]
            exact small1000 (by omega)
          · intro b o e
            rw [upd_ne (ne_of_none (s2 _ _ e) hL)]
            exact al _ _ (s3 _ _ e)
          · rw [upd_same, List.range_succ, List.map_append, List.map_append]
            rfl
        · rintro H3 ⟨s3, hL3⟩
          have hn : (n : Int).toNat = n := by omega
          rw [hn] at hL3
          refine ⟨L, _, rfl, SqL.of hL3, _, rfl, ?_⟩
          refine ite2 (fun hany => ?_) (fun hany => ?_)
          · refine ⟨_, rfl, _, rfl, _, rfl, p, n, B + 80, rfl, hPG.mono s3, by omega, by omega, by omega, by omega, fun r H4 bt4 hP4 r0 r1 => ?_⟩
            obtain ⟨j, rfl⟩ := nat_of (m := 0) r0
            refine ⟨_, _, rfl, rfl, ?_⟩
            refine ⟨n, 1 + j, rfl, n0, n5, by omega, by omega, fun q H5 s5 hq5 tq => ?_⟩
            have hd5 : H5 d = some (.frz od (.dT kvs)) := s5 _ _ (bt4 d _ npd.symm (s3 _ _ hG))
            have hd4 : H4 d = some (.frz od (.dT kvs)) := bt4 d _ npd.symm (s3 _ _ hG)
            have nqd : q ≠ d := fun e => by rw [e, hd4] at hq5; cases hq5
            refine ⟨hd5, ?_⟩
            have bt5 : But p H H5 := ((btG.same s3).trans bt4).same s5
            have hq0 : H q = none := ((btG.same s3).trans bt4).free hP4 hq5
            refine k q _ _ hq0 (bt5.fresh hd) (((hP4.mono s5).upd npd).le (by omega)) ?_ (free_of (cyclic_free n n5 n0 (1 + j) (by omega) (by omega)))
            obtain ⟨kv2, f1, f2⟩ := tq
            exact ⟨kv2, by rw [upd_ne nqd]; exact f1, f2⟩
          · refine ⟨_, _, rfl, fun b o e => s3 _ _ e, fun a ha z hz => ?_⟩
            rw [take_next' ej] at ha
            rcases List.mem_append.mp ha with ha | ha
            · exact hall a ha z hz
            · rw [List.mem_singleton.mp ha]
              refine Classical.byContradiction fun ne => hany ?_
              refine List.any_eq_true.mpr ⟨true, List.mem_map.mpr ⟨z, List.mem_range.mpr hz, ?_⟩, rfl⟩
              show (!decide (V.int (t (t x y) z : Nat) = V.int (t x (t y z) : Nat))) = true
              rw [decide_eq_false]
              · rfl
              · intro e
                have e5 : ((t (t x y) z : Nat) : Int) = ((t x (t y z) : Nat) : Int) := by injection e
                exact ne (by show t (t x y) z = t x (t y z); omega)
      · rintro σ H2 ⟨x3, x4, rfl, s2, hall⟩
        refine ⟨s2 _ _ hG, ?_⟩
        rw [← li, List.take_length] at hall
        refine ⟨_, rfl, k d t _ hd ((btG.same s2).fresh hd) (((hPG.mono s2).upd npd).le (by omega)) ⟨kvs, upd_same, tbS⟩ ⟨fun x y hx hy => tn x y, fun x y z hx hy hz => hall (x, y) ((e2 (x, y)).mp ⟨hx, hy⟩) z hz⟩⟩
end
end KT
set_option Elab.async false
set_option linter.all false
set_option maxRecDepth 100000
set_option maxHeartbeats 4000000
namespace KT
open PySem L2 PyProof.Rows DTp
abbrev Asc (ws : List Str) : Prop := ws.Pairwise ltT
theorem ltT_asym {x y : Str} (a : ltT x y) : ¬ ltT y x := fun b => ltT_irr x (ltT_trans a b)
theorem Asc.nodup {ws : List Str} (h : Asc ws) : ws.Nodup := List.Pairwise.imp (S := fun a b => a ≠ b) (fun {a b} (q : ltT a b) (e : a = b) => ltT_irr a (by subst e; exact q)) h
theorem Asc.eq {xs ys : List Str} (h : Asc xs) (k : Asc ys) (p : xs.Perm ys) : xs = ys := List.Perm.eq_of_pairwise (le := ltT) (fun a b _ _ q r => absurd r (ltT_asym q)) h k p
theorem risingS_asc : ∀ (ws : List Str) (x : Str), risingS x ws = true → (x :: ws).Nodup → Asc (x :: ws)
  | [], x, _, _ => List.pairwise_singleton _ _
  | y :: ws, x, h, nd => by
    have h' : (!PySem.Spec.ltCps y.cps.toList x.cps.toList && risingS y ws) = true := h
    rw [Bool.and_eq_true, Bool.not_eq_true'] at h'
    obtain ⟨h1, h2⟩ := h'
    have nd' := List.nodup_cons.mp nd
    have ih := risingS_asc ws y h2 nd'.2
    have xy : ltT x y := by
      rcases ltT_tri x y with z | z | z
      · exact z
      · subst z; exact absurd List.mem_cons_self nd'.1
      · rw [ltCps_eq, decide_eq_true z] at h1; cases h1
    refine List.pairwise_cons.mpr ⟨fun z hz => ?_, ih⟩
    rcases List.mem_cons.mp hz with rfl | hz
    · exact xy
    · exact ltT_trans xy ((List.pairwise_cons.mp ih).1 z hz)
theorem sortedS_asc {ws : List Str} (h : sortedS ws = true) (nd : ws.Nodup) : Asc ws := by
  cases ws with
  | nil => exact .nil
  | cons x ws => exact risingS_asc ws x h nd
/-- the words of a list, ascending -/
def ascOf (W : List Str) : List Str := W.mergeSort fun x y => decide (¬ ltT y x)
theorem ascOf_perm (W : List Str) : (ascOf W).Perm W := List.mergeSort_perm _ _
theorem ascOf_asc {W : List Str} (nd : W.Nodup) : Asc (ascOf W) := by
  have h := List.pairwise_mergeSort (le := fun x y : Str => decide (¬ ltT y x)) (fun a b c h1 h2 => ?_) (fun a b => ?_) W
  · have n : (ascOf W).Nodup := (ascOf_perm W).symm.nodup_iff.mp nd |> fun z => by exact z
    refine List.Pairwise.imp ?_ (List.Pairwise.and h n)
    rintro a b ⟨q, ne⟩
    have q' := of_decide_eq_true q
    rcases ltT_tri a b with z | z | z
    · exact z
    · exact absurd z ne
    · exact absurd z q'
  · have h1 := of_decide_eq_true h1
    have h2 := of_decide_eq_true h2
    refine decide_eq_true fun h => ?_
    rcases ltT_tri b c with z | z | z
    · exact h1 (ltT_trans z h)
    · exact h1 (z ▸ h)
    · exact h2 z
  · rcases ltT_tri a b with z | z | z
    · simp [ltT_asym z]
    · subst z; simp [ltT_irr]
    · simp [ltT_asym z]
def pairsW (ws : List Str) : List (Str × Str) := ws.flatMap fun x => ws.map fun y => (x, y)
theorem mem_pairsW {ws : List Str} {p : Str × Str} : p ∈ pairsW ws ↔ p.1 ∈ ws ∧ p.2 ∈ ws := by
  obtain ⟨a, b⟩ := p
  simp [pairsW, List.mem_flatMap]
theorem leP_anti {p q : Str × Str} (a : leP p q) (b : leP q p) : p = q := by
  unfold leP at *
  rcases ltT_tri p.1 q.1 with c | c | c
  · exact absurd (.inl c) b
  · rcases ltT_tri p.2 q.2 with d | d | d
    · exact absurd (.inr ⟨c, d⟩) b
    · exact Prod.ext c d
    · exact absurd (.inr ⟨c.symm, d⟩) a
  · exact absurd (.inl c) a
theorem pairsW_sorted {ws : List Str} (h : Asc ws) : (pairsW ws).Pairwise leP := by
  have row : ∀ (x : Str) (vs : List Str), Asc vs → (vs.map fun y => (x, y)).Pairwise leP := fun x vs hv =>
    List.Pairwise.map _ (fun a b q => by
      rintro (z | ⟨_, z⟩)
      · exact ltT_irr _ z
      · exact ltT_asym q z) hv
  have all : ∀ us : List Str, Asc us → (us.flatMap fun x => ws.map fun y => (x, y)).Pairwise leP := by
    intro us
    induction us with
    | nil => exact fun _ => .nil
    | cons u us ih =>
      intro hu
      rw [List.flatMap_cons]
      have hu' := List.pairwise_cons.mp hu
      refine List.pairwise_append.mpr ⟨row u ws h, ih hu'.2, fun p hp q hq => ?_⟩
      obtain ⟨y, hy, rfl⟩ := List.mem_map.mp hp
      obtain ⟨x, hx, hq⟩ := List.mem_flatMap.mp hq
      obtain ⟨z, hz, rfl⟩ := List.mem_map.mp hq
      have lt := hu'.1 x hx
      rintro (k | ⟨k, _⟩)
      · exact ltT_asym lt k
      · have k' : x = u := k
        rw [k'] at lt
        exact ltT_irr u lt
  exact all ws h
theorem pairsW_nodup {ws : List Str} (h : ws.Nodup) : (pairsW ws).Nodup := by
  have all : ∀ us : List Str, us.Nodup → (us.flatMap fun x => ws.map fun y => (x, y)).Nodup := by
    intro us
    induction us with
    | nil => exact fun _ => .nil
    | cons u us ih =>
      intro hu
      rw [List.flatMap_cons]
      have hu' := List.nodup_cons.mp hu
      refine List.nodup_append.mpr ⟨List.Pairwise.map _ (fun a b q e => q (congrArg Prod.snd e)) h, ih hu'.2, fun p hp q hq e => ?_⟩
      obtain ⟨y, hy, rfl⟩ := List.mem_map.mp hp
      obtain ⟨x, hx, hq⟩ := List.mem_flatMap.mp hq
      obtain ⟨z, hz, rfl⟩ := List.mem_map.mp hq
      have : u = x := congrArg Prod.fst e
      exact hu'.1 (this ▸ hx)
  exact all ws h
theorem pairsW_len (ws : List Str) : (pairsW ws).length = ws.length * ws.length := by
  unfold pairsW
  simp [List.length_flatMap, List.map_const', List.sum_replicate_nat]
def valW (f : Str → Str → Str) (p : Str × Str) : V := .str (f p.1 p.2)
theorem keyP_inj (p q : Str × Str) (h : keyP p = keyP q) : p = q := by
  obtain ⟨a, b⟩ := p
  obtain ⟨c, d⟩ := q
  simp only [keyP, List.cons.injEq, Sum.inr.injEq, and_true] at h
  exact Prod.ext h.1 h.2
/-- the table of f over ws, in the order of ws -/
def tabW (ws : List Str) (f : Str → Str → Str) : List (List Key × V) := (pairsW ws).map fun p => (keyP p, valW f p)
abbrev SqW (ws : List Str) : Str × Str → Prop := fun p => p.1 ∈ ws ∧ p.2 ∈ ws
theorem tabW_tb {ws : List Str} {f : Str → Str → Str} (n : ws.Nodup) : TbG (SqW ws) keyP (valW f) (tabW ws f) :=
  (TbG.ofIdx keyP_inj (pairsW_nodup n)).congr fun p => mem_pairsW
theorem tabW_len (ws : List Str) (f : Str → Str → Str) : (tabW ws f).length = ws.length * ws.length := by
  unfold tabW
  rw [List.length_map, pairsW_len]
/-- one to four words, a product of them that is free of brackets -/
structure KW (ws : List Str) (f : Str → Str → Str) : Prop where
  asc : Asc ws
  pos : 0 < ws.length
  few : ws.length ≤ 4
  wd : ∀ x ∈ ws, Wd x
  cl : ∀ x y, x ∈ ws → y ∈ ws → f x y ∈ ws
  as : ∀ x y z, x ∈ ws → y ∈ ws → z ∈ ws → f (f x y) z = f x (f y z)
/-- entries by other indices -/
theorem TbG.reidx {ι κ : Type} {S : ι → Prop} {S' : κ → Prop} {key : ι → List Key} {val : ι → V} {key' : κ → List Key} {val' : κ → V} {kvs : List (List Key × V)} (h : TbG S key val kvs) (φ : ι → κ) (ψ : κ → ι)
    (a : ∀ i, S i → S' (φ i) ∧ key i = key' (φ i) ∧ val i = val' (φ i)) (b : ∀ j, S' j → S (ψ j) ∧ φ (ψ j) = j) : TbG S' key' val' kvs where
  nd := h.nd
  mem := fun e he => by
    obtain ⟨i, hi, rfl⟩ := h.mem e he
    obtain ⟨a1, a2, a3⟩ := a i hi
    exact ⟨φ i, a1, by rw [a2, a3]⟩
  has := fun j hj => by
    obtain ⟨b1, b2⟩ := b j hj
    have m := h.has _ b1
    obtain ⟨_, a2, a3⟩ := a _ b1
    rw [a2, a3, b2] at m
    exact m
/-- the sorted keys of such a dict are the pairs in order -/
theorem sorted_keys {W ws : List Str} {f : Str → Str → Str} {kvs : List (List Key × V)} (tb : TbG (SqW W) keyP (valW f) kvs) (n : W.Nodup) (as : Asc ws) (pm : ws.Perm W) : ∃ ps : List (Str × Str), kvs.map (·.1) = ps.map keyP ∧ ps.length = kvs.length ∧ kvs = ps.map (fun p => (keyP p, valW f p)) ∧ ∀ qs : List (Str × Str), qs.Perm ps → qs.Pairwise leP → qs = pairsW ws := by
  obtain ⟨is, e1, ndi, e2⟩ := tb.idxs keyP_inj
  refine ⟨is, by rw [e1, List.map_map]; rfl, by rw [e1, List.length_map], e1, fun qs h1 h2 => ?_⟩
  refine List.Perm.eq_of_pairwise (le := leP) (fun a b _ _ => leP_anti) h2 (pairsW_sorted as) (h1.trans ?_)
  refine (List.perm_ext_iff_of_nodup ndi (pairsW_nodup as.nodup)).mpr fun p => ?_
  rw [mem_pairsW, ← e2, pm.mem_iff, pm.mem_iff]
def prodW (W : List Str) (t : Nat → Nat → Nat) (x y : Str) : Str := W.getD (t (W.idxOf x) (W.idxOf y)) ⟨#[]⟩
theorem getD_mem {W : List Str} {j : Nat} (h : j < W.length) : W.getD j ⟨#[]⟩ ∈ W := by
  rw [List.getD_eq_getElem?_getD, List.getElem?_eq_getElem h]
  exact List.getElem_mem h
theorem idxOf_getD {W : List Str} {j : Nat} (n : W.Nodup) (h : j < W.length) : W.idxOf (W.getD j ⟨#[]⟩) = j := by
  rw [List.getD_eq_getElem?_getD, List.getElem?_eq_getElem h]
  exact List.Nodup.idxOf_getElem n j h
theorem getD_idxOf {W : List Str} {x : Str} (h : x ∈ W) : W.getD (W.idxOf x) ⟨#[]⟩ = x := by
  rw [List.getD_eq_getElem?_getD, List.getElem?_eq_getElem (List.idxOf_lt_length_of_mem h)]
  exact List.getElem_idxOf _
theorem kw_of {W : List Str} {n : Nat} {t : Nat → Nat → Nat} (fr : Free n t) (hn : W.length = n) (n0 : 0 < n) (n5 : n < 5) (nd : W.Nodup) (wd : ∀ x ∈ W, Wd x) : KW (ascOf W) (prodW W t) := by
  have pm := ascOf_perm W
  have lt : ∀ x, x ∈ W → W.idxOf x < n := fun x h => hn ▸ List.idxOf_lt_length_of_mem h
  have ix : ∀ x y, x ∈ W → y ∈ W → W.idxOf (prodW W t x y) = t (W.idxOf x) (W.idxOf y) := fun x y hx hy => idxOf_getD nd (by rw [hn]; exact fr.lt _ _ (lt x hx) (lt y hy))
  have mm : ∀ x y, x ∈ W → y ∈ W → prodW W t x y ∈ W := fun x y hx hy => getD_mem (by rw [hn]; exact fr.lt _ _ (lt x hx) (lt y hy))
  refine ⟨ascOf_asc nd, by rw [pm.length_eq, hn]; exact n0, by rw [pm.length_eq, hn]; omega, fun x hx => wd x (pm.mem_iff.mp hx), fun x y hx hy => pm.mem_iff.mpr (mm x y (pm.mem_iff.mp hx) (pm.mem_iff.mp hy)), fun x y z hx hy hz => ?_⟩
  have hx := pm.mem_iff.mp hx
  have hy := pm.mem_iff.mp hy
  have hz := pm.mem_iff.mp hz
  show W.getD (t (W.idxOf (prodW W t x y)) (W.idxOf z)) ⟨#[]⟩ = W.getD (t (W.idxOf x) (W.idxOf (prodW W t y z))) ⟨#[]⟩
  rw [ix x y hx hy, ix y z hy hz, fr.as _ _ _ (lt x hx) (lt y hy) (lt z hz)]
end KT
set_option Elab.async false
set_option linter.all false
set_option maxRecDepth 100000
set_option maxHeartbeats 4000000
namespace KT
open PySem L2 PyProof.Rows DTp
section
variable {P : Program} {w : World} {K : PySem.W.Frag} {mg : Str → Option Value} {base : Heap}
/-- dict([(key, value) for key in told]) -/
theorem rd_keys {ι : Type} {key key2 : ι → List Key} {val val2 : ι → V} {i : Nat} {g : TG} {te : TE} {vs : List Nat} {σ : L2.St} {H : Hp} {Q : VK} {d : Addr} {kvs : List (List Key × V)} {is : List ι} (hi : σ[i]? = some (some (.ref d))) (hd : H d = some (.dT kvs))
    (e1 : kvs = is.map fun a => (key a, val a)) (few : is.length ≤ 1000)
    (step : ∀ a q od H1 (R : VK), a ∈ is → L2.Same (upd H d (.frz od (.dT kvs))) H1 → H1 q = some (.tup ((key a).map kV)) → (∀ t b H3, L2.Same H1 H3 → H3 t = some (.tup [.ref b, val2 a]) → H3 b = some (.tup ((key2 a).map kV)) → R (.ref t) H3) → g (.ref q) (wipe σ vs) H1 fun σ2 H2 => wipe σ2 vs = wipe σ vs ∧ te σ2 H2 R)
    (k : ∀ q H', L2.Same H H' → H q = none → H' q = some (.dT (mergeT [] (is.map fun a => (key2 a, val2 a)))) → Q (.ref q) H') :
    tCB (rDictT K) (tCons (tLockE (tLc (iKeys (tVar i)) g tYes te vs)) tNil) σ H Q := by
  have li : is.length = kvs.length := by rw [e1, List.length_map]
  refine ⟨d, .dT kvs, hd, trivial, fun od => ?_⟩
  refine ⟨_, hi, d, od, rfl, .inr ⟨kvs, upd_same, fun D hD => ?_⟩⟩
  have nDd : D ≠ d := fun e => by rw [e, upd_same] at hD; cases hD
  have hD0 : H D = none := by rw [upd_ne nDd] at hD; exact hD
  refine lc_pairs (key := key2) (val := val2) walk_keysT is li (by omega) hD (fun H' s => s _ _ upd_same) ?_ ?_
  · rintro n x H1 H1' a R ha s1 ⟨rfl, kk, v, q, hk, rfl, hq⟩ kR
    have ek : kvs[n]? = some (key a, val a) := by rw [e1, List.getElem?_map, ha]; rfl
    rw [hk] at ek
    have ek := Option.some.inj ek
    obtain ⟨rfl, rfl⟩ : kk = key a ∧ v = val a := ⟨congrArg Prod.fst ek, congrArg Prod.snd ek⟩
    exact step a q od _ R (List.mem_of_getElem? ha) s1 hq kR
  · intro H1 ps s1 hDp pr
    have hdl : H1 d = some (.frz od (.dT kvs)) := s1 _ _ upd_same
    refine ⟨hdl, D, ps, is.map (fun i => (key2 i, val2 i)), rfl, SqL.of ((upd_ne nDd).trans hDp), ?_, fun q hq => ?_⟩
    · refine PrG.prT (key := key2) (val := val2) (is := is) (Paired.mapP pr fun p a ⟨b, h1, h2⟩ => ⟨b, ?_, ?_⟩)
      · rw [upd_ne (ne_of h1 hdl (fun z => nomatch z))]; exact h1
      · rw [upd_ne (ne_of h2 hdl (fun z => nomatch z))]; exact h2
    · have same : L2.Same H (upd H1 d (.dT kvs)) := fun b o e => by
        by_cases hb : b = d
        · rw [hb] at e ⊢
          rw [hd] at e
          rw [upd_same]; exact e
        · rw [upd_ne hb]
          exact s1 _ _ ((upd_ne hb).trans e)
      have hq0 := same.free hq
      refine k q _ (fun b o e => ?_) hq0 upd_same
      rw [upd_ne (ne_of_none e hq0)]
      exact same _ _ e
/-- dict([(key, value) for key in list]), the list's things the tuples at qs -/
theorem rd_list {ι : Type} {key2 : ι → List Key} {val2 : ι → V} {tl : TE} {g : TG} {te : TE} {vs : List Nat} {σ : L2.St} {H : Hp} {Q : VK} {is : List ι} (Pd : Hp → Prop) (few : is.length ≤ 1000)
    (hl : ∀ R : VK, (∀ l (qs : List (Addr × ι)) H1, qs.map (·.2) = is → H1 l = some (.lst (qs.map fun q => V.ref q.1)) → Pd H1 →
      (∀ (n : Nat) q H2 (R2 : VK), qs[n]? = some q → L2.Same H1 H2 → (∀ t b H3, L2.Same H2 H3 → H3 t = some (.tup [.ref b, val2 q.2]) → H3 b = some (.tup ((key2 q.2).map kV)) → R2 (.ref t) H3) → g (.ref q.1) (wipe σ vs) H2 fun σ2 H3 => wipe σ2 vs = wipe σ vs ∧ te σ2 H3 R2) → R (.ref l) H1) → tl σ H R)
    (k : ∀ q H1 H', Pd H1 → L2.Same H1 H' → H1 q = none → H' q = some (.dT (mergeT [] (is.map fun a => (key2 a, val2 a)))) → Q (.ref q) H') :
    tCB (rDictT K) (tCons (tLc (iList K tl) g tYes te vs) tNil) σ H Q := by
  refine hl _ fun l qs H1 eqs h1 s1 step => ?_
  have lq : qs.length = is.length := by rw [← eqs, List.length_map]
  refine ⟨l, rfl, ⟨_, SqL.of h1⟩, fun D hD => ?_⟩
  have nDl : l ≠ D := ne_of_none h1 hD
  refine lc_pairs (key := key2) (val := val2) (walk_list (xs := qs.map fun q => V.ref q.1)) is (by rw [List.length_map]; exact lq.symm) (by rw [List.length_map]; omega) hD (fun H' s => SqL.of (s _ _ h1)) ?_ ?_
  · rintro n x H2 H2' a R ha s2 ⟨rfl, hx⟩ kR
    rw [List.getElem?_map] at hx
    cases e : qs[n]? with
    | none => rw [e] at hx; cases hx
    | some q =>
      rw [e] at hx
      obtain rfl : V.ref q.1 = x := Option.some.inj hx
      have ea : q.2 = a := by
        rw [← eqs, List.getElem?_map, e] at ha
        exact Option.some.inj ha
      subst ea
      exact step n q _ R e s2 kR
  · intro H2 ps s2 hDp pr
    refine ⟨D, ps, is.map (fun i => (key2 i, val2 i)), rfl, SqL.of hDp, PrG.prT pr, fun q hq => ?_⟩
    have hq0 := s2.free hq
    refine k q _ _ s1 (fun b o e => ?_) hq0 upd_same
    rw [upd_ne (ne_of_none e hq0)]
    exact s2 _ _ e
end
end KT
set_option Elab.async false
set_option linter.all false
set_option maxRecDepth 100000
set_option maxHeartbeats 4000000
namespace KT
open PySem L2 PyProof.Rows DTp
/-- a statement whose end is told by the reader -/
def tCut (t : TS) : TS := fun D σ H => ∃ Pn : L2.St → Hp → Prop, t { D with nx := Pn } σ H ∧ ∀ σ' H', Pn σ' H' → D.nx σ' H'
theorem ps_cut {X : Cx} {st : Stmt} {t : TS} (h : PS X st t) : PS X st (tCut t) := by
  refine ⟨fun pins s σ H D I hw => ?_⟩
  obtain ⟨Pn, hw, kn⟩ := hw
  refine thn (h.run pins s σ _ _ I hw) fun f s1 q => ?_
  cases f with
  | next => obtain ⟨σ', H', I2, q⟩ := q; exact ⟨σ', _, I2, kn _ _ q⟩
  | brk => exact q
  | cont => exact q
  | ret v => exact q
/-- a test whose end is told by the reader -/
def tCutT (t : TT) : TT := fun σ H Q => ∃ Pn : Bool → Hp → Prop, t σ H Pn ∧ ∀ b H', Pn b H' → Q b H'
theorem pt_cut {X : Cx} {e : Expr} {t : TT} (h : PT X e t) : PT X e (tCutT t) := ⟨fun pins s σ H Q I hw => by
  obtain ⟨Pn, hw, kn⟩ := hw
  exact thn (h.run pins s σ H _ I hw) fun c s1 ⟨H1, I1, q⟩ => ⟨H1, I1, kn _ _ q⟩⟩
section
variable {P : Program} {w : World} {K : PySem.W.Frag} {mg : Str → Option Value} {base : Heap}
theorem TabAt.but {H H' : Hp} {a p : Addr} {n : Nat} {t : Nat → Nat → Nat} (b : But p H H') (h : TabAt H a n t) (ne : a ≠ p) : TabAt H' a n t := let ⟨kvs, h1, h2⟩ := h; ⟨kvs, b a _ ne h1, h2⟩
theorem TabAt.ne {H : Hp} {a p : Addr} {n : Nat} {t : Nat → Nat → Nat} {B : Int} (h : TabAt H a n t) (hP : PurseAt H p B) : a ≠ p := fun e => by
  obtain ⟨kvs, h1, _⟩ := h
  obtain ⟨_, _, _, _, q, _⟩ := hP
  rw [e, q] at h1
  cases h1
theorem swap_inj (i j : Ix) (h : keyI (i.2, i.1) = keyI (j.2, j.1)) : i = j := by
  have e := keyI_inj _ _ h
  obtain ⟨a, b⟩ := i
  obtain ⟨c, d⟩ := j
  simp only [Prod.mk.injEq] at e
  exact Prod.ext e.2 e.1
def spTable : Sp := fun vs H Q _ => ∃ (p : Addr) (B : Int) (mo : Nat), vs = [.ref p, .int mo] ∧ 0 < mo ∧ mo ≤ 4 ∧ PurseAt H p B ∧ 0 ≤ B ∧ B ≤ 900000 ∧
  ∀ (q : Addr) (ws : List Str) (f : Str → Str → Str) (H' : Hp), H q = none → But p H H' → PurseAt H' p (B + 2000) → H' q = some (.dT (tabW ws f)) → KW ws f → Q (.ref q) H'
abbrev nTable : List Str := ["_law_purse_here", "_law_most", "_law_many", "_law_way", "_law_told_here", "_law_late", "_law_words_here", "_law_named", "_law_x", "_law_y", "_law_pair"]
theorem scTable : FnScope nTable ["_law_purse_here", "_law_most"] (defScope sTable) := ⟨rfl, rfl, rfl, by decide +kernel, rfl, by decide +kernel, by decide +kernel⟩
structure TabC (P : Program) (w : World) (K : PySem.W.Frag) (mg : Str → Option Value) (base : Heap) : Prop where
  draw : DrawC P w K mg base
  plain : Cee P w K mg base 1 "_law_plain_table" ["_law_way", "_law_many"] spPlain
  wide : Cee P w K mg base 1 "_law_wide_table" ["_law_told_here", "_law_many", "_law_way"] spWide
  two : Cee P w K mg base 1 "_law_twofold_table" ["_law_one", "_law_other"] spTwo
  twin : Cee P w K mg base 1 "_law_twin_table" ["_law_told_here", "_law_many", "_law_twin"] spTwin
  lead : Cee P w K mg base 1 "_law_leading_table" ["_law_told_here", "_law_many"] spLead
  any : Cee P w K mg base 3 "_law_any_table" ["_law_purse_here", "_law_many"] spAnyT
  words : Cee P w K mg base 4 "_law_words" ["_law_purse_here", "_law_many"] spWords
abbrev gXY (K : PySem.W.Frag) (i j : Nat) : TG := gTup K 2 (gCons (gName i) (gCons (gName j) gNil))
theorem ok_table {f : Addr} {fd : FuncData} (F : Fun K "_law_table" "_law_table" sTable f fd) (T : Blt mg) (hdi : mg "dict" = none) (hso : mg "sorted" = none) (C : TabC P w K mg base) : FnOk P w K mg base CX0 5 f fd ["_law_purse_here", "_law_most"] spTable := by
  refine F.ok scTable (fun vs H Q E h => ?_) (fun cdv A outer s H vs Q E hr h => ?_)
  · obtain ⟨p, B, mo, rfl, _⟩ := h
    rfl
  · obtain ⟨p, B, mo, rfl, mo0, mo4, hP, B0, B1, k⟩ := h
    have nd := scTable.nd
    have hun := hr.units
    refine ⟨_, pss_cons (ps_set (i := 2) nd rfl (Or.inl rfl) (pe_op op_add pe_int (pe_c C.draw hr rfl (pa_cons (pv 0) (pa_cons (pv 1) pa_nil)))))
      (pss_cons (ps_asg (pe_tup (pa_cons (pe_c C.draw hr rfl (pa_cons (pv 0) (pa_cons pe_int pa_nil))) (pa_cons pe_non (pa_cons (pe_c C.draw hr rfl (pa_cons (pv 0) (pa_cons pe_int pa_nil))) pa_nil))))
        (pg_tup rfl (pgs_cons (pg_name (i := 3) nd rfl (Or.inl rfl)) (pgs_cons (pg_name (i := 4) nd rfl (Or.inr rfl)) (pgs_cons (pg_name (i := 5) nd rfl (Or.inl rfl)) pgs_nil)))))
      (pss_cons (ps_cut (ps_if (pt_cut <| PW.pt (pw_and (pt_cmpR op_eq (pv 2) pe_int (nomark _)) (pw_and1 (pt_cmpR op_eq (pe_c C.draw hr rfl (pa_cons (pv 0) (pa_cons pe_int pa_nil))) pe_int (nomark _)))))
          (pss_one (ps_set (i := 4) nd rfl (Or.inr rfl) (pe_c C.two hr rfl (pa_cons (pe_c C.plain hr rfl (pa_cons (pv 3) (pa_cons pe_int pa_nil))) (pa_cons (pe_c C.plain hr rfl (pa_cons (pe_c C.draw hr rfl (pa_cons (pv 0) (pa_cons pe_int pa_nil))) (pa_cons pe_int pa_nil))) pa_nil)))))
        (pss_one (ps_if (pt_cut <| PW.pt (pw_and (pt_cmpR op_gt (pv 2) pe_int (nomark _)) (pw_and1 (pt_cmpR op_lt (pv 5) pe_int (nomark _)))))
          (pss_one (ps_set (i := 4) nd rfl (Or.inr rfl) (pe_c C.wide hr rfl (pa_cons (pe_c C.plain hr rfl (pa_cons (pv 3) (pa_cons (pe_op op_sub (pv 2) pe_int) pa_nil))) (pa_cons (pe_op op_sub (pv 2) pe_int) (pa_cons (pv 5) pa_nil))))))
        (pss_one (ps_if (pt_cut <| PW.pt (pw_and (pt_cmpR op_gt (pv 2) pe_int (nomark _)) (pw_and1 (pt_cmpR op_eq (pv 5) pe_int (nomark _)))))
          (pss_one (ps_set (i := 4) nd rfl (Or.inr rfl) (pe_c C.twin hr rfl (pa_cons (pe_c C.plain hr rfl (pa_cons (pv 3) (pa_cons (pe_op op_sub (pv 2) pe_int) pa_nil))) (pa_cons (pe_op op_sub (pv 2) pe_int) (pa_cons (pe_c C.draw hr rfl (pa_cons (pv 0) (pa_cons (pe_op op_sub (pv 2) pe_int) pa_nil))) pa_nil))))))
        (pss_one (ps_if (pt_cut <| PW.pt (pw_and (pt_cmpR op_gt (pv 2) pe_int (nomark _)) (pw_and1 (pt_cmpR op_eq (pv 5) pe_int (nomark _)))))
          (pss_one (ps_set (i := 4) nd rfl (Or.inr rfl) (pe_c C.lead hr rfl (pa_cons (pe_c C.plain hr rfl (pa_cons (pe_op op_add pe_int (pe_c C.draw hr rfl (pa_cons (pv 0) (pa_cons pe_int pa_nil)))) (pa_cons (pe_op op_sub (pv 2) pe_int) pa_nil))) (pa_cons (pe_op op_sub (pv 2) pe_int) pa_nil)))))
        (pss_one (ps_if (pt_cmpR op_lt (pv 5) pe_int (nomark _))
          (pss_one (ps_set (i := 4) nd rfl (Or.inr rfl) (pe_c C.any hr rfl (pa_cons (pv 0) (pa_cons (pv 2) pa_nil)))))
          (pss_one (ps_set (i := 4) nd rfl (Or.inr rfl) (pe_c C.plain hr rfl (pa_cons (pv 3) (pa_cons (pv 2) pa_nil)))))))))))))))
      (pss_cons (ps_cut (ps_if (pt_cmpR op_eq (pe_c C.draw hr rfl (pa_cons (pv 0) (pa_cons pe_int pa_nil))) pe_int (nomark _))
        (pss_one (ps_set (i := 4) nd rfl (Or.inr rfl) (pe_callTy (cr_dictT rfl (u2 hr.units)) (by rfl) hdi (by decide +kernel) (pa_cons (pe_lock (pe_lc (own := [("_law_x", 8), ("_law_y", 9)]) (g := gXY K 8 9) (tt := tYes)
            (te := tTup (tCons (tTup (tCons (tVar 9) (tCons (tVar 8) tNil))) (tCons (tDGet (tVar 4) (tTup (tCons (tVar 8) (tCons (tVar 9) tNil)))) tNil))) rfl nd (pi_keys (pv 4))
            (blkOk_by (own := [("_law_x", 8), ("_law_y", 9)]) (N := nTable) (sc := defScope sTable) (by decide +kernel)) (fun _ _ _ _ _ => pg_tup rfl (pgs_cons (pg_name (i := 8) nd rfl (Or.inl rfl)) (pgs_cons (pg_name (i := 9) nd rfl (Or.inl rfl)) pgs_nil))) (fun _ _ _ _ _ => pts_nil)
            (fun _ _ _ _ _ => pe_tup (pa_cons (pe_tup (pa_cons (pv 9) (pa_cons (pv 8) pa_nil))) (pa_cons (pe_dget (hu_of hr) (pv 4) (pe_tup (pa_cons (pv 8) (pa_cons (pv 9) pa_nil))) (fun _ _ => rfl)) pa_nil))))) pa_nil)))) pss_nil))
      (pss_cons (ps_set (i := 6) nd rfl (Or.inr rfl) (pe_c C.words hr rfl (pa_cons (pv 0) (pa_cons (pv 2) pa_nil))))
      (pss_cons (ps_set (i := 7) nd rfl (Or.inr rfl) (pe_callTy (cr_dictT rfl (u2 hr.units)) (by rfl) hdi (by decide +kernel) (pa_cons (pe_lock (pe_lc (own := [("_law_x", 8), ("_law_y", 9)]) (g := gXY K 8 9) (tt := tYes)
            (te := tTup (tCons (tTup (tCons (tOp (rIxL K) (tVar 6) (tVar 8)) (tCons (tOp (rIxL K) (tVar 6) (tVar 9)) tNil))) (tCons (tOp (rIxL K) (tVar 6) (tDGet (tVar 4) (tTup (tCons (tVar 8) (tCons (tVar 9) tNil))))) tNil))) rfl nd (pi_keys (pv 4))
            (blkOk_by (own := [("_law_x", 8), ("_law_y", 9)]) (N := nTable) (sc := defScope sTable) (by decide +kernel)) (fun _ _ _ _ _ => pg_tup rfl (pgs_cons (pg_name (i := 8) nd rfl (Or.inl rfl)) (pgs_cons (pg_name (i := 9) nd rfl (Or.inl rfl)) pgs_nil))) (fun _ _ _ _ _ => pts_nil)
            (fun _ _ _ _ _ => pe_tup (pa_cons (pe_tup (pa_cons (pe_ix ix_list (pv 6) (pv 8) (fun _ _ => rfl)) (pa_cons (pe_ix ix_list (pv 6) (pv 9) (fun _ _ => rfl)) pa_nil))) (pa_cons (pe_ix ix_list (pv 6) (pe_dget (hu_of hr) (pv 4) (pe_tup (pa_cons (pv 8) (pa_cons (pv 9) pa_nil))) (fun _ _ => rfl)) (fun _ _ => rfl)) pa_nil))))) pa_nil)))
      (pss_one (ps_ret (pe_callTy (cr_dictT rfl (u2 hr.units)) (by rfl) hdi (by decide +kernel) (pa_cons (pe_lc (own := [("_law_pair", 10)]) (g := gName 10) (tt := tYes)
            (te := tTup (tCons (tVar 10) (tCons (tDGet (tVar 7) (tVar 10)) tNil))) rfl nd (pi_list (pe_callB (cr_sortT rfl hr.units) (by rfl) hso (by decide +kernel) (pa_cons (pv 7) pa_nil)))
            (blkOk_by (own := [("_law_pair", 10)]) (N := nTable) (sc := defScope sTable) (by decide +kernel)) (fun _ _ _ _ _ => pg_name (i := 10) nd rfl (Or.inl rfl)) (fun _ _ _ _ _ => pts_nil)
            (fun _ _ _ _ _ => pe_tup (pa_cons (pv 10) (pa_cons (pe_dget (hu_of hr) (pv 7) (pv 10) (fun _ _ => rfl)) pa_nil)))) pa_nil))))))))), ?_⟩
    refine ⟨_, rfl, _, rfl, p, (mo : Nat), B, rfl, hP, B0, by omega, by omega, Int.lt_of_le_of_lt (show _ ≤ (4 : Int) by omega) (by decide), fun r1 H1 bt1 hP1 r10 r11 => ?_⟩
    obtain ⟨m, rfl⟩ := nat_of (m := 0) r10
    obtain ⟨n, en⟩ : ∃ n : Nat, n = m + 1 := ⟨_, rfl⟩
    have n0 : 0 < n := by omega
    have n5 : n < 5 := by omega
    refine ⟨_, _, rfl, rfl, ?_⟩
    refine at_name (σ' := [some (.ref p), some (.int (mo : Nat)), some (.int (n : Int)), none, none, none, none, none, none, none, none]) (by rw [← show (1 : Int) + (m : Int) = (n : Int) by omega]; rfl) ?_
    refine ⟨_, rfl, p, 8, _, rfl, hP1, by omega, by omega, by decide, by decide, fun r2 H2 bt2 hP2 r20 r21 => ?_⟩
    refine ⟨_, rfl, p, 9, _, rfl, hP2, by omega, by omega, by decide, by decide, fun r3 H3 bt3 hP3 r30 r31 => ?_⟩
    obtain ⟨way, rfl⟩ := nat_of (m := 0) r20
    obtain ⟨late, rfl⟩ := nat_of (m := 0) r30
    have hway : way < 8 := by omega
    refine ⟨(by show 3 ≤ sizeLine; decide), fun tt htt => ?_⟩
    have btt := bt1.trans (bt2.trans bt3)
    have a1 := Same.new (H := H3) (o := .tup [V.int (way : Int), .non, V.int (late : Int)]) htt
    have a2 : upd H3 tt (.tup [V.int (way : Int), .non, V.int (late : Int)]) tt = _ := upd_same
    generalize upd H3 tt (.tup [V.int (way : Int), .non, V.int (late : Int)]) = G at a1 a2 ⊢
    have btG : But p H G := btt.same a1
    have hPG : PurseAt G p (B + 12) := (hP3.mono a1).le (by omega)
    refine ⟨tt, _, rfl, SqT.of a2, rfl, _, _, rfl, ?_⟩
    refine at_name (σ' := [some (.ref p), some (.int (mo : Nat)), some (.int (n : Int)), some (.int (way : Int)), none, none, none, none, none, none, none]) rfl ?_
    refine ⟨_, _, rfl, ?_⟩
    refine at_name (σ' := [some (.ref p), some (.int (mo : Nat)), some (.int (n : Int)), some (.int (way : Int)), some .non, none, none, none, none, none, none]) rfl ?_
    refine ⟨_, _, rfl, ?_⟩
    refine at_name (σ' := [some (.ref p), some (.int (mo : Nat)), some (.int (n : Int)), some (.int (way : Int)), some .non, some (.int (late : Int)), none, none, none, none, none]) rfl ?_
    refine ⟨rfl, ?_⟩
    clear a2 htt a1 hP1 hP2 hP3 bt1 bt2 bt3 btt
    refine ⟨fun σ H' => ∃ (d : Addr) (t : Nat → Nat → Nat), σ = [some (.ref p), some (.int (mo : Nat)), some (.int (n : Int)), some (.int (way : Int)), some (.ref d), some (.int (late : Int)), none, none, none, none, none] ∧ But p H H' ∧ PurseAt H' p (B + 150) ∧ TabAt H' d n t ∧ Free n t, ?_, ?_⟩
    · refine ⟨fun b H' => But p H H' ∧ PurseAt H' p (B + 16) ∧ (b = true → n = 4), ?_, ?_⟩
      · refine ⟨_, rfl, rfl, _, rfl, ?_⟩
        refine ite2 (fun h4 => ?_) (fun h4 => ?_)
        · have e4 : n = 4 := by
            have := of_decide_eq_true h4
            injection this with e
            omega
          refine ⟨_, rfl, p, 3, _, rfl, hPG, by omega, by omega, by decide, by decide, fun r H4 bt4 hP4 r0 r1 => ?_⟩
          exact ⟨rfl, _, rfl, btG.trans bt4, hP4.le (by omega), fun _ => e4⟩
        · exact ⟨btG, hPG.le (by omega), fun e => (by cases e)⟩
      · rintro b H4 ⟨bt4, hP4, h4⟩
        refine ite2 (fun hb => ?_) (fun hb => ?_)
        · have e4 := h4 hb
          refine ⟨_, rfl, way, 2, rfl, hway, by decide, by decide, fun a H5 s5 ha5 ta => ?_⟩
          refine ⟨_, rfl, p, 8, _, rfl, hP4.mono s5, by omega, by omega, by decide, by decide, fun r H6 bt6 hP6 r0 r1 => ?_⟩
          obtain ⟨v, rfl⟩ := nat_of (m := 0) r0
          refine ⟨v, 2, rfl, by omega, by decide, by decide, fun b2 H7 s7 hb7 tb => ?_⟩
          have nap : a ≠ p := fun e => by
            obtain ⟨_, _, _, _, q, _⟩ := hP4
            rw [e, q] at ha5
            cases ha5
          refine ⟨a, b2, _, _, rfl, (ta.but bt6 nap).mono s7, tb, fun q H8 s8 hq tq => ?_⟩
          refine at_name (σ' := [some (.ref p), some (.int (mo : Nat)), some (.int (n : Int)), some (.int (way : Int)), some (.ref q), some (.int (late : Int)), none, none, none, none, none]) rfl ?_
          refine ⟨q, twofoldT (plainT way 2) (plainT v 2), rfl, (((bt4.same s5).trans bt6).same s7).same s8, ((hP6.mono s7).mono s8).le (by omega), ?_, ?_⟩
          · rw [e4]; exact tq
          · rw [e4]; exact free_of (twofold_free way hway v (by omega))
        · refine ⟨fun b H' => H' = H4 ∧ (b = true → 1 < n ∧ late < 2), ?_, ?_⟩
          · refine ⟨_, rfl, _, _, rfl, rfl, _, rfl, ?_⟩
            refine ite2 (fun h1 => ?_) (fun h1 => ?_)
            · have h1 := of_decide_eq_true h1
              refine ⟨_, rfl, _, _, rfl, rfl, _, rfl, rfl, fun h2 => ?_⟩
              have h2 := of_decide_eq_true h2
              exact ⟨by omega, by omega⟩
            · exact ⟨rfl, fun e => (by cases e)⟩
          · rintro b H5 ⟨rfl, hc⟩
            refine ite2 (fun hb => ?_) (fun hb => ?_)
            · obtain ⟨c1, c2⟩ := hc hb
              have en1 : (n : Int) - 1 = ((n - 1 : Nat) : Int) := by omega
              have en2 : n - 1 + 1 = n := by omega
              refine ⟨_, rfl, _, rfl, _, _, rfl, rfl, ?_⟩
              refine ⟨way, n - 1, by rw [← en1]; rfl, hway, by omega, by omega, fun a H6 s6 ha6 ta => ?_⟩
              refine ⟨_, rfl, _, _, rfl, rfl, _, rfl, ?_⟩
              refine ⟨a, n - 1, late, _, by rw [← en1]; rfl, by omega, by omega, ta, fun q H7 s7 hq tq => ?_⟩
              refine at_name (σ' := [some (.ref p), some (.int (mo : Nat)), some (.int (n : Int)), some (.int (way : Int)), some (.ref q), some (.int (late : Int)), none, none, none, none, none]) rfl ?_
              rw [en2] at tq
              have fr := free_of (wide_free way hway (n - 1) (by omega) (by omega) late c2)
              rw [en2] at fr
              exact ⟨q, _, rfl, (bt4.same s6).same s7, ((hP4.mono s6).mono s7).le (by omega), tq, fr⟩
            · refine ⟨fun b H' => H' = H5 ∧ (b = true → 1 < n), ?_, ?_⟩
              · refine ⟨_, rfl, _, _, rfl, rfl, _, rfl, ?_⟩
                refine ite2 (fun h1 => ?_) (fun h1 => ?_)
                · have h1 := of_decide_eq_true h1
                  exact ⟨_, rfl, rfl, _, rfl, rfl, fun _ => by omega⟩
                · exact ⟨rfl, fun e => (by cases e)⟩
              · rintro b H6 ⟨rfl, hc⟩
                refine ite2 (fun hb => ?_) (fun hb => ?_)
                · have c1 := hc hb
                  have en1 : (n : Int) - 1 = ((n - 1 : Nat) : Int) := by omega
                  have en2 : n - 1 + 1 = n := by omega
                  refine ⟨_, rfl, _, rfl, _, _, rfl, rfl, ?_⟩
                  refine ⟨way, n - 1, by rw [← en1]; rfl, hway, by omega, by omega, fun a H7 s7 ha7 ta => ?_⟩
                  refine ⟨_, rfl, _, _, rfl, rfl, _, rfl, _, rfl, _, _, rfl, rfl, ?_⟩
                  refine ⟨p, _, _, rfl, hP4.mono s7, by omega, by omega, by omega, by omega, fun r H8 bt8 hP8 r0 r1 => ?_⟩
                  obtain ⟨v, rfl⟩ := nat_of (m := 0) r0
                  have nap : a ≠ p := fun e => by
                    obtain ⟨_, _, _, _, q, _⟩ := hP4
                    rw [e, q] at ha7
                    cases ha7
                  refine ⟨a, n - 1, v, _, by rw [← en1]; rfl, by omega, by omega, by omega, ta.but bt8 nap, fun q H9 s9 hq tq => ?_⟩
                  refine at_name (σ' := [some (.ref p), some (.int (mo : Nat)), some (.int (n : Int)), some (.int (way : Int)), some (.ref q), some (.int (late : Int)), none, none, none, none, none]) rfl ?_
                  rw [en2] at tq
                  have fr := free_of (twin_free way hway (n - 1) (by omega) (by omega) v (by omega))
                  rw [en2] at fr
                  exact ⟨q, _, rfl, ((bt4.same s7).trans bt8).same s9, (hP8.mono s9).le (by omega), tq, fr⟩
                · refine ⟨fun b H' => H' = H6 ∧ (b = true → 1 < n), ?_, ?_⟩
                  · refine ⟨_, rfl, _, _, rfl, rfl, _, rfl, ?_⟩
                    refine ite2 (fun h1 => ?_) (fun h1 => ?_)
                    · have h1 := of_decide_eq_true h1
                      exact ⟨_, rfl, rfl, _, rfl, rfl, fun _ => by omega⟩
                    · exact ⟨rfl, fun e => (by cases e)⟩
                  · rintro b H7 ⟨rfl, hc⟩
                    refine ite2 (fun hb => ?_) (fun hb => ?_)
                    · have c1 := hc hb
                      have en1 : (n : Int) - 1 = ((n - 1 : Nat) : Int) := by omega
                      have en2 : n - 1 + 1 = n := by omega
                      refine ⟨_, rfl, p, 2, _, rfl, hP4, by omega, by omega, by decide, by decide, fun r H8 bt8 hP8 r0 r1 => ?_⟩
                      obtain ⟨v, rfl⟩ := nat_of (m := 0) r0
                      refine ⟨_, _, rfl, rfl, _, rfl, _, _, rfl, rfl, ?_⟩
                      refine ⟨1 + v, n - 1, by rw [← en1]; rfl, by omega, by omega, by omega, fun a H9 s9 ha9 ta => ?_⟩
                      refine ⟨_, rfl, _, _, rfl, rfl, ?_⟩
                      refine ⟨a, n - 1, _, by rw [← en1]; rfl, by omega, by omega, ta, fun q H10 s10 hq tq => ?_⟩
                      refine at_name (σ' := [some (.ref p), some (.int (mo : Nat)), some (.int (n : Int)), some (.int (way : Int)), some (.ref q), some (.int (late : Int)), none, none, none, none, none]) rfl ?_
                      rw [en2] at tq
                      have fr := free_of (lead_free (1 + v) (by omega) (by omega) (n - 1) (by omega) (by omega))
                      rw [en2] at fr
                      exact ⟨q, _, rfl, ((bt4.trans bt8).same s9).same s10, ((hP8.mono s9).mono s10).le (by omega), tq, fr⟩
                    · refine ⟨_, rfl, _, _, rfl, rfl, _, rfl, ?_⟩
                      refine ite2 (fun _ => ?_) (fun _ => ?_)
                      · refine ⟨_, rfl, _, rfl, p, n, _, rfl, hP4, by omega, by omega, n0, n5, fun q t H8 hq bt8 hP8 tq fr => ?_⟩
                        refine at_name (σ' := [some (.ref p), some (.int (mo : Nat)), some (.int (n : Int)), some (.int (way : Int)), some (.ref q), some (.int (late : Int)), none, none, none, none, none]) rfl ?_
                        exact ⟨q, _, rfl, bt4.trans bt8, hP8.le (by omega), tq, fr⟩
                      · refine ⟨_, rfl, _, rfl, way, n, rfl, hway, n0, n5, fun q H8 s8 hq tq => ?_⟩
                        refine at_name (σ' := [some (.ref p), some (.int (mo : Nat)), some (.int (n : Int)), some (.int (way : Int)), some (.ref q), some (.int (late : Int)), none, none, none, none, none]) rfl ?_
                        exact ⟨q, _, rfl, bt4.same s8, (hP4.mono s8).le (by omega), tq, free_of (plain_free way hway n n5 n0)⟩
    · rintro σ H4 ⟨d, t, rfl, bt4, hP4, td, fr⟩
      have hun2 := u2 hr.units
      refine ⟨fun σ H' => ∃ (d : Addr) (t : Nat → Nat → Nat), σ = [some (.ref p), some (.int (mo : Nat)), some (.int (n : Int)), some (.int (way : Int)), some (.ref d), some (.int (late : Int)), none, none, none, none, none] ∧ But p H H' ∧ PurseAt H' p (B + 160) ∧ TabAt H' d n t ∧ Free n t, ?_, ?_⟩
      · refine ⟨_, rfl, p, 3, _, rfl, hP4, by omega, by omega, by decide, by decide, fun r H5 bt5 hP5 _ _ => ?_⟩
        have ndp := td.ne hP4
        have td5 := td.but bt5 ndp
        refine ⟨rfl, _, rfl, ?_⟩
        refine ite2 (fun _ => ?_) (fun _ => ?_)
        · obtain ⟨kvs, hd, tb⟩ := td5
          obtain ⟨is, e1, ndi, e2⟩ := tb.idxs keyI_inj
          have lis : is.length ≤ 1000 := by
            have := sq_len (n := 4) (t := t) tb fun i hi => ⟨by have := hi.1; omega, by have := hi.2; omega⟩
            rw [e1, List.length_map] at this
            omega
          refine rd_keys (key := keyI) (key2 := fun i : Ix => keyI (i.2, i.1)) (val := valI t) (val2 := valI t) rfl hd e1 lis ?_ ?_
          · rintro ⟨x, y⟩ q od H6 R ha s6 hq kR
            obtain ⟨hx, hy⟩ : x < n ∧ y < n := (e2 (x, y)).mpr ha
            have hq' : H6 q = some (.tup [V.int (x : Int), V.int (y : Int)]) := hq
            have tr : TabRd H6 d n t := ⟨kvs, .inr ⟨od, s6 _ _ upd_same⟩, tb⟩
            refine ⟨q, _, rfl, SqT.of hq', rfl, _, _, rfl, ?_⟩
            refine at_name (σ' := [some (.ref p), some (.int (mo : Nat)), some (.int (n : Int)), some (.int (way : Int)), some (.ref d), some (.int (late : Int)), none, none, some (.int (x : Int)), none, none]) rfl ?_
            refine ⟨_, _, rfl, ?_⟩
            refine at_name (σ' := [some (.ref p), some (.int (mo : Nat)), some (.int (n : Int)), some (.int (way : Int)), some (.ref d), some (.int (late : Int)), none, none, some (.int (x : Int)), some (.int (y : Int)), none]) rfl ?_
            refine ⟨rfl, rfl, ?_⟩
            refine ⟨_, rfl, _, rfl, (by show 2 ≤ sizeLine; decide), fun b hb => ?_⟩
            have b1 := Same.new (H := H6) (o := .tup [V.int (y : Int), V.int (x : Int)]) hb
            have b2 : upd H6 b (.tup [V.int (y : Int), V.int (x : Int)]) b = _ := upd_same
            generalize upd H6 b (.tup [V.int (y : Int), V.int (x : Int)]) = G1 at b1 b2 ⊢
            refine ⟨_, rfl, _, rfl, _, rfl, (by show 2 ≤ sizeLine; decide), fun t1 ht1 => ?_⟩
            have c1 := Same.new (H := G1) (o := .tup [V.int (x : Int), V.int (y : Int)]) ht1
            have c2 : upd G1 t1 (.tup [V.int (x : Int), V.int (y : Int)]) t1 = _ := upd_same
            generalize upd G1 t1 (.tup [V.int (x : Int), V.int (y : Int)]) = G2 at c1 c2 ⊢
            refine ⟨d, _, rfl, ((tr.mono b1).mono c1).get hx hy c2, (by show 2 ≤ sizeLine; decide), fun t2 ht2 => ?_⟩
            have d1 := Same.new (H := G2) (o := .tup [V.ref b, V.int (t x y : Nat)]) ht2
            exact kR t2 b _ (fun z o e => d1 _ _ (c1 _ _ (b1 _ _ e))) upd_same (d1 _ _ (c1 _ _ b2))
          · intro q H6 s6 hq0 hq
            refine at_name (σ' := [some (.ref p), some (.int (mo : Nat)), some (.int (n : Int)), some (.int (way : Int)), some (.ref q), some (.int (late : Int)), none, none, none, none, none]) rfl ?_
            refine ⟨q, fun x y => t y x, rfl, (bt4.trans bt5).same s6, (hP5.mono s6).le (by omega), ⟨_, hq, ?_⟩, fr.turn⟩
            have tm := (TbG.merge (val := valI t) swap_inj is TbG.nil).congr (S' := Sq n) fun a => by rw [false_or]; exact (e2 a).symm
            exact tm.reidx (fun i => (i.2, i.1)) (fun i => (i.2, i.1)) (fun i hi => ⟨⟨hi.2, hi.1⟩, rfl, rfl⟩) (fun i hi => ⟨⟨hi.2, hi.1⟩, rfl⟩)
        · exact ⟨d, t, rfl, bt4.trans bt5, hP5.le (by omega), td5, fr⟩
      · rintro σ H5 ⟨d, t, rfl, bt5, hP5, td, fr⟩
        refine ⟨_, rfl, _, rfl, p, n, _, rfl, hP5, by omega, by omega, by omega, by omega, fun L W H6 hL0 bt6 hP6 hL lw wd ndw => ?_⟩
        have ndp := td.ne hP5
        have td6 := td.but bt6 ndp
        have bt56 := bt5.trans bt6
        have lw' : W.length = n := by omega
        have kw := kw_of fr lw' n0 n5 ndw wd
        refine at_name (σ' := [some (.ref p), some (.int (mo : Nat)), some (.int (n : Int)), some (.int (way : Int)), some (.ref d), some (.int (late : Int)), some (.ref L), none, none, none, none]) rfl ?_
        obtain ⟨kvs, hd, tb⟩ := td6
        obtain ⟨is, e1, ndi, e2⟩ := tb.idxs keyI_inj
        have lis : is.length ≤ 16 := by
          have := sq_len (n := 4) (t := t) tb fun i hi => ⟨by have := hi.1; omega, by have := hi.2; omega⟩
          rw [e1, List.length_map] at this
          omega
        have wj : ∀ j, j < n → (W.map V.str)[j]? = some (.str (W.getD j ⟨#[]⟩)) := fun j hj => by
          rw [List.getElem?_map, List.getD_eq_getElem?_getD, List.getElem?_eq_getElem (by omega)]
          rfl
        refine rd_keys (key := keyI) (key2 := fun i : Ix => keyP (W.getD i.1 ⟨#[]⟩, W.getD i.2 ⟨#[]⟩)) (val := valI t) (val2 := fun i : Ix => valW (prodW W t) (W.getD i.1 ⟨#[]⟩, W.getD i.2 ⟨#[]⟩)) rfl hd e1 (by omega) ?_ ?_
        · rintro ⟨x, y⟩ q od H7 R ha s7 hq kR
          obtain ⟨hx, hy⟩ : x < n ∧ y < n := (e2 (x, y)).mpr ha
          have hq' : H7 q = some (.tup [V.int (x : Int), V.int (y : Int)]) := hq
          have tr : TabRd H7 d n t := ⟨kvs, .inr ⟨od, s7 _ _ upd_same⟩, tb⟩
          have nLd : L ≠ d := fun e => by rw [e, hd] at hL; cases hL
          have hL7 : H7 L = some (.lst (W.map V.str)) := s7 _ _ ((upd_ne nLd).trans hL)
          have ev : prodW W t (W.getD x ⟨#[]⟩) (W.getD y ⟨#[]⟩) = W.getD (t x y) ⟨#[]⟩ := by
            unfold prodW
            rw [idxOf_getD ndw (by omega), idxOf_getD ndw (by omega)]
          refine ⟨q, _, rfl, SqT.of hq', rfl, _, _, rfl, ?_⟩
          refine at_name (σ' := [some (.ref p), some (.int (mo : Nat)), some (.int (n : Int)), some (.int (way : Int)), some (.ref d), some (.int (late : Int)), some (.ref L), none, some (.int (x : Int)), none, none]) rfl ?_
          refine ⟨_, _, rfl, ?_⟩
          refine at_name (σ' := [some (.ref p), some (.int (mo : Nat)), some (.int (n : Int)), some (.int (way : Int)), some (.ref d), some (.int (late : Int)), some (.ref L), none, some (.int (x : Int)), some (.int (y : Int)), none]) rfl ?_
          refine ⟨rfl, rfl, ?_⟩
          refine ⟨_, rfl, _, rfl, L, _, (x : Int), _, rfl, rfl, SqL.of hL7, atI_nat (wj x hx), _, rfl, _, rfl, L, _, (y : Int), _, rfl, rfl, SqL.of hL7, atI_nat (wj y hy), (by show 2 ≤ sizeLine; decide), fun b hb => ?_⟩
          have b1 := Same.new (H := H7) (o := .tup [V.str (W.getD x ⟨#[]⟩), V.str (W.getD y ⟨#[]⟩)]) hb
          have b2 : upd H7 b (.tup [V.str (W.getD x ⟨#[]⟩), V.str (W.getD y ⟨#[]⟩)]) b = _ := upd_same
          generalize upd H7 b (.tup [V.str (W.getD x ⟨#[]⟩), V.str (W.getD y ⟨#[]⟩)]) = G1 at b1 b2 ⊢
          refine ⟨_, rfl, _, rfl, _, rfl, _, rfl, (by show 2 ≤ sizeLine; decide), fun t1 ht1 => ?_⟩
          have c1 := Same.new (H := G1) (o := .tup [V.int (x : Int), V.int (y : Int)]) ht1
          have c2 : upd G1 t1 (.tup [V.int (x : Int), V.int (y : Int)]) t1 = _ := upd_same
          generalize upd G1 t1 (.tup [V.int (x : Int), V.int (y : Int)]) = G2 at c1 c2 ⊢
          refine ⟨d, _, rfl, ((tr.mono b1).mono c1).get hx hy c2, L, _, (t x y : Nat), _, rfl, rfl, SqL.of (c1 _ _ (b1 _ _ hL7)), atI_nat (wj _ (fr.lt x y hx hy)), (by show 2 ≤ sizeLine; decide), fun t2 ht2 => ?_⟩
          have d1 := Same.new (H := G2) (o := .tup [V.ref b, V.str (W.getD (t x y) ⟨#[]⟩)]) ht2
          refine kR t2 b _ (fun z o e => d1 _ _ (c1 _ _ (b1 _ _ e))) ?_ (d1 _ _ (c1 _ _ b2))
          show _ = some (HO.tup [V.ref b, V.str (prodW W t (W.getD x ⟨#[]⟩) (W.getD y ⟨#[]⟩))])
          rw [ev]
          exact upd_same
        · intro dn H7 s7 hdn0 hdn
          have em : (is.map fun a : Ix => (keyP (W.getD a.1 ⟨#[]⟩, W.getD a.2 ⟨#[]⟩), valW (prodW W t) (W.getD a.1 ⟨#[]⟩, W.getD a.2 ⟨#[]⟩))) = (is.map fun a : Ix => (W.getD a.1 ⟨#[]⟩, W.getD a.2 ⟨#[]⟩)).map fun p => (keyP p, valW (prodW W t) p) := by rw [List.map_map]; rfl
          rw [em] at hdn
          have tm := (TbG.merge (val := valW (prodW W t)) keyP_inj (is.map fun a : Ix => (W.getD a.1 ⟨#[]⟩, W.getD a.2 ⟨#[]⟩)) TbG.nil).congr (S' := SqW W) fun a => by
            rw [false_or, List.mem_map]
            constructor
            · rintro ⟨i, hi, rfl⟩
              have hs := (e2 i).mpr hi
              exact ⟨getD_mem (by rw [lw']; exact hs.1), getD_mem (by rw [lw']; exact hs.2)⟩
            · rintro ⟨h1, h2⟩
              refine ⟨(W.idxOf a.1, W.idxOf a.2), (e2 _).mp ⟨lw' ▸ List.idxOf_lt_length_of_mem h1, lw' ▸ List.idxOf_lt_length_of_mem h2⟩, ?_⟩
              exact Prod.ext (getD_idxOf h1) (getD_idxOf h2)
          obtain ⟨kv2, ek⟩ : ∃ z, z = mergeT [] ((is.map fun a : Ix => (W.getD a.1 ⟨#[]⟩, W.getD a.2 ⟨#[]⟩)).map fun p => (keyP p, valW (prodW W t) p)) := ⟨_, rfl⟩
          rw [← ek] at hdn tm
          clear ek em
          refine at_name (σ' := [some (.ref p), some (.int (mo : Nat)), some (.int (n : Int)), some (.int (way : Int)), some (.ref d), some (.int (late : Int)), some (.ref L), some (.ref dn), none, none, none]) rfl ?_
          obtain ⟨ps, f1, f2, f3, f4⟩ := sorted_keys tm ndw kw.asc (ascOf_perm W)
          have bt7 : But p H H7 := bt56.same s7
          have hP7 := hP6.mono s7
          have lp : ps.length ≤ 16 := by
            rw [f2]
            have := tm.len (pairsW W) fun p hp => mem_pairsW.mpr hp
            rw [pairsW_len, lw'] at this
            have : n * n ≤ 4 * 4 := Nat.mul_le_mul (by omega) (by omega)
            omega
          have lpw : (pairsW (ascOf W)).length ≤ 1000 := by
            rw [pairsW_len, (ascOf_perm W).length_eq, lw']
            have : n * n ≤ 4 * 4 := Nat.mul_le_mul (by omega) (by omega)
            omega
          show tCB (rDictT K) (tCons (tLc (iList K (tCB DTp.rSortT (tCons (tVar 7) tNil))) (gName 10) tYes (tTup (tCons (tVar 10) (tCons (tDGet (tVar 7) (tVar 10)) tNil))) [10]) tNil) _ H7 Q
          refine rd_list (key2 := keyP) (val2 := valW (prodW W t)) (is := pairsW (ascOf W)) (fun H1 => L2.Same H7 H1) lpw ?_ ?_
          · intro R hR
            refine ⟨_, rfl, dn, kv2, ps, rfl, .inl hdn, f1, by omega, fun qs l h1 h2 h3 hl => ?_⟩
            have s8 := Same.new (H := H7) (o := .lst (qs.map fun q => V.ref q.1)) hl
            refine hR l qs _ (f4 _ h1 h2) upd_same s8 ?_
            intro m q H8 R2 hq s9 kR
            have hqm := h3 q (List.mem_of_getElem? hq)
            have hq8 : H8 q.1 = some (.tup ((keyP q.2).map kV)) := s9 _ _ (s8 _ _ hqm)
            have hq2 : SqW W q.2 := by
              have : q.2 ∈ qs.map (·.2) := List.mem_map.mpr ⟨q, List.mem_of_getElem? hq, rfl⟩
              rw [f4 _ h1 h2, mem_pairsW] at this
              exact ⟨(ascOf_perm W).mem_iff.mp this.1, (ascOf_perm W).mem_iff.mp this.2⟩
            have gt : DGet H8 dn (.ref q.1) (some (valW (prodW W t) q.2)) := by
              have e := DGet.t (k := keyP q.2) (s9 _ _ (s8 _ _ hdn)) hq8
              rw [tm.get hq2] at e
              exact e
            refine at_name (σ' := [some (.ref p), some (.int (mo : Nat)), some (.int (n : Int)), some (.int (way : Int)), some (.ref d), some (.int (late : Int)), some (.ref L), some (.ref dn), none, none, some (.ref q.1)]) rfl ?_
            refine ⟨rfl, _, rfl, _, rfl, _, rfl, dn, _, rfl, gt, (by show 2 ≤ sizeLine; decide), fun t2 ht2 => ?_⟩
            exact kR t2 q.1 _ (Same.new ht2) upd_same (Same.new ht2 _ _ hq8)
          · intro q H8 H9 s8 s9 hq0 hq
            have en : mergeT [] ((pairsW (ascOf W)).map fun a => (keyP a, valW (prodW W t) a)) = tabW (ascOf W) (prodW W t) := by
              rw [mergeT_nd _ _ (by rw [List.nil_append]; exact (tabW_tb (f := prodW W t) kw.asc.nodup).nd)]
              rfl
            rw [en] at hq
            have btE : But p H H8 := bt7.same s8
            exact k q (ascOf W) (prodW W t) H9 (btE.free (hP7.mono s8) hq0) (btE.same s9) (((hP7.mono s8).mono s9).le (by omega)) hq kw
end
end KT
set_option Elab.async false
set_option linter.all false
set_option maxRecDepth 100000
set_option maxHeartbeats 4000000
namespace KT
open PySem L2 PyProof.Rows DTp
section
variable {K : PySem.W.Frag}
theorem mergeT_snoc : ∀ (xs kvs : List (List Key × V)) (p : List Key × V), mergeT kvs (xs ++ [p]) = putK (mergeT kvs xs) p.1 p.2
  | [], _, _ => rfl
  | x :: xs, kvs, p => mergeT_snoc xs _ p
/-- {key: value for .. in told}, the keys tuples -/
theorem dc_keys {ι : Type} {key key2 : ι → List Key} {val val2 : ι → V} {te0 tk tv : TE} {tg iter : Expr} {ifs : List Expr} {g : TG} {vs : List Nat} {σ : L2.St} {H : Hp} {Q : VK} {d : Addr} {kvs : List (List Key × V)} {is : List ι}
    (hi : ∀ od (R : VK), R (.ref d) (upd H d (.frz od (.dT kvs))) → te0 σ (upd H d (.frz od (.dT kvs))) R) (hd : H d = some (.dT kvs))
    (e1 : kvs = is.map fun a => (key a, val a)) (few : is.length ≤ 1000)
    (step : ∀ a q od H1 (R : V → V → Hp → Prop) (Cn : L2.St → Hp → Prop), (∀ σ2 H2, (tk σ2 H2 fun y H3 => tv σ2 H3 fun z H4 => R y z H4) → Cn σ2 H2) → a ∈ is → L2.Same (upd H d (.frz od (.dT kvs))) H1 → H1 q = some (.tup ((key a).map kV)) → (∀ b H3, L2.Same H1 H3 → H3 b = some (.tup ((key2 a).map kV)) → R (.ref b) (val2 a) H3) → g (.ref q) (wipe σ vs) H1 fun σ2 H2 => wipe σ2 vs = wipe σ vs ∧ Cn σ2 H2)
    (k : ∀ q H', L2.Same H H' → H q = none → H' q = some (.dT (mergeT [] (is.map fun a => (key2 a, val2 a)))) → Q (.ref q) H') :
    tLockE (GC.tCo (fun _ => .dT []) ⟨tg, iter, ifs, iKeys te0, g, tYes, vs⟩ [] (GC.emT tk tv)) σ H Q := by
  have li : is.length = kvs.length := by rw [e1, List.length_map]
  refine ⟨d, .dT kvs, hd, trivial, fun od => ?_⟩
  refine hi od _ ⟨d, od, rfl, .inr ⟨kvs, upd_same, fun D hD => ?_⟩⟩
  have nDd : D ≠ d := fun e => by rw [e, upd_same] at hD; cases hD
  have hD0 : H D = none := by rw [upd_ne nDd] at hD; exact hD
  refine GC.lp_it walk_keysT (fun n H' => L2.Same (upd H d (.frz od (.dT kvs))) H' ∧ H' D = some (.dT (mergeT [] ((is.take n).map fun a => (key2 a, val2 a))))) ?_ ?_ ?_ ?_
  · exact ⟨Same.new hD, upd_same⟩
  · rintro i H1 _ ⟨s1, _⟩
    exact s1 _ _ upd_same
  · rintro n x H0 H1 hn ⟨s1, hD1⟩ ⟨rfl, kk, v, q, hk, rfl, hq⟩
    have hn' : n < is.length := by omega
    have ea : is[n]? = some is[n] := List.getElem?_eq_getElem hn'
    have ek : kvs[n]? = some (key is[n], val is[n]) := by
      have e3 := congrArg (fun l : List (List Key × V) => l[n]?) e1
      simp only [List.getElem?_map, ea] at e3
      exact e3
    rw [hk] at ek
    have ek := Option.some.inj ek
    obtain ⟨rfl, rfl⟩ : kk = key is[n] ∧ v = val is[n] := ⟨congrArg Prod.fst ek, congrArg Prod.snd ek⟩
    refine step is[n] q od H1 (fun y z H2 => ∃ (kvs2 : List (List Key × V)) (k : List Key) (b : Addr), y = .ref b ∧ H2 b = some (.tup (k.map kV)) ∧ H2 D = some (.dT kvs2) ∧ kvs2.length < sizeLine ∧ (L2.Same (upd H d (.frz od (.dT kvs))) (upd H2 D (.dT (putK kvs2 k z))) ∧ (upd H2 D (.dT (putK kvs2 k z))) D = some (.dT (mergeT [] ((is.take (n + 1)).map fun a => (key2 a, val2 a)))))) _ (fun σ2 H2 hh => hh) (List.getElem_mem hn') s1 hq fun b H3 s3 hb => ?_
    refine ⟨_, key2 is[n], b, rfl, hb, s3 _ _ hD1, ?_, fun c o e => ?_, ?_⟩
    · have := length_mergeT ((is.take n).map fun a => (key2 a, val2 a)) []
      rw [List.length_map, List.length_take, List.length_nil] at this
      exact small1000 (by omega)
    · rw [upd_ne (ne_of_none e hD)]
      exact s3 _ _ (s1 _ _ e)
    · rw [upd_same, take_next' ea, List.map_append]
      exact congrArg (fun z => some (HO.dT z)) (mergeT_snoc ((is.take n).map fun a => (key2 a, val2 a)) [] (key2 is[n], val2 is[n])).symm
  · rintro H1 ⟨s1, hD1⟩
    rw [← li, List.take_length] at hD1
    have hdl : H1 d = some (.frz od (.dT kvs)) := s1 _ _ upd_same
    refine ⟨hdl, k D _ (fun b o e => ?_) hD0 ?_⟩
    · by_cases hb : b = d
      · rw [hb] at e ⊢
        rw [hd] at e
        rw [upd_same]; exact e
      · rw [upd_ne hb]
        exact s1 _ _ ((upd_ne hb).trans e)
    · rw [upd_ne nDd]; exact hD1
/-- {key: value for .. in list}, the list's things the tuples at qs, the keys tuples -/
theorem dc_list {ι : Type} {key2 : ι → List Key} {val2 : ι → V} {tl tk tv : TE} {tg iter : Expr} {ifs : List Expr} {g : TG} {vs : List Nat} {σ : L2.St} {H : Hp} {Q : VK} {is : List ι} (Pd : Hp → Prop) (few : is.length ≤ 1000)
    (hl : ∀ R : VK, (∀ l (qs : List (Addr × ι)) H1, qs.map (·.2) = is → H1 l = some (.lst (qs.map fun q => V.ref q.1)) → Pd H1 →
      (∀ (n : Nat) q H2 (R2 : V → V → Hp → Prop) (Cn : L2.St → Hp → Prop), (∀ σ2 H3, (tk σ2 H3 fun y H4 => tv σ2 H4 fun z H5 => R2 y z H5) → Cn σ2 H3) → qs[n]? = some q → L2.Same H1 H2 → (∀ b H3, L2.Same H2 H3 → H3 b = some (.tup ((key2 q.2).map kV)) → R2 (.ref b) (val2 q.2) H3) → g (.ref q.1) (wipe σ vs) H2 fun σ2 H3 => wipe σ2 vs = wipe σ vs ∧ Cn σ2 H3) → R (.ref l) H1) → tl σ H R)
    (k : ∀ q H1 H', Pd H1 → L2.Same H1 H' → H1 q = none → H' q = some (.dT (mergeT [] (is.map fun a => (key2 a, val2 a)))) → Q (.ref q) H') :
    GC.tCo (fun _ => .dT []) ⟨tg, iter, ifs, iList K tl, g, tYes, vs⟩ [] (GC.emT tk tv) σ H Q := by
  refine hl _ fun l qs H1 eqs h1 s1 step => ?_
  have lq : qs.length = is.length := by rw [← eqs, List.length_map]
  refine ⟨l, rfl, ⟨_, SqL.of h1⟩, fun D hD => ?_⟩
  refine GC.lp_it (walk_list (K := K) (a := l) (xs := qs.map fun q => V.ref q.1)) (fun n H' => L2.Same H1 H' ∧ H' D = some (.dT (mergeT [] ((is.take n).map fun a => (key2 a, val2 a))))) ?_ ?_ ?_ ?_
  · exact ⟨Same.new hD, upd_same⟩
  · rintro i H2 _ ⟨s2, _⟩
    exact SqL.of (s2 _ _ h1)
  · rintro n x H0 H2 hn ⟨s2, hD2⟩ ⟨rfl, hx⟩
    rw [List.length_map] at hn
    rw [List.getElem?_map] at hx
    cases e : qs[n]? with
    | none => rw [e] at hx; cases hx
    | some q =>
      rw [e] at hx
      obtain rfl : V.ref q.1 = x := Option.some.inj hx
      have ea : is[n]? = some q.2 := by rw [← eqs, List.getElem?_map, e]; rfl
      refine step n q H2 (fun y z H3 => ∃ (kvs2 : List (List Key × V)) (k : List Key) (b : Addr), y = .ref b ∧ H3 b = some (.tup (k.map kV)) ∧ H3 D = some (.dT kvs2) ∧ kvs2.length < sizeLine ∧ (L2.Same H1 (upd H3 D (.dT (putK kvs2 k z))) ∧ (upd H3 D (.dT (putK kvs2 k z))) D = some (.dT (mergeT [] ((is.take (n + 1)).map fun a => (key2 a, val2 a)))))) _ (fun σ2 H3 hh => hh) e s2 fun b H3 s3 hb => ?_
      refine ⟨_, key2 q.2, b, rfl, hb, s3 _ _ hD2, ?_, fun c o e => ?_, ?_⟩
      · have := length_mergeT ((is.take n).map fun a => (key2 a, val2 a)) []
        rw [List.length_map, List.length_take, List.length_nil] at this
        exact small1000 (by omega)
      · rw [upd_ne (ne_of_none e hD)]
        exact s3 _ _ (s2 _ _ e)
      · rw [upd_same, take_next' ea, List.map_append]
        exact congrArg (fun z => some (HO.dT z)) (mergeT_snoc ((is.take n).map fun a => (key2 a, val2 a)) [] (key2 q.2, val2 q.2)).symm
  · rintro H2 ⟨s2, hD2⟩
    rw [List.length_map, lq, List.take_length] at hD2
    exact k D H1 H2 s1 s2 hD hD2
end
end KT
set_option Elab.async false
set_option linter.all false
set_option maxRecDepth 100000
set_option maxHeartbeats 4000000
namespace KT
open PySem L2 PyProof.Rows DTp
/-- built-ins that the program asks -/
structure Blp (mg : Str → Option Value) : Prop where
  isi : mg "isinstance" = none
  all : mg "all" = none
  sorted : mg "sorted" = none
  str : mg "str" = none
  bool : mg "bool" = none
  tuple : mg "tuple" = none
  list : mg "list" = none
  dict : mg "dict" = none
  letters : ∃ t, mg "LETTERS" = some (.str "abcdefghijklmnopqrstuvwxyz" t)
  longest : ∃ t, mg "LONGEST_WORD" = some (.int 8 t)
theorem boot_isi : bootBuiltins "isinstance" = some (.builtin "isinstance") := by decide +kernel
section
variable {J : It} {n : Nat} {G : Hp → Prop} {Y : Nat → Hp → V → Hp → Prop}
/-- a list of tests, all of them true -/
theorem lc_true (W : Walk J n G Y) {g : TG} {te : TE} {vs : List Nat} {σ : L2.St} {H1 : Hp} {D : Addr} {Qd : Hp → Prop} (few : n ≤ 1000) (hD : H1 D = none) (stay : ∀ H', L2.Same H1 H' → G H')
    (step : ∀ i x H H' (R : VK), i < n → L2.Same H1 H → Y i H x H' → (∀ H3, L2.Same H H3 → R (.bl true) H3) → g x (wipe σ vs) H' fun σ2 H2 => wipe σ2 vs = wipe σ vs ∧ te σ2 H2 R)
    (done : ∀ H', L2.Same H1 H' → H' D = some (.lst ((List.replicate n true).map V.bl)) → Qd H') :
    ∃ W : Nat → Nat → Hp → Prop, (∃ m, W 0 m (upd H1 D (.lst []))) ∧ ∀ i m H, W i m H →
      (J.stop i H ∧ Qd H) ∨ (J.go i H ∧ ∃ Nx : Hp → Prop, (∀ H', Nx H' → ∃ m', m' < m ∧ W (i + 1) m' H') ∧ ∀ x H', J.yld i H x H' → g x (wipe σ vs) H' fun σ2 H2 => wipe σ2 vs = wipe σ vs ∧ tYes σ2 H2 fun b H3 =>
        if b = true then te σ2 H3 fun y H4 => ∃ acc, H4 D = some (.lst acc) ∧ acc.length < sizeLine ∧ Nx (upd H4 D (.lst (acc ++ [y]))) else Nx H3) := by
  refine lc_it W (tt := tYes) (fun i H' => L2.Same H1 H' ∧ H' D = some (.lst ((List.replicate i true).map V.bl))) ⟨Same.new hD, upd_same⟩ (fun i H' _ h => stay H' h.1) (fun i x H H' hi h y => ?_) (fun H' h => done H' h.1 h.2)
  obtain ⟨s1, hDp⟩ := h
  refine step i x H H' _ hi s1 y fun H3 s2 => ⟨_, s2 _ _ hDp, ?_, fun c o e => ?_, ?_⟩
  · rw [List.length_map, List.length_replicate]
    exact small1000 (by omega)
  · rw [upd_ne (ne_of_none e hD)]
    exact s2 _ _ (s1 _ _ e)
  · rw [upd_same, List.replicate_succ', List.map_append]
    rfl
end
theorem all_true (n : Nat) : (List.replicate n true).all id = true := by
  induction n with
  | zero => rfl
  | succ n ih => rw [List.replicate_succ, List.all_cons, ih]; rfl
theorem Wd.abc {x : Str} (h : Wd x) {c : Nat} (hc : c ∈ x.cps.toList) : c ∈ ("abcdefghijklmnopqrstuvwxyz" : Str).cps.toList := by
  have e : ("abcdefghijklmnopqrstuvwxyz" : Str).cps.toList = (List.range 26).map (· + 97) := by decide +kernel
  obtain ⟨h1, h2⟩ := h.2.2 c hc
  rw [e]
  exact List.mem_map.mpr ⟨c - 97, List.mem_range.mpr (by omega), by omega⟩
section
variable {P : Program} {w : World} {K : PySem.W.Frag} {mg : Str → Option Value} {base : Heap}
def spIsWord : Sp := fun vs H Q _ => ∃ x : Str, vs = [.str x] ∧ Wd x ∧ ∀ H', L2.Same H H' → Q (.bl true) H'
abbrev nIsWord : List Str := ["value", "letter"]
theorem scIsWord : FnScope nIsWord ["value"] (defScope pIsWord) := ⟨rfl, rfl, rfl, by decide +kernel, rfl, by decide +kernel, by decide +kernel⟩
theorem ok_isWord {f : Addr} {fd : FuncData} (F : Fun K "is_word" "is_word" pIsWord f fd) (T : Blt mg) (Z : Blp mg) : FnOk P w K mg base CX0 1 f fd ["value"] spIsWord := by
  refine F.ok scIsWord (fun vs H Q E h => ?_) (fun cdv A outer s H vs Q E hr h => ?_)
  · obtain ⟨x, rfl, _⟩ := h
    rfl
  · obtain ⟨x, rfl, wx, k⟩ := h
    have nd := scIsWord.nd
    obtain ⟨tl, ml⟩ := Z.letters
    obtain ⟨tn, mn⟩ := Z.longest
    refine ⟨_, pss_cons (ps_if (pt_cut <| PW.pt (pw_or (pt_not (pt_val (pe_callB call_isi (by rfl) Z.isi boot_isi (pa_cons (pv 0) (pa_cons (pe_bltn (v := .ty "str") (by rfl) Z.str (by decide +kernel) rfl) pa_nil)))))
          (pw_or1 (pt_not (pt_chain op_le op_le pe_int (pe_callB call_len (by rfl) T.len PySem.boot_len (pa_cons (pv 0) pa_nil)) (pe_glob (v := .int 8) rfl mn ⟨_, rfl⟩)))))) (pss_one (ps_ret pe_bl)) pss_nil)
      (pss_one (ps_ret (pe_callB (cr_all rfl) (by rfl) Z.all (by decide +kernel) (pa_cons
        (pe_lc (own := [("letter", 1)]) (g := gName 1) (tt := tYes) (te := tOp (fun x y H Q => ∃ (c : Nat) (z : Str), x = .str ⟨#[c]⟩ ∧ y = .str z ∧ Q (.bl (decide (c ∈ z.cps.toList))) H) (tVar 1) (tC (.str "abcdefghijklmnopqrstuvwxyz"))) rfl nd (pi_str (pv 0)) (blkOk_by (own := [("letter", 1)]) (N := nIsWord) (sc := defScope pIsWord) (by decide +kernel))
          (fun _ _ _ _ _ => pg_name (i := 1) nd rfl (Or.inl rfl)) (fun _ _ _ _ _ => pts_nil) (fun _ _ _ _ _ => pe_cmpR op_in_sign (pv 1) (pe_glob rfl ml ⟨_, rfl⟩) (by rfl))) pa_nil)))), ?_⟩
    have w1 := wx.1
    have w2 := wx.2.1
    refine ⟨fun b H' => b = false ∧ H' = H, ?_, ?_⟩
    · refine ⟨_, rfl, _, _, _, _, true, rfl, .ty _, .base (.str _), kit_ty (by decide +kernel), _, rfl, ?_⟩
      refine iteF ?_
      refine ⟨_, rfl, _, x.length, rfl, ⟨by rw [sizeLine_eq]; omega, rfl⟩, _, _, rfl, rfl, _, rfl, ?_⟩
      rw [decide_eq_true (show (1 : Int) ≤ (x.length : Int) by omega)]
      refine iteT ⟨_, _, rfl, rfl, _, rfl, ?_⟩
      rw [decide_eq_true (show (x.length : Int) ≤ 8 by omega)]
      exact ⟨rfl, rfl⟩
    · rintro b H' ⟨rfl, rfl⟩
      refine iteF ?_
      refine ⟨_, rfl, _, rfl, fun D hD => ?_⟩
      refine lc_true walk_str (by show x.length ≤ 1000; omega) hD (fun _ _ => trivial) ?_ ?_
      · rintro i v H1 H2 R hi s1 ⟨rfl, c, hc, rfl⟩ kR
        have hm : c ∈ x.cps.toList := by
          rw [← Array.getElem?_toList] at hc
          exact List.mem_of_getElem? hc
        refine ⟨rfl, _, rfl, c, _, rfl, rfl, ?_⟩
        rw [decide_eq_true (wx.abc hm)]
        exact kR _ fun _ _ e => e
      · intro H1 s1 hD1
        refine ⟨D, _, rfl, SqL.of hD1, ?_⟩
        rw [all_true]
        exact k _ s1
end
end KT
set_option Elab.async false
set_option linter.all false
set_option maxRecDepth 100000
set_option maxHeartbeats 4000000
namespace KT
open PySem L2 PyProof.Rows DTp
section
variable {P : Program} {w : World} {K : PySem.W.Frag} {mg : Str → Option Value} {base : Heap}
def spIsCount : Sp := fun vs H Q _ => ∃ n : Int, vs = [.int n] ∧ 0 ≤ n ∧ Q (.bl true) H
def spIsPair : Sp := fun vs H Q _ => ∃ (a : Addr) (x y : Str), vs = [.ref a] ∧ H a = some (.tup [.str x, .str y]) ∧ Wd x ∧ Wd y ∧ ∀ H', L2.Same H H' → Q (.bl true) H'
theorem scIsPair : FnScope ["value"] ["value"] (defScope pIsPair) := ⟨rfl, rfl, rfl, by decide +kernel, rfl, by decide +kernel, by decide +kernel⟩
theorem ok_isPair {f : Addr} {fd : FuncData} (F : Fun K "_is_pair" "_is_pair" pIsPair f fd) (T : Blt mg) (Z : Blp mg) (C : Cee P w K mg base 1 "is_word" ["value"] spIsWord) : FnOk P w K mg base CX0 2 f fd ["value"] spIsPair := by
  refine F.ok scIsPair (fun vs H Q E h => ?_) (fun cdv A outer s H vs Q E hr h => ?_)
  · obtain ⟨a, x, y, rfl, _⟩ := h
    rfl
  · obtain ⟨a, x, y, rfl, ha, wx, wy, k⟩ := h
    refine ⟨_, pss_one (ps_ret (pe_and (pe_callB call_isi (by rfl) Z.isi boot_isi (pa_cons (pv 0) (pa_cons (pe_bltn (v := .ty "tuple") (by rfl) Z.tuple (by decide +kernel) rfl) pa_nil)))
      (pe_and (pe_cmpR op_eq (pe_callB call_len_seq (by rfl) T.len PySem.boot_len (pa_cons (pv 0) pa_nil)) pe_int (nomark _))
      (pe_and (pe_c C hr rfl (pa_cons (pe_ix ix_tup (pv 0) pe_int (fun _ _ => rfl)) pa_nil)) (pe_one (pe_c C hr rfl (pa_cons (pe_ix ix_tup (pv 0) pe_int (fun _ _ => rfl)) pa_nil))))))), ?_⟩
    refine ⟨_, rfl, _, _, _, _, true, rfl, .ty _, .base (.tup ha), kit_ty (by decide +kernel), _, rfl, iteT ?_⟩
    refine ⟨_, rfl, a, _, rfl, .inr (SqT.of ha), rfl, _, rfl, iteT ?_⟩
    refine ⟨_, rfl, a, _, _, _, rfl, rfl, SqT.of ha, atI_nat (j := 0) rfl, x, rfl, wx, fun H1 s1 => ⟨_, rfl, iteT ?_⟩⟩
    exact ⟨_, rfl, a, _, _, _, rfl, rfl, SqT.of (s1 _ _ ha), atI_nat (j := 1) rfl, y, rfl, wy, fun H2 s2 => k _ fun b o e => s2 _ _ (s1 _ _ e)⟩
end
end KT
set_option Elab.async false
set_option linter.all false
set_option maxRecDepth 100000
set_option maxHeartbeats 4000000
namespace KT
open PySem L2 PyProof.Rows DTp
/-- a table of words that may be read -/
def TabW (H : Hp) (a : Addr) (ws : List Str) (f : Str → Str → Str) : Prop := ∃ kvs, Rd H a (.dT kvs) ∧ TbG (SqW ws) keyP (valW f) kvs
theorem TabW.mono {H H' : Hp} {a : Addr} {ws : List Str} {f : Str → Str → Str} (s : L2.Same H H') (h : TabW H a ws f) : TabW H' a ws f := by
  obtain ⟨kvs, h1, h2⟩ := h
  rcases h1 with e | ⟨od, e⟩
  · exact ⟨kvs, .inl (s _ _ e), h2⟩
  · exact ⟨kvs, .inr ⟨od, s _ _ e⟩, h2⟩
theorem TabW.get {H : Hp} {a b : Addr} {ws : List Str} {f : Str → Str → Str} {x y : Str} (h : TabW H a ws f) (hx : x ∈ ws) (hy : y ∈ ws) (hb : H b = some (.tup [.str x, .str y])) : DGet H a (.ref b) (some (.str (f x y))) := by
  obtain ⟨kvs, h1, h2⟩ := h
  have e : DGet H a (.ref b) (valV kvs (keyP (x, y))) := .inr ⟨kvs, keyP (x, y), b, h1, rfl, hb, rfl⟩
  rw [h2.get (i := (x, y)) ⟨hx, hy⟩] at e
  exact e
theorem tbW_len {ws : List Str} {f : Str → Str → Str} {kvs : List (List Key × V)} (h : TbG (SqW ws) keyP (valW f) kvs) (n : ws.Nodup) : kvs.length = ws.length * ws.length := by
  obtain ⟨is, e1, ndi, e2⟩ := h.idxs keyP_inj
  have pm : is.Perm (pairsW ws) := (List.perm_ext_iff_of_nodup ndi (pairsW_nodup n)).mpr fun p => by rw [mem_pairsW, ← e2]
  rw [e1, List.length_map, pm.length_eq, pairsW_len]
theorem str_get {ws : List Str} {i : Nat} {x : V} (h : (ws.map V.str)[i]? = some x) : ∃ y, ws[i]? = some y ∧ x = .str y := by
  rw [List.getElem?_map] at h
  cases e : ws[i]? with
  | none => rw [e] at h; cases h
  | some y => rw [e] at h; exact ⟨y, rfl, (Option.some.inj h).symm⟩
section
variable {P : Program} {w : World} {K : PySem.W.Frag} {mg : Str → Option Value} {base : Heap}
def spIsFull : Sp := fun vs H Q _ => ∃ (a l : Addr) (kvs : List (List Key × V)) (ws : List Str) (f : Str → Str → Str), vs = [.ref a, .ref l] ∧ H a = some (.dT kvs) ∧ TbG (SqW ws) keyP (valW f) kvs ∧ KW ws f ∧ H l = some (.lst (ws.map V.str)) ∧ ∀ H', L2.Same H H' → Q (.bl true) H'
abbrev nFull : List Str := ["table", "words", "one", "other"]
theorem scFull : FnScope nFull ["table", "words"] (defScope pIsFull) := ⟨rfl, rfl, rfl, by decide +kernel, rfl, by decide +kernel, by decide +kernel⟩
theorem ok_isFull {f : Addr} {fd : FuncData} (F : Fun K "_is_full" "_is_full" pIsFull f fd) (T : Blt mg) (Z : Blp mg) : FnOk P w K mg base CX0 1 f fd ["table", "words"] spIsFull := by
  refine F.ok scFull (fun vs H Q E h => ?_) (fun cdv A outer s H vs Q E hr h => ?_)
  · obtain ⟨a, l, kvs, ws, f, rfl, _⟩ := h
    rfl
  · obtain ⟨a, l, kvs, ws, f, rfl, ha, tb, kw, hl, k⟩ := h
    have nd := scFull.nd
    refine ⟨_, pss_cons (ps_if (pt_cmpR op_ne (pe_callB call_len_dT (by rfl) T.len PySem.boot_len (pa_cons (pv 0) pa_nil)) (pe_op op_mul (pe_callB call_len_seq (by rfl) T.len PySem.boot_len (pa_cons (pv 1) pa_nil)) (pe_callB call_len_seq (by rfl) T.len PySem.boot_len (pa_cons (pv 1) pa_nil))) (nomark _)) (pss_one (ps_ret pe_bl)) pss_nil)
      (pss_one (ps_ret (pe_callB (cr_all rfl) (by rfl) Z.all (by decide +kernel) (pa_cons
        (GC.pe_lcs (own := [("one", 2), ("other", 3)]) (g := gName 2) (tt := tYes) (te := tAndV (tDIn (tTup (tCons (tVar 2) (tCons (tVar 3) tNil))) (tVar 0)) (tOp (rIn K false) (tDGet (tVar 0) (tTup (tCons (tVar 2) (tCons (tVar 3) tNil)))) (tVar 1))) rfl nd (pi_list (pv 1))
          (blkOk_by (own := [("one", 2), ("other", 3)]) (N := nFull) (sc := defScope pIsFull) (by decide +kernel)) (fun _ _ _ _ _ => pg_name (i := 2) nd rfl (Or.inl rfl)) (fun _ _ _ _ _ => pts_nil)
          (GC.cl1 (wi := iList K (tVar 1)) (g := gName 3) (tt := tYes) [3] (fun _ _ _ _ _ => pi_list (pv 1)) (fun _ _ _ _ _ => pg_name (i := 3) nd rfl (Or.inl rfl)) (fun _ _ _ _ _ => pts_nil) GC.cl0)
          ⟨(by show ∀ i ∈ [3], i ∈ [2, 3]; decide), trivial⟩
          (fun _ _ _ _ _ => pe_and (pe_cmp (pc_din (hu_of hr) (pe_tup (pa_cons (pv 2) (pa_cons (pv 3) pa_nil))) (pv 0)) (by rfl)) (pe_one (pe_cmpR op_in_seq (pe_dget (hu_of hr) (pv 0) (pe_tup (pa_cons (pv 2) (pa_cons (pv 3) pa_nil))) (fun _ _ => rfl)) (pv 1) (by rfl))))) pa_nil)))), ?_⟩
    have k4 := kw.few
    have n16 : ws.length * ws.length ≤ 16 := Nat.le_trans (Nat.mul_le_mul k4 k4) (by decide)
    refine ⟨_, rfl, a, kvs, rfl, ha, _, rfl, l, _, rfl, .inl (SqL.of hl), _, rfl, l, _, rfl, .inl (SqL.of hl), ?_⟩
    rw [List.length_map]
    refine ⟨_, _, rfl, rfl, .inl ⟨by omega, by omega⟩, rfl, _, rfl, ?_⟩
    rw [tbW_len tb kw.asc.nodup, decide_eq_true (show V.int ((ws.length * ws.length : Nat) : Int) = V.int ((ws.length : Int) * (ws.length : Int)) by rw [Int.natCast_mul])]
    refine iteF ?_
    refine ⟨_, rfl, l, rfl, ⟨_, SqL.of hl⟩, fun D hD => ?_⟩
    have tbH : TabW H a ws f := ⟨kvs, .inl ha, tb⟩
    refine GC.lp_it (walk_list (K := K) (a := l) (xs := ws.map V.str)) (fun i H' => L2.Same H H' ∧ ∃ m, m ≤ i * ws.length ∧ H' D = some (.lst ((List.replicate m true).map V.bl))) ?_ ?_ ?_ ?_
    · exact ⟨Same.new hD, 0, Nat.zero_le _, upd_same⟩
    · rintro i H1 _ ⟨s1, _⟩
      exact SqL.of (s1 _ _ hl)
    · rintro i x H0 H1 hi ⟨s1, m, hm, hD1⟩ ⟨rfl, hx⟩
      obtain ⟨x, ex, rfl⟩ := str_get hx
      have mx : x ∈ ws := List.mem_of_getElem? ex
      rw [List.length_map] at hi
      dsimp only
      refine at_name (σ' := [some (.ref a), some (.ref l), some (.str x), none]) rfl ?_
      refine ⟨rfl, yes_if ?_⟩
      refine ⟨_, rfl, l, rfl, ⟨_, SqL.of (s1 _ _ hl)⟩, ?_⟩
      refine GC.lp_it (walk_list (K := K) (a := l) (xs := ws.map V.str)) (fun j H' => L2.Same H H' ∧ ∃ m, m ≤ i * ws.length + j ∧ H' D = some (.lst ((List.replicate m true).map V.bl))) ?_ ?_ ?_ ?_
      · exact ⟨s1, m, by omega, hD1⟩
      · rintro j H2 _ ⟨s2, _⟩
        exact SqL.of (s2 _ _ hl)
      · rintro j y H2' H2 hj ⟨s2, m, hm, hD2⟩ ⟨rfl, hy⟩
        obtain ⟨y, ey, rfl⟩ := str_get hy
        have my : y ∈ ws := List.mem_of_getElem? ey
        rw [List.length_map] at hj
        dsimp only
        refine at_name (σ' := [some (.ref a), some (.ref l), some (.str x), some (.str y)]) rfl ?_
        refine ⟨rfl, yes_if ?_⟩
        refine ⟨_, rfl, _, rfl, (by show 2 ≤ sizeLine; decide), fun t1 ht1 => ?_⟩
        have a1 := Same.new (H := H2) (o := .tup [.str x, .str y]) ht1
        have a2 : upd H2 t1 (.tup [.str x, .str y]) t1 = _ := upd_same
        generalize upd H2 t1 (.tup [.str x, .str y]) = G1 at a1 a2 ⊢
        refine ⟨_, rfl, a, _, rfl, ((tbH.mono s2).mono a1).get mx my a2, _, rfl, iteT ?_⟩
        refine ⟨_, rfl, _, rfl, _, rfl, (by show 2 ≤ sizeLine; decide), fun t2 ht2 => ?_⟩
        have b1 := Same.new (H := G1) (o := .tup [.str x, .str y]) ht2
        have b2 : upd G1 t2 (.tup [.str x, .str y]) t2 = _ := upd_same
        generalize upd G1 t2 (.tup [.str x, .str y]) = G2 at b1 b2 ⊢
        have al : ∀ c o, H2 c = some o → G2 c = some o := fun c o e => b1 _ _ (a1 _ _ e)
        refine ⟨a, _, rfl, (((tbH.mono s2).mono a1).mono b1).get mx my b2, _, rfl, l, _, rfl, .inl (SqL.of (al _ _ (s2 _ _ hl))), rfl, flat_strs ws, ?_⟩
        rw [if_neg Bool.false_ne_true, inV_strs, decide_eq_true (kw.cl x y mx my)]
        refine ⟨_, al _ _ hD2, ?_, fun c o e => ?_, m + 1, by omega, ?_⟩
        · rw [List.length_map, List.length_replicate]
          have : i * ws.length ≤ ws.length * ws.length := Nat.mul_le_mul_right _ (by omega)
          exact small1000 (by omega)
        · rw [upd_ne (ne_of_none e hD)]
          exact al _ _ (s2 _ _ e)
        · rw [upd_same, List.replicate_succ', List.map_append]
          rfl
      · rintro H2 ⟨s2, m, hm, hD2⟩
        rw [List.length_map] at hm
        exact ⟨s2, m, by rw [Nat.succ_mul]; exact hm, hD2⟩
    · rintro H1 ⟨s1, m, hm, hD1⟩
      refine ⟨D, _, rfl, SqL.of hD1, ?_⟩
      rw [all_true]
      exact k _ s1
end
end KT
set_option Elab.async false
set_option linter.all false
set_option maxRecDepth 100000
set_option maxHeartbeats 4000000
namespace KT
open PySem L2 PyProof.Rows DTp
section
variable {P : Program} {w : World} {K : PySem.W.Frag} {mg : Str → Option Value} {base : Heap}
abbrev nFree : List Str := ["table", "words", "first", "second", "third"]
abbrev tGet2 (d : TE) (x y : TE) : TE := tDGet d (tTup (tCons x (tCons y tNil)))
theorem scFree : FnScope nFree ["table", "words"] (defScope pIsFree) := ⟨rfl, rfl, rfl, by decide +kernel, rfl, by decide +kernel, by decide +kernel⟩
theorem ok_isFree {f : Addr} {fd : FuncData} (F : Fun K "_is_free_of_brackets" "_is_free_of_brackets" pIsFree f fd) (T : Blt mg) (Z : Blp mg) : FnOk P w K mg base CX0 1 f fd ["table", "words"] spIsFull := by
  refine F.ok scFree (fun vs H Q E h => ?_) (fun cdv A outer s H vs Q E hr h => ?_)
  · obtain ⟨a, l, kvs, ws, f, rfl, _⟩ := h
    rfl
  · obtain ⟨a, l, kvs, ws, f, rfl, ha, tb, kw, hl, k⟩ := h
    have nd := scFree.nd
    refine ⟨_, pss_one (ps_ret (pe_callB (cr_all rfl) (by rfl) Z.all (by decide +kernel) (pa_cons
        (GC.pe_lcs (own := [("first", 2), ("second", 3), ("third", 4)]) (g := gName 2) (tt := tYes) (te := tOp rEq (tGet2 (tVar 0) (tGet2 (tVar 0) (tVar 2) (tVar 3)) (tVar 4)) (tGet2 (tVar 0) (tVar 2) (tGet2 (tVar 0) (tVar 3) (tVar 4)))) rfl nd (pi_list (pv 1))
          (blkOk_by (own := [("first", 2), ("second", 3), ("third", 4)]) (N := nFree) (sc := defScope pIsFree) (by decide +kernel)) (fun _ _ _ _ _ => pg_name (i := 2) nd rfl (Or.inl rfl)) (fun _ _ _ _ _ => pts_nil)
          (GC.cl1 (wi := iList K (tVar 1)) (g := gName 3) (tt := tYes) [3, 4] (fun _ _ _ _ _ => pi_list (pv 1)) (fun _ _ _ _ _ => pg_name (i := 3) nd rfl (Or.inl rfl)) (fun _ _ _ _ _ => pts_nil)
            (GC.cl1 (wi := iList K (tVar 1)) (g := gName 4) (tt := tYes) [4] (fun _ _ _ _ _ => pi_list (pv 1)) (fun _ _ _ _ _ => pg_name (i := 4) nd rfl (Or.inl rfl)) (fun _ _ _ _ _ => pts_nil) GC.cl0))
          ⟨(by show ∀ i ∈ [3, 4], i ∈ [2, 3, 4]; decide), (by show ∀ i ∈ [4], i ∈ [3, 4]; decide), trivial⟩
          (fun _ _ _ _ _ => pe_cmpR op_eq (pe_dget (hu_of hr) (pv 0) (pe_tup (pa_cons (pe_dget (hu_of hr) (pv 0) (pe_tup (pa_cons (pv 2) (pa_cons (pv 3) pa_nil))) (fun _ _ => rfl)) (pa_cons (pv 4) pa_nil))) (fun _ _ => rfl))
            (pe_dget (hu_of hr) (pv 0) (pe_tup (pa_cons (pv 2) (pa_cons (pe_dget (hu_of hr) (pv 0) (pe_tup (pa_cons (pv 3) (pa_cons (pv 4) pa_nil))) (fun _ _ => rfl)) pa_nil))) (fun _ _ => rfl)) (nomark _))) pa_nil))), ?_⟩
    have k4 := kw.few
    refine ⟨_, rfl, l, rfl, ⟨_, SqL.of hl⟩, fun D hD => ?_⟩
    have tbH : TabW H a ws f := ⟨kvs, .inl ha, tb⟩
    refine GC.lp_it (walk_list (K := K) (a := l) (xs := ws.map V.str)) (fun i H' => L2.Same H H' ∧ ∃ m, m ≤ i * 16 ∧ H' D = some (.lst ((List.replicate m true).map V.bl))) ?_ ?_ ?_ ?_
    · exact ⟨Same.new hD, 0, Nat.zero_le _, upd_same⟩
    · rintro i H1 _ ⟨s1, _⟩
      exact SqL.of (s1 _ _ hl)
    · rintro i x H0 H1 hi ⟨s1, m, hm, hD1⟩ ⟨rfl, hx⟩
      obtain ⟨x, ex, rfl⟩ := str_get hx
      have mx : x ∈ ws := List.mem_of_getElem? ex
      rw [List.length_map] at hi
      dsimp only
      refine at_name (σ' := [some (.ref a), some (.ref l), some (.str x), none, none]) rfl ?_
      refine ⟨rfl, yes_if ?_⟩
      refine ⟨_, rfl, l, rfl, ⟨_, SqL.of (s1 _ _ hl)⟩, ?_⟩
      refine GC.lp_it (walk_list (K := K) (a := l) (xs := ws.map V.str)) (fun j H' => L2.Same H H' ∧ ∃ m, m ≤ i * 16 + j * 4 ∧ H' D = some (.lst ((List.replicate m true).map V.bl))) ?_ ?_ ?_ ?_
      · exact ⟨s1, m, by omega, hD1⟩
      · rintro j H2 _ ⟨s2, _⟩
        exact SqL.of (s2 _ _ hl)
      · rintro j y H2' H2 hj ⟨s2, m, hm, hD2⟩ ⟨rfl, hy⟩
        obtain ⟨y, ey, rfl⟩ := str_get hy
        have my : y ∈ ws := List.mem_of_getElem? ey
        rw [List.length_map] at hj
        dsimp only
        refine at_name (σ' := [some (.ref a), some (.ref l), some (.str x), some (.str y), none]) rfl ?_
        refine ⟨rfl, yes_if ?_⟩
        refine ⟨_, rfl, l, rfl, ⟨_, SqL.of (s2 _ _ hl)⟩, ?_⟩
        refine GC.lp_it (walk_list (K := K) (a := l) (xs := ws.map V.str)) (fun r H' => L2.Same H H' ∧ ∃ m, m ≤ i * 16 + j * 4 + r ∧ H' D = some (.lst ((List.replicate m true).map V.bl))) ?_ ?_ ?_ ?_
        · exact ⟨s2, m, by omega, hD2⟩
        · rintro r H3 _ ⟨s3, _⟩
          exact SqL.of (s3 _ _ hl)
        · rintro r z H3' H3 hr3 ⟨s3, m, hm, hD3⟩ ⟨rfl, hz⟩
          obtain ⟨z, ez, rfl⟩ := str_get hz
          have mz : z ∈ ws := List.mem_of_getElem? ez
          rw [List.length_map] at hr3
          dsimp only
          refine at_name (σ' := [some (.ref a), some (.ref l), some (.str x), some (.str y), some (.str z)]) rfl ?_
          refine ⟨rfl, yes_if ?_⟩
          have mxy := kw.cl x y mx my
          have myz := kw.cl y z my mz
          refine ⟨_, rfl, _, rfl, _, rfl, _, rfl, (by show 2 ≤ sizeLine; decide), fun t1 ht1 => ?_⟩
          have a1 := Same.new (H := H3) (o := .tup [.str x, .str y]) ht1
          have a2 : upd H3 t1 (.tup [.str x, .str y]) t1 = _ := upd_same
          generalize upd H3 t1 (.tup [.str x, .str y]) = G1 at a1 a2 ⊢
          refine ⟨a, _, rfl, ((tbH.mono s3).mono a1).get mx my a2, _, rfl, (by show 2 ≤ sizeLine; decide), fun t2 ht2 => ?_⟩
          have b1 := Same.new (H := G1) (o := .tup [.str (f x y), .str z]) ht2
          have b2 : upd G1 t2 (.tup [.str (f x y), .str z]) t2 = _ := upd_same
          generalize upd G1 t2 (.tup [.str (f x y), .str z]) = G2 at b1 b2 ⊢
          refine ⟨a, _, rfl, (((tbH.mono s3).mono a1).mono b1).get mxy mz b2, ?_⟩
          refine ⟨_, rfl, _, rfl, _, rfl, _, rfl, _, rfl, (by show 2 ≤ sizeLine; decide), fun t3 ht3 => ?_⟩
          have c1 := Same.new (H := G2) (o := .tup [.str y, .str z]) ht3
          have c2 : upd G2 t3 (.tup [.str y, .str z]) t3 = _ := upd_same
          generalize upd G2 t3 (.tup [.str y, .str z]) = G3 at c1 c2 ⊢
          refine ⟨a, _, rfl, ((((tbH.mono s3).mono a1).mono b1).mono c1).get my mz c2, (by show 2 ≤ sizeLine; decide), fun t4 ht4 => ?_⟩
          have d1 := Same.new (H := G3) (o := .tup [.str x, .str (f y z)]) ht4
          have d2 : upd G3 t4 (.tup [.str x, .str (f y z)]) t4 = _ := upd_same
          generalize upd G3 t4 (.tup [.str x, .str (f y z)]) = G4 at d1 d2 ⊢
          have al : ∀ b o, H3 b = some o → G4 b = some o := fun b o e => d1 _ _ (c1 _ _ (b1 _ _ (a1 _ _ e)))
          refine ⟨a, _, rfl, (((((tbH.mono s3).mono a1).mono b1).mono c1).mono d1).get mx myz d2, rfl, ?_⟩
          rw [kw.as x y z mx my mz, decide_eq_true rfl]
          refine ⟨_, al _ _ hD3, ?_, fun c o e => ?_, m + 1, by omega, ?_⟩
          · rw [List.length_map, List.length_replicate]
            exact small1000 (by omega)
          · rw [upd_ne (ne_of_none e hD)]
            exact al _ _ (s3 _ _ e)
          · rw [upd_same, List.replicate_succ', List.map_append]
            rfl
        · rintro H3 ⟨s3, m, hm, hD3⟩
          rw [List.length_map] at hm
          exact ⟨s3, m, by omega, hD3⟩
      · rintro H2 ⟨s2, m, hm, hD2⟩
        rw [List.length_map] at hm
        exact ⟨s2, m, by omega, hD2⟩
    · rintro H1 ⟨s1, m, hm, hD1⟩
      refine ⟨D, _, rfl, SqL.of hD1, ?_⟩
      rw [all_true]
      exact k _ s1
end
end KT
set_option Elab.async false
set_option linter.all false
set_option maxRecDepth 100000
set_option maxHeartbeats 4000000
namespace KT
open PySem L2 PyProof.Rows DTp TxS
theorem added_mem {L : List Str} {k x : Str} : x ∈ added L k ↔ x ∈ L ∨ x = k := by
  unfold added
  by_cases h : k ∈ L
  · rw [if_pos h]
    exact ⟨.inl, fun q => q.elim id fun e => e ▸ h⟩
  · rw [if_neg h, List.mem_append, List.mem_singleton]
theorem added_nodup {L : List Str} {k : Str} (n : L.Nodup) : (added L k).Nodup := by
  unfold added
  by_cases h : k ∈ L
  · rw [if_pos h]; exact n
  · rw [if_neg h]
    exact List.nodup_append.mpr ⟨n, by simp, fun a ha b hb e => h (by rw [← List.mem_singleton.mp hb, ← e]; exact ha)⟩
section
variable {P : Program} {w : World} {K : PySem.W.Frag} {mg : Str → Option Value} {base : Heap}
/-- sorted({one for one, _ in table}) -/
theorem rd_words {te0 : TE} {tg iter : Expr} {ifs : List Expr} {i j : Nat} {vs : List Nat} {σ : L2.St} {H : Hp} {Q : VK} {d : Addr} {kvs : List (List Key × V)} {ws : List Str} {f : Str → Str → Str}
    (hi : ∀ od (R : VK), R (.ref d) (upd H d (.frz od (.dT kvs))) → te0 σ (upd H d (.frz od (.dT kvs))) R) (hd : H d = some (.dT kvs)) (tb : TbG (SqW ws) keyP (valW f) kvs) (kw : KW ws f)
    (hw : ∀ a b, wipe (((wipe σ vs).set i (some a)).set j (some b)) vs = wipe σ vs) (hg : ∀ a b, (((wipe σ vs).set i (some a)).set j (some b))[i]? = some (some a))
    (k : ∀ l H', L2.Same H H' → H l = none → H' l = some (.lst (ws.map V.str)) → Q (.ref l) H') :
    tCB (rSortX w) (tCons (tLockE (GC.tCo (fun D => SetX w D []) ⟨tg, iter, ifs, iKeys te0, gXY K i j, tYes, vs⟩ [] (emX w (tVar i)))) tNil) σ H Q := by
  obtain ⟨is, e1, ndi, e2⟩ := tb.idxs keyP_inj
  have li : is.length = kvs.length := by rw [e1, List.length_map]
  refine ⟨d, .dT kvs, hd, trivial, fun od => ?_⟩
  refine hi od _ ⟨d, od, rfl, .inr ⟨kvs, upd_same, fun D hD => ?_⟩⟩
  have nDd : D ≠ d := fun e => by rw [e, upd_same] at hD; cases hD
  have hD0 : H D = none := by rw [upd_ne nDd] at hD; exact hD
  have small : ∀ L : List Str, L.Nodup → (∀ x ∈ L, x ∈ ws) → L.length ≤ 4 := fun L n h => Nat.le_trans (List.Nodup.length_le_of_subset n h) kw.few
  refine GC.lp_it walk_keysT (fun n H' => ∃ L : List Str, L2.Same (upd H d (.frz od (.dT kvs))) H' ∧ H' D = some (SetX w D L) ∧ L.Nodup ∧ ∀ x, x ∈ L ↔ x ∈ (is.take n).map (·.1)) ?_ ?_ ?_ ?_
  · exact ⟨[], Same.new hD, upd_same, .nil, fun x => by simp⟩
  · rintro i H1 _ ⟨L, s1, _⟩
    exact s1 _ _ upd_same
  · rintro n x H0 H1 hn ⟨L, s1, hD1, nL, mL⟩ ⟨rfl, kk, v, q, hk, rfl, hq⟩
    have hn' : n < is.length := by omega
    have ea : is[n]? = some is[n] := List.getElem?_eq_getElem hn'
    have ek : kvs[n]? = some (keyP is[n], valW f is[n]) := by
      have e3 := congrArg (fun l : List (List Key × V) => l[n]?) e1
      simp only [List.getElem?_map, ea] at e3
      exact e3
    rw [hk] at ek
    have ek := Option.some.inj ek
    have mi := (e2 is[n]).mpr (List.getElem_mem hn')
    obtain ⟨⟨x, y⟩, exy⟩ : ∃ a, a = is[n] := ⟨_, rfl⟩
    rw [← exy] at ek ea mi
    obtain ⟨rfl, rfl⟩ : kk = keyP (x, y) ∧ v = valW f (x, y) := ⟨congrArg Prod.fst ek, congrArg Prod.snd ek⟩
    have hq' : H1 q = some (.tup [.str x, .str y]) := hq
    have inw : ∀ z, z ∈ L → z ∈ ws := fun z hz => by
      obtain ⟨p, hp, rfl⟩ := List.mem_map.mp ((mL z).mp hz)
      exact ((e2 p).mpr (List.mem_of_mem_take hp)).1
    have l4 := small L nL inw
    refine ⟨q, _, rfl, SqT.of hq', rfl, _, _, rfl, _, _, rfl, rfl, hw _ _, ?_⟩
    dsimp only
    refine yes_if ?_
    refine ⟨_, hg _ _, x, L, rfl, hD1, ?_, added L x, fun c o e => ?_, upd_same, added_nodup nL, fun z => ?_⟩
    · have : (100 : Nat) < scanBound := by decide +kernel
      omega
    · rw [upd_ne (ne_of_none e hD)]
      exact s1 _ _ e
    · rw [added_mem, mL, take_next' ea, List.map_append, List.mem_append]
      simp
  · rintro H1 ⟨L, s1, hD1, nL, mL⟩
    rw [← li, List.take_length] at mL
    have hdl : H1 d = some (.frz od (.dT kvs)) := s1 _ _ upd_same
    have mW : ∀ z, z ∈ L ↔ z ∈ ws := fun z => by
      rw [mL, List.mem_map]
      constructor
      · rintro ⟨p, hp, rfl⟩
        exact ((e2 p).mpr hp).1
      · intro hz
        exact ⟨(z, z), (e2 (z, z)).mp ⟨hz, hz⟩, rfl⟩
    have l4 := small L nL fun z hz => (mW z).mp hz
    refine ⟨hdl, D, L, rfl, ?_, by omega, fun ys l pm so hl => ?_⟩
    · rw [upd_ne nDd]; exact hD1
    · have same : L2.Same H (upd H1 d (.dT kvs)) := fun b o e => by
        by_cases hb : b = d
        · rw [hb] at e ⊢
          rw [hd] at e
          rw [upd_same]; exact e
        · rw [upd_ne hb]
          exact s1 _ _ ((upd_ne hb).trans e)
      have hl0 := same.free hl
      have asc := sortedS_asc so (pm.nodup_iff.mpr nL)
      have ey : ys = ws := asc.eq kw.asc ((List.perm_ext_iff_of_nodup (pm.nodup_iff.mpr nL) kw.asc.nodup).mpr fun z => by rw [pm.mem_iff, mW])
      rw [ey]
      refine k l _ (fun b o e => ?_) hl0 upd_same
      rw [upd_ne (ne_of_none e hl0)]
      exact same _ _ e
def spIsTable : Sp := fun vs H Q _ => ∃ (a : Addr) (kvs : List (List Key × V)) (ws : List Str) (f : Str → Str → Str), vs = [.ref a] ∧ H a = some (.dT kvs) ∧ TbG (SqW ws) keyP (valW f) kvs ∧ KW ws f ∧ ∀ H', L2.Same H H' → Q (.bl true) H'
abbrev nIsTable : List Str := ["table", "words", "pair", "one", "_"]
theorem scIsTable : FnScope nIsTable ["table"] (defScope pIsTable) := ⟨rfl, rfl, rfl, by decide +kernel, rfl, by decide +kernel, by decide +kernel⟩
structure IsTC (P : Program) (w : World) (K : PySem.W.Frag) (mg : Str → Option Value) (base : Heap) : Prop where
  pair : Cee P w K mg base 2 "_is_pair" ["value"] spIsPair
  full : Cee P w K mg base 1 "_is_full" ["table", "words"] spIsFull
  free : Cee P w K mg base 1 "_is_free_of_brackets" ["table", "words"] spIsFull
theorem ok_isTable {f : Addr} {fd : FuncData} (F : Fun K "_is_table" "_is_table" pIsTable f fd) (T : Blt mg) (Z : Blp mg) (C : IsTC P w K mg base) : FnOk P w K mg base CX0 3 f fd ["table"] spIsTable := by
  refine F.ok scIsTable (fun vs H Q E h => ?_) (fun cdv A outer s H vs Q E hr h => ?_)
  · obtain ⟨a, kvs, ws, f, rfl, _⟩ := h
    rfl
  · obtain ⟨a, kvs, ws, f, rfl, ha, tb, kw, k⟩ := h
    have nd := scIsTable.nd
    refine ⟨_, pss_cons (ps_if (pt_cut <| PW.pt (pw_or (pt_not (pt_val (pe_callB call_isi (by rfl) Z.isi boot_isi (pa_cons (pv 0) (pa_cons (pe_bltn (v := .ty "dict") (by rfl) Z.dict (by decide +kernel) rfl) pa_nil)))))
          (pw_or1 (pt_cmpR op_eq (pe_callB call_len_dT (by rfl) T.len PySem.boot_len (pa_cons (pv 0) pa_nil)) pe_int (nomark _))))) (pss_one (ps_ret pe_bl)) pss_nil)
      (pss_cons (ps_if (pt_not (pt_val (pe_callB (cr_all rfl) (by rfl) Z.all (by decide +kernel) (pa_cons (pe_lock
          (pe_lc (own := [("pair", 2)]) (g := gName 2) (tt := tYes) (te := tCall spIsPair [] E0 (tCons (tVar 2) tNil)) rfl nd (pi_keys (pv 0)) (blkOk_by (own := [("pair", 2)]) (N := nIsTable) (sc := defScope pIsTable) (by decide +kernel))
            (fun _ _ _ _ _ => pg_name (i := 2) nd rfl (Or.inl rfl)) (fun _ _ _ _ _ => pts_nil) (fun _ _ _ _ _ => pe_c C.pair hr rfl (pa_cons (pv 2) pa_nil)))) pa_nil)))) (pss_one (ps_ret pe_bl)) pss_nil)
      (pss_cons (ps_set (i := 1) nd rfl (Or.inl rfl) (pe_callB (cr_sortX rfl) (by rfl) Z.sorted (by decide +kernel) (pa_cons (pe_lock
          (pe_scX (own := [("one", 3), ("_", 4)]) (g := gXY K 3 4) (tt := tYes) (te := tVar 3) rfl nd (pi_keys (pv 0)) (blkOk_by (own := [("one", 3), ("_", 4)]) (N := nIsTable) (sc := defScope pIsTable) (by decide +kernel))
            (fun _ _ _ _ _ => pg_tup rfl (pgs_cons (pg_name (i := 3) nd rfl (Or.inl rfl)) (pgs_cons (pg_name (i := 4) nd rfl (Or.inl rfl)) pgs_nil))) (fun _ _ _ _ _ => pts_nil) GC.cl0 trivial (fun _ _ _ _ _ => pv 3))) pa_nil)))
      (pss_one (ps_ret (pe_and (pe_c C.full hr rfl (pa_cons (pv 0) (pa_cons (pv 1) pa_nil))) (pe_one (pe_c C.free hr rfl (pa_cons (pv 0) (pa_cons (pv 1) pa_nil))))))))), ?_⟩
    have kl := tbW_len tb kw.asc.nodup
    have k4 := kw.few
    have k1 := kw.pos
    have n16 : ws.length * ws.length ≤ 16 := Nat.le_trans (Nat.mul_le_mul k4 k4) (by decide)
    have n1 : 0 < ws.length * ws.length := Nat.mul_pos k1 k1
    refine ⟨fun b H' => b = false ∧ H' = H, ?_, ?_⟩
    · refine ⟨_, rfl, _, _, _, _, true, rfl, .ty _, .base (.dT ha), kit_ty (by decide +kernel), _, rfl, iteF ?_⟩
      refine ⟨_, rfl, a, kvs, rfl, ha, rfl, _, rfl, ?_⟩
      rw [decide_eq_false]
      · exact ⟨rfl, rfl⟩
      · intro e
        injection e with e
        omega
    · rintro b H' ⟨rfl, e0⟩
      subst H'
      refine iteF ?_
      obtain ⟨is, e1, ndi, e2⟩ := tb.idxs keyP_inj
      have li : is.length = kvs.length := by rw [e1, List.length_map]
      refine ⟨a, .dT kvs, ha, trivial, fun od => ?_⟩
      refine ⟨_, rfl, a, od, rfl, .inr ⟨kvs, upd_same, fun D hD => ?_⟩⟩
      have nDa : D ≠ a := fun e => by rw [e, upd_same] at hD; cases hD
      refine lc_true walk_keysT (by omega) hD (fun H' s => s _ _ upd_same) ?_ ?_
      · rintro n x H0 H1 R hn s1 ⟨rfl, kk, v, q, hk, rfl, hq⟩ kR
        have hn' : n < is.length := by omega
        have ek : kvs[n]? = some (keyP is[n], valW f is[n]) := by
          have e3 := congrArg (fun l : List (List Key × V) => l[n]?) e1
          simp only [List.getElem?_map, List.getElem?_eq_getElem hn'] at e3
          exact e3
        rw [hk] at ek
        have ek := Option.some.inj ek
        have mi := (e2 is[n]).mpr (List.getElem_mem hn')
        obtain ⟨⟨x, y⟩, exy⟩ : ∃ a, a = is[n] := ⟨_, rfl⟩
        rw [← exy] at ek mi
        obtain ⟨rfl, rfl⟩ : kk = keyP (x, y) ∧ v = valW f (x, y) := ⟨congrArg Prod.fst ek, congrArg Prod.snd ek⟩
        have hq' : H1 q = some (.tup [.str x, .str y]) := hq
        refine ⟨rfl, _, rfl, q, x, y, rfl, hq', kw.wd x mi.1, kw.wd y mi.2, fun H3 s3 => kR _ s3⟩
      · intro H1 s1 hD1
        refine ⟨s1 _ _ upd_same, ?_⟩
        have hD2 : (upd H1 a (.dT kvs)) D = some (.lst ((List.replicate kvs.length true).map V.bl)) := (upd_ne nDa).trans hD1
        refine ⟨D, _, rfl, SqL.of hD2, _, rfl, ?_⟩
        rw [all_true]
        refine iteF ?_
        have s2 : L2.Same H (upd H1 a (.dT kvs)) := fun b o e => by
          by_cases hb : b = a
          · rw [hb] at e ⊢
            rw [ha] at e
            rw [upd_same]; exact e
          · rw [upd_ne hb]
            exact s1 _ _ ((upd_ne hb).trans e)
        have ha2 := s2 _ _ ha
        generalize upd H1 a (.dT kvs) = G at s2 ha2 ⊢
        refine rd_words (f := f) (fun od R hh => ⟨_, rfl, hh⟩) ha2 tb kw (fun _ _ => rfl) (fun _ _ => rfl) fun l H2 s3 hl0 hl => ?_
        refine at_name (σ' := [some (.ref a), some (.ref l), none, none, none]) rfl ?_
        refine ⟨_, rfl, _, rfl, a, l, kvs, ws, f, rfl, s3 _ _ ha2, tb, kw, hl, fun H3 s4 => ⟨_, rfl, iteT ?_⟩⟩
        refine ⟨_, rfl, _, rfl, a, l, kvs, ws, f, rfl, s4 _ _ (s3 _ _ ha2), tb, kw, s4 _ _ hl, fun H5 s5 => k _ fun b o e => s5 _ _ (s4 _ _ (s3 _ _ (s2 _ _ e)))⟩
end
end KT
set_option Elab.async false
set_option linter.all false
set_option maxRecDepth 100000
set_option maxHeartbeats 4000000
namespace KT
open PySem L2 PyProof.Rows DTp TxS
theorem u0 {u : Nat} (h : u + 64 < cLine) : u < cLine := by omega
theorem k_tw : ¬ (("_table" : Str) = "_words") := by decide +kernel
def flds (d l : Addr) : List (Str × V) := putF "_words" (.ref l) (putF "_table" (.ref d) [])
theorem flds_eq (d l : Addr) : flds d l = ([("_table", V.ref d), ("_words", V.ref l)] : List (Str × V)) := by
  show (if ("_table" : Str) = "_words" then [(("_table" : Str), V.ref l)] else (("_table" : Str), V.ref d) :: putF "_words" (V.ref l) []) = ([("_table", V.ref d), ("_words", V.ref l)] : List (Str × V))
  rw [if_neg k_tw]
  all_goals rfl
theorem flds_t (d l : Addr) : (flds d l).lookup ("_table" : Str) = some (.ref d) := by
  unfold flds
  rw [lookup_putF, if_neg k_tw, lookup_putF, if_pos rfl]
theorem flds_w (d l : Addr) : (flds d l).lookup ("_words" : Str) = some (.ref l) := by
  unfold flds
  rw [lookup_putF, if_pos rfl]
theorem flds_no (d l : Addr) {m : Str} (h1 : ¬ m = "_words") (h2 : ¬ m = "_table") : (flds d l).lookup m = none := by
  unfold flds
  rw [lookup_putF, if_neg h1, lookup_putF, if_neg h2]
  all_goals rfl
/-- the Kinds of f over ws stands at p -/
structure KdIn (C : Addr) (H : Hp) (p dx d l : Addr) (ws : List Str) (f : Str → Str → Str) : Prop where
  ob : H p = some (.ins C dx (flds d l))
  dc : H d = some (.dT (tabW ws f))
  ls : H l = some (.lst (ws.map V.str))
  kw : KW ws f
def KdAt (C : Addr) (H : Hp) (p : Addr) (ws : List Str) (f : Str → Str → Str) : Prop := ∃ dx d l, KdIn C H p dx d l ws f
theorem KdAt.mono {C : Addr} {H H' : Hp} {p : Addr} {ws : List Str} {f : Str → Str → Str} (s : L2.Same H H') (h : KdAt C H p ws f) : KdAt C H' p ws f := let ⟨dx, d, l, k⟩ := h; ⟨dx, d, l, s _ _ k.ob, s _ _ k.dc, s _ _ k.ls, k.kw⟩
/-- what the walk asks of the class -/
structure KTx (K : PySem.W.Frag) (mg : Str → Option Value) (C : Addr) : Prop where
  cl : L2.Cls K C
  nT : NoAttr K C "_table"
  nW : NoAttr K C "_words"
  mgC : mg "Kinds" = some (.ref C)
  ha : PySem.W.findIn K (.ref C) "__class__" = some (some (.builtin "object.__class__"))
  hn : PySem.W.specialIn K (.builtin "object.__class__") "__get__" = some (some (.builtin "getset_descriptor.__get__"))
  htk : PySem.W.takesIn K (.builtin "object.__class__") = some true
  hm : PySem.W.mroIn K C (.type "object") = some true
  own : PySem.W.kitOne K (.ref C) (.ref C) = some true
theorem KTx.ty {K : PySem.W.Frag} {mg : Str → Option Value} {C p dx : Addr} {fs : List (Str × V)} {H : Hp} (T : KTx K mg C) (h : H p = some (.ins C dx fs)) : TyX K H (.ref p) (.ref C) := .base (.ins h T.cl T.ha T.hn T.htk T.hm)
/-- a method as its callers know it -/
structure Mee (P : Program) (w : World) (K : PySem.W.Frag) (mg : Str → Option Value) (base : Heap) (C : Addr) (k : Nat) (m : Str) (ps : List Str) (sp : Sp) : Prop where
  ex : ∃ (f : Addr) (fd : FuncData), Meth K C m f ∧ FnOk P w K mg base CX0 k f fd ps sp ∧ Binds K fd ps []
section
variable {X : Cx} {k j : Nat} {m : Str} {ps : List Str} {sp : Sp} {apos pos : Pos} {o e : Expr} {es : List Expr} {to : TE} {t : TA} {C : Addr}
theorem pe_m0 {pl : Sem Bool} (M : Mee X.prog X.w X.K X.mg X.base C k m ps sp) (c : L2.Cls X.K C) (hr : Room j X.A) (he : PE X o to) (hkj : k ≤ j := by decide)
    (ht : eval (.Call (.Attribute o m apos) [] [] pos) X.env = (do
      let ov ← eval o X.env
      standAt apos.atName
      let (f, first) ← holding [ov] (getMethod ov m pl)
      callWith pos f first (backTo pos (starEach [] X.env)) (backToKw pos (keywordEach [] X.env))) := by rfl) :
    PE X (.Call (.Attribute o m apos) [] [] pos) (tMeth C m sp [] E0 to tNil) := by
  obtain ⟨f, fd, h1, h2, h3⟩ := M.ex
  exact pe_meth0 he c h1 h2 (hr.mono hkj) h3 .nil pass0 ht
theorem pe_m {pl : Sem Bool} (M : Mee X.prog X.w X.K X.mg X.base C k m ps sp) (c : L2.Cls X.K C) (hr : Room j X.A) (he : PE X o to) (ha : PA X (e :: es) t) (hkj : k ≤ j := by decide)
    (hst : starEach (e :: es) X.env = (false, eval e X.env) :: starEach es X.env := by rfl) (hpl : (backTo pos (starEach es X.env)).any (·.1) = false := by rfl)
    (ht : eval (.Call (.Attribute o m apos) (e :: es) [] pos) X.env = (do
      let ov ← eval o X.env
      standAt apos.atName
      let (f, first) ← holding [ov] (getMethod ov m pl)
      callWith pos f first (backTo pos (starEach (e :: es) X.env)) (backToKw pos (keywordEach [] X.env))) := by rfl) :
    PE X (.Call (.Attribute o m apos) (e :: es) [] pos) (tMeth C m sp [] E0 to t) := by
  obtain ⟨f, fd, h1, h2, h3⟩ := M.ex
  exact pe_meth he c h1 h2 (hr.mono hkj) h3 .nil pass0 ha hst hpl ht
end
section
variable {P : Program} {w : World} {K : PySem.W.Frag} {mg : Str → Option Value} {base : Heap} {C : Addr}
def spKTable (C : Addr) : Sp := fun vs H Q _ => ∃ (p : Addr) (ws : List Str) (f : Str → Str → Str), vs = [.ref p] ∧ KdAt C H p ws f ∧ ∀ (q : Addr) (H' : Hp), L2.Same H H' → H q = none → H' q = some (.dT (tabW ws f)) → Q (.ref q) H'
abbrev nKTable : List Str := ["self", "pair"]
theorem scKTable : FnScope nKTable ["self"] (defScope kTable) := ⟨rfl, rfl, rfl, by decide +kernel, rfl, by decide +kernel, by decide +kernel⟩
theorem tabW_merge {ws : List Str} {f : Str → Str → Str} (n : ws.Nodup) : mergeT [] ((pairsW ws).map fun p => (keyP p, valW f p)) = tabW ws f := by
  rw [mergeT_nd _ _ (by rw [List.nil_append]; exact (tabW_tb (f := f) n).nd)]
  rfl
theorem pairs16 {ws : List Str} {f : Str → Str → Str} (kw : KW ws f) : (pairsW ws).length ≤ 16 := by
  rw [pairsW_len]
  exact Nat.le_trans (Nat.mul_le_mul kw.few kw.few) (by decide)
theorem ok_ktable {g : Addr} {fd : FuncData} (F : Fun K "table" "Kinds.table" kTable g fd) (T : KTx K mg C) : FnOk P w K mg base CX0 1 g fd ["self"] (spKTable C) := by
  refine F.ok scKTable (fun vs H Q E h => ?_) (fun cdv A outer s H vs Q E hr h => ?_)
  · obtain ⟨p, ws, f, rfl, _⟩ := h
    rfl
  · obtain ⟨p, ws, f, rfl, ⟨dx, d, l, kd⟩, k⟩ := h
    have nd := scKTable.nd
    refine ⟨_, pss_one (ps_ret (pe_lock (GC.pe_dcT (own := [("pair", 1)]) (g := gName 1) (tt := tYes) (tk := tVar 1) (tv := tDGet (tFld K (tVar 0) "_table") (tVar 1)) (u0 hr.units) rfl nd (pi_keys (pe_fld (pv 0) rfl))
      (blkOk_by (own := [("pair", 1)]) (N := nKTable) (sc := defScope kTable) (by decide +kernel)) (fun _ _ _ _ _ => pg_name (i := 1) nd rfl (Or.inl rfl)) (fun _ _ _ _ _ => pts_nil) GC.cl0 trivial (fun _ _ _ _ _ => pv 1)
      (fun _ _ _ _ _ => pe_dget (hu_of hr) (pe_fld (pv 0) rfl) (pv 1) (fun _ _ => rfl))))), ?_⟩
    have npd : p ≠ d := ne_of kd.ob kd.dc (by intro z; cases z)
    have nW := kd.kw.asc.nodup
    have tbd := tabW_tb (f := f) nW
    refine dc_keys (key := keyP) (key2 := keyP) (val := valW f) (val2 := valW f) (is := pairsW ws) (fun od R hh => ⟨_, rfl, p, C, dx, _, _, rfl, (upd_ne npd).trans kd.ob, T.cl, T.nT, flds_t _ _, hh⟩) kd.dc rfl (by have := pairs16 kd.kw; omega) ?_ ?_
    · rintro ⟨x, y⟩ q od H1 R Cn kc ha s1 hq kR
      obtain ⟨mx, my⟩ := mem_pairsW.mp ha
      have hp1 : H1 p = some (.ins C dx (flds d l)) := s1 _ _ ((upd_ne npd).trans kd.ob)
      have td : TabW H1 d ws f := ⟨_, .inr ⟨od, s1 _ _ upd_same⟩, tbd⟩
      refine at_name (σ' := [some (.ref p), some (.ref q)]) rfl ⟨rfl, kc _ _ ?_⟩
      exact ⟨_, rfl, _, rfl, p, C, dx, _, _, rfl, hp1, T.cl, T.nT, flds_t _ _, _, rfl, d, _, rfl, td.get mx my hq, kR q _ (fun _ _ e => e) hq⟩
    · intro q H1 s1 hq0 hq
      rw [tabW_merge nW] at hq
      exact k q H1 s1 hq0 hq
/-- words() -/
def spKWords (C : Addr) : Sp := fun vs H Q _ => ∃ (p : Addr) (ws : List Str) (f : Str → Str → Str), vs = [.ref p] ∧ KdAt C H p ws f ∧ ∀ (q : Addr) (H' : Hp), L2.Same H H' → H q = none → H' q = some (.lst (ws.map V.str)) → Q (.ref q) H'
theorem scKWords : FnScope ["self"] ["self"] (defScope kWords) := ⟨rfl, rfl, rfl, by decide +kernel, rfl, by decide +kernel, by decide +kernel⟩
theorem ok_kwords {g : Addr} {fd : FuncData} (F : Fun K "words" "Kinds.words" kWords g fd) (T : KTx K mg C) (Z : Blp mg) : FnOk P w K mg base CX0 1 g fd ["self"] (spKWords C) := by
  refine F.ok scKWords (fun vs H Q E h => ?_) (fun cdv A outer s H vs Q E hr h => ?_)
  · obtain ⟨p, ws, f, rfl, _⟩ := h
    rfl
  · obtain ⟨p, ws, f, rfl, ⟨dx, d, l, kd⟩, k⟩ := h
    refine ⟨_, pss_one (ps_ret (pe_callTy call_list_of (by rfl) Z.list (by decide +kernel) (pa_cons (pe_fld (pv 0) rfl) pa_nil))), ?_⟩
    exact ⟨_, rfl, p, C, dx, _, _, rfl, kd.ob, T.cl, T.nW, flds_w _ _, l, _, rfl, .inl (SqL.of kd.ls), fun q hq => k q _ (Same.new hq) hq upd_same⟩
def spIsKind (C : Addr) : Sp := fun vs H Q _ => ∃ (p : Addr) (ws : List Str) (f : Str → Str → Str) (x : Str), vs = [.ref p, .str x] ∧ KdAt C H p ws f ∧ x ∈ ws ∧ ∀ H', L2.Same H H' → Q (.bl true) H'
theorem scIsKind : FnScope ["kinds", "value"] ["kinds", "value"] (defScope pIsKind) := ⟨rfl, rfl, rfl, by decide +kernel, rfl, by decide +kernel, by decide +kernel⟩
theorem ok_isKind {g : Addr} {fd : FuncData} (F : Fun K "is_kind" "is_kind" pIsKind g fd) (T : KTx K mg C) (Z : Blp mg) (M : Mee P w K mg base C 1 "words" ["self"] (spKWords C)) : FnOk P w K mg base CX0 2 g fd ["kinds", "value"] (spIsKind C) := by
  refine F.ok scIsKind (fun vs H Q E h => ?_) (fun cdv A outer s H vs Q E hr h => ?_)
  · obtain ⟨p, ws, f, x, rfl, _⟩ := h
    rfl
  · obtain ⟨p, ws, f, x, rfl, kd, mx, k⟩ := h
    refine ⟨_, pss_one (ps_ret (pe_and (pe_callB call_isi (by rfl) Z.isi boot_isi (pa_cons (pv 1) (pa_cons (pe_bltn (v := .ty "str") (by rfl) Z.str (by decide +kernel) rfl) pa_nil)))
      (pe_one (pe_cmpR op_in_seq (pv 1) (pe_m0 M T.cl hr (pv 0)) (by rfl))))), ?_⟩
    refine ⟨_, rfl, _, _, _, _, true, rfl, .ty _, .base (.str _), kit_ty (by decide +kernel), _, rfl, iteT ?_⟩
    obtain ⟨dx, d, l, kd'⟩ := id kd
    refine ⟨_, rfl, _, rfl, p, dx, _, rfl, kd'.ob, flds_no _ _ (by decide +kernel) (by decide +kernel), p, ws, f, rfl, kd, fun q H1 s1 hq0 hq => ?_⟩
    refine ⟨q, _, rfl, .inl (SqL.of hq), rfl, flat_strs ws, ?_⟩
    rw [if_neg Bool.false_ne_true, inV_strs, decide_eq_true mx]
    exact k _ s1
def spCheckKind (C : Addr) : Sp := fun vs H Q _ => ∃ (p : Addr) (ws : List Str) (f : Str → Str → Str) (x : Str), vs = [.ref p, .str x] ∧ KdAt C H p ws f ∧ x ∈ ws ∧ ∀ H', L2.Same H H' → Q .non H'
theorem scCheckKind : FnScope ["kinds", "kind"] ["kinds", "kind"] (defScope pCheckKind) := ⟨rfl, rfl, rfl, by decide +kernel, rfl, by decide +kernel, by decide +kernel⟩
theorem ok_checkKind {g : Addr} {fd : FuncData} (F : Fun K "check_kind" "check_kind" pCheckKind g fd) (M : Cee P w K mg base 2 "is_kind" ["kinds", "value"] (spIsKind C)) : FnOk P w K mg base CX0 3 g fd ["kinds", "kind"] (spCheckKind C) := by
  refine F.ok scCheckKind (fun vs H Q E h => ?_) (fun cdv A outer s H vs Q E hr h => ?_)
  · obtain ⟨p, ws, f, x, rfl, _⟩ := h
    rfl
  · obtain ⟨p, ws, f, x, rfl, kd, mx, k⟩ := h
    refine ⟨_, pss_one (ps_if (pt_not (pt_val (pe_c M hr rfl (pa_cons (pv 0) (pa_cons (pv 1) pa_nil))))) (pss_one ps_never) pss_nil), ?_⟩
    exact ⟨_, rfl, _, rfl, p, ws, f, x, rfl, kd, mx, fun H1 s1 => ⟨_, rfl, iteF (k _ s1)⟩⟩
def spCheckKinds (C : Addr) : Sp := fun vs H Q _ => ∃ (p : Addr) (ws : List Str) (f : Str → Str → Str), vs = [.ref p] ∧ KdAt C H p ws f ∧ Q .non H
theorem scCheckKinds : FnScope ["kinds"] ["kinds"] (defScope pCheckKinds) := ⟨rfl, rfl, rfl, by decide +kernel, rfl, by decide +kernel, by decide +kernel⟩
theorem ok_checkKinds {g : Addr} {fd : FuncData} (F : Fun K "check_kinds" "check_kinds" pCheckKinds g fd) (T : KTx K mg C) (Z : Blp mg) : FnOk P w K mg base CX0 1 g fd ["kinds"] (spCheckKinds C) := by
  refine F.ok scCheckKinds (fun vs H Q E h => ?_) (fun cdv A outer s H vs Q E hr h => ?_)
  · obtain ⟨p, ws, f, rfl, _⟩ := h
    rfl
  · obtain ⟨p, ws, f, rfl, kd, k⟩ := h
    refine ⟨_, pss_one (ps_if (pt_not (pt_val (pe_callB call_isi (by rfl) Z.isi boot_isi (pa_cons (pv 0) (pa_cons (pe_glob (v := .ref C) rfl T.mgC rfl) pa_nil))))) (pss_one ps_never) pss_nil), ?_⟩
    obtain ⟨dx, d, l, kd'⟩ := id kd
    exact ⟨_, rfl, _, _, _, _, true, rfl, .own _, T.ty kd'.ob, T.own, _, rfl, iteF k⟩
def spKPut (C : Addr) : Sp := fun vs H Q _ => ∃ (p : Addr) (ws : List Str) (f : Str → Str → Str) (x y : Str), vs = [.ref p, .str x, .str y] ∧ KdAt C H p ws f ∧ x ∈ ws ∧ y ∈ ws ∧ ∀ H', L2.Same H H' → Q (.str (f x y)) H'
theorem scKPut : FnScope ["self", "one", "other"] ["self", "one", "other"] (defScope kPut) := ⟨rfl, rfl, rfl, by decide +kernel, rfl, by decide +kernel, by decide +kernel⟩
theorem ok_kput {g : Addr} {fd : FuncData} (F : Fun K "put" "Kinds.put" kPut g fd) (T : KTx K mg C) (M : Cee P w K mg base 3 "check_kind" ["kinds", "kind"] (spCheckKind C)) : FnOk P w K mg base CX0 4 g fd ["self", "one", "other"] (spKPut C) := by
  refine F.ok scKPut (fun vs H Q E h => ?_) (fun cdv A outer s H vs Q E hr h => ?_)
  · obtain ⟨p, ws, f, x, y, rfl, _⟩ := h
    rfl
  · obtain ⟨p, ws, f, x, y, rfl, kd, mx, my, k⟩ := h
    refine ⟨_, pss_cons (ps_expr (pe_c M hr rfl (pa_cons (pv 0) (pa_cons (pv 1) pa_nil))))
      (pss_cons (ps_expr (pe_c M hr rfl (pa_cons (pv 0) (pa_cons (pv 2) pa_nil))))
      (pss_one (ps_ret (pe_dget (hu_of hr) (pe_fld (pv 0) rfl) (pe_tup (pa_cons (pv 1) (pa_cons (pv 2) pa_nil))) (fun _ _ => rfl))))), ?_⟩
    refine ⟨_, rfl, _, rfl, p, ws, f, x, rfl, kd, mx, fun H1 s1 => ?_⟩
    refine ⟨_, rfl, _, rfl, p, ws, f, y, rfl, kd.mono s1, my, fun H2 s2 => ?_⟩
    obtain ⟨dx, d, l, kd'⟩ := (kd.mono s1).mono s2
    refine ⟨_, rfl, p, C, dx, _, _, rfl, kd'.ob, T.cl, T.nT, flds_t _ _, _, rfl, _, rfl, (by show 2 ≤ sizeLine; decide), fun t ht => ?_⟩
    have td : TabW H2 d ws f := ⟨_, .inl kd'.dc, tabW_tb kd'.kw.asc.nodup⟩
    exact ⟨d, _, rfl, (td.mono (Same.new ht)).get mx my upd_same, k _ fun b o e => Same.new ht _ _ (s2 _ _ (s1 _ _ e))⟩
end
end KT
set_option Elab.async false
set_option linter.all false
set_option maxRecDepth 100000
set_option maxHeartbeats 4000000
namespace KT
open PySem L2 PyProof.Rows DTp TxS
section
variable {P : Program} {w : World} {K : PySem.W.Frag} {mg : Str → Option Value} {base : Heap} {C : Addr}
def spKInit (C : Addr) : Sp := fun vs H Q _ => ∃ (p dx a : Addr) (kvs : List (List Key × V)) (ws : List Str) (f : Str → Str → Str), vs = [.ref p, .ref a] ∧ H p = some (.ins C dx []) ∧ H a = some (.dT kvs) ∧ TbG (SqW ws) keyP (valW f) kvs ∧ KW ws f ∧
  ∀ H' d l, KdIn C H' p dx d l ws f → H d = none → H l = none → (∀ b o, H b = some o → b ≠ p → H' b = some o) → Q .non H'
abbrev nKInit : List Str := ["self", "table", "pair", "one", "_"]
theorem scKInit : FnScope nKInit ["self", "table"] (defScope kInit) := ⟨rfl, rfl, rfl, by decide +kernel, rfl, by decide +kernel, by decide +kernel⟩
theorem ok_kinit {g : Addr} {fd : FuncData} (F : Fun K "__init__" "Kinds.__init__" kInit g fd) (T : KTx K mg C) (Z : Blp mg) (M : Cee P w K mg base 3 "_is_table" ["table"] spIsTable) : FnOk P w K mg base CX0 4 g fd ["self", "table"] (spKInit C) := by
  refine F.ok scKInit (fun vs H Q E h => ?_) (fun cdv A outer s H vs Q E hr h => ?_)
  · obtain ⟨p, dx, a, kvs, ws, f, rfl, _⟩ := h
    rfl
  · obtain ⟨p, dx, a, kvs, ws, f, rfl, hp, ha, tb, kw, k⟩ := h
    have nd := scKInit.nd
    refine ⟨_, pss_cons (ps_if (pt_not (pt_val (pe_c M hr rfl (pa_cons (pv 1) pa_nil)))) (pss_one ps_never) pss_nil)
      (pss_cons (ps_fld (pv 0) (GC.pe_dcT (own := [("pair", 2)]) (g := gName 2) (tt := tYes) (tk := tVar 2) (tv := tDGet (tVar 1) (tVar 2)) (u0 hr.units) rfl nd (pi_list (pe_callB (cr_sortT rfl hr.units) (by rfl) Z.sorted (by decide +kernel) (pa_cons (pv 1) pa_nil)))
        (blkOk_by (own := [("pair", 2)]) (N := nKInit) (sc := defScope kInit) (by decide +kernel)) (fun _ _ _ _ _ => pg_name (i := 2) nd rfl (Or.inl rfl)) (fun _ _ _ _ _ => pts_nil) GC.cl0 trivial (fun _ _ _ _ _ => pv 2)
        (fun _ _ _ _ _ => pe_dget (hu_of hr) (pv 1) (pv 2) (fun _ _ => rfl))) rfl)
      (pss_one (ps_fld (pv 0) (pe_callB (cr_sortX rfl) (by rfl) Z.sorted (by decide +kernel) (pa_cons (pe_lock
          (pe_scX (own := [("one", 3), ("_", 4)]) (g := gXY K 3 4) (tt := tYes) (te := tVar 3) rfl nd (pi_keys (pv 1)) (blkOk_by (own := [("one", 3), ("_", 4)]) (N := nKInit) (sc := defScope kInit) (by decide +kernel))
            (fun _ _ _ _ _ => pg_tup rfl (pgs_cons (pg_name (i := 3) nd rfl (Or.inl rfl)) (pgs_cons (pg_name (i := 4) nd rfl (Or.inl rfl)) pgs_nil))) (fun _ _ _ _ _ => pts_nil) GC.cl0 trivial (fun _ _ _ _ _ => pv 3))) pa_nil)) rfl))), ?_⟩
    have nW := kw.asc.nodup
    have npa : p ≠ a := ne_of hp ha (by intro z; cases z)
    refine ⟨_, rfl, a, kvs, ws, f, rfl, ha, tb, kw, fun H1 s1 => ⟨_, rfl, iteF ?_⟩⟩
    obtain ⟨ps, f1, f2, f3, f4⟩ := sorted_keys tb nW kw.asc (.refl ws)
    have l16 := pairs16 kw
    have lps : ps.length ≤ 16 := by
      rw [f2, tbW_len tb nW]
      exact Nat.le_trans (Nat.mul_le_mul kw.few kw.few) (by decide)
    have ha1 := s1 _ _ ha
    dsimp only [tNext, tSeq, sFld]
    refine dc_list (K := K) (tl := tCB DTp.rSortT (tCons (tVar 1) tNil)) (tk := tVar 2) (tv := tDGet (tVar 1) (tVar 2)) (g := gName 2) (key2 := keyP) (val2 := valW f) (is := pairsW ws) (fun H' => L2.Same H1 H') (by omega) ?_ ?_
    · intro R hR
      refine ⟨_, rfl, a, kvs, ps, rfl, .inl ha1, f1, by omega, fun qs l h1 h2 h3 hl => ?_⟩
      have s2 := Same.new (H := H1) (o := .lst (qs.map fun q => V.ref q.1)) hl
      refine hR l qs _ (f4 _ h1 h2) upd_same s2 ?_
      intro m q H3 R2 Cn kc hq s3 kR
      have hq3 : H3 q.1 = some (.tup ((keyP q.2).map kV)) := s3 _ _ (s2 _ _ (h3 q (List.mem_of_getElem? hq)))
      have hq2 : q.2.1 ∈ ws ∧ q.2.2 ∈ ws := by
        have : q.2 ∈ qs.map (·.2) := List.mem_map.mpr ⟨q, List.mem_of_getElem? hq, rfl⟩
        rw [f4 _ h1 h2, mem_pairsW] at this
        exact this
      have td : TabW H3 a ws f := ⟨_, .inl (s3 _ _ (s2 _ _ ha1)), tb⟩
      refine at_name (σ' := [some (.ref p), some (.ref a), some (.ref q.1), none, none]) rfl ⟨rfl, kc _ _ ?_⟩
      exact ⟨_, rfl, _, rfl, _, rfl, a, _, rfl, td.get hq2.1 hq2.2 hq3, kR q.1 _ (fun _ _ e => e) hq3⟩
    · intro d H2 H3 s2 s3 hd0 hd
      rw [tabW_merge nW] at hd
      have s13 : L2.Same H1 H3 := fun b o e => s3 _ _ (s2 _ _ e)
      have s03 : L2.Same H H3 := fun b o e => s13 _ _ (s1 _ _ e)
      have s02 : L2.Same H H2 := fun b o e => s2 _ _ (s1 _ _ e)
      have hdH : H d = none := s02.free hd0
      have npd : p ≠ d := ne_of_none hp hdH
      have nad : a ≠ d := ne_of_none ha hdH
      refine ⟨_, rfl, p, C, dx, [], rfl, s03 _ _ hp, T.cl, T.nT, (by show 0 < 1000; decide), ?_⟩
      have ha4 : upd H3 p (.ins C dx (putF "_table" (.ref d) [])) a = some (.dT kvs) := (upd_ne npa.symm).trans (s03 _ _ ha)
      have hp4 : upd H3 p (.ins C dx (putF "_table" (.ref d) [])) p = some (.ins C dx (putF "_table" (.ref d) [])) := upd_same
      have hd4 : upd H3 p (.ins C dx (putF "_table" (.ref d) [])) d = some (.dT (tabW ws f)) := (upd_ne npd.symm).trans hd
      have st4 : ∀ b o, H b = some o → b ≠ p → upd H3 p (.ins C dx (putF "_table" (.ref d) [])) b = some o := fun b o e ne => (upd_ne ne).trans (s03 _ _ e)
      generalize upd H3 p (.ins C dx (putF "_table" (.ref d) [])) = G at ha4 hp4 hd4 st4 ⊢
      refine rd_words (f := f) (fun od R hh => ⟨_, rfl, hh⟩) ha4 tb kw (fun _ _ => rfl) (fun _ _ => rfl) fun l H5 s5 hl0 hl => ?_
      have npl : p ≠ l := ne_of_none hp4 hl0
      have ndl : d ≠ l := ne_of_none hd4 hl0
      refine ⟨_, rfl, p, C, dx, _, rfl, s5 _ _ hp4, T.cl, T.nW, (by show 1 < 1000; decide), ?_⟩
      have hlH : H l = none := by
        cases e : H l with
        | none => rfl
        | some o =>
          have := st4 l o e npl.symm
          rw [hl0] at this
          cases this
      refine k _ d l ⟨upd_same, (upd_ne npd.symm).trans (s5 _ _ hd4), (upd_ne npl.symm).trans hl, kw⟩ hdH hlH fun b o e ne => ?_
      rw [upd_ne ne]
      exact s5 _ _ (st4 b o e ne)
/-- a == b, b Kinds or anything else -/
def spKEq (K : PySem.W.Frag) (C : Addr) : Sp := fun vs H Q _ => ∃ (p : Addr) (y : V) (ws : List Str) (f : Str → Str → Str), vs = [.ref p, y] ∧ KdAt C H p ws f ∧
  ((∃ (q : Addr) (ws2 : List Str) (f2 : Str → Str → Str), y = .ref q ∧ KdAt C H q ws2 f2 ∧ Q (.bl (sameT (tabW ws f) (tabW ws2 f2))) H) ∨ ∃ t, TyX K H y t ∧ PySem.W.kitOne K t (.ref C) = some false ∧ Q (.bl false) H)
theorem tabW_txt (ws : List Str) (f : Str → Str → Str) : TxV (tabW ws f) := fun p hp => by
  obtain ⟨q, _, rfl⟩ := List.mem_map.mp hp
  exact ⟨_, rfl⟩
theorem scKEq : FnScope ["self", "other"] ["self", "other"] (defScope kEq) := ⟨rfl, rfl, rfl, by decide +kernel, rfl, by decide +kernel, by decide +kernel⟩
theorem ok_keq {g : Addr} {fd : FuncData} (F : Fun K "__eq__" "Kinds.__eq__" kEq g fd) (T : KTx K mg C) (Z : Blp mg) : FnOk P w K mg base CX0 1 g fd ["self", "other"] (spKEq K C) := by
  refine F.ok scKEq (fun vs H Q E h => ?_) (fun cdv A outer s H vs Q E hr h => ?_)
  · obtain ⟨p, y, ws, f, rfl, _⟩ := h
    rfl
  · obtain ⟨p, y, ws, f, rfl, ⟨dx, d, l, kd⟩, h⟩ := h
    refine ⟨_, pss_one (ps_ret (pe_and (pe_callB call_isi (by rfl) Z.isi boot_isi (pa_cons (pv 1) (pa_cons (pe_glob (v := .ref C) rfl T.mgC rfl) pa_nil)))
      (pe_one (pe_cmpR (op_eqT (hu_of hr)) (pe_fld (pv 0) rfl) (pe_fld (pv 1) rfl) (nomark _))))), ?_⟩
    rcases h with ⟨q, ws2, f2, rfl, ⟨dx2, d2, l2, kd2⟩, k⟩ | ⟨t, ty, kt, k⟩
    · refine ⟨_, rfl, _, _, _, _, true, rfl, .own _, T.ty kd2.ob, T.own, _, rfl, iteT ?_⟩
      exact ⟨_, rfl, p, C, dx, _, _, rfl, kd.ob, T.cl, T.nT, flds_t _ _, _, rfl, q, C, dx2, _, _, rfl, kd2.ob, T.cl, T.nT, flds_t _ _, d, d2, _, _, rfl, rfl, .inl kd.dc, .inl kd2.dc, tabW_txt _ _, tabW_txt _ _, k⟩
    · exact ⟨_, rfl, _, _, _, _, false, rfl, .own _, ty, kt, _, rfl, iteF k⟩
end
end KT
set_option Elab.async false
set_option linter.all false
set_option maxRecDepth 100000
set_option maxHeartbeats 4000000
namespace KT
open PySem L2
def pw (f : Str → Str → Str) (x : Str) : Nat → Str
  | 0 => x
  | n + 1 => f (pw f x n) x
section
variable {ws : List Str} {f : Str → Str → Str} {x : Str}
/-- L different powers, then the one at a again -/
structure Pws (f : Str → Str → Str) (x : Str) (L a : Nat) : Prop where
  lt : a < L
  l4 : L ≤ 4
  eq : pw f x L = pw f x a
  dis : ∀ i j, i < j → j < L → pw f x i ≠ pw f x j
theorem Pws.per {L a : Nat} (h : Pws f x L a) : ∀ n, pw f x (a + n + (L - a)) = pw f x (a + n)
  | 0 => by
    have e : a + 0 + (L - a) = L := by have := h.lt; omega
    rw [e]; exact h.eq
  | n + 1 => by
    have e : a + (n + 1) + (L - a) = (a + n + (L - a)) + 1 := by omega
    rw [e]
    show f (pw f x (a + n + (L - a))) x = f (pw f x (a + n)) x
    rw [h.per n]
theorem Pws.mul {L a : Nat} (h : Pws f x L a) (n : Nat) : ∀ m, pw f x (a + n + m * (L - a)) = pw f x (a + n)
  | 0 => by rw [Nat.zero_mul, Nat.add_zero]
  | m + 1 => by
    have e : a + n + (m + 1) * (L - a) = a + (n + m * (L - a)) + (L - a) := by rw [Nat.succ_mul]; omega
    rw [e, h.per, ← Nat.add_assoc, h.mul n m]
/-- equal powers below L -/
theorem Pws.inj {L a i j : Nat} (h : Pws f x L a) (hi : i < L) (hj : j < L) (e : pw f x i = pw f x j) : i = j := by
  rcases Nat.lt_trichotomy i j with z | z | z
  · exact absurd e (h.dis i j z hj)
  · exact z
  · exact absurd e.symm (h.dis j i z hi)
/-- the least such -/
def Least (p : Nat → Prop) (m : Nat) : Prop := p m ∧ ∀ i, i < m → ¬ p i
theorem Least.uniq {p : Nat → Prop} {m n : Nat} (h : Least p m) (k : Least p n) : m = n := by
  rcases Nat.lt_trichotomy m n with z | z | z
  · exact absurd h.1 (k.2 m z)
  · exact z
  · exact absurd k.1 (h.2 n z)
end
end KT
set_option Elab.async false
set_option linter.all false
set_option maxRecDepth 100000
set_option maxHeartbeats 4000000
namespace KT
open PySem L2 PyProof.Rows DTp TxS
section
variable {P : Program} {w : World} {K : PySem.W.Frag} {mg : Str → Option Value} {base : Heap} {C : Addr}
theorem cut_tail (x : V) (xs : List V) : cutV (x :: xs) (some 1) none = xs := by
  unfold cutV
  have e1 : HT.sIx (x :: xs).length 0 (some (1 : Int)) = 1 := by
    have := HT.sIx_nat (x :: xs).length 0 1
    rw [show ((1 : Nat) : Int) = 1 from rfl] at this
    rw [this]
    simp
  rw [e1]
  show ((x :: xs).drop 1).take ((x :: xs).length - 1) = xs
  simp
/-- making Kinds -/
structure KMk (P : Program) (w : World) (K : PySem.W.Frag) (mg : Str → Option Value) (base : Heap) (C : Addr) : Prop where
  ex : ∃ (f : Addr) (fd : FuncData), Mk K C f ∧ FnOk P w K mg base CX0 4 f fd ["self", "table"] (spKInit C) ∧ Binds K fd ["self", "table"] []
section
variable {X : Cx} {j : Nat} {p pos : Pos} {e : Expr} {es : List Expr} {t : TA}
theorem pe_kinds (M : KMk X.prog X.w X.K X.mg X.base C) (hm : X.mg "Kinds" = some (.ref C)) (hr : Room j X.A) (hg : Gl X "Kinds") (ha : PA X (e :: es) t) (hkj : 5 ≤ j := by decide)
    (he : starEach (e :: es) X.env = (false, eval e X.env) :: starEach es X.env := by rfl) (hpl : (backTo pos (starEach es X.env)).any (·.1) = false := by rfl) :
    PE X (.Call (.Name "Kinds" p) (e :: es) [] pos) (tMake C (spKInit C) [] E0 t) := by
  obtain ⟨f, fd, h1, h2, h3⟩ := M.ex
  exact pe_make h1 h2 (hr.mono hkj) hg hm h3 .nil pass0 ha (by decide) he hpl
end
/-- the Kinds at x, all of it new since H -/
def KdNew (C : Addr) (H H' : Hp) (x : Addr) (ws : List Str) (f : Str → Str → Str) : Prop := ∃ dx d l, KdIn C H' x dx d l ws f ∧ H x = none ∧ H dx = none ∧ H d = none ∧ H l = none
theorem KdNew.at {C : Addr} {H H' : Hp} {x : Addr} {ws : List Str} {f : Str → Str → Str} (h : KdNew C H H' x ws f) : KdAt C H' x ws f := let ⟨dx, d, l, k, _⟩ := h; ⟨dx, d, l, k⟩
theorem mk_kinds {H : Hp} {Q : VK} {a : Addr} {kvs : List (List Key × V)} {ws : List Str} {f : Str → Str → Str} (ha : H a = some (.dT kvs)) (tb : TbG (SqW ws) keyP (valW f) kvs) (kw : KW ws f)
    (k : ∀ x H', KdNew C H H' x ws f → L2.Same H H' → Q (.ref x) H') : ∀ x dx, H x = none → H dx = none → dx ≠ x → spKInit C (.ref x :: ([.ref a] ++ [])) (upd (upd H dx (.own x)) x (.ins C dx [])) (fun v H2 => v = .non ∧ Q (.ref x) H2) E0 := by
  intro x dx hx hdx ne
  have n1 : a ≠ x := ne_of_none ha hx
  have n2 : a ≠ dx := ne_of_none ha hdx
  have free : ∀ z : Addr, upd (upd H dx (.own x)) x (.ins C dx []) z = none → H z = none := fun z hz => by
    by_cases e1 : z = x
    · rw [e1]; exact hx
    · rw [upd_ne e1] at hz
      by_cases e2 : z = dx
      · rw [e2]; exact hdx
      · rw [upd_ne e2] at hz
        exact hz
  refine ⟨x, dx, a, kvs, ws, f, rfl, upd_same, (upd_ne n1).trans ((upd_ne n2).trans ha), tb, kw, fun H' d l kd hd hl st => ⟨rfl, k x H' ⟨dx, d, l, kd, hx, hdx, free d hd, free l hl⟩ fun b o e => ?_⟩⟩
  have b1 : b ≠ x := ne_of_none e hx
  exact st b o ((upd_ne b1).trans ((upd_ne (ne_of_none e hdx)).trans e)) b1
def spIsKinds (C : Addr) : Sp := fun vs H Q _ => ∃ (p r : Addr) (ws : List Str) (f : Str → Str → Str) (row : List Str), vs = [.ref p, .ref r] ∧ KdAt C H p ws f ∧ H r = some (.lst (row.map V.str)) ∧ row.length ≤ 1000 ∧ (∀ x ∈ row, x ∈ ws) ∧ ∀ H', L2.Same H H' → Q (.bl true) H'
abbrev nIsKinds : List Str := ["kinds", "value", "kind"]
theorem scIsKinds : FnScope nIsKinds ["kinds", "value"] (defScope pIsKinds) := ⟨rfl, rfl, rfl, by decide +kernel, rfl, by decide +kernel, by decide +kernel⟩
theorem ok_isKinds {g : Addr} {fd : FuncData} (F : Fun K "is_list_of_kinds" "is_list_of_kinds" pIsKinds g fd) (Z : Blp mg) (M : Cee P w K mg base 2 "is_kind" ["kinds", "value"] (spIsKind C)) : FnOk P w K mg base CX0 3 g fd ["kinds", "value"] (spIsKinds C) := by
  refine F.ok scIsKinds (fun vs H Q E h => ?_) (fun cdv A outer s H vs Q E hr h => ?_)
  · obtain ⟨p, r, ws, f, row, rfl, _⟩ := h
    rfl
  · obtain ⟨p, r, ws, f, row, rfl, kd, hrow, few, mr, k⟩ := h
    have nd := scIsKinds.nd
    refine ⟨_, pss_one (ps_ret (pe_and (pe_callB call_isi (by rfl) Z.isi boot_isi (pa_cons (pv 1) (pa_cons (pe_bltn (v := .ty "list") (by rfl) Z.list (by decide +kernel) rfl) pa_nil)))
      (pe_one (pe_callB (cr_all rfl) (by rfl) Z.all (by decide +kernel) (pa_cons
        (pe_lc (own := [("kind", 2)]) (g := gName 2) (tt := tYes) (te := tCall (spIsKind C) [] E0 (tCons (tVar 0) (tCons (tVar 2) tNil))) rfl nd (pi_list (pv 1)) (blkOk_by (own := [("kind", 2)]) (N := nIsKinds) (sc := defScope pIsKinds) (by decide +kernel))
            (fun _ _ _ _ _ => pg_name (i := 2) nd rfl (Or.inl rfl)) (fun _ _ _ _ _ => pts_nil) (fun _ _ _ _ _ => pe_c M hr rfl (pa_cons (pv 0) (pa_cons (pv 2) pa_nil)))) pa_nil))))), ?_⟩
    refine ⟨_, rfl, _, _, _, _, true, rfl, .ty _, .base (.lst hrow), kit_ty (by decide +kernel), _, rfl, iteT ?_⟩
    refine ⟨_, rfl, r, rfl, ⟨_, SqL.of hrow⟩, fun D hD => ?_⟩
    refine lc_true (walk_list (K := K) (a := r) (xs := row.map V.str)) (by rw [List.length_map]; exact few) hD (fun H' s => SqL.of (s _ _ hrow)) ?_ ?_
    · rintro i v H0 H1 R hi s1 ⟨rfl, hx⟩ kR
      obtain ⟨x, ex, rfl⟩ := str_get hx
      exact ⟨rfl, _, rfl, _, rfl, p, ws, f, x, rfl, kd.mono s1, mr x (List.mem_of_getElem? ex), kR⟩
    · intro H1 s1 hD1
      refine ⟨D, _, rfl, SqL.of hD1, ?_⟩
      rw [all_true]
      exact k _ s1
structure PutC (P : Program) (w : World) (K : PySem.W.Frag) (mg : Str → Option Value) (base : Heap) (C : Addr) : Prop where
  isk : Cee P w K mg base 3 "is_list_of_kinds" ["kinds", "value"] (spIsKinds C)
  chk : Cee P w K mg base 1 "check_kinds" ["kinds"] (spCheckKinds C)
  chd : Cee P w K mg base 3 "check_kind" ["kinds", "kind"] (spCheckKind C)
  tab : Mee P w K mg base C 1 "table" ["self"] (spKTable C)
  wor : Mee P w K mg base C 1 "words" ["self"] (spKWords C)
  put : Mee P w K mg base C 4 "put" ["self", "one", "other"] (spKPut C)
end
end KT
set_option Elab.async false
set_option linter.all false
set_option maxRecDepth 100000
set_option maxHeartbeats 4000000
namespace KT
open PySem L2 PyProof.Rows DTp TxS
section
variable {P : Program} {w : World} {K : PySem.W.Frag} {mg : Str → Option Value} {base : Heap} {C : Addr}
theorem KW.turn {ws : List Str} {f : Str → Str → Str} (k : KW ws f) : KW ws fun x y => f y x := ⟨k.asc, k.pos, k.few, k.wd, fun x y hx hy => k.cl y x hy hx, fun x y z hx hy hz => (k.as z y x hz hy hx).symm⟩
def sqs (ws : List Str) (f : Str → Str → Str) : List Str := ws.filter fun x => decide (f x x = x)
def spOwnSq (C : Addr) : Sp := fun vs H Q _ => ∃ (p : Addr) (ws : List Str) (f : Str → Str → Str), vs = [.ref p] ∧ KdAt C H p ws f ∧ ∀ (q : Addr) (H' : Hp), L2.Same H H' → H q = none → H' q = some (.lst ((sqs ws f).map V.str)) → Q (.ref q) H'
abbrev nOwnSq : List Str := ["kinds", "kind"]
theorem scOwnSq : FnScope nOwnSq ["kinds"] (defScope pOwnSquares) := ⟨rfl, rfl, rfl, by decide +kernel, rfl, by decide +kernel, by decide +kernel⟩
theorem ok_ownSq {g : Addr} {fd : FuncData} (F : Fun K "own_squares" "own_squares" pOwnSquares g fd) (T : KTx K mg C) (M : PutC P w K mg base C) : FnOk P w K mg base CX0 5 g fd ["kinds"] (spOwnSq C) := by
  refine F.ok scOwnSq (fun vs H Q E h => ?_) (fun cdv A outer s H vs Q E hr h => ?_)
  · obtain ⟨p, ws, f, rfl, _⟩ := h
    rfl
  · obtain ⟨p, ws, f, rfl, kd, k⟩ := h
    have nd := scOwnSq.nd
    refine ⟨_, pss_cons (ps_expr (pe_c M.chk hr rfl (pa_cons (pv 0) pa_nil)))
      (pss_one (ps_ret (pe_lc (own := [("kind", 1)]) (g := gName 1) (tt := tTest (tOp rEq (tMeth C "put" (spKPut C) [] E0 (tVar 0) (tCons (tVar 1) (tCons (tVar 1) tNil))) (tVar 1))) (te := tVar 1) rfl nd (pi_list (pe_m0 M.wor T.cl hr (pv 0)))
        (blkOk_by (own := [("kind", 1)]) (N := nOwnSq) (sc := defScope pOwnSquares) (by decide +kernel)) (fun _ _ _ _ _ => pg_name (i := 1) nd rfl (Or.inl rfl)) (fun _ _ _ _ _ => pts_one (pt_cmpR op_eq (pe_m M.put T.cl hr (pv 0) (pa_cons (pv 1) (pa_cons (pv 1) pa_nil))) (pv 1) (nomark _))) (fun _ _ _ _ _ => pv 1)))), ?_⟩
    obtain ⟨dx, d, l, kd1⟩ := id kd
    have kw := kd1.kw
    refine ⟨_, rfl, p, ws, f, rfl, kd, ?_⟩
    refine ⟨_, rfl, p, dx, _, rfl, kd1.ob, flds_no _ _ (by decide +kernel) (by decide +kernel), p, ws, f, rfl, kd, fun q H1 s1 hq0 hq => ?_⟩
    refine ⟨q, rfl, ⟨_, SqL.of hq⟩, fun D hD => ?_⟩
    refine lc_it (walk_list (K := K) (a := q) (xs := ws.map V.str)) (fun i H' => L2.Same H1 H' ∧ H' D = some (.lst (((ws.take i).filter fun x => decide (f x x = x)).map V.str))) ?_ ?_ ?_ ?_
    · exact ⟨Same.new hD, upd_same⟩
    · rintro i H2 _ ⟨s2, _⟩
      exact SqL.of (s2 _ _ hq)
    · rintro i v H0 H2 hi ⟨s2, hD2⟩ ⟨rfl, hv⟩
      obtain ⟨x, ex, rfl⟩ := str_get hv
      have mx : x ∈ ws := List.mem_of_getElem? ex
      have kd2 : KdIn C H2 p dx d l ws f := ⟨s2 _ _ (s1 _ _ kd1.ob), s2 _ _ (s1 _ _ kd1.dc), s2 _ _ (s1 _ _ kd1.ls), kw⟩
      refine at_name (σ' := [some (.ref p), some (.str x)]) rfl ⟨rfl, ?_⟩
      refine ⟨_, rfl, p, dx, _, rfl, kd2.ob, flds_no _ _ (by decide +kernel) (by decide +kernel), _, rfl, _, rfl, p, ws, f, x, x, rfl, ⟨dx, d, l, kd2⟩, mx, mx, fun H3 s3 => ?_⟩
      refine ⟨_, rfl, rfl, _, rfl, ?_⟩
      have hD3 := s3 _ _ hD2
      have lenb : ((ws.take i).filter fun x => decide (f x x = x)).length ≤ 4 := Nat.le_trans (List.length_filter_le _ _) (by rw [List.length_take]; have := kw.few; omega)
      have dq : decide (V.str (f x x) = V.str x) = decide (f x x = x) := by
        by_cases z : f x x = x
        · rw [z]; simp
        · rw [decide_eq_false z, decide_eq_false]
          intro e
          injection e with e
          exact z e
      rw [dq, take_next' ex, List.filter_append]
      refine ite2 (fun hsq => ?_) (fun hsq => ?_)
      · refine ⟨_, rfl, _, hD3, ?_, fun c o e => ?_, ?_⟩
        · rw [List.length_map]
          exact small1000 (by omega)
        · rw [upd_ne (ne_of_none e hD)]
          exact s3 _ _ (s2 _ _ e)
        · have e1 : List.filter (fun x => decide (f x x = x)) [x] = [x] := List.filter_cons_of_pos (p := fun x => decide (f x x = x)) (l := []) hsq
          rw [e1, List.map_append]
          exact upd_same
      · have e1 : List.filter (fun x => decide (f x x = x)) [x] = [] := List.filter_cons_of_neg (p := fun x => decide (f x x = x)) (l := []) hsq
        rw [e1, List.append_nil]
        exact ⟨fun c o e => s3 _ _ (s2 _ _ e), hD3⟩
    · rintro H2 ⟨s2, hD2⟩
      rw [List.length_map, List.take_length] at hD2
      exact k D H2 (fun c o e => s2 _ _ (s1 _ _ e)) (s1.free hD) hD2
end
end KT
set_option Elab.async false
set_option linter.all false
set_option maxRecDepth 100000
set_option maxHeartbeats 4000000
namespace KT
open PySem L2 PyProof.Rows DTp TxS
def Flat2 (v w : V) : Prop := (∃ x, v = .str x ∧ w = .str x) ∨ (∃ i, v = .int i ∧ w = .int i) ∨ (∃ b, v = .bl b ∧ w = .bl b) ∨ (v = .non ∧ w = .non)
/-- both are read as the same, at most n deep -/
def Alike : Nat → Hp → V → V → Prop
  | 0, _, _, _ => False
  | n + 1, H, v, w => Flat2 v w ∨ (∃ (a b : Addr) (xs ys : List V), v = .ref a ∧ w = .ref b ∧ H a = some (.lst xs) ∧ H b = some (.lst ys) ∧ xs.length ≤ 100 ∧ Paired (Alike n H) xs ys) ∨
    (∃ (a b : Addr) (xs ys : List V), v = .ref a ∧ w = .ref b ∧ H a = some (.tup xs) ∧ H b = some (.tup ys) ∧ xs.length ≤ 100 ∧ Paired (Alike n H) xs ys) ∨
    (∃ (a b : Addr) (ps : List (Str × Str)) (f : Str → Str → Str), 3 ≤ n ∧ v = .ref a ∧ w = .ref b ∧ H a = some (.dT (ps.map fun p => (keyP p, valW f p))) ∧ H b = some (.dT (ps.map fun p => (keyP p, valW f p))) ∧ ps.Nodup ∧ ps.length ≤ 100) ∨
    ∃ (a b : Addr) (kvs : List (Key × V)) (ks : List Str), 2 ≤ n ∧ v = .ref a ∧ w = .ref b ∧ H a = some (.dK kvs) ∧ H b = some (.dK kvs) ∧ kvs.map (·.1) = ks.map Sum.inr ∧ ks.Nodup ∧ (∀ p ∈ kvs, Flat2 p.2 p.2) ∧ ks.length ≤ 100
theorem Alike.mono {H H' : Hp} (s : L2.Same H H') : ∀ {n : Nat} {v w : V}, Alike n H v w → Alike n H' v w
  | 0, _, _, h => h
  | n + 1, _, _, h => by
    rcases h with h | ⟨a, b, xs, ys, e1, e2, h1, h2, l, p⟩ | ⟨a, b, xs, ys, e1, e2, h1, h2, l, p⟩ | ⟨a, b, ps, f, n3, e1, e2, h1, h2, nd, l⟩ | ⟨a, b, kvs, ks, n2, e1, e2, h1, h2, ek, nd, fl, l⟩
    · exact .inl h
    · exact .inr (.inl ⟨a, b, xs, ys, e1, e2, s _ _ h1, s _ _ h2, l, Paired.mapP p fun _ _ q => Alike.mono s q⟩)
    · exact .inr (.inr (.inl ⟨a, b, xs, ys, e1, e2, s _ _ h1, s _ _ h2, l, Paired.mapP p fun _ _ q => Alike.mono s q⟩))
    · exact .inr (.inr (.inr (.inl ⟨a, b, ps, f, n3, e1, e2, s _ _ h1, s _ _ h2, nd, l⟩)))
    · exact .inr (.inr (.inr (.inr ⟨a, b, kvs, ks, n2, e1, e2, s _ _ h1, s _ _ h2, ek, nd, fl, l⟩)))
theorem paired_nth {α β : Type} {R : α → β → Prop} : ∀ {xs : List α} {ys : List β}, Paired R xs ys → ∀ (i : Nat) (x : α) (y : β), xs[i]? = some x → ys[i]? = some y → R x y
  | _, _, .nil, i, x, y, h, _ => by cases i <;> cases h
  | _, _, .cons r t, i, x, y, h, k => by
    cases i with
    | zero => cases h; cases k; exact r
    | succ i => exact paired_nth t i x y h k
def tOder (t1 t2 : TE) : TE := fun σ H Q => t1 σ H Q ∨ t2 σ H Q
theorem PE.oder {X : Cx} {e : Expr} {t1 t2 : TE} (a : PE X e t1) (b : PE X e t2) : PE X e (tOder t1 t2) := ⟨fun pins s σ H Q I h => h.elim (a.run pins s σ H Q I) (b.run pins s σ H Q I)⟩
def spExact (n : Nat) : Sp := fun vs H Q _ => ∃ v w : V, vs = [v, w] ∧ Alike n H v w ∧ ∀ H', L2.Same H H' → Q (.bl true) H'
abbrev nExact : List Str := ["_law_mine", "_law_theirs", "_law_alike", "_law_a", "_law_b", "_law_key"]
theorem scExact : FnScope nExact ["_law_mine", "_law_theirs"] (defScope sExact) := ⟨rfl, rfl, rfl, by decide +kernel, rfl, by decide +kernel, by decide +kernel⟩
theorem walk_zipT {K : PySem.W.Frag} {a b : Addr} {xs ys : List V} {n : Nat} (hn : n = min xs.length ys.length) : Walk (RZ.ItzT K a b) n (fun H => SqT K H a xs ∧ SqT K H b ys) (YPair (fun i => xs[i]?) (fun i => ys[i]?)) := by
  subst hn
  refine ⟨fun i _ hi q => ?_, fun _ q => ⟨xs, ys, q.1, q.2, by omega⟩, fun i H v H' _ q y => ?_⟩
  · have h1 : i < xs.length := by omega
    have h2 : i < ys.length := by omega
    exact ⟨xs, ys, xs[i], ys[i], q.1, q.2, by simp [h1], by simp [h2]⟩
  · obtain ⟨T, x, z, h1, h2, h3, h4, h5⟩ := y
    exact ⟨T, x, z, h1, h2, h3, h4 xs q.1, h5 ys q.2⟩
theorem kit2F {K : PySem.W.Frag} {t : String} (h1 : kitB t "list" = some false) (h2 : kitB t "tuple" = some false) : PySem.W.kitAny K (.type t) [.type "list", .type "tuple"] = some false :=
  kitAny_cons (kit_ty h1) (fun _ => kitAny_cons (kit_ty h2) (fun _ => kitAny_nil) fun e => by cases e) fun e => by cases e
theorem kit2L {K : PySem.W.Frag} : PySem.W.kitAny K (.type "list") [.type "list", .type "tuple"] = some true :=
  kitAny_cons (b := true) (kit_ty (by decide +kernel)) (fun e => by cases e) fun _ => rfl
theorem kit2T {K : PySem.W.Frag} : PySem.W.kitAny K (.type "tuple") [.type "list", .type "tuple"] = some true :=
  kitAny_cons (b := false) (kit_ty (by decide +kernel)) (fun _ => kitAny_cons (b := true) (kit_ty (by decide +kernel)) (fun e => by cases e) fun _ => rfl) fun e => by cases e
theorem two_cls : Paired ClsV [.ty "list", .ty "tuple"] [.type "list", .type "tuple"] := .cons (.ty _) (.cons (.ty _) .nil)
theorem bl_eq (b : Bool) : decide (V.bl b = V.bl b) = true := decide_eq_true rfl
section
variable {P : Program} {w : World} {K : PySem.W.Frag} {mg : Str → Option Value} {base : Heap}
theorem step_exact {f : Addr} {fd : FuncData} (F : Fun K "_law_exact" "_law_exact" sExact f fd) (B : Blt mg) (Z : Blp mg) (hz : mg "zip" = none) {n : Nat} (C : Cee P w K mg base (n + 1) "_law_exact" ["_law_mine", "_law_theirs"] (spExact n)) : FnOk P w K mg base CX0 (n + 2) f fd ["_law_mine", "_law_theirs"] (spExact (n + 1)) := by
  refine F.ok scExact (fun vs H Q E h => ?_) (fun cdv A outer s H vs Q E hr h => ?_)
  · obtain ⟨v, w2, rfl, _⟩ := h
    rfl
  · obtain ⟨v, w2, rfl, al, k⟩ := h
    have nd := scExact.nd
    refine ⟨_, pss_cons (ps_if (pt_val (pe_callB call_isiT (by rfl) Z.isi boot_isi (pa_cons (pv 0) (pa_cons (pe_tup (pa_cons (pe_bltn (v := .ty "list") (by rfl) Z.list (by decide +kernel) rfl) (pa_cons (pe_bltn (v := .ty "tuple") (by rfl) Z.tuple (by decide +kernel) rfl) pa_nil))) pa_nil))))
        (pss_cons (ps_set (i := 2) nd rfl (Or.inl rfl) (pe_and (pe_cmpR op_eq (pe_callB call_isi (by rfl) Z.isi boot_isi (pa_cons (pv 1) (pa_cons (pe_bltn (v := .ty "list") (by rfl) Z.list (by decide +kernel) rfl) pa_nil))) (pe_callB call_isi (by rfl) Z.isi boot_isi (pa_cons (pv 0) (pa_cons (pe_bltn (v := .ty "list") (by rfl) Z.list (by decide +kernel) rfl) pa_nil))) (nomark _)) (pe_one (pe_cmpR op_eq (pe_callB call_isi (by rfl) Z.isi boot_isi (pa_cons (pv 1) (pa_cons (pe_bltn (v := .ty "tuple") (by rfl) Z.tuple (by decide +kernel) rfl) pa_nil))) (pe_callB call_isi (by rfl) Z.isi boot_isi (pa_cons (pv 0) (pa_cons (pe_bltn (v := .ty "tuple") (by rfl) Z.tuple (by decide +kernel) rfl) pa_nil))) (nomark _)))))
        (pss_one (ps_ret (pe_and (pv 2) (pe_and (pe_cmpR op_eq (pe_callB call_len_seq (by rfl) B.len PySem.boot_len (pa_cons (pv 0) pa_nil)) (pe_callB call_len_seq (by rfl) B.len PySem.boot_len (pa_cons (pv 1) pa_nil)) (nomark _)) (pe_one (pe_callB (cr_all rfl) (by rfl) Z.all (by decide +kernel) (pa_cons
          (pe_lc (own := [("_law_a", 3), ("_law_b", 4)]) (g := gXY K 3 4) (tt := tYes) (te := tCall (spExact n) [] E0 (tCons (tVar 3) (tCons (tVar 4) tNil))) rfl nd (RZ.pi_zipA (by rfl) hz (pa_cons (pv 0) (pa_cons (pv 1) pa_nil))) (blkOk_by (own := [("_law_a", 3), ("_law_b", 4)]) (N := nExact) (sc := defScope sExact) (by decide +kernel))
            (fun _ _ _ _ _ => pg_tup rfl (pgs_cons (pg_name (i := 3) nd rfl (Or.inl rfl)) (pgs_cons (pg_name (i := 4) nd rfl (Or.inl rfl)) pgs_nil))) (fun _ _ _ _ _ => pts_nil) (fun _ _ _ _ _ => pe_c C hr rfl (pa_cons (pv 3) (pa_cons (pv 4) pa_nil)) (Nat.le_refl _))) pa_nil)))))))) pss_nil)
      (pss_cons (ps_if (pt_val (pe_callB call_isi (by rfl) Z.isi boot_isi (pa_cons (pv 0) (pa_cons (pe_bltn (v := .ty "dict") (by rfl) Z.dict (by decide +kernel) rfl) pa_nil))))
        (pss_cons (ps_set (i := 2) nd rfl (Or.inl rfl) (pe_and (pe_callB call_isi (by rfl) Z.isi boot_isi (pa_cons (pv 1) (pa_cons (pe_bltn (v := .ty "dict") (by rfl) Z.dict (by decide +kernel) rfl) pa_nil))) (pe_one (pe_c C hr rfl (pa_cons (PE.oder (pe_callTy (call_list_dT rfl) (by rfl) Z.list (by decide +kernel) (pa_cons (pv 0) pa_nil)) (pe_callTy (call_list_dK rfl) (by rfl) Z.list (by decide +kernel) (pa_cons (pv 0) pa_nil))) (pa_cons (PE.oder (pe_callTy (call_list_dT rfl) (by rfl) Z.list (by decide +kernel) (pa_cons (pv 1) pa_nil)) (pe_callTy (call_list_dK rfl) (by rfl) Z.list (by decide +kernel) (pa_cons (pv 1) pa_nil))) pa_nil)) (Nat.le_refl _)))))
        (pss_one (ps_ret (pe_and (pv 2) (pe_one (pe_callB (cr_all rfl) (by rfl) Z.all (by decide +kernel) (pa_cons (pe_lock
          (pe_lc (own := [("_law_key", 5)]) (g := gName 5) (tt := tYes) (te := tCall (spExact n) [] E0 (tCons (tDGet (tVar 0) (tVar 5)) (tCons (tDGet (tVar 1) (tVar 5)) tNil))) rfl nd (pi_keys (pv 0)) (blkOk_by (own := [("_law_key", 5)]) (N := nExact) (sc := defScope sExact) (by decide +kernel))
            (fun _ _ _ _ _ => pg_name (i := 5) nd rfl (Or.inl rfl)) (fun _ _ _ _ _ => pts_nil) (fun _ _ _ _ _ => pe_c C hr rfl (pa_cons (pe_dget (hu_of hr) (pv 0) (pv 5) (fun _ _ => rfl)) (pa_cons (pe_dget (hu_of hr) (pv 1) (pv 5) (fun _ _ => rfl)) pa_nil)) (Nat.le_refl _)))) pa_nil))))))) pss_nil)
      (pss_cons (ps_set (i := 2) nd rfl (Or.inl rfl) (pe_cmpR op_eq (pe_callB call_isi (by rfl) Z.isi boot_isi (pa_cons (pv 0) (pa_cons (pe_bltn (v := .ty "int") (by rfl) B.int boot_int rfl) pa_nil))) (pe_callB call_isi (by rfl) Z.isi boot_isi (pa_cons (pv 1) (pa_cons (pe_bltn (v := .ty "int") (by rfl) B.int boot_int rfl) pa_nil))) (nomark _)))
      (pss_one (ps_ret (pe_and (pv 2) (pe_and (pe_cmpR op_eq (pe_callB call_isi (by rfl) Z.isi boot_isi (pa_cons (pv 0) (pa_cons (pe_bltn (v := .ty "bool") (by rfl) Z.bool (by decide +kernel) rfl) pa_nil))) (pe_callB call_isi (by rfl) Z.isi boot_isi (pa_cons (pv 1) (pa_cons (pe_bltn (v := .ty "bool") (by rfl) Z.bool (by decide +kernel) rfl) pa_nil))) (nomark _)) (pe_one (pe_cmpR op_eq (pv 0) (pv 1) (nomark _))))))))), ?_⟩
    rcases al with (⟨x, rfl, rfl⟩ | ⟨i, rfl, rfl⟩ | ⟨b, rfl, rfl⟩ | ⟨rfl, rfl⟩) | ⟨a, b, xs, ys, rfl, rfl, ha, hb, hl, pr⟩ | ⟨a, b, xs, ys, rfl, rfl, ha, hb, hl, pr⟩ | ⟨a, b, ps, f, n3, rfl, rfl, ha, hb, ndp, hl⟩ | ⟨a, b, kvs, ks, n2, rfl, rfl, ha, hb, ek, ndk, fl, hl⟩
    · skip
      refine ⟨_, rfl, (by show 2 ≤ sizeLine; decide), fun tp htp => ?_⟩
      have s1 := Same.new (H := H) (o := .tup [.ty "list", .ty "tuple"]) htp
      have etp : upd H tp (.tup [.ty "list", .ty "tuple"]) tp = _ := upd_same
      generalize upd H tp (.tup [.ty "list", .ty "tuple"]) = G at s1 etp ⊢
      refine ⟨_, tp, _, _, _, false, rfl, etp, two_cls, .base (.str _), kit2F (by decide +kernel) (by decide +kernel), _, rfl, iteF ?_⟩
      refine ⟨_, rfl, _, _, _, _, false, rfl, .ty _, .base (.str _), kit_ty (by decide +kernel), _, rfl, iteF ?_⟩
      refine ⟨_, rfl, _, _, _, _, false, rfl, .ty _, .base (.str _), kit_ty (by decide +kernel), _, rfl, _, _, _, _, false, rfl, .ty _, .base (.str _), kit_ty (by decide +kernel), rfl, ?_⟩
      rw [bl_eq]
      refine at_name (σ' := [some (.str x), some (.str x), some (.bl true), none, none, none]) rfl ?_
      refine ⟨_, rfl, _, rfl, iteT ?_⟩
      refine ⟨_, rfl, _, _, _, _, false, rfl, .ty _, .base (.str _), kit_ty (by decide +kernel), _, rfl, _, _, _, _, false, rfl, .ty _, .base (.str _), kit_ty (by decide +kernel), rfl, ?_⟩
      rw [bl_eq]
      refine ⟨_, rfl, iteT ⟨_, rfl, _, rfl, rfl, ?_⟩⟩
      rw [decide_eq_true rfl]
      exact k _ s1
    · skip
      refine ⟨_, rfl, (by show 2 ≤ sizeLine; decide), fun tp htp => ?_⟩
      have s1 := Same.new (H := H) (o := .tup [.ty "list", .ty "tuple"]) htp
      have etp : upd H tp (.tup [.ty "list", .ty "tuple"]) tp = _ := upd_same
      generalize upd H tp (.tup [.ty "list", .ty "tuple"]) = G at s1 etp ⊢
      refine ⟨_, tp, _, _, _, false, rfl, etp, two_cls, .base (.int _), kit2F (by decide +kernel) (by decide +kernel), _, rfl, iteF ?_⟩
      refine ⟨_, rfl, _, _, _, _, false, rfl, .ty _, .base (.int _), kit_ty (by decide +kernel), _, rfl, iteF ?_⟩
      refine ⟨_, rfl, _, _, _, _, true, rfl, .ty _, .base (.int _), kit_ty (by decide +kernel), _, rfl, _, _, _, _, true, rfl, .ty _, .base (.int _), kit_ty (by decide +kernel), rfl, ?_⟩
      rw [bl_eq]
      refine at_name (σ' := [some (.int i), some (.int i), some (.bl true), none, none, none]) rfl ?_
      refine ⟨_, rfl, _, rfl, iteT ?_⟩
      refine ⟨_, rfl, _, _, _, _, false, rfl, .ty _, .base (.int _), kit_ty (by decide +kernel), _, rfl, _, _, _, _, false, rfl, .ty _, .base (.int _), kit_ty (by decide +kernel), rfl, ?_⟩
      rw [bl_eq]
      refine ⟨_, rfl, iteT ⟨_, rfl, _, rfl, rfl, ?_⟩⟩
      rw [decide_eq_true rfl]
      exact k _ s1
    · skip
      refine ⟨_, rfl, (by show 2 ≤ sizeLine; decide), fun tp htp => ?_⟩
      have s1 := Same.new (H := H) (o := .tup [.ty "list", .ty "tuple"]) htp
      have etp : upd H tp (.tup [.ty "list", .ty "tuple"]) tp = _ := upd_same
      generalize upd H tp (.tup [.ty "list", .ty "tuple"]) = G at s1 etp ⊢
      refine ⟨_, tp, _, _, _, false, rfl, etp, two_cls, .base (.bl _), kit2F (by decide +kernel) (by decide +kernel), _, rfl, iteF ?_⟩
      refine ⟨_, rfl, _, _, _, _, false, rfl, .ty _, .base (.bl _), kit_ty (by decide +kernel), _, rfl, iteF ?_⟩
      refine ⟨_, rfl, _, _, _, _, true, rfl, .ty _, .base (.bl _), kit_ty (by decide +kernel), _, rfl, _, _, _, _, true, rfl, .ty _, .base (.bl _), kit_ty (by decide +kernel), rfl, ?_⟩
      rw [bl_eq]
      refine at_name (σ' := [some (.bl b), some (.bl b), some (.bl true), none, none, none]) rfl ?_
      refine ⟨_, rfl, _, rfl, iteT ?_⟩
      refine ⟨_, rfl, _, _, _, _, true, rfl, .ty _, .base (.bl _), kit_ty (by decide +kernel), _, rfl, _, _, _, _, true, rfl, .ty _, .base (.bl _), kit_ty (by decide +kernel), rfl, ?_⟩
      rw [bl_eq]
      refine ⟨_, rfl, iteT ⟨_, rfl, _, rfl, rfl, ?_⟩⟩
      rw [decide_eq_true rfl]
      exact k _ s1
    · skip
      refine ⟨_, rfl, (by show 2 ≤ sizeLine; decide), fun tp htp => ?_⟩
      have s1 := Same.new (H := H) (o := .tup [.ty "list", .ty "tuple"]) htp
      have etp : upd H tp (.tup [.ty "list", .ty "tuple"]) tp = _ := upd_same
      generalize upd H tp (.tup [.ty "list", .ty "tuple"]) = G at s1 etp ⊢
      refine ⟨_, tp, _, _, _, false, rfl, etp, two_cls, .base .non, kit2F (by decide +kernel) (by decide +kernel), _, rfl, iteF ?_⟩
      refine ⟨_, rfl, _, _, _, _, false, rfl, .ty _, .base .non, kit_ty (by decide +kernel), _, rfl, iteF ?_⟩
      refine ⟨_, rfl, _, _, _, _, false, rfl, .ty _, .base .non, kit_ty (by decide +kernel), _, rfl, _, _, _, _, false, rfl, .ty _, .base .non, kit_ty (by decide +kernel), rfl, ?_⟩
      rw [bl_eq]
      refine at_name (σ' := [some .non, some .non, some (.bl true), none, none, none]) rfl ?_
      refine ⟨_, rfl, _, rfl, iteT ?_⟩
      refine ⟨_, rfl, _, _, _, _, false, rfl, .ty _, .base .non, kit_ty (by decide +kernel), _, rfl, _, _, _, _, false, rfl, .ty _, .base .non, kit_ty (by decide +kernel), rfl, ?_⟩
      rw [bl_eq]
      refine ⟨_, rfl, iteT ⟨_, rfl, _, rfl, rfl, ?_⟩⟩
      rw [decide_eq_true rfl]
      exact k _ s1
    · skip
      refine ⟨_, rfl, (by show 2 ≤ sizeLine; decide), fun tp htp => ?_⟩
      have s1 := Same.new (H := H) (o := .tup [.ty "list", .ty "tuple"]) htp
      have etp : upd H tp (.tup [.ty "list", .ty "tuple"]) tp = _ := upd_same
      generalize upd H tp (.tup [.ty "list", .ty "tuple"]) = G at s1 etp ⊢
      refine ⟨_, tp, _, _, _, true, rfl, etp, two_cls, .base (.lst (s1 _ _ ha)), kit2L, _, rfl, iteT ?_⟩
      refine ⟨_, rfl, _, _, _, _, true, rfl, .ty _, .base (.lst (s1 _ _ hb)), kit_ty (by decide +kernel), _, rfl, _, _, _, _, true, rfl, .ty _, .base (.lst (s1 _ _ ha)), kit_ty (by decide +kernel), rfl, ?_⟩
      rw [bl_eq]
      refine ⟨_, rfl, iteT ?_⟩
      refine ⟨_, rfl, _, _, _, _, false, rfl, .ty _, .base (.lst (s1 _ _ hb)), kit_ty (by decide +kernel), _, rfl, _, _, _, _, false, rfl, .ty _, .base (.lst (s1 _ _ ha)), kit_ty (by decide +kernel), rfl, ?_⟩
      rw [bl_eq]
      refine at_name (σ' := [some (.ref a), some (.ref b), some (.bl true), none, none, none]) rfl ?_
      refine ⟨_, rfl, _, rfl, iteT ?_⟩
      refine ⟨_, rfl, a, _, rfl, .inl (SqL.of (s1 _ _ ha)), _, rfl, b, _, rfl, .inl (SqL.of (s1 _ _ hb)), rfl, ?_⟩
      have hlen := Paired.length pr
      rw [hlen, decide_eq_true rfl]
      refine ⟨_, rfl, iteT ?_⟩
      refine ⟨_, rfl, _, rfl, a, b, xs, ys, rfl, .inl ⟨SqL.of (s1 _ _ ha), SqL.of (s1 _ _ hb), fun D hD => ?_⟩⟩
      refine lc_true (walk_zip (K := K) (a := a) (b := b) (xs := xs) (ys := ys) rfl) (by omega) hD (fun H' s => ⟨SqL.of (s _ _ (s1 _ _ ha)), SqL.of (s _ _ (s1 _ _ hb))⟩) ?_ ?_
      · rintro i v H1 H2 R hi s2 ⟨T, x, y, rfl, hT, rfl, hx, hy⟩ kR
        have s3 := Same.new (H := H1) (o := .tup [x, y]) hT
        have alk : Alike n (upd H1 T (.tup [x, y])) x y := ((paired_nth pr i x y hx hy).mono s1 |>.mono s2).mono s3
        refine ⟨T, _, rfl, SqT.of upd_same, rfl, _, _, rfl, at_name (σ' := [some (.ref a), some (.ref b), some (.bl true), some x, none, none]) rfl ⟨_, _, rfl, at_name (σ' := [some (.ref a), some (.ref b), some (.bl true), some x, some y, none]) rfl ⟨rfl, rfl, ?_⟩⟩⟩
        exact ⟨_, rfl, _, rfl, x, y, rfl, alk, fun H3 s4 => kR _ fun c o e => s4 _ _ (s3 _ _ e)⟩
      · intro H1 s2 hD1
        refine ⟨D, _, rfl, SqL.of hD1, ?_⟩
        rw [all_true]
        exact k _ fun c o e => s2 _ _ (s1 _ _ e)
    · skip
      refine ⟨_, rfl, (by show 2 ≤ sizeLine; decide), fun tp htp => ?_⟩
      have s1 := Same.new (H := H) (o := .tup [.ty "list", .ty "tuple"]) htp
      have etp : upd H tp (.tup [.ty "list", .ty "tuple"]) tp = _ := upd_same
      generalize upd H tp (.tup [.ty "list", .ty "tuple"]) = G at s1 etp ⊢
      refine ⟨_, tp, _, _, _, true, rfl, etp, two_cls, .base (.tup (s1 _ _ ha)), kit2T, _, rfl, iteT ?_⟩
      refine ⟨_, rfl, _, _, _, _, false, rfl, .ty _, .base (.tup (s1 _ _ hb)), kit_ty (by decide +kernel), _, rfl, _, _, _, _, false, rfl, .ty _, .base (.tup (s1 _ _ ha)), kit_ty (by decide +kernel), rfl, ?_⟩
      rw [bl_eq]
      refine ⟨_, rfl, iteT ?_⟩
      refine ⟨_, rfl, _, _, _, _, true, rfl, .ty _, .base (.tup (s1 _ _ hb)), kit_ty (by decide +kernel), _, rfl, _, _, _, _, true, rfl, .ty _, .base (.tup (s1 _ _ ha)), kit_ty (by decide +kernel), rfl, ?_⟩
      rw [bl_eq]
      refine at_name (σ' := [some (.ref a), some (.ref b), some (.bl true), none, none, none]) rfl ?_
      refine ⟨_, rfl, _, rfl, iteT ?_⟩
      refine ⟨_, rfl, a, _, rfl, .inr (SqT.of (s1 _ _ ha)), _, rfl, b, _, rfl, .inr (SqT.of (s1 _ _ hb)), rfl, ?_⟩
      have hlen := Paired.length pr
      rw [hlen, decide_eq_true rfl]
      refine ⟨_, rfl, iteT ?_⟩
      refine ⟨_, rfl, _, rfl, a, b, xs, ys, rfl, .inr ⟨SqT.of (s1 _ _ ha), SqT.of (s1 _ _ hb), fun D hD => ?_⟩⟩
      refine lc_true (walk_zipT (K := K) (a := a) (b := b) (xs := xs) (ys := ys) rfl) (by omega) hD (fun H' s => ⟨SqT.of (s _ _ (s1 _ _ ha)), SqT.of (s _ _ (s1 _ _ hb))⟩) ?_ ?_
      · rintro i v H1 H2 R hi s2 ⟨T, x, y, rfl, hT, rfl, hx, hy⟩ kR
        have s3 := Same.new (H := H1) (o := .tup [x, y]) hT
        have alk : Alike n (upd H1 T (.tup [x, y])) x y := ((paired_nth pr i x y hx hy).mono s1 |>.mono s2).mono s3
        refine ⟨T, _, rfl, SqT.of upd_same, rfl, _, _, rfl, at_name (σ' := [some (.ref a), some (.ref b), some (.bl true), some x, none, none]) rfl ⟨_, _, rfl, at_name (σ' := [some (.ref a), some (.ref b), some (.bl true), some x, some y, none]) rfl ⟨rfl, rfl, ?_⟩⟩⟩
        exact ⟨_, rfl, _, rfl, x, y, rfl, alk, fun H3 s4 => kR _ fun c o e => s4 _ _ (s3 _ _ e)⟩
      · intro H1 s2 hD1
        refine ⟨D, _, rfl, SqL.of hD1, ?_⟩
        rw [all_true]
        exact k _ fun c o e => s2 _ _ (s1 _ _ e)
    · skip
      refine ⟨_, rfl, (by show 2 ≤ sizeLine; decide), fun tp htp => ?_⟩
      have s1 := Same.new (H := H) (o := .tup [.ty "list", .ty "tuple"]) htp
      have etp : upd H tp (.tup [.ty "list", .ty "tuple"]) tp = _ := upd_same
      generalize upd H tp (.tup [.ty "list", .ty "tuple"]) = G at s1 etp ⊢
      refine ⟨_, tp, _, _, _, false, rfl, etp, two_cls, .base (.dT (s1 _ _ ha)), kit2F (by decide +kernel) (by decide +kernel), _, rfl, iteF ?_⟩
      refine ⟨_, rfl, _, _, _, _, true, rfl, .ty _, .base (.dT (s1 _ _ ha)), kit_ty (by decide +kernel), _, rfl, iteT ?_⟩
      refine ⟨_, rfl, _, _, _, _, true, rfl, .ty _, .base (.dT (s1 _ _ hb)), kit_ty (by decide +kernel), _, rfl, iteT ?_⟩
      have ndk : ((ps.map fun p => (keyP p, valW f p)).map (·.1)).Nodup := by
        rw [List.map_map]
        exact List.Pairwise.map _ (fun a b hab e => hab (keyP_inj a b e)) ndp
      have hla : (ps.map fun p => (keyP p, valW f p)).length ≤ 100 := by rw [List.length_map]; exact hl
      have ha0 := s1 _ _ ha
      have hb0 := s1 _ _ hb
      obtain ⟨kvs, ek⟩ : ∃ z, z = ps.map fun p => (keyP p, valW f p) := ⟨_, rfl⟩
      rw [← ek] at ndk hla ha0 hb0
      refine .inl ⟨_, rfl, a, kvs, rfl, .inl ha0, fun l1 bs1 hl1 ik1 => ?_⟩
      have c1 := Same.new (H := G) (o := .lst (bs1.map V.ref)) hl1
      have c2 : upd G l1 (.lst (bs1.map V.ref)) l1 = _ := upd_same
      have ik1' : Paired (fun p b => (upd G l1 (.lst (bs1.map V.ref))) b = some (.tup (p.1.map kV))) kvs bs1 := Paired.mapP ik1 fun _ _ q => c1 _ _ q
      generalize upd G l1 (.lst (bs1.map V.ref)) = G1 at c1 c2 ik1' ⊢
      refine .inl ⟨_, rfl, b, kvs, rfl, .inl (c1 _ _ hb0), fun l2 bs2 hl2 ik2 => ?_⟩
      have d1 := Same.new (H := G1) (o := .lst (bs2.map V.ref)) hl2
      have d2 : upd G1 l2 (.lst (bs2.map V.ref)) l2 = _ := upd_same
      have ik2' : Paired (fun p b => (upd G1 l2 (.lst (bs2.map V.ref))) b = some (.tup (p.1.map kV))) kvs bs2 := Paired.mapP ik2 fun _ _ q => d1 _ _ q
      have ik1'' : Paired (fun p b => (upd G1 l2 (.lst (bs2.map V.ref))) b = some (.tup (p.1.map kV))) kvs bs1 := Paired.mapP ik1' fun _ _ q => d1 _ _ q
      generalize upd G1 l2 (.lst (bs2.map V.ref)) = G2 at d1 d2 ik2' ik1'' ⊢
      obtain ⟨m, rfl⟩ : ∃ m, n = m + 3 := ⟨n - 3, by omega⟩
      have len1 : kvs.length = bs1.length := Paired.length ik1''
      have len2 : kvs.length = bs2.length := Paired.length ik2'
      have alk : Alike (m + 3) G2 (.ref l1) (.ref l2) := by
        refine .inr (.inl ⟨l1, l2, _, _, rfl, rfl, d1 _ _ c2, d2, by rw [List.length_map]; omega, ?_⟩)
        refine paired_of (by rw [List.length_map, List.length_map]; omega) fun i x y hx hy => ?_
        rw [List.getElem?_map] at hx hy
        cases e1 : bs1[i]? with
        | none => rw [e1] at hx; cases hx
        | some b1 =>
          cases e2 : bs2[i]? with
          | none => rw [e2] at hy; cases hy
          | some b2 =>
            rw [e1] at hx
            rw [e2] at hy
            obtain rfl : V.ref b1 = x := Option.some.inj hx
            obtain rfl : V.ref b2 = y := Option.some.inj hy
            have hi : i < kvs.length := by
              have := (List.getElem?_eq_some_iff.mp e1).1
              omega
            obtain ⟨kv, ekv⟩ : ∃ kv, kvs[i]? = some kv := ⟨kvs[i], List.getElem?_eq_getElem hi⟩
            have t1 : G2 b1 = some (.tup (kv.1.map kV)) := paired_nth ik1'' i _ _ ekv e1
            have t2 : G2 b2 = some (.tup (kv.1.map kV)) := paired_nth ik2' i _ _ ekv e2
            obtain ⟨p, hp⟩ : ∃ p, kv.1 = keyP p := by
              have m := List.mem_of_getElem? ekv
              rw [ek] at m
              obtain ⟨p, _, e⟩ := List.mem_map.mp m
              exact ⟨p, (congrArg Prod.fst e).symm⟩
            rw [hp] at t1 t2
            exact .inr (.inr (.inl ⟨b1, b2, _, _, rfl, rfl, t1, t2, (by show 2 ≤ 100; decide), .cons (.inl (.inl ⟨_, rfl, rfl⟩)) (.cons (.inl (.inl ⟨_, rfl, rfl⟩)) .nil)⟩))
      refine ⟨.ref l1, .ref l2, rfl, alk, fun H2 s2 => ?_⟩
      refine at_name (σ' := [some (.ref a), some (.ref b), some (.bl true), none, none, none]) rfl ?_
      refine ⟨_, rfl, _, rfl, iteT ?_⟩
      have s02 : L2.Same H H2 := fun c o e => s2 _ _ (d1 _ _ (c1 _ _ (s1 _ _ e)))
      have ha2 : H2 a = some (.dT kvs) := s2 _ _ (d1 _ _ (c1 _ _ ha0))
      have hb2 : H2 b = some (.dT kvs) := s2 _ _ (d1 _ _ (c1 _ _ hb0))
      refine ⟨a, .dT kvs, ha2, trivial, fun od => ?_⟩
      refine ⟨_, rfl, a, od, rfl, .inr ⟨kvs, upd_same, fun D hD => ?_⟩⟩
      have nDa : D ≠ a := fun e => by rw [e, upd_same] at hD; cases hD
      refine lc_true walk_keysT (by omega) hD (fun H' s => s _ _ upd_same) ?_ ?_
      · rintro j x H0 H1 R hj s3 ⟨rfl, kk, v, q, hk, rfl, hq⟩ kR
        have hv : valV kvs kk = some v := valV_mem ndk (List.mem_of_getElem? hk)
        obtain ⟨z, rfl⟩ : ∃ z, v = .str z := by
          have m := List.mem_of_getElem? hk
          rw [ek] at m
          obtain ⟨p, _, e⟩ := List.mem_map.mp m
          exact ⟨f p.1 p.2, (congrArg Prod.snd e).symm⟩
        have ga : DGet H1 a (.ref q) (some (.str z)) := .inr ⟨kvs, kk, q, .inr ⟨od, s3 _ _ upd_same⟩, rfl, hq, hv.symm⟩
        have gb : DGet H1 b (.ref q) (some (.str z)) := by
          refine .inr ⟨kvs, kk, q, ?_, rfl, hq, hv.symm⟩
          by_cases e : b = a
          · rw [e]; exact .inr ⟨od, s3 _ _ upd_same⟩
          · exact .inl (s3 _ _ ((upd_ne e).trans hb2))
        refine at_name (σ' := [some (.ref a), some (.ref b), some (.bl true), none, none, some (.ref q)]) rfl ⟨rfl, ?_⟩
        exact ⟨_, rfl, _, rfl, a, _, rfl, ga, _, rfl, _, rfl, b, _, rfl, gb, .str z, .str z, rfl, .inl (.inl ⟨z, rfl, rfl⟩), kR⟩
      · intro H1 s3 hD1
        refine ⟨s3 _ _ upd_same, D, _, rfl, SqL.of ((upd_ne nDa).trans hD1), ?_⟩
        rw [all_true]
        refine k _ fun c o e => ?_
        by_cases hc : c = a
        · rw [hc] at e ⊢
          have := s02 _ _ e
          rw [ha2] at this
          rw [upd_same]; exact this
        · rw [upd_ne hc]
          exact s3 _ _ ((upd_ne hc).trans (s02 _ _ e))
    · skip
      refine ⟨_, rfl, (by show 2 ≤ sizeLine; decide), fun tp htp => ?_⟩
      have s1 := Same.new (H := H) (o := .tup [.ty "list", .ty "tuple"]) htp
      have etp : upd H tp (.tup [.ty "list", .ty "tuple"]) tp = _ := upd_same
      generalize upd H tp (.tup [.ty "list", .ty "tuple"]) = G at s1 etp ⊢
      refine ⟨_, tp, _, _, _, false, rfl, etp, two_cls, .base (.dK (s1 _ _ ha)), kit2F (by decide +kernel) (by decide +kernel), _, rfl, iteF ?_⟩
      refine ⟨_, rfl, _, _, _, _, true, rfl, .ty _, .base (.dK (s1 _ _ ha)), kit_ty (by decide +kernel), _, rfl, iteT ?_⟩
      refine ⟨_, rfl, _, _, _, _, true, rfl, .ty _, .base (.dK (s1 _ _ hb)), kit_ty (by decide +kernel), _, rfl, iteT ?_⟩
      have ekV : (kvs.map fun kv => kV kv.1) = ks.map V.str := by
        have e := congrArg (List.map kV) ek
        rw [List.map_map, List.map_map] at e
        exact e
      have lk : kvs.length = ks.length := by have := congrArg List.length ek; rw [List.length_map, List.length_map] at this; exact this
      have ndk2 : (kvs.map (·.1)).Nodup := by
        rw [ek]
        exact List.pairwise_map.mpr (List.Pairwise.imp (fun {a b} (ne : a ≠ b) e => ne (Sum.inr.inj e)) ndk)
      refine .inr ⟨_, rfl, a, kvs, rfl, s1 _ _ ha, fun l1 hl1 => ?_⟩
      rw [ekV]
      have c1 := Same.new (H := G) (o := .lst (ks.map V.str)) hl1
      have c2 : upd G l1 (.lst (ks.map V.str)) l1 = _ := upd_same
      generalize upd G l1 (.lst (ks.map V.str)) = G1 at c1 c2 ⊢
      refine .inr ⟨_, rfl, b, kvs, rfl, c1 _ _ (s1 _ _ hb), fun l2 hl2 => ?_⟩
      rw [ekV]
      have d1 := Same.new (H := G1) (o := .lst (ks.map V.str)) hl2
      have d2 : upd G1 l2 (.lst (ks.map V.str)) l2 = _ := upd_same
      generalize upd G1 l2 (.lst (ks.map V.str)) = G2 at d1 d2 ⊢
      obtain ⟨m, rfl⟩ : ∃ m, n = m + 2 := ⟨n - 2, by omega⟩
      have alk : Alike (m + 2) G2 (.ref l1) (.ref l2) := by
        refine .inr (.inl ⟨l1, l2, _, _, rfl, rfl, d1 _ _ c2, d2, by rw [List.length_map]; exact hl, ?_⟩)
        refine paired_of rfl fun i x y hx hy => ?_
        rw [hx] at hy
        obtain rfl := Option.some.inj hy
        obtain ⟨z, _, rfl⟩ := str_get hx
        exact .inl (.inl ⟨z, rfl, rfl⟩)
      refine ⟨.ref l1, .ref l2, rfl, alk, fun H2 s2 => ?_⟩
      refine at_name (σ' := [some (.ref a), some (.ref b), some (.bl true), none, none, none]) rfl ?_
      refine ⟨_, rfl, _, rfl, iteT ?_⟩
      have s02 : L2.Same H H2 := fun c o e => s2 _ _ (d1 _ _ (c1 _ _ (s1 _ _ e)))
      have ha2 : H2 a = some (.dK kvs) := s02 _ _ ha
      have hb2 : H2 b = some (.dK kvs) := s02 _ _ hb
      refine ⟨a, .dK kvs, ha2, trivial, fun od => ?_⟩
      refine ⟨_, rfl, a, od, rfl, .inl ⟨kvs, upd_same, fun D hD => ?_⟩⟩
      have nDa : D ≠ a := fun e => by rw [e, upd_same] at hD; cases hD
      refine lc_true walk_keys (by omega) hD (fun H' s => s _ _ upd_same) ?_ ?_
      · rintro j x H0 H1 R hj s3 ⟨rfl, kk, v, hk, rfl⟩ kR
        have hv : valV kvs kk = some v := valV_mem ndk2 (List.mem_of_getElem? hk)
        have ga : DGet H1 a (kV kk) (some v) := .inl ⟨kvs, kk, .inr ⟨od, s3 _ _ upd_same⟩, rfl, hv.symm⟩
        have gb : DGet H1 b (kV kk) (some v) := by
          refine .inl ⟨kvs, kk, ?_, rfl, hv.symm⟩
          by_cases e : b = a
          · rw [e]; exact .inr ⟨od, s3 _ _ upd_same⟩
          · exact .inl (s3 _ _ ((upd_ne e).trans hb2))
        refine at_name (σ' := [some (.ref a), some (.ref b), some (.bl true), none, none, some (kV kk)]) rfl ⟨rfl, ?_⟩
        exact ⟨_, rfl, _, rfl, a, _, rfl, ga, _, rfl, _, rfl, b, _, rfl, gb, v, v, rfl, .inl (fl _ (List.mem_of_getElem? hk)), kR⟩
      · intro H1 s3 hD1
        refine ⟨s3 _ _ upd_same, D, _, rfl, SqL.of ((upd_ne nDa).trans hD1), ?_⟩
        rw [all_true]
        refine k _ fun c o e => ?_
        by_cases hc : c = a
        · rw [hc] at e ⊢
          have := s02 _ _ e
          rw [ha2] at this
          rw [upd_same]; exact this
        · rw [upd_ne hc]
          exact s3 _ _ ((upd_ne hc).trans (s02 _ _ e))
theorem ok_exact {f : Addr} {fd : FuncData} (F : Fun K "_law_exact" "_law_exact" sExact f fd) (B : Blt mg) (Z : Blp mg) (hz : mg "zip" = none) (me : mg "_law_exact" = some (.ref f)) (kp : PySem.W.keepIn K (.ref f) = true) (hb : Binds K fd ["_law_mine", "_law_theirs"] []) : ∀ n, FnOk P w K mg base CX0 (n + 1) f fd ["_law_mine", "_law_theirs"] (spExact n)
  | 0 => by
    refine F.ok scExact (fun vs H Q E h => ?_) (fun cdv A outer s H vs Q E hr h => ?_)
    · obtain ⟨v, w2, rfl, _⟩ := h
      rfl
    · obtain ⟨v, w2, rfl, al, k⟩ := h
      exact al.elim
  | n + 1 => step_exact F B Z hz ⟨f, fd, ok_exact F B Z hz me kp hb n, me, kp, hb⟩
end
end KT
set_option Elab.async false
set_option linter.all false
set_option maxRecDepth 100000
set_option maxHeartbeats 4000000
namespace KT
open PySem L2 PyProof.Rows DTp TxS
/-- stands whatever happens to a thing that is no tuple -/
def StabF (F : Nat → V → Hp → Prop) : Prop := ∀ (D : Addr) (o : HO) (i : Nat) (y : V) (H H' : Hp), H D = some o → (∀ ys, o ≠ .tup ys) → But D H H' → F i y H → F i y H'
theorem StabF.val (v : Nat → V) : StabF fun i y _ => y = v i := fun _ _ _ _ _ _ _ _ _ h => h
theorem StabF.tup (f : Nat → List V → Prop) : StabF fun i y H => ∃ t xs, y = .ref t ∧ H t = some (.tup xs) ∧ f i xs := fun D o i y H H' hD no bt ⟨t, xs, e, ht, q⟩ =>
  ⟨t, xs, e, bt t _ (fun z => by rw [z, hD] at ht; exact no xs (Option.some.inj ht)) ht, q⟩
section
variable {J : It} {n : Nat} {G : Hp → Prop} {Y : Nat → Hp → V → Hp → Prop}
theorem lc_each (W : Walk J n G Y) {g : TG} {te : TE} {vs : List Nat} {σ : L2.St} {H1 : Hp} {D : Addr} {Qd : Hp → Prop} (F : Nat → V → Hp → Prop) (st : StabF F) (few : n ≤ 1000) (hD : H1 D = none) (stay : ∀ H', L2.Same H1 H' → G H')
    (step : ∀ i x H H' (R : VK), i < n → L2.Same H1 H → Y i H x H' → (∀ y H3, L2.Same H H3 → F i y H3 → R y H3) → g x (wipe σ vs) H' fun σ2 H2 => wipe σ2 vs = wipe σ vs ∧ te σ2 H2 R)
    (done : ∀ H' ys, L2.Same H1 H' → H' D = some (.lst ys) → ys.length = n → (∀ i y, ys[i]? = some y → F i y H') → Qd H') :
    ∃ W : Nat → Nat → Hp → Prop, (∃ m, W 0 m (upd H1 D (.lst []))) ∧ ∀ i m H, W i m H →
      (J.stop i H ∧ Qd H) ∨ (J.go i H ∧ ∃ Nx : Hp → Prop, (∀ H', Nx H' → ∃ m', m' < m ∧ W (i + 1) m' H') ∧ ∀ x H', J.yld i H x H' → g x (wipe σ vs) H' fun σ2 H2 => wipe σ2 vs = wipe σ vs ∧ tYes σ2 H2 fun b H3 =>
        if b = true then te σ2 H3 fun y H4 => ∃ acc, H4 D = some (.lst acc) ∧ acc.length < sizeLine ∧ Nx (upd H4 D (.lst (acc ++ [y]))) else Nx H3) := by
  refine lc_it W (tt := tYes) (fun i H' => L2.Same H1 H' ∧ ∃ ys : List V, H' D = some (.lst ys) ∧ ys.length = i ∧ ∀ j y, ys[j]? = some y → F j y H') ⟨Same.new hD, [], upd_same, rfl, fun j y h => by cases h⟩ (fun i H' _ h => stay H' h.1) (fun i x H H' hi h y => ?_) (fun H' h => ?_)
  · obtain ⟨s1, ys, hDp, ly, fy⟩ := h
    refine step i x H H' _ hi s1 y fun z H3 s2 fz => ⟨_, s2 _ _ hDp, small1000 (by omega), ?_, ys ++ [z], upd_same, ?_, ?_⟩
    · intro c o e
      rw [upd_ne (ne_of_none e hD)]
      exact s2 _ _ (s1 _ _ e)
    · rw [List.length_append, ly]; rfl
    · intro j y hj
      by_cases e : j < ys.length
      · rw [List.getElem?_append_left e] at hj
        exact st D _ j y H _ hDp (fun _ z => nomatch z) (fun b o ne hb => (upd_ne ne).trans (s2 _ _ hb)) (fy j y hj)
      · have ej : j = i := by
          have := (List.getElem?_eq_some_iff.mp hj).1
          rw [List.length_append, List.length_singleton] at this
          omega
        rw [List.getElem?_append_right (by omega), ej, ly, Nat.sub_self] at hj
        obtain rfl : z = y := Option.some.inj hj
        rw [ej]
        exact st D _ i z H3 _ (s2 _ _ hDp) (fun _ z => nomatch z) (fun b o ne hb => (upd_ne ne).trans hb) fz
  · obtain ⟨s1, ys, hDp, ly, fy⟩ := h
    exact done H' ys s1 hDp ly fy
end
section
variable {K : PySem.W.Frag}
/-- [.. for key in told], the keys tuples -/
theorem lk_each {te0 : TE} {g : TG} {te : TE} {vs : List Nat} {σ : L2.St} {H : Hp} {Q : VK} {d : Addr} {kvs : List (List Key × V)} (hi : ∀ od (R : VK), R (.ref d) (upd H d (.frz od (.dT kvs))) → te0 σ (upd H d (.frz od (.dT kvs))) R) (hd : H d = some (.dT kvs))
    (F : Nat → V → Hp → Prop) (st : StabF F) (few : kvs.length ≤ 1000)
    (step : ∀ i kk v q od H1 (R : VK), kvs[i]? = some (kk, v) → L2.Same (upd H d (.frz od (.dT kvs))) H1 → H1 q = some (.tup (kk.map kV)) → (∀ y H3, L2.Same H1 H3 → F i y H3 → R y H3) → g (.ref q) (wipe σ vs) H1 fun σ2 H2 => wipe σ2 vs = wipe σ vs ∧ te σ2 H2 R)
    (k : ∀ D ys H', L2.Same H H' → H D = none → H' D = some (.lst ys) → ys.length = kvs.length → (∀ i y, ys[i]? = some y → F i y H') → Q (.ref D) H') :
    tLockE (tLc (iKeys te0) g tYes te vs) σ H Q := by
  refine ⟨d, .dT kvs, hd, trivial, fun od => ?_⟩
  refine hi od _ ⟨d, od, rfl, .inr ⟨kvs, upd_same, fun D hD => ?_⟩⟩
  have nDd : D ≠ d := fun e => by rw [e, upd_same] at hD; cases hD
  have hD0 : H D = none := by rw [upd_ne nDd] at hD; exact hD
  refine lc_each walk_keysT F st few hD (fun H' s => s _ _ upd_same) ?_ ?_
  · rintro i x H1 H1' R hi s1 ⟨rfl, kk, v, q, hk, rfl, hq⟩ kR
    exact step i kk v q od H1' R hk s1 hq kR
  · intro H1 ys s1 hD1 ly fy
    have hdl : H1 d = some (.frz od (.dT kvs)) := s1 _ _ upd_same
    refine ⟨hdl, k D ys _ (fun b o e => ?_) hD0 ((upd_ne nDd).trans hD1) ly fun i y hy => st d _ i y H1 _ hdl (fun _ z => nomatch z) (fun b o ne hb => (upd_ne ne).trans hb) (fy i y hy)⟩
    by_cases hb : b = d
    · rw [hb] at e ⊢
      rw [hd] at e
      rw [upd_same]; exact e
    · rw [upd_ne hb]
      exact s1 _ _ ((upd_ne hb).trans e)
/-- [.. for x in a list] -/
theorem ll_each {te0 : TE} {g : TG} {te : TE} {vs : List Nat} {σ : L2.St} {H : Hp} {Q : VK} (R0 : Addr → List V → Hp → Prop) (F : Nat → V → Hp → Prop) (st : StabF F)
    (hl : ∀ R : VK, (∀ l xs H1, R0 l xs H1 → SqL K H1 l xs → xs.length ≤ 1000 → R (.ref l) H1) → te0 σ H R)
    (keep : ∀ l xs H1 H2, R0 l xs H1 → L2.Same H1 H2 → SqL K H2 l xs)
    (step : ∀ l xs H0 i x H1 (R : VK), R0 l xs H0 → xs[i]? = some x → L2.Same H0 H1 → (∀ y H3, L2.Same H1 H3 → F i y H3 → R y H3) → g x (wipe σ vs) H1 fun σ2 H2 => wipe σ2 vs = wipe σ vs ∧ te σ2 H2 R)
    (k : ∀ l xs H0 D ys H', R0 l xs H0 → L2.Same H0 H' → H0 D = none → H' D = some (.lst ys) → ys.length = xs.length → (∀ i y, ys[i]? = some y → F i y H') → Q (.ref D) H') :
    tLc (iList K te0) g tYes te vs σ H Q := by
  refine hl _ fun l xs H1 r0 hs few => ?_
  refine ⟨l, rfl, ⟨xs, hs⟩, fun D hD => ?_⟩
  refine lc_each (walk_list (K := K) (a := l) (xs := xs)) F st few hD (fun H' s => keep l xs H1 H' r0 s) ?_ ?_
  · rintro i x H2 H2' R hi s1 ⟨rfl, hx⟩ kR
    exact step l xs H1 i x _ R r0 hx s1 kR
  · intro H2 ys s1 hD1 ly fy
    exact k l xs H1 D ys H2 r0 s1 hD hD1 ly fy
end
/-- things all of which are addresses -/
theorem refs_of {α : Type} {R : Addr → α → Prop} : ∀ {L : List α} {ys : List V}, ys.length = L.length → (∀ (i : Nat) (y : V) (a : α), ys[i]? = some y → L[i]? = some a → ∃ t, y = .ref t ∧ R t a) → ∃ ps : List Addr, ys = ps.map V.ref ∧ Paired R ps L
  | [], [], _, _ => ⟨[], rfl, .nil⟩
  | [], _ :: _, h, _ => by cases h
  | _ :: _, [], h, _ => by cases h
  | a :: L, y :: ys, h, k => by
    obtain ⟨t, rfl, r⟩ := k 0 y a rfl rfl
    obtain ⟨ps, e, p⟩ := refs_of (Nat.succ.inj h) fun i y a h1 h2 => k (i + 1) y a h1 h2
    exact ⟨t :: ps, by rw [e]; rfl, .cons r p⟩
theorem keys_putK (kvs : List (Key × V)) (ks : List Str) (x : Str) (v : V) (h : kvs.map (·.1) = ks.map Sum.inr) : (putK kvs (Sum.inr x) v).map (·.1) = (added ks x).map Sum.inr := by
  unfold putK added
  have ha : (kvs.any fun kv => decide (kv.1 = Sum.inr x)) = decide (x ∈ ks) := by
    have e1 : (kvs.any fun kv => decide (kv.1 = Sum.inr x)) = (kvs.map (·.1)).any fun k => decide (k = Sum.inr x) := by rw [List.any_map]; rfl
    rw [e1, h, List.any_map]
    by_cases z : x ∈ ks
    · rw [decide_eq_true z]
      exact List.any_eq_true.mpr ⟨x, z, by simp⟩
    · rw [decide_eq_false z, List.any_eq_false]
      intro y hy
      simp only [Function.comp, decide_eq_true_eq]
      intro e
      injection e with e
      exact z (e ▸ hy)
  rw [ha]
  by_cases z : x ∈ ks
  · rw [if_pos (decide_eq_true z), if_pos z, ← h, List.map_map]
    refine List.map_congr_left fun kv _ => ?_
    show (if kv.1 = Sum.inr x then (kv.1, v) else kv).1 = kv.1
    split <;> rfl
  · rw [if_neg (by simp [z]), if_neg z, List.map_append, List.map_append, h]
    rfl
theorem keys_mergeK : ∀ (L : List (Str × V)) (kvs : List (Key × V)) (ks : List Str), kvs.map (·.1) = ks.map Sum.inr → ks.Nodup → ∃ ks' : List Str, (mergeK kvs (L.map fun p => (Sum.inr p.1, p.2))).map (·.1) = ks'.map Sum.inr ∧ ks'.Nodup ∧ ∀ x, x ∈ ks' ↔ x ∈ ks ∨ x ∈ L.map (·.1)
  | [], kvs, ks, h, n => ⟨ks, h, n, fun x => by simp⟩
  | p :: L, kvs, ks, h, n => by
    obtain ⟨ks', h1, h2, h3⟩ := keys_mergeK L (putK kvs (Sum.inr p.1) p.2) (added ks p.1) (keys_putK kvs ks p.1 p.2 h) (added_nodup n)
    refine ⟨ks', h1, h2, fun x => ?_⟩
    rw [h3, added_mem, List.map_cons, List.mem_cons]
    constructor
    · rintro ((a | b) | c)
      · exact .inl a
      · exact .inr (.inl b)
      · exact .inr (.inr c)
    · rintro (a | b | c)
      · exact .inl (.inl a)
      · exact .inl (.inr b)
      · exact .inr c
section
variable {P : Program} {w : World} {K : PySem.W.Frag} {mg : Str → Option Value} {base : Heap} {C : Addr}
def spKindsOf : Sp := fun vs H Q _ => ∃ (d : Addr) (ws : List Str) (f : Str → Str → Str), vs = [.ref d] ∧ H d = some (.dT (tabW ws f)) ∧ KW ws f ∧ ∀ (q : Addr) (H' : Hp), L2.Same H H' → H q = none → H' q = some (.lst (ws.map V.str)) → Q (.ref q) H'
abbrev nKindsOf : List Str := ["_law_table_here", "_law_pair"]
theorem scKindsOf : FnScope nKindsOf ["_law_table_here"] (defScope sKindsOf) := ⟨rfl, rfl, rfl, by decide +kernel, rfl, by decide +kernel, by decide +kernel⟩
theorem pairsW_fst {ws : List Str} {x : Str} : x ∈ (pairsW ws).map (·.1) ↔ x ∈ ws := by
  rw [List.mem_map]
  constructor
  · rintro ⟨p, hp, rfl⟩
    exact (mem_pairsW.mp hp).1
  · intro h
    exact ⟨(x, x), mem_pairsW.mpr ⟨h, h⟩, rfl⟩
theorem tabW_at {ws : List Str} {f : Str → Str → Str} {i : Nat} {kk : List Key} {v : V} (h : (tabW ws f)[i]? = some (kk, v)) : ∃ p, (pairsW ws)[i]? = some p ∧ kk = keyP p ∧ v = valW f p ∧ p.1 ∈ ws ∧ p.2 ∈ ws := by
  unfold tabW at h
  rw [List.getElem?_map] at h
  cases e : (pairsW ws)[i]? with
  | none => rw [e] at h; cases h
  | some p =>
    rw [e] at h
    have h := Option.some.inj h
    have m := mem_pairsW.mp (List.mem_of_getElem? e)
    exact ⟨p, rfl, (congrArg Prod.fst h).symm, (congrArg Prod.snd h).symm, m.1, m.2⟩
theorem tab16 {ws : List Str} {f : Str → Str → Str} (kw : KW ws f) : (tabW ws f).length ≤ 16 := by
  rw [tabW_len]
  exact Nat.le_trans (Nat.mul_le_mul kw.few kw.few) (by decide)
theorem ok_kindsOf {g : Addr} {fd : FuncData} (F : Fun K "_law_kinds_of" "_law_kinds_of" sKindsOf g fd) (Z : Blp mg) : FnOk P w K mg base CX0 1 g fd ["_law_table_here"] spKindsOf := by
  refine F.ok scKindsOf (fun vs H Q E h => ?_) (fun cdv A outer s H vs Q E hr h => ?_)
  · obtain ⟨d, ws, f, rfl, _⟩ := h
    rfl
  · obtain ⟨d, ws, f, rfl, hd, kw, k⟩ := h
    have nd := scKindsOf.nd
    refine ⟨_, pss_one (ps_ret (pe_callB (call_sortedD rfl) (by rfl) Z.sorted (by decide +kernel) (pa_cons (pe_callTy (call_dictP rfl) (by rfl) Z.dict (by decide +kernel) (pa_cons (pe_lock
      (pe_lc (own := [("_law_pair", 1)]) (g := gName 1) (tt := tYes) (te := tTup (tCons (tOp (rIxT K) (tVar 1) (tC (.int 0))) (tCons (tC (.bl true)) tNil))) rfl nd (pi_keys (pv 0)) (blkOk_by (own := [("_law_pair", 1)]) (N := nKindsOf) (sc := defScope sKindsOf) (by decide +kernel))
        (fun _ _ _ _ _ => pg_name (i := 1) nd rfl (Or.inl rfl)) (fun _ _ _ _ _ => pts_nil) (fun _ _ _ _ _ => pe_tup (pa_cons (pe_ix ix_tup (pv 1) pe_int (fun _ _ => rfl)) (pa_cons pe_bl pa_nil))))) pa_nil)) pa_nil))), ?_⟩
    refine lk_each (fun od R hh => ⟨_, rfl, hh⟩) hd (fun i y H' => ∃ t xs, y = .ref t ∧ H' t = some (.tup xs) ∧ ∃ p, (pairsW ws)[i]? = some p ∧ xs = [.str p.1, .bl true]) (StabF.tup _) (by have := tab16 kw; omega) ?_ ?_
    · rintro i kk v q od H1 R hk s1 hq kR
      obtain ⟨⟨x, y⟩, e1, rfl, rfl, _, _⟩ := tabW_at hk
      refine at_name (σ' := [some (.ref d), some (.ref q)]) rfl ⟨rfl, ?_⟩
      refine ⟨_, rfl, q, [.str x, .str y], 0, _, rfl, rfl, SqT.of hq, atI_nat (j := 0) rfl, (by show 2 ≤ sizeLine; decide), fun t ht => ?_⟩
      exact kR _ _ (Same.new ht) ⟨t, _, rfl, upd_same, (x, y), e1, rfl⟩
    · intro D ys H1 s1 hD0 hD ly fy
      have lpw : (tabW ws f).length = (pairsW ws).length := by unfold tabW; rw [List.length_map]
      obtain ⟨ps, rfl, pr⟩ := refs_of (L := pairsW ws) (R := fun t p => H1 t = some (.tup [.str p.1, .bl true])) (ly.trans lpw) fun i y a h1 h2 => by
        obtain ⟨t, xs, e1, e2, p, e3, e4⟩ := fy i y h1
        rw [h2] at e3
        obtain rfl := Option.some.inj e3
        exact ⟨t, e1, by rw [← e4]; exact e2⟩
      have pr2 : Paired (fun p (kv : Key × V) => SqT K H1 p [kV kv.1, kv.2]) ps (((pairsW ws).map fun p => (p.1, V.bl true)).map fun p => (Sum.inr p.1, p.2)) := by
        rw [List.map_map]
        clear fy ly hD
        generalize pairsW ws = L at pr
        induction pr with
        | nil => exact .nil
        | cons r t ih => exact .cons (SqT.of r) ih
      refine ⟨D, ps, _, rfl, SqL.of hD, pr2, fun q hq => ?_⟩
      obtain ⟨ks, m1, m2, m3⟩ := keys_mergeK ((pairsW ws).map fun p => (p.1, V.bl true)) [] [] rfl .nil
      have m4 : ∀ x, x ∈ ks ↔ x ∈ ws := fun x => by
        rw [m3, List.map_map]
        have := pairsW_fst (ws := ws) (x := x)
        simp only [List.not_mem_nil, false_or]
        exact this
      have l4 : ks.length ≤ 4 := Nat.le_trans (List.Nodup.length_le_of_subset m2 fun x hx => (m4 x).mp hx) kw.few
      refine ⟨q, _, ks, rfl, .inl upd_same, m1, by omega, fun ys p py so hp => ?_⟩
      have ey : ys = ws := Asc.eq (sortedS_asc so (py.nodup_iff.mpr m2)) kw.asc (py.trans ((List.perm_ext_iff_of_nodup m2 kw.asc.nodup).mpr m4))
      subst ey
      have sq := Same.new (H := H1) (o := .dK (mergeK [] (((pairsW ys).map fun p => (p.1, V.bl true)).map fun p => (Sum.inr p.1, p.2)))) hq
      refine k p _ (fun b o e => ?_) (s1.free (sq.free hp)) upd_same
      rw [upd_ne (ne_of_none (sq _ _ (s1 _ _ e)) hp)]
      exact sq _ _ (s1 _ _ e)
/-- [k for k in kinds_of(t) if t[k, k] == k] -/
def spSquares : Sp := fun vs H Q _ => ∃ (d : Addr) (ws : List Str) (f : Str → Str → Str), vs = [.ref d] ∧ H d = some (.dT (tabW ws f)) ∧ KW ws f ∧ ∀ (q : Addr) (H' : Hp), L2.Same H H' → H q = none → H' q = some (.lst ((sqs ws f).map V.str)) → Q (.ref q) H'
abbrev nSquares : List Str := ["_law_table_here", "_law_kind"]
theorem scSquares : FnScope nSquares ["_law_table_here"] (defScope sSquares) := ⟨rfl, rfl, rfl, by decide +kernel, rfl, by decide +kernel, by decide +kernel⟩
theorem ok_squares {g : Addr} {fd : FuncData} (F : Fun K "_law_squares" "_law_squares" sSquares g fd) (M : Cee P w K mg base 1 "_law_kinds_of" ["_law_table_here"] spKindsOf) : FnOk P w K mg base CX0 2 g fd ["_law_table_here"] spSquares := by
  refine F.ok scSquares (fun vs H Q E h => ?_) (fun cdv A outer s H vs Q E hr h => ?_)
  · obtain ⟨d, ws, f, rfl, _⟩ := h
    rfl
  · obtain ⟨d, ws, f, rfl, hd, kw, k⟩ := h
    have nd := scSquares.nd
    refine ⟨_, pss_one (ps_ret (pe_lc (own := [("_law_kind", 1)]) (g := gName 1) (tt := tTest (tOp rEq (tGet2 (tVar 0) (tVar 1) (tVar 1)) (tVar 1))) (te := tVar 1) rfl nd (pi_list (pe_c M hr rfl (pa_cons (pv 0) pa_nil)))
        (blkOk_by (own := [("_law_kind", 1)]) (N := nSquares) (sc := defScope sSquares) (by decide +kernel)) (fun _ _ _ _ _ => pg_name (i := 1) nd rfl (Or.inl rfl)) (fun _ _ _ _ _ => pts_one (pt_cmpR op_eq (pe_dget (hu_of hr) (pv 0) (pe_tup (pa_cons (pv 1) (pa_cons (pv 1) pa_nil))) (fun _ _ => rfl)) (pv 1) (nomark _))) (fun _ _ _ _ _ => pv 1))), ?_⟩
    refine ⟨_, rfl, d, ws, f, rfl, hd, kw, fun q H1 s1 hq0 hq => ?_⟩
    refine ⟨q, rfl, ⟨_, SqL.of hq⟩, fun D hD => ?_⟩
    refine lc_it (walk_list (K := K) (a := q) (xs := ws.map V.str)) (fun i H' => L2.Same H1 H' ∧ H' D = some (.lst (((ws.take i).filter fun x => decide (f x x = x)).map V.str))) ?_ ?_ ?_ ?_
    · exact ⟨Same.new hD, upd_same⟩
    · rintro i H2 _ ⟨s2, _⟩
      exact SqL.of (s2 _ _ hq)
    · rintro i v H0 H2 hi ⟨s2, hD2⟩ ⟨rfl, hv⟩
      obtain ⟨x, ex, rfl⟩ := str_get hv
      have mx : x ∈ ws := List.mem_of_getElem? ex
      have td : TabW H2 d ws f := ⟨_, .inl (s2 _ _ (s1 _ _ hd)), tabW_tb kw.asc.nodup⟩
      refine at_name (σ' := [some (.ref d), some (.str x)]) rfl ⟨rfl, ?_⟩
      refine ⟨_, rfl, _, rfl, _, rfl, (by show 2 ≤ sizeLine; decide), fun t ht => ?_⟩
      have s3 := Same.new (H := H2) (o := .tup [.str x, .str x]) ht
      refine ⟨d, _, rfl, (td.mono s3).get mx mx upd_same, ?_⟩
      generalize upd H2 t (.tup [.str x, .str x]) = H3 at s3 ⊢
      refine ⟨_, rfl, rfl, _, rfl, ?_⟩
      have hD3 := s3 _ _ hD2
      have lenb : ((ws.take i).filter fun x => decide (f x x = x)).length ≤ 4 := Nat.le_trans (List.length_filter_le _ _) (by rw [List.length_take]; have := kw.few; omega)
      have dq : decide (V.str (f x x) = V.str x) = decide (f x x = x) := by
        by_cases z : f x x = x
        · rw [z]; simp
        · rw [decide_eq_false z, decide_eq_false]
          intro e
          injection e with e
          exact z e
      rw [dq, take_next' ex, List.filter_append]
      refine ite2 (fun hsq => ?_) (fun hsq => ?_)
      · refine ⟨_, rfl, _, hD3, ?_, fun c o e => ?_, ?_⟩
        · rw [List.length_map]
          exact small1000 (by omega)
        · rw [upd_ne (ne_of_none e hD)]
          exact s3 _ _ (s2 _ _ e)
        · have e1 : List.filter (fun x => decide (f x x = x)) [x] = [x] := List.filter_cons_of_pos (p := fun x => decide (f x x = x)) (l := []) hsq
          rw [e1, List.map_append]
          exact upd_same
      · have e1 : List.filter (fun x => decide (f x x = x)) [x] = [] := List.filter_cons_of_neg (p := fun x => decide (f x x = x)) (l := []) hsq
        rw [e1, List.append_nil]
        exact ⟨fun c o e => s3 _ _ (s2 _ _ e), hD3⟩
    · rintro H2 ⟨s2, hD2⟩
      rw [List.length_map, List.take_length] at hD2
      exact k D H2 (fun c o e => s2 _ _ (s1 _ _ e)) (s1.free hD) hD2
end
end KT
set_option Elab.async false
set_option linter.all false
set_option maxRecDepth 100000
set_option maxHeartbeats 4000000
namespace KT
open PySem L2 PyProof.Rows DTp TxS
section
variable {P : Program} {w : World} {K : PySem.W.Frag} {mg : Str → Option Value} {base : Heap} {C : Addr}
theorem tyV_dT {H : Hp} {d : Addr} {kvs : List (List Key × V)} (h : H d = some (.dT kvs)) : tyV K "dict" (.ref d) H := .inr (.inr (.inl ⟨rfl, .inr ⟨kvs, h⟩⟩))
theorem ItT.prT {H : Hp} : ∀ {ts : List Addr} {kvs : List (List Key × V)}, ItT H ts kvs → PrT K H ts kvs
  | _, _, .nil => .nil
  | _, _, .cons ⟨b, h1, h2⟩ t => .cons ⟨b, SqT.of h1, h2⟩ (ItT.prT t)
theorem paired_append {α β : Type} {F : α → β → Prop} : ∀ {xs : List α} {ys : List β} {xs2 : List α} {ys2 : List β}, Paired F xs ys → Paired F xs2 ys2 → Paired F (xs ++ xs2) (ys ++ ys2)
  | _, _, _, _, .nil, h => h
  | _, _, _, _, .cons r t, h => .cons r (paired_append t h)
theorem paired_rev {α β : Type} {F : α → β → Prop} : ∀ {xs : List α} {ys : List β}, Paired F xs ys → Paired F xs.reverse ys.reverse
  | _, _, .nil => .nil
  | _, _, .cons r t => by
    rw [List.reverse_cons, List.reverse_cons]
    exact paired_append (paired_rev t) (.cons r .nil)
theorem ItT.mono {H H' : Hp} (s : L2.Same H H') {ts : List Addr} {kvs : List (List Key × V)} (h : ItT H ts kvs) : ItT H' ts kvs := Paired.mapP h fun _ _ ⟨b, h1, h2⟩ => ⟨b, s _ _ h1, s _ _ h2⟩
/-- a dict of the same entries in another order -/
theorem merge_perm {ws : List Str} {f : Str → Str → Str} (n : ws.Nodup) {ps : List (Str × Str)} (pm : ps.Perm (pairsW ws)) : TbG (SqW ws) keyP (valW f) (mergeT [] (ps.map fun p => (keyP p, valW f p))) :=
  (TbG.merge (val := valW f) keyP_inj ps TbG.nil).congr fun a => by
    rw [false_or, pm.mem_iff, mem_pairsW]
theorem tabW_rev {ws : List Str} {f : Str → Str → Str} : (tabW ws f).reverse = (pairsW ws).reverse.map fun p => (keyP p, valW f p) := by
  unfold tabW
  rw [List.map_reverse]
def octs : List Str := (SmR.signs "abcdefghijklmnopqrstuvwxyz").map fun z => Txt.mul z 8
theorem octs_eq : octs = (List.range 26).map fun j => (⟨(Array.replicate 8 (97 + j))⟩ : Str) := by decide +kernel
theorem octs_nodup : octs.Nodup := by rw [octs_eq]; decide +kernel
theorem octs_len : octs.length = 26 := by rw [octs_eq]; decide +kernel
theorem octs_wd : ∀ x ∈ octs, Wd x := by
  rw [octs_eq]
  intro x hx
  obtain ⟨j, hj, rfl⟩ := List.mem_map.mp hx
  have j26 := List.mem_range.mp hj
  refine ⟨by show 1 ≤ (Array.replicate 8 (97 + j)).size; rw [Array.size_replicate]; decide, by show (Array.replicate 8 (97 + j)).size ≤ 8; rw [Array.size_replicate]; decide, fun c hc => ?_⟩
  have hc : c ∈ (Array.replicate 8 (97 + j)).toList := hc
  rw [Array.toList_replicate] at hc
  have := List.eq_of_mem_replicate hc
  omega
theorem filter_split {α : Type} (p : α → Bool) : ∀ L : List α, L.length = (L.filter p).length + (L.filter fun x => !p x).length
  | [] => rfl
  | x :: L => by
    have ih := filter_split p L
    by_cases h : p x = true
    · rw [List.filter_cons_of_pos h, List.filter_cons_of_neg (by simp [h]), List.length_cons, List.length_cons]; omega
    · rw [List.filter_cons_of_neg h, List.filter_cons_of_pos (by simpa using h), List.length_cons, List.length_cons]; omega
def spareW (ws : List Str) : List Str := octs.filter fun x => decide (x ∉ ws)
theorem spare_mem {ws : List Str} {x : Str} (h : x ∈ spareW ws) : Wd x ∧ x ∉ ws := by
  obtain ⟨a, b⟩ := List.mem_filter.mp h
  exact ⟨octs_wd x a, of_decide_eq_true b⟩
def spSpare : Sp := fun vs H Q _ => ∃ (l : Addr) (ws : List Str), vs = [.ref l] ∧ H l = some (.lst (ws.map V.str)) ∧ ∀ (q : Addr) (H' : Hp), L2.Same H H' → H q = none → H' q = some (.lst ((spareW ws).map V.str)) → Q (.ref q) H'
abbrev nSpare : List Str := ["_law_words_here", "_law_letter"]
theorem mul_ok8 {c : Nat} : MulOk ⟨#[c]⟩ 8 := by
  refine ⟨by decide, fun _ _ => ?_, fun _ _ => rfl⟩
  show ¬ (((#[c] : Array Nat).size : Int) > (2 ^ 63 - 1) / 8)
  show ¬ ((1 : Int) > (2 ^ 63 - 1) / 8)
  decide
end
end KT
set_option Elab.async false
set_option linter.all false
set_option maxRecDepth 100000
set_option maxHeartbeats 4000000
namespace KT
open PySem L2 PyProof.Rows DTp TxS
section
variable {ws vs : List Str} {f g : Str → Str → Str}
theorem valV_tabW {x y : Str} (n : ws.Nodup) (hx : x ∈ ws) (hy : y ∈ ws) : valV (tabW ws f) (keyP (x, y)) = some (.str (f x y)) :=
  (tabW_tb (f := f) n).get (i := (x, y)) ⟨hx, hy⟩
theorem tabW_mem {x y : Str} (hx : x ∈ ws) (hy : y ∈ ws) : (keyP (x, y), V.str (f x y)) ∈ tabW ws f := List.mem_map.mpr ⟨(x, y), mem_pairsW.mpr ⟨hx, hy⟩, rfl⟩
/-- the tables of one list of words are the same just if the products are -/
theorem sameT_iff (n : ws.Nodup) : sameT (tabW ws f) (tabW ws g) = true ↔ ∀ x ∈ ws, ∀ y ∈ ws, f x y = g x y := by
  unfold sameT
  rw [Bool.and_eq_true, tabW_len, tabW_len, List.all_eq_true]
  constructor
  · rintro ⟨_, h⟩ x hx y hy
    have := of_decide_eq_true (h _ (tabW_mem hx hy))
    rw [valV_tabW n hx hy] at this
    injection this with this
    injection this with this
    exact this.symm
  · intro h
    refine ⟨by simp, fun p hp => ?_⟩
    obtain ⟨q, hq, rfl⟩ := List.mem_map.mp hp
    obtain ⟨m1, m2⟩ := mem_pairsW.mp hq
    refine decide_eq_true ?_
    rw [show keyP q = keyP (q.1, q.2) from rfl, valV_tabW n m1 m2]
    show some (V.str (g q.1 q.2)) = some (V.str (f q.1 q.2))
    rw [h _ m1 _ m2]
theorem sameT_self (n : ws.Nodup) : sameT (tabW ws f) (tabW ws f) = true := (sameT_iff n).mpr fun _ _ _ _ => rfl
theorem putK_new {κ : Type} [DecidableEq κ] {kvs : List (κ × V)} {k : κ} {v : V} (h : k ∉ kvs.map (·.1)) : putK kvs k v = kvs ++ [(k, v)] := by
  unfold putK
  rw [if_neg]
  intro e
  obtain ⟨kv, hkv, e2⟩ := List.any_eq_true.mp e
  exact h (List.mem_map.mpr ⟨kv, hkv, of_decide_eq_true e2⟩)
theorem mergeK_nd : ∀ (more kvs : List (Key × V)), ((kvs ++ more).map (·.1)).Nodup → mergeK kvs more = kvs ++ more
  | [], kvs, _ => by rw [List.append_nil]; rfl
  | p :: more, kvs, h => by
    have e : kvs ++ p :: more = (kvs ++ [p]) ++ more := by simp
    have hp : p.1 ∉ kvs.map (·.1) := by
      rw [List.map_append, List.map_cons] at h
      intro m
      exact (List.nodup_append.mp h).2.2 _ m _ List.mem_cons_self rfl
    show mergeK (putK kvs p.1 p.2) more = _
    rw [putK_new hp, mergeK_nd more _ (by rw [← e]; exact h), e]
end
end KT
set_option Elab.async false
set_option linter.all false
set_option maxRecDepth 100000
set_option maxHeartbeats 4000000
namespace KT
open PySem L2 PyProof.Rows DTp TxS
section
variable {ws : List Str} {f : Str → Str → Str}
theorem cut_to (xs : List V) (j : Nat) (h : j ≤ xs.length) : cutV xs none (some (j : Int)) = xs.take j := by
  unfold cutV
  have e1 : HT.sIx xs.length 0 none = 0 := rfl
  have e2 : HT.sIx xs.length xs.length (some (j : Int)) = j := by
    rw [HT.sIx_nat]; omega
  rw [e1, e2, List.drop_zero, Nat.sub_zero]
theorem Pws.uniq {x : Str} {L a L' a' : Nat} (h : Pws f x L a) (h' : Pws f x L' a') : L = L' ∧ a = a' := by
  have hl : L = L' := by
    rcases Nat.lt_trichotomy L L' with z | z | z
    · exact absurd h.eq.symm (h'.dis a L h.lt z)
    · exact z
    · exact absurd h'.eq.symm (h.dis a' L' h'.lt z)
  subst hl
  exact ⟨rfl, h.inj h.lt h'.lt (h.eq.symm.trans h'.eq)⟩
end
end KT
set_option Elab.async false
set_option linter.all false
set_option maxRecDepth 100000
set_option maxHeartbeats 2000000
namespace OwQ
open PySem PySem.Spec PySem.W PyProof.Rows L2
section
variable {prog : Program} {w : World} {A : Around} {E : Value → Shared → Prop} {s : Shared} {K : Frag} {x C L f : Addr} {h₀ : Heap} {m : Str → Option Value} {ox : Obj} {od : Option Obj} {b tb : Value}
def BlBack (Q : Bool → Shared → Prop) (v : Value) (s' : Shared) : Prop := ∃ c, v = .bool c ∧ Q c s'
end
/-- a class with an own __eq__ at f, which keeps sp -/
structure EqC (P : Program) (w : World) (K : PySem.W.Frag) (mg : Str → Option Value) (base : Heap) (k : Nat) (C : Addr) (sp : Sp) : Prop where
  ex : ∃ (f : Addr) (fd : FuncData) (ps : List Str), FnOk P w K mg base CX0 k f fd ps sp ∧ findIn K (.ref C) "__eq__" = some (some (.ref f)) ∧ isFn K (.ref f) = true ∧ Binds K fd ps []
  ne : findIn K (.ref C) "__ne__" = some (some (.builtin "object.__ne__"))
  mro : mroIn K C (.type "object") = some true
/-- what __eq__ of x and y tells, turned about where neg -/
def rOwn (K : PySem.W.Frag) (C : Addr) (sp : Sp) (neg : Bool) : R2 := fun x y H Q => ∃ (a dx : Addr) (fs : List (Str × V)) (tb : Value), x = .ref a ∧ H a = some (.ins C dx fs) ∧ TyX K H y tb ∧ notFirst K C tb = true ∧
  sp [x, y] H (fun v H' => ∃ c, v = .bl c ∧ Q (.bl (if neg = true then !c else c)) H') E0
section
variable {X : Cx} {C : Addr} {sp : Sp} {k : Nat}
theorem run_eq {A : Around} {pins : List (Addr × Obj)} {σ : L2.St} {H : Hp} {s : Shared} {x y : V} {u v : Value} {Q : Bool → Hp → Prop} {f : Addr} {fd : FuncData} {ps : List Str} (F : FnOk X.prog X.w X.K X.mg X.base CX0 k f fd ps sp) (hb : Binds X.K fd ps []) (hr : Room k A) (hA : A.frames = X.A.frames)
    (I : Inv X pins σ H s) (rx : RelV x u) (ry : RelV y v) (h : sp [x, y] H (fun z H' => ∃ c, z = .bl c ∧ Q c H') E0) : wpAny (model X.prog X.w) A (call (.ref f) [u, v]) (BlBack fun c s' => ∃ H', Inv X pins σ H' s' ∧ Q c H') X.xe s := by
  have e0 : Env0 X.prog X.w X.K X.mg X.base A X.stack s H := by
    have e := I.env0
    exact ⟨by rw [hA]; exact e.frames, e.mod, e.bs, e.bsz, e.funs, e.frf, e.hok, e.bare⟩
  have hl := F.len _ _ _ _ h
  have r2 : Vals [x, y] [u, v] := .cons rx (.cons ry .nil)
  refine wpAny_call (codeAny_mono (F.run A X.stack s H ⟨[u, v], []⟩ [u, v] [x, y] _ E0 hr e0 (by
    have := hb s [u, v] I.kIn (by simpa using hl)
    simpa using this) r2 h) fun r s' hq => ?_)
  cases r with
  | error e => exact (pass0 pins σ H s e s' I hq)
  | ok fl =>
    cases fl with
    | ret w =>
      obtain ⟨z, H', I', rz, c, ez, q⟩ := I.after hq
      subst ez
      exact ⟨c, rz, H', I', q⟩
    | next => exact False.elim hq
    | brk => exact False.elim hq
    | cont => exact False.elim hq
theorem op_eqOwn (D : EqC X.prog X.w X.K X.mg X.base k C sp) (hr : Room k X.A) : OpR X (compareOp .Eq) (rOwn X.K C sp false) := by
  intro pins s σ H x y v u Q I rx ry h
  obtain ⟨a, dx, fs, tb, rfl, ha, ty, hn, q⟩ := h
  obtain ⟨f, fd, ps, F, h1, h2, h3⟩ := D.ex
  obtain rfl : v = Value.ref a := rx
  obtain ⟨mA, J, _⟩ := ins_get I.hok ha
  obtain ⟨od, J, _⟩ := J.look
  obtain ⟨m, hF⟩ := I.fr
  obtain ⟨Pk, Z, pz, _⟩ := kit_of I ry ty
  refine cmp_K (op := .Eq) (tb := tb) hr.units0 hF I.ok.mod.kin J (Z.ty _ _ I.kIn pz) hn h1 h2 (wpAny_mono (run_eq (Q := fun c H' => Q (.bl c) H') F h3 hr rfl I (show RelV (V.ref a) (Value.ref a) from rfl) ry q) (fun z s' hz => ?_) fun _ _ e => e)
  obtain ⟨c, rfl, H', I', q'⟩ := hz
  exact ⟨.bl c, H', I', rfl, q'⟩
end
end OwQ
set_option Elab.async false
set_option linter.all false
set_option maxRecDepth 100000
set_option maxHeartbeats 2000000
set_option Elab.async false
set_option linter.all false
set_option maxRecDepth 100000
set_option maxHeartbeats 8000000
namespace KT
open PySem L2 PyProof.Rows DTp TxS
section
variable {P : Program} {w : World} {K : PySem.W.Frag} {mg : Str → Option Value} {base : Heap} {C : Addr}
theorem KdIn.but {C : Addr} {H H' : Hp} {z x dx d l : Addr} {ws : List Str} {f : Str → Str → Str} (h : KdIn C H x dx d l ws f) (b : But z H H') (n1 : x ≠ z) (n2 : d ≠ z) (n3 : l ≠ z) : KdIn C H' x dx d l ws f := ⟨b x _ n1 h.ob, b d _ n2 h.dc, b l _ n3 h.ls, h.kw⟩
theorem tyX_mono {K : PySem.W.Frag} {H H' : Hp} {x : V} {t : Value} (s : L2.Same H H') (h : TyX K H x t) : TyX K H' x t := by
  cases h with
  | base b =>
    refine .base ?_
    cases b with
    | non => exact .non
    | bl x => exact .bl x
    | int i => exact .int i
    | str x => exact .str x
    | flt x => exact .flt x
    | lst e => exact .lst (s _ _ e)
    | frz e => exact .frz (s _ _ e)
    | tup e => exact .tup (s _ _ e)
    | dK e => exact .dK (s _ _ e)
    | dT e => exact .dT (s _ _ e)
    | ins e cl ha hn htk hm => exact .ins (s _ _ e) cl ha hn htk hm
  | byt b => exact .byt b
  | set e => exact .set (s _ _ e)
  | kList e c => exact .kList e c
  | kTuple e c => exact .kTuple e c
  | kDict e c => exact .kDict e c
  | fTuple e => exact .fTuple (s _ _ e)
  | fDict e => exact .fDict (s _ _ e)
/-- others than the Kinds of f over ws -/
def Oth (K : PySem.W.Frag) (C : Addr) (ws : List Str) (f : Str → Str → Str) (H : Hp) (x : V) : Prop := (∃ q ws2 f2, x = .ref q ∧ KdAt C H q ws2 f2 ∧ sameT (tabW ws f) (tabW ws2 f2) = false) ∨ ∃ t ∈ ["NoneType", "int", "dict", "list", "tuple"], TyX K H x (.type t)
theorem Oth.mono {ws : List Str} {f : Str → Str → Str} {H H' : Hp} {x : V} (s : L2.Same H H') (h : Oth K C ws f H x) : Oth K C ws f H' x := by
  rcases h with ⟨q, ws2, f2, e, kd, n⟩ | ⟨t, m, ty⟩
  · exact .inl ⟨q, ws2, f2, e, kd.mono s, n⟩
  · exact .inr ⟨t, m, tyX_mono s ty⟩
theorem mk_kindsR {H : Hp} {R : Addr → Hp → Prop} {a : Addr} {kvs : List (List Key × V)} {ws : List Str} {f : Str → Str → Str} (ha : H a = some (.dT kvs)) (tb : TbG (SqW ws) keyP (valW f) kvs) (kw : KW ws f)
    (k : ∀ x H', KdNew C H H' x ws f → L2.Same H H' → R x H') : ∀ x dx, H x = none → H dx = none → dx ≠ x → spKInit C (.ref x :: ([.ref a] ++ [])) (upd (upd H dx (.own x)) x (.ins C dx [])) (fun v H2 => v = .non ∧ R x H2) E0 :=
  fun x dx hx hdx ne => mk_kinds (Q := fun v H' => ∀ y, v = .ref y → R y H') ha tb kw (fun y H' kn s z e => by
    cases e
    exact k y H' kn s) x dx hx hdx ne |> fun h => by
      obtain ⟨p, dx2, a2, kvs2, ws2, f2, e, h1, h2, h3, h4, h5⟩ := h
      exact ⟨p, dx2, a2, kvs2, ws2, f2, e, h1, h2, h3, h4, fun H' d l u1 u2 u3 u4 => ⟨(h5 H' d l u1 u2 u3 u4).1, (h5 H' d l u1 u2 u3 u4).2 x rfl⟩⟩
theorem dpAll_strs {H : Hp} : ∀ L : List Str, DpAll K H (L.map V.str) (L.map PyData.str)
  | [] => .nil
  | x :: L => .cons (.str x) (dpAll_strs L)
theorem dp_strs {H : Hp} {a : Addr} {L : List Str} (h : SqL K H a (L.map V.str)) : Dp K H (.ref a) (.list (L.map PyData.str)) := .lst h (dpAll_strs L)
theorem lay_strs : ∀ L : List Str, (∀ x ∈ L, Wd x) → PyData.canLayAll0 (L.map PyData.str) = true
  | [], _ => rfl
  | x :: L, h => by
    simp only [List.map_cons, PyData.canLayAll0, PyData.canLay0, Bool.and_eq_true]
    refine ⟨?_, lay_strs L fun y hy => h y (List.mem_cons_of_mem _ hy)⟩
    unfold PyData.strOk
    rw [Array.all_eq_true_iff_forall_mem]
    intro c hc
    have := (h x List.mem_cons_self).2.2 c (Array.mem_toList_iff.mpr hc)
    exact decide_eq_true (by omega)
theorem depth_strs : ∀ L : List Str, PyData.depthAll (L.map PyData.str) ≤ 2
  | [] => by simp [PyData.depthAll]
  | z :: zs => by
    have h1 := depth_strs zs
    simp only [List.map_cons, PyData.depthAll, PyData.depth]
    omega
theorem shaped_strs (L : List Str) (h : ∀ x ∈ L, Wd x) : SeqAt.shaped (.list (L.map PyData.str)) = true := by
  have h1 := depth_strs L
  have h2 : PyData.depth (.list (L.map PyData.str)) ≤ 64 := by
    simp only [PyData.depth]
    omega
  show (PyData.canLay0 (.list (L.map PyData.str)) && decide (PyData.depth (.list (L.map PyData.str)) ≤ 64)) = true
  rw [Bool.and_eq_true]
  exact ⟨by simp only [PyData.canLay0]; exact lay_strs L h, decide_eq_true h2⟩
end
end KT
set_option Elab.async false
set_option linter.all false
set_option maxRecDepth 100000
set_option maxHeartbeats 4000000
namespace TxS
open PySem PySem.Spec PySem.W PyProof.Rows L2
/-- the texts met, in their order -/
def met (xs : List Str) : List Str := xs.foldl added []
theorem addedAll_mem : ∀ (xs L : List Str) (x : Str), x ∈ xs.foldl added L ↔ x ∈ L ∨ x ∈ xs
  | [], L, x => by simp
  | y :: xs, L, x => by
    show x ∈ xs.foldl added (added L y) ↔ _
    rw [addedAll_mem xs]
    unfold added
    by_cases h : y ∈ L
    · rw [if_pos h, List.mem_cons]
      exact ⟨fun z => z.elim .inl fun q => .inr (.inr q), fun z => z.elim .inl fun q => q.elim (fun e => .inl (e ▸ h)) .inr⟩
    · rw [if_neg h, List.mem_append, List.mem_singleton, List.mem_cons, or_assoc]
theorem met_mem {xs : List Str} {x : Str} : x ∈ met xs ↔ x ∈ xs := by
  unfold met
  rw [addedAll_mem]
  simp
theorem addedAll_len : ∀ (xs L : List Str), (xs.foldl added L).length ≤ L.length + xs.length
  | [], L => Nat.le_refl _
  | y :: xs, L => by
    have h := addedAll_len xs (added L y)
    have h2 : (added L y).length ≤ L.length + 1 := by
      unfold added
      split
      · omega
      · rw [List.length_append, List.length_singleton]; omega
    show (xs.foldl added (added L y)).length ≤ _
    rw [List.length_cons]; omega
theorem addedAll_nodup : ∀ (xs L : List Str), L.Nodup → (xs.foldl added L).Nodup
  | [], L, h => h
  | y :: xs, L, h => addedAll_nodup xs _ (by
    unfold added
    split
    · exact h
    · next z => exact List.nodup_append.mpr ⟨h, by simp, fun a ha b hb e => z (by rw [List.mem_singleton.mp hb] at e; exact e ▸ ha)⟩)
theorem met_nodup (xs : List Str) : (met xs).Nodup := addedAll_nodup xs [] List.nodup_nil
section
variable {P : Program} {w : World} {A : Around} {E : Value → Shared → Prop} {R : Result → Shared → Prop}
/-- one item more, and on -/
theorem goOn {I : Addr} {fp wr : List Addr} {G : Array GenState → Array GenState → Prop} {n : Nat} {Pv : Nat → Value → Prop} {St : Nat → Shared → Prop} (W : WalksS P w A.in1 I fp wr G n Pv St) (S : Addr) (off : S ∉ fp) (xs : List Str) (few : xs.length < 1000) (hn : n = xs.length)
    (items : ∀ i v, Pv i v → ∃ x t, xs[i]? = some x ∧ v = .str x t) : ∀ (left i : Nat) (s : Shared), i + left = n → St i s → TxSet w s.heap S (met (xs.take i)) → (∀ s', Moved (S :: wr) G s s' → TxSet w s'.heap S (met xs) → R (.ok (.ret .none)) s') →
    codeAny (model P w) A (.builtin "set.update.loop" ⟨[.ref S, .ref I], []⟩) R s
  | 0, i, s, e, st, hS, done => by
    have ei : i = n := e
    have Sw : S ∉ wr := fun z => off (W.sub _ z)
    rw [ei] at st hS
    have full : met (xs.take n) = met xs := by rw [hn, List.take_length]
    rw [full] at hS
    refine codeAny_builtin F.entry_set_update_loop (by rw [Around.under_plainId F.plain_set_update_loop _]; exact wpAny_bind (W.done s _ _ st fun s' mv => wpAny_pure (done s' (mv.mono fun b hb => List.mem_cons_of_mem _ hb) (hS.at fun o ho => mv.heap S o Sw ho))))
  | left + 1, i, s, e, st, hS, done => by
    have Sw : S ∉ wr := fun z => off (W.sub _ z)
    refine codeAny_builtin F.entry_set_update_loop ?_
    rw [Around.under_plainId F.plain_set_update_loop _]
    refine wpAny_bind (W.item i s _ _ (by omega) st fun v s1 hv st1 mv => ?_)
    obtain ⟨x, t, ex, rfl⟩ := items i v hv
    have R1 : TxSet w s1.heap S (met (xs.take i)) := hS.at fun o ho => mv.heap S o Sw ho
    have room : (met (xs.take i)).length + 1 < scanBound := by
      have q := addedAll_len (xs.take i) []
      have q2 : (xs.take i).length ≤ xs.length := by rw [List.length_take]; omega
      have q3 : (met (xs.take i)).length ≤ xs.length := by unfold met; rw [List.length_nil] at q; omega
      unfold scanBound
      omega
    have next : added (met (xs.take i)) x = met (xs.take (i + 1)) := by
      unfold met
      rw [List.take_add_one, ex, List.foldl_append]
      rfl
    refine wpAny_bind (wpAny_holding ?_)
    unfold setAdd
    refine wpAny_holding (wpAny_bind ((PySem.strKind P w).pyHash (strKind_is P w x t) (add_hashed (s := { s1 with toks := s1.toks + 1 }) R1 room fun h' sb R2 => ?_)))
    rw [next] at R2
    have far : ∀ b, b ∈ fp → b ≠ S := fun b hb z => off (z ▸ hb)
    refine wpAny_pure ⟨plainId_quiet F.plain_set_update_loop _, goOn W S off xs few hn items left (i + 1) _ (by omega) (W.frame _ s1 _ _ st1 (Nat.le_succ _) fun b hb o ho => (sb.2 b (far b hb)).trans ho) R2 fun s2 mv2 R3 => done s2 ?_ R3⟩
    exact Moved.trans W.gtrans ((mv.mono fun b hb => List.mem_cons_of_mem _ hb).then_heap (Nat.le_succ _) fun b o hb ho => (sb.2 b fun z => hb (by rw [z]; exact List.mem_cons_self)).trans ho) mv2
end
section
variable {P : Program} {w : World} {A : Around} {E : Value → Shared → Prop} {s : Shared}
theorem strs_nth : ∀ {us : List Value} {xs : List Str}, StrsAre us xs → ∀ (i : Nat) (v : Value), us[i]? = some v → ∃ x t, xs[i]? = some x ∧ v = .str x t
  | _, _, .nil, i, v, h => by cases h
  | _, _, .cons x t r, 0, v, h => ⟨x, t, rfl, (Option.some.inj h).symm⟩
  | _, _, .cons x t r, i + 1, v, h => strs_nth r i v h
/-- a new, empty set -/
abbrev bare (w : World) : Obj := { cls := .type "set", dict := none, data := .set #[] 0 (.fresh 0 0 (!w.params.followText "set-order")) }
theorem set_call {l : Addr} {items : Array Value} {xs : List Str} {Q : Value → Shared → Prop} (hh : A.handled = none) (hl : s.heap.IsList l items) (hi : StrsAre items.toList xs) (few : xs.length < 1000)
    (k : ∀ (h' : Heap) (tk : Nat), TxSet w h' s.heap.objs.size (met xs) → (∀ b o, s.heap.get? b = some o → h'.get? b = some o) → Q (.ref s.heap.objs.size) { s with heap := h', toks := tk }) :
    wpAny (model P w) A (call (.type "set") [.ref l]) Q E s := by
  have size : items.size = xs.length := by rw [← Array.length_toList]; exact hi.length
  obtain ⟨c, tl, m1⟩ := F.called_set.mro
  have m2 := F.called_set.made
  have m3 := F.called_set.sub
  have m4 := F.called_set.notType
  have m5 := F.called_set.canCreate
  have m6 := F.typeCall_set_1 (.ref l)
  refine wpAny_call (codeAny_of_tree (wpAny_pure ⟨Code.quiet_builtin _ (by decide +kernel), codeAny_builtin F.entry_type_call ?_⟩))
  rw [Around.under_plain (weight_type_call_type "set" [.ref l] []) rfl]
  repeat (any_goals (first | assumption | wp_step))
  refine codeAny_mono (code_set_led1 (.ref l) (E := E) (Q₁ := fun ob t => ob = .ref s.heap.objs.size ∧ t = { s with heap := s.heap.push (bare w) }) ⟨rfl, rfl⟩) fun r t hr => ?_
  match r, hr with
  | .error e, hr => exact hr
  | .ok (.ret ob), ⟨e1, e2⟩ =>
    subst e1 e2
    have at1 : (s.heap.push (bare w)).get? s.heap.objs.size = some (bare w) := Heap.get?_push_size _ rfl
    have ty1 : Shared.TypeIs { s with heap := s.heap.push (bare w) } (.ref s.heap.objs.size) "set" := ⟨_, at1, rfl⟩
    have m7 := F.called_set.init.lookup
    have m8 := F.called_set.init.bind (.ref s.heap.objs.size)
    repeat (any_goals (first | assumption | wp_step))
    refine codeAny_mono (codeAny_call_builtin (R := wants (fun r t => r = .none ∧ ∃ h' tk, t = { s with heap := h', toks := tk } ∧ TxSet w h' s.heap.objs.size (met xs) ∧ ∀ b o, s.heap.get? b = some o → h'.get? b = some o) E) F.called_set.init.plain F.entry_set_init (check_set_init_1 ty1 ?_)) fun r2 t2 hr2 => ?_
    · obtain ⟨⟨oc, od, oda, os⟩, ol, c1, nl, c2⟩ := hl
      simp only at c1 c2
      subst c1 c2
      have ol1 : (s.heap.push (bare w)).get? l = some { cls := .type "list", dict := od, data := .seq items nl, slots := os } := Heap.get?_push_of_some _ ol
      have m9 := F.sub_list_set
      have m10 := F.sub_list_frozenset
      have m11 : (Value.type "list" == Value.type "dict") = false := by decide
      have isl : (s.heap.push (bare w)).IsList l items := ⟨_, ol1, rfl, nl, rfl⟩
      unfold Builtin.«set.__init__» noKeywords Builtin.Frozenset.updateFrom
      generalize eI : pyIter = It
      wp_walk
      subst eI
      refine wpAny_pyIter_list isl (wpAny_bind (wpAny_runValue ?_))
      have lt : l < s.heap.objs.size := Heap.lt_size ol
      have big : (s.heap.push (bare w)).objs.size = s.heap.objs.size + 1 := Heap.size_push ..
      refine goOn ((Walks.list (by simp [hh]) _ l (by rw [big]; exact Nat.ne_of_lt (Nat.lt_succ_of_lt lt)) items).toS) s.heap.objs.size (by rw [big]; simp only [List.mem_cons, List.not_mem_nil, or_false, not_or]; exact ⟨Nat.ne_of_lt (Nat.lt_succ_self _), Nat.ne_of_gt lt⟩) xs few size (fun i v hv => strs_nth hi i v (by rw [Array.getElem?_toList]; exact hv)) items.size 0 _ (by omega)
        ⟨⟨_, Heap.get?_push_size _ rfl, rfl, rfl⟩, isl.push _⟩ ((fresh (h := s.heap) w).at fun o ho => Heap.get?_push_of_some _ ho) fun t mv R => ?_
      obtain ⟨h', g2, d2, tk, o2⟩ := t
      obtain rfl : g2 = s.gens := mv.gens
      obtain rfl : d2 = s.drawn := mv.drawn
      obtain rfl : o2 = s.os := mv.os
      refine wpAny_pure (wpAny_pure ⟨rfl, h', tk, rfl, R, fun b o ho => ?_⟩)
      have lb := Heap.lt_size ho
      exact mv.heap b o (by rw [big]; simp only [List.mem_cons, List.not_mem_nil, or_false, not_or]; exact ⟨Nat.ne_of_lt lb, Nat.ne_of_lt (Nat.lt_succ_of_lt lb)⟩) (Heap.get?_push_of_some _ (Heap.get?_push_of_some _ ho))
    · match r2, hr2 with
      | .error e, hr2 => exact hr2
      | .ok (.ret r), ⟨e1, h', tk, e2, R, keep⟩ =>
        subst e1 e2
        repeat (any_goals (first | assumption | wp_step))
        exact k _ _ R keep
end
section
variable {X : Cx}
def rSetX (K : PySem.W.Frag) (w : World) : List V → Hp → VK → Prop := fun vs H Q => ∃ (l : Addr) (xs : List Str), vs = [.ref l] ∧ SqL K H l (xs.map V.str) ∧ xs.length < 1000 ∧ ∀ a, H a = none → Q (.ref a) (upd H a (SetX w a (met xs)))
theorem cr_setX (hc : X.calm = true) : CallR X (.type "set") (rSetX X.K X.w) := by
  intro pins s σ H vs us Q I r h
  obtain ⟨l, xs, rfl, hl, few, q⟩ := h
  rw [Vals.ref1 r]
  obtain ⟨its, rv, pl, hz⟩ := I.list hl
  refine set_call (P := X.prog) (w := X.w) (xs := xs) (I.ok.hd hc) pl.isList (by simpa using strs_of_vals rv) few fun h' tk R keep => ?_
  exact ⟨.ref s.heap.objs.size, upd H s.heap.objs.size (SetX X.w s.heap.objs.size (met xs)), I.laid (t' := tk) keep (Nat.le_refl _) (setX_new R), rfl, q _ (I.hok.fresh (Nat.le_refl _))⟩
/-- list(e.values()) -/
def tListVals (te : TE) : TE := fun σ H Q => te σ H fun x H1 => ∃ (d : Addr) (kvs : List (Key × V)), x = .ref d ∧ H1 d = some (.dK kvs) ∧ ∀ p, H1 p = none → Q (.ref p) (upd H1 p (.lst (kvs.map (·.2))))
theorem pe_listVals {e : Expr} {te : TE} {p apos cpos pos : Pos} (hc : X.calm = true) (he : PE X e te) (hg : Gl X "list") (hm : X.mg "list" = none) (hv : bootBuiltins "list" = some (.type "list") := by decide +kernel) (hb : attributeBase e "values" X.env (eval e X.env) = eval e X.env := by rfl)
    (hline : (apos.endLine == cpos.line) = true := by rfl) (hs : starEach [.Call (.Attribute e "values" apos) [] [] cpos] X.env = (false, eval (.Call (.Attribute e "values" apos) [] [] cpos) X.env) :: starEach [] X.env := by rfl) :
    PE X (.Call (.Name "list" p) [.Call (.Attribute e "values" apos) [] [] cpos] [] pos) (tListVals te) := by
  refine ⟨fun pins s σ H Q I q => wpAny_Call_Name_kw (ld_blt I hg hm hv (PyProof.Rows.callWith_type1 ?_ hs rfl))⟩
  rw [hs]
  refine Calls.spliced_cons (wpAny_Call_method (T := "dict") (id := "dict.values") hb rfl hline F.plainAttrs_dict F.slot_dict_values F.type_dict_values (thn (he.run pins s σ H _ I q) fun u s1 ⟨x, H1, I1, rx, d, kvs, ex, hd, q⟩ => ?_))
  subst ex
  obtain rfl : u = Value.ref d := rx
  obtain ⟨hz, lo, vs, kv, hdo⟩ := I1.hok d _ hd
  obtain ⟨ep, hat⟩ := hdo.dictAt
  refine ⟨hdo.typeIs, hdo.mapOf.noDict, method_meetsIn F.slot_dict_values F.entry_dict_values rfl (PySem.evalArgs_none ⟨rfl, hdo.typeIs, F.args_dict_values_1 _, _, meets_dict_values (mixKind X.prog X.w) d lo, ⟨vs, hdo⟩, Calls.spliced_nil ?_⟩)⟩
  have I2 : Inv X pins σ H1 { s1 with heap := s1.heap.push { cls := .type "dict_values", data := .fields #[.ref d] } } := I1.kept (t' := s1.toks) fun b ob q => Heap.get?_push_of_some _ q
  have len : kvs.length = vs.length := Paired.length kv
  refine kdl_call (kdl_values (knd := mixKind X.prog X.w) (kvs := vs) (ep := ep)) (I1.ok.hd hc) ⟨⟨_, Heap.get?_push_size _ rfl, rfl, rfl⟩, hat.push _⟩ (by omega) fun h' tk acc c keep hS its => ?_
  have acc_eq : acc.toList = vs.map (·.2) := kdl_vals_eq acc.toList (by rw [Array.length_toList]; exact its.1) fun j v hj => its.2 j v (by rw [← Array.getElem?_toList]; exact hj)
  have vals : Vals (kvs.map (·.2)) acc.toList := by
    rw [acc_eq]
    clear acc_eq its hS len q hat hd hdo I2 hz
    induction kv with
    | nil => exact .nil
    | cons r t ih => exact .cons r.2 ih
  exact ⟨.ref _, upd H1 _ (.lst (kvs.map (·.2))), I2.laid (t' := tk) keep (Nat.le_refl _) ⟨by rw [List.length_map]; omega, acc.toList, c, vals, hS⟩, rfl, q _ (I2.hok.fresh (Nat.le_refl _))⟩
end
end TxS
set_option Elab.async false
set_option linter.all false
set_option maxRecDepth 100000
set_option maxHeartbeats 4000000
namespace KT
open PySem L2 PyProof.Rows DTp TxS
def dkv (dl : List (Str × Str)) : List (Key × V) := dl.map fun p => (Sum.inr p.1, V.str p.2)
def keysD (dl : List (Str × Str)) : List Str := dl.map (·.1)
def kof (dl : List (Str × Str)) (x : Str) : Str := ((dl.find? fun p => decide (p.1 = x)).map (·.2)).getD ⟨#[]⟩
theorem dkv_keys (dl : List (Str × Str)) : (dkv dl).map (·.1) = (keysD dl).map Sum.inr := by
  unfold dkv keysD
  rw [List.map_map, List.map_map]
  rfl
theorem dkv_len (dl : List (Str × Str)) : (dkv dl).length = dl.length := by unfold dkv; rw [List.length_map]
theorem keysD_len (dl : List (Str × Str)) : (keysD dl).length = dl.length := by unfold keysD; rw [List.length_map]
theorem kof_cons (p : Str × Str) (dl : List (Str × Str)) (x : Str) : kof (p :: dl) x = if p.1 = x then p.2 else kof dl x := by
  unfold kof
  rw [List.find?_cons]
  by_cases h : p.1 = x
  · rw [decide_eq_true h, if_pos h]; rfl
  · rw [decide_eq_false h, if_neg h]
theorem kof_mem : ∀ {dl : List (Str × Str)}, (keysD dl).Nodup → ∀ {p : Str × Str}, p ∈ dl → kof dl p.1 = p.2
  | [], _, p, h => by cases h
  | q :: dl, n, p, h => by
    rw [kof_cons]
    have n2 := List.nodup_cons.mp (show (q.1 :: keysD dl).Nodup from n)
    rcases List.mem_cons.mp h with rfl | h
    · rw [if_pos rfl]
    · rw [if_neg (fun e => n2.1 (by rw [e]; exact List.mem_map.mpr ⟨p, h, rfl⟩))]
      exact kof_mem n2.2 h
theorem kof_pair {dl : List (Str × Str)} (n : (keysD dl).Nodup) {x : Str} (h : x ∈ keysD dl) : (x, kof dl x) ∈ dl := by
  obtain ⟨p, hp, rfl⟩ := List.mem_map.mp h
  rw [kof_mem n hp]
  exact hp
theorem valV_dkv {dl : List (Str × Str)} (n : (keysD dl).Nodup) {x : Str} (h : x ∈ keysD dl) : valV (dkv dl) (Sum.inr x) = some (.str (kof dl x)) := by
  refine valV_mem ?_ ?_
  · rw [dkv_keys]
    exact List.pairwise_map.mpr (List.Pairwise.imp (fun {a b} (ne : a ≠ b) e => ne (Sum.inr.inj e)) n)
  · exact List.mem_map.mpr ⟨(x, kof dl x), kof_pair n h, rfl⟩
theorem valV_no {dl : List (Str × Str)} {x : Str} (h : x ∉ keysD dl) : valV (dkv dl) (Sum.inr x) = none := by
  unfold valV dkv
  rw [List.find?_map, List.find?_eq_none.mpr]
  · rfl
  · intro p hp
    simp only [Function.comp, decide_eq_true_eq]
    intro e
    exact h (List.mem_map.mpr ⟨p, hp, Sum.inr.inj e⟩)
theorem perm_keys {d1 d2 : List (Str × Str)} (p : d1.Perm d2) : (keysD d1).Perm (keysD d2) := p.map _
theorem kof_perm {d1 d2 : List (Str × Str)} (p : d1.Perm d2) (n : (keysD d2).Nodup) {x : Str} (h : x ∈ keysD d2) : kof d1 x = kof d2 x := by
  have n1 : (keysD d1).Nodup := (perm_keys p).nodup_iff.mpr n
  exact kof_mem n1 (p.mem_iff.mpr (kof_pair n h))
/-- the list that the dict is, by its keys -/
theorem by_keys {dl : List (Str × Str)} (n : (keysD dl).Nodup) : (keysD dl).map (fun x => (x, kof dl x)) = dl := by
  unfold keysD
  rw [List.map_map]
  conv => rhs; rw [← List.map_id dl]
  refine List.map_congr_left fun p hp => ?_
  show (p.1, kof dl p.1) = p
  rw [kof_mem n hp]
theorem dkv_of {dl : List (Str × Str)} (n : (keysD dl).Nodup) : (keysD dl).map (fun x => ((Sum.inr x : Key), V.str (kof dl x))) = dkv dl := by
  have h := congrArg dkv (by_keys n)
  rw [← h]
  unfold dkv
  rw [List.map_map]
  rfl
theorem inr_nodup {α β : Type} {xs : List β} (h : xs.Nodup) : (xs.map (Sum.inr : β → α ⊕ β)).Nodup := List.pairwise_map.mpr (List.Pairwise.imp (fun {a b} (ne : a ≠ b) e => ne (Sum.inr.inj e)) h)
/-- a dict made of new keys is their list -/
theorem mergeK_strs {xs : List Str} {val : Str → V} (n : xs.Nodup) : mergeK [] (xs.map fun x => ((Sum.inr x : Key), val x)) = xs.map fun x => (Sum.inr x, val x) := by
  rw [mergeK_nd _ _ (by
    rw [List.nil_append, List.map_map]
    exact inr_nodup n)]
  rfl
theorem mergeK_snoc : ∀ (xs kvs : List (Key × V)) (p : Key × V), mergeK kvs (xs ++ [p]) = putK (mergeK kvs xs) p.1 p.2 := fun xs kvs p => by
  unfold mergeK
  rw [List.foldl_append]
  rfl
section
variable {K : PySem.W.Frag}
/-- [true for key in d] -/
theorem lkK_true {te0 : TE} {g : TG} {te : TE} {vs : List Nat} {σ : L2.St} {H : Hp} {Q : VK} {d : Addr} {kvs : List (Key × V)} (hi : ∀ od (R : VK), R (.ref d) (upd H d (.frz od (.dK kvs))) → te0 σ (upd H d (.frz od (.dK kvs))) R) (hd : H d = some (.dK kvs)) (few : kvs.length ≤ 1000)
    (step : ∀ (i : Nat) k v od H1 (R : VK), kvs[i]? = some (k, v) → L2.Same (upd H d (.frz od (.dK kvs))) H1 → (∀ H3, L2.Same H1 H3 → R (.bl true) H3) → g (kV k) (wipe σ vs) H1 fun σ2 H2 => wipe σ2 vs = wipe σ vs ∧ te σ2 H2 R)
    (k : ∀ D H', L2.Same H H' → H' D = some (.lst ((List.replicate kvs.length true).map V.bl)) → Q (.ref D) H') :
    tLockE (tLc (iKeys te0) g tYes te vs) σ H Q := by
  refine ⟨d, .dK kvs, hd, trivial, fun od => ?_⟩
  refine hi od _ ⟨d, od, rfl, .inl ⟨kvs, upd_same, fun D hD => ?_⟩⟩
  have nDd : D ≠ d := fun e => by rw [e, upd_same] at hD; cases hD
  refine lc_true walk_keys few hD (fun H' s => s _ _ upd_same) ?_ ?_
  · rintro i x H1 H1' R hi s1 ⟨rfl, kk, v, hk, rfl⟩ kR
    exact step i kk v od _ R hk s1 kR
  · intro H1 s1 hD1
    have hdl : H1 d = some (.frz od (.dK kvs)) := s1 _ _ upd_same
    refine ⟨hdl, k D _ (fun b o e => ?_) ((upd_ne nDd).trans hD1)⟩
    by_cases hb : b = d
    · rw [hb] at e ⊢
      rw [hd] at e
      rw [upd_same]; exact e
    · rw [upd_ne hb]
      exact s1 _ _ ((upd_ne hb).trans e)
/-- [true for value in d.values()] -/
theorem lkV_true {te0 : TE} {g : TG} {te : TE} {vs : List Nat} {σ : L2.St} {H : Hp} {Q : VK} {d : Addr} {kvs : List (Key × V)} (hi : ∀ od (R : VK), R (.ref d) (upd H d (.frz od (.dK kvs))) → te0 σ (upd H d (.frz od (.dK kvs))) R) (hd : H d = some (.dK kvs)) (few : kvs.length ≤ 1000)
    (step : ∀ (i : Nat) k v od H1 (R : VK), kvs[i]? = some (k, v) → L2.Same (upd H d (.frz od (.dK kvs))) H1 → (∀ H3, L2.Same H1 H3 → R (.bl true) H3) → g v (wipe σ vs) H1 fun σ2 H2 => wipe σ2 vs = wipe σ vs ∧ te σ2 H2 R)
    (k : ∀ D H', L2.Same H H' → H' D = some (.lst ((List.replicate kvs.length true).map V.bl)) → Q (.ref D) H') :
    tLockE (tLc (iVals te0) g tYes te vs) σ H Q := by
  refine ⟨d, .dK kvs, hd, trivial, fun od => ?_⟩
  refine hi od _ ⟨d, od, kvs, rfl, upd_same, fun D hD => ?_⟩
  have nDd : D ≠ d := fun e => by rw [e, upd_same] at hD; cases hD
  refine lc_true walk_values few hD (fun H' s => s _ _ upd_same) ?_ ?_
  · rintro i x H1 H1' R hi s1 ⟨rfl, kk, hk⟩ kR
    exact step i kk x od _ R hk s1 kR
  · intro H1 s1 hD1
    have hdl : H1 d = some (.frz od (.dK kvs)) := s1 _ _ upd_same
    refine ⟨hdl, k D _ (fun b o e => ?_) ((upd_ne nDd).trans hD1)⟩
    by_cases hb : b = d
    · rw [hb] at e ⊢
      rw [hd] at e
      rw [upd_same]; exact e
    · rw [upd_ne hb]
      exact s1 _ _ ((upd_ne hb).trans e)
/-- {key: value for text in list} -/
theorem dcS_list {key : Str → Str} {val : Str → V} {tl tk tv : TE} {tg iter : Expr} {ifs : List Expr} {g : TG} {vs : List Nat} {σ : L2.St} {H : Hp} {Q : VK} {xs : List Str} (Pd : Addr → Hp → Prop) (few : xs.length ≤ 1000)
    (hl : ∀ R : VK, (∀ l H1, H1 l = some (.lst (xs.map V.str)) → Pd l H1 → R (.ref l) H1) → tl σ H R)
    (step : ∀ l x H1 H2 (R : V → V → Hp → Prop) (Cn : L2.St → Hp → Prop), (∀ σ2 H3, (tk σ2 H3 fun y H4 => tv σ2 H4 fun z H5 => R y z H5) → Cn σ2 H3) → x ∈ xs → Pd l H1 → L2.Same H1 H2 → (∀ H3, L2.Same H2 H3 → R (.str (key x)) (val x) H3) → g (.str x) (wipe σ vs) H2 fun σ2 H3 => wipe σ2 vs = wipe σ vs ∧ Cn σ2 H3)
    (k : ∀ q l H1 H', Pd l H1 → L2.Same H1 H' → H1 q = none → H' q = some (.dK (mergeK [] (xs.map fun x => (Sum.inr (key x), val x)))) → Q (.ref q) H') :
    GC.tCo (fun _ => .dK []) ⟨tg, iter, ifs, iList K tl, g, tYes, vs⟩ [] (GC.emK tk tv) σ H Q := by
  refine hl _ fun l H1 h1 pd => ?_
  refine ⟨l, rfl, ⟨_, SqL.of h1⟩, fun D hD => ?_⟩
  refine GC.lp_it (walk_list (K := K) (a := l) (xs := xs.map V.str)) (fun n H' => L2.Same H1 H' ∧ H' D = some (.dK (mergeK [] ((xs.take n).map fun x => (Sum.inr (key x), val x))))) ?_ ?_ ?_ ?_
  · exact ⟨Same.new hD, upd_same⟩
  · rintro i H2 _ ⟨s2, _⟩
    exact SqL.of (s2 _ _ h1)
  · rintro n x H0 H2 hn ⟨s2, hD2⟩ ⟨rfl, hx⟩
    obtain ⟨y, ey, rfl⟩ := str_get hx
    refine step l y H1 _ (fun a z H3 => ∃ (kvs2 : List (Key × V)) (k : Key), a = kV k ∧ H3 D = some (.dK kvs2) ∧ kvs2.length < sizeLine ∧ (L2.Same H1 (upd H3 D (.dK (putK kvs2 k z))) ∧ (upd H3 D (.dK (putK kvs2 k z))) D = some (.dK (mergeK [] ((xs.take (n + 1)).map fun x => (Sum.inr (key x), val x)))))) _ (fun σ2 H3 hh => hh) (List.mem_of_getElem? ey) pd s2 fun H3 s3 => ?_
    refine ⟨_, Sum.inr (key y), rfl, s3 _ _ hD2, ?_, fun c o e => ?_, ?_⟩
    · have := length_mergeK ((xs.take n).map fun x => ((Sum.inr (key x) : Key), val x)) []
      rw [List.length_map, List.length_take, List.length_nil] at this
      exact small1000 (by omega)
    · rw [upd_ne (ne_of_none e hD)]
      exact s3 _ _ (s2 _ _ e)
    · rw [upd_same, take_next' ey, List.map_append]
      exact congrArg (fun z => some (HO.dK z)) (mergeK_snoc ((xs.take n).map fun x => ((Sum.inr (key x) : Key), val x)) [] (Sum.inr (key y), val y)).symm
  · rintro H2 ⟨s2, hD2⟩
    rw [List.length_map, List.take_length] at hD2
    exact k D l H1 H2 pd s2 hD hD2
end
/-- deeds with their kinds, in any order -/
structure DlOk (ws : List Str) (dl : List (Str × Str)) : Prop where
  nd : (keysD dl).Nodup
  wd : ∀ x ∈ keysD dl, Wd x
  few : dl.length ≤ 8
  kd : ∀ p ∈ dl, p.2 ∈ ws
  all : ∀ x ∈ ws, ∃ p ∈ dl, p.2 = x
theorem DlOk.perm {ws : List Str} {d1 d2 : List (Str × Str)} (h : DlOk ws d2) (p : d1.Perm d2) : DlOk ws d1 :=
  ⟨(perm_keys p).nodup_iff.mpr h.nd, fun x hx => h.wd x ((perm_keys p).mem_iff.mp hx), by rw [p.length_eq]; exact h.few, fun q hq => h.kd q (p.mem_iff.mp hq), fun x hx => let ⟨q, m, e⟩ := h.all x hx; ⟨q, p.mem_iff.mpr m, e⟩⟩
theorem DlOk.kof {ws : List Str} {dl : List (Str × Str)} (h : DlOk ws dl) {x : Str} (hx : x ∈ keysD dl) : kof dl x ∈ ws := h.kd _ (kof_pair h.nd hx)
/-- kinds that may be done twice -/
structure TwOk (ws : List Str) (f : Str → Str → Str) (tw : List Str) : Prop where
  asc : Asc tw
  sq : ∀ x ∈ tw, x ∈ sqs ws f
theorem TwOk.len {ws : List Str} {f : Str → Str → Str} {tw : List Str} (h : TwOk ws f tw) (kw : KW ws f) : tw.length ≤ 4 :=
  Nat.le_trans (List.Nodup.length_le_of_subset h.asc.nodup fun x hx => (List.mem_filter.mp (h.sq x hx)).1) kw.few
theorem s_kd : ¬ (("_kinds" : Str) = "_deeds") := by decide +kernel
theorem s_kt : ¬ (("_kinds" : Str) = "_twice") := by decide +kernel
theorem s_dt : ¬ (("_deeds" : Str) = "_twice") := by decide +kernel
def sflds (p d l : Addr) : List (Str × V) := putF "_twice" (.ref l) (putF "_deeds" (.ref d) (putF "_kinds" (.ref p) []))
theorem sflds_k (p d l : Addr) : (sflds p d l).lookup ("_kinds" : Str) = some (.ref p) := by
  unfold sflds
  rw [lookup_putF, if_neg s_kt, lookup_putF, if_neg s_kd, lookup_putF, if_pos rfl]
theorem sflds_d (p d l : Addr) : (sflds p d l).lookup ("_deeds" : Str) = some (.ref d) := by
  unfold sflds
  rw [lookup_putF, if_neg s_dt, lookup_putF, if_pos rfl]
theorem sflds_t (p d l : Addr) : (sflds p d l).lookup ("_twice" : Str) = some (.ref l) := by
  unfold sflds
  rw [lookup_putF, if_pos rfl]
theorem sflds_no (p d l : Addr) {m : Str} (h1 : ¬ m = "_twice") (h2 : ¬ m = "_deeds") (h3 : ¬ m = "_kinds") : (sflds p d l).lookup m = none := by
  unfold sflds
  rw [lookup_putF, if_neg h1, lookup_putF, if_neg h2, lookup_putF, if_neg h3]
  all_goals rfl
/-- where a Setting's parts stand: itself, its Kinds, the Kinds' dict and list, its dict and list -/
structure SA where
  q : Addr
  dx : Addr
  p : Addr
  kx : Addr
  kd : Addr
  kl : Addr
  d : Addr
  l : Addr
def SA.all (A : SA) : List Addr := [A.q, A.p, A.kd, A.kl, A.d, A.l]
structure StIn (S C : Addr) (H : Hp) (A : SA) (ws : List Str) (f : Str → Str → Str) (dl : List (Str × Str)) (tw : List Str) : Prop where
  ob : H A.q = some (.ins S A.dx (sflds A.p A.d A.l))
  kin : KdIn C H A.p A.kx A.kd A.kl ws f
  dc : H A.d = some (.dK (dkv dl))
  ls : H A.l = some (.lst (tw.map V.str))
  ok : DlOk ws dl
  asc : Asc (keysD dl)
  tok : TwOk ws f tw
section
variable {S C : Addr} {ws : List Str} {f : Str → Str → Str} {dl : List (Str × Str)} {tw : List Str}
theorem StIn.mono {H H' : Hp} {A : SA} (s : L2.Same H H') (h : StIn S C H A ws f dl tw) : StIn S C H' A ws f dl tw :=
  ⟨s _ _ h.ob, ⟨s _ _ h.kin.ob, s _ _ h.kin.dc, s _ _ h.kin.ls, h.kin.kw⟩, s _ _ h.dc, s _ _ h.ls, h.ok, h.asc, h.tok⟩
theorem StIn.but {H H' : Hp} {A : SA} {z : Addr} (h : StIn S C H A ws f dl tw) (b : But z H H') (n : z ∉ A.all) : StIn S C H' A ws f dl tw := by
  simp only [SA.all, List.mem_cons, List.not_mem_nil, or_false, not_or] at n
  obtain ⟨n1, n2, n3, n4, n5, n6⟩ := n
  exact ⟨b _ _ (Ne.symm n1) h.ob, ⟨b _ _ (Ne.symm n2) h.kin.ob, b _ _ (Ne.symm n3) h.kin.dc, b _ _ (Ne.symm n4) h.kin.ls, h.kin.kw⟩, b _ _ (Ne.symm n5) h.dc, b _ _ (Ne.symm n6) h.ls, h.ok, h.asc, h.tok⟩
theorem StIn.some {H : Hp} {A : SA} (h : StIn S C H A ws f dl tw) : ∀ z ∈ A.all, H z ≠ none := by
  intro z hz e
  simp only [SA.all, List.mem_cons, List.not_mem_nil, or_false] at hz
  rcases hz with rfl | rfl | rfl | rfl | rfl | rfl
  · rw [h.ob] at e; cases e
  · rw [h.kin.ob] at e; cases e
  · rw [h.kin.dc] at e; cases e
  · rw [h.kin.ls] at e; cases e
  · rw [h.dc] at e; cases e
  · rw [h.ls] at e; cases e
theorem StIn.new {H : Hp} {A : SA} (h : StIn S C H A ws f dl tw) {z : Addr} (hz : H z = none) : z ∉ A.all := fun m => h.some z m hz
theorem StIn.kdAt {H : Hp} {A : SA} (h : StIn S C H A ws f dl tw) : KdAt C H A.p ws f := ⟨_, _, _, h.kin⟩
theorem PurseAt.strs {H : Hp} {p l : Addr} {B : Int} {xs : List Str} (hP : PurseAt H p B) (h : H l = .some (.lst (xs.map V.str))) : p ≠ l := by
  rintro rfl
  obtain ⟨a, b, c, d, e, _⟩ := hP
  rw [h] at e
  cases xs with
  | nil => cases e
  | cons x xs => cases e
/-- a dict that is frozen is none of a Kinds' parts -/
theorem KdAt.frz {H : Hp} {p d : Addr} {kvs : List (Key × V)} {o : HO} (h : KdAt C H p ws f) (hd : H d = .some (.dK kvs)) : KdAt C (upd H d o) p ws f := by
  obtain ⟨dx, t, l, k⟩ := h
  refine ⟨dx, t, l, (upd_ne fun e => ?_).trans k.ob, (upd_ne fun e => ?_).trans k.dc, (upd_ne fun e => ?_).trans k.ls, k.kw⟩
  · have z := k.ob; rw [e, hd] at z; cases z
  · have z := k.dc; rw [e, hd] at z; cases z
  · have z := k.ls; rw [e, hd] at z; cases z
end
end KT
set_option Elab.async false
set_option linter.all false
set_option maxRecDepth 100000
set_option maxHeartbeats 4000000
namespace KT
open PySem L2 PyProof.Rows DTp TxS
section
variable {X : Cx} {w : World}
theorem cr_setXw (hc : X.calm = true) (e : X.w = w) : CallR X (.type "set") (rSetX X.K w) := by subst e; exact cr_setX hc
theorem cr_sortXw (hc : X.calm = true) (e : X.w = w) : CallR X (.builtin "sorted") (rSortX w) := by subst e; exact cr_sortX hc
end
section
variable {P : Program} {w : World} {K : PySem.W.Frag} {mg : Str → Option Value} {base : Heap} {C S : Addr}
theorem eqvAll_strs : ∀ xs ys : List Str, PyData.eqvAll (xs.map PyData.str) (ys.map PyData.str) = decide (xs = ys)
  | [], [] => by simp [PyData.eqvAll]
  | [], y :: ys => by simp [PyData.eqvAll]
  | x :: xs, [] => by simp [PyData.eqvAll]
  | x :: xs, y :: ys => by
    rw [List.map_cons, List.map_cons, PyData.eqvAll, eqvAll_strs xs ys, PyData.eqv]
    by_cases h : x = y
    · subst h; simp
    · rw [beq_eq_false_iff_ne.mpr h, Bool.false_and, decide_eq_false]
      intro e
      exact h (List.cons.inj e).1
theorem eqv_strs (xs ys : List Str) : PyData.eqv (.list (xs.map PyData.str)) (.list (ys.map PyData.str)) = decide (xs = ys) := by
  rw [PyData.eqv]
  exact eqvAll_strs xs ys
def spIsAsc : Sp := fun vs H Q _ => ∃ (l : Addr) (xs : List Str), vs = [.ref l] ∧ H l = some (.lst (xs.map V.str)) ∧ Asc xs ∧ xs.length ≤ 900 ∧ ∀ H', L2.Same H H' → Q (.bl true) H'
abbrev nIsAsc : List Str := ["words", "one", "other"]
theorem scIsAsc : FnScope nIsAsc ["words"] (defScope pIsAsc) := ⟨rfl, rfl, rfl, by decide +kernel, rfl, by decide +kernel, by decide +kernel⟩
theorem cut_tail' (xs : List V) : cutV xs (some 1) none = xs.drop 1 := by
  cases xs with
  | nil => rfl
  | cons x xs => rw [cut_tail]; rfl
theorem ok_isAsc {g : Addr} {fd : FuncData} (F : Fun K "is_ascending" "is_ascending" pIsAsc g fd) (Z : Blp mg) (hz : mg "zip" = none) : FnOk P w K mg base CX0 1 g fd ["words"] spIsAsc := by
  refine F.ok scIsAsc (fun vs H Q E h => ?_) (fun cdv A outer s H vs Q E hr h => ?_)
  · obtain ⟨l, xs, rfl, _⟩ := h
    rfl
  · obtain ⟨l, xs, rfl, hl, asc, few, k⟩ := h
    have nd := scIsAsc.nd
    refine ⟨_, pss_one (ps_ret (pe_callB (cr_all rfl) (by rfl) Z.all (by decide +kernel) (pa_cons
        (pe_lc (own := [("one", 1), ("other", 2)]) (g := gXY K 1 2) (tt := tYes) (te := tOp (fun x y H Q => ∃ i j, x = .str i ∧ y = .str j ∧ Q (.bl (decide (i.cps.toList < j.cps.toList))) H) (tVar 1) (tVar 2)) rfl nd (pi_zip (by rfl) hz (pa_cons (pv 0) (pa_cons (pe_slice sl_list (pv 0) (po_some pe_int) po_none) pa_nil))) (blkOk_by (own := [("one", 1), ("other", 2)]) (N := nIsAsc) (sc := defScope pIsAsc) (by decide +kernel))
            (fun _ _ _ _ _ => pg_tup rfl (pgs_cons (pg_name (i := 1) nd rfl (Or.inl rfl)) (pgs_cons (pg_name (i := 2) nd rfl (Or.inl rfl)) pgs_nil))) (fun _ _ _ _ _ => pts_nil) (fun _ _ _ _ _ => pe_cmpR op_lt_str (pv 1) (pv 2) (nomark _))) pa_nil))), ?_⟩
    refine ⟨_, rfl, _, rfl, _, rfl, l, _, rfl, SqL.of hl, fun t ht => ?_⟩
    rw [cut_tail', ← List.map_drop]
    have s1 := Same.new (H := H) (o := .lst ((xs.drop 1).map V.str)) ht
    have ht1 : upd H t (.lst ((xs.drop 1).map V.str)) t = _ := upd_same
    generalize upd H t (.lst ((xs.drop 1).map V.str)) = H1 at s1 ht1 ⊢
    refine ⟨l, t, xs.map V.str, (xs.drop 1).map V.str, rfl, SqL.of (s1 _ _ hl), SqL.of ht1, fun D hD => ?_⟩
    refine lc_true (walk_zip rfl) (by rw [List.length_map]; omega) hD (fun H' s => ⟨SqL.of (s _ _ (s1 _ _ hl)), SqL.of (s _ _ ht1)⟩) ?_ ?_
    · rintro i x H2 H2' R hi s2 hY kR
      obtain ⟨q, a, b, rfl, hq, rfl, ha, hb⟩ := hY
      obtain ⟨x, ex, rfl⟩ := str_get ha
      obtain ⟨y, ey, rfl⟩ := str_get hb
      have s3 := Same.new (H := H2) (o := .tup [.str x, .str y]) hq
      refine ⟨q, _, rfl, SqT.of upd_same, rfl, _, _, rfl, at_name (σ' := [some (.ref l), some (.str x), none]) rfl ⟨_, _, rfl, at_name (σ' := [some (.ref l), some (.str x), some (.str y)]) rfl ⟨rfl, rfl, ?_⟩⟩⟩
      refine ⟨_, rfl, _, rfl, x, y, rfl, rfl, ?_⟩
      have lt : ltT x y := by
        rw [List.getElem?_drop] at ey
        obtain ⟨i1, e1⟩ := List.getElem?_eq_some_iff.mp ex
        obtain ⟨i2, e2⟩ := List.getElem?_eq_some_iff.mp ey
        have := List.pairwise_iff_getElem.mp asc i (1 + i) i1 i2 (by omega)
        rw [e1, e2] at this
        exact this
      rw [decide_eq_true (show x.cps.toList < y.cps.toList from lt)]
      exact kR _ s3
    · intro H2 s2 hD2
      refine ⟨D, _, rfl, SqL.of hD2, ?_⟩
      rw [all_true]
      exact k _ (s1.trans s2)
def spAreDeeds (C : Addr) : Sp := fun vs H Q _ => ∃ (p d : Addr) (ws : List Str) (f : Str → Str → Str) (dl : List (Str × Str)), vs = [.ref p, .ref d] ∧ KdAt C H p ws f ∧ H d = some (.dK (dkv dl)) ∧ DlOk ws dl ∧ ∀ H', L2.Same H H' → Q (.bl true) H'
abbrev nAreDeeds : List Str := ["kinds", "deeds", "deed", "kind"]
theorem scAreDeeds : FnScope nAreDeeds ["kinds", "deeds"] (defScope pAreDeeds) := ⟨rfl, rfl, rfl, by decide +kernel, rfl, by decide +kernel, by decide +kernel⟩
structure DeedsC (P : Program) (w : World) (K : PySem.W.Frag) (mg : Str → Option Value) (base : Heap) (C : Addr) : Prop where
  wrd : Cee P w K mg base 1 "is_word" ["value"] spIsWord
  isk : Cee P w K mg base 2 "is_kind" ["kinds", "value"] (spIsKind C)
  isl : Cee P w K mg base 3 "is_list_of_kinds" ["kinds", "value"] (spIsKinds C)
  asc : Cee P w K mg base 1 "is_ascending" ["words"] spIsAsc
  osq : Cee P w K mg base 5 "own_squares" ["kinds"] (spOwnSq C)
  chk : Cee P w K mg base 1 "check_kinds" ["kinds"] (spCheckKinds C)
  wor : Mee P w K mg base C 1 "words" ["self"] (spKWords C)
  hset : mg "set" = none
theorem ok_areDeeds {g : Addr} {fd : FuncData} (F : Fun K "_are_deeds" "_are_deeds" pAreDeeds g fd) (T : KTx K mg C) (Z : Blp mg) (M : DeedsC P w K mg base C) : FnOk P w K mg base CX0 3 g fd ["kinds", "deeds"] (spAreDeeds C) := by
  refine F.ok scAreDeeds (fun vs H Q E h => ?_) (fun cdv A outer s H vs Q E hr h => ?_)
  · obtain ⟨p, d, ws, f, dl, rfl, _⟩ := h
    rfl
  · obtain ⟨p, d, ws, f, dl, rfl, kd, hd, ok, k⟩ := h
    have nd := scAreDeeds.nd
    refine ⟨_, pss_cons (ps_if (pt_cut <| PW.pt (pw_or (pt_not (pt_val (pe_callB call_isi (by rfl) Z.isi boot_isi (pa_cons (pv 1) (pa_cons (pe_bltn (v := .ty "dict") (by rfl) Z.dict (by decide +kernel) rfl) pa_nil)))))
          (pw_or1 (pt_not (pt_val (pe_callB (cr_all rfl) (by rfl) Z.all (by decide +kernel) (pa_cons (pe_lock
            (pe_lc (own := [("deed", 2)]) (g := gName 2) (tt := tYes) (te := tCall spIsWord [] E0 (tCons (tVar 2) tNil)) rfl nd (pi_keys (pv 1)) (blkOk_by (own := [("deed", 2)]) (N := nAreDeeds) (sc := defScope pAreDeeds) (by decide +kernel))
              (fun _ _ _ _ _ => pg_name (i := 2) nd rfl (Or.inl rfl)) (fun _ _ _ _ _ => pts_nil) (fun _ _ _ _ _ => pe_c M.wrd hr rfl (pa_cons (pv 2) pa_nil)))) pa_nil))))))) (pss_one (ps_ret pe_bl)) pss_nil)
      (pss_cons (ps_if (pt_not (pt_val (pe_callB (cr_all rfl) (by rfl) Z.all (by decide +kernel) (pa_cons (pe_lock
            (pe_lc (own := [("kind", 3)]) (g := gName 3) (tt := tYes) (te := tCall (spIsKind C) [] E0 (tCons (tVar 0) (tCons (tVar 3) tNil))) rfl nd (pi_values (pv 1)) (blkOk_by (own := [("kind", 3)]) (N := nAreDeeds) (sc := defScope pAreDeeds) (by decide +kernel))
              (fun _ _ _ _ _ => pg_name (i := 3) nd rfl (Or.inl rfl)) (fun _ _ _ _ _ => pts_nil) (fun _ _ _ _ _ => pe_c M.isk hr rfl (pa_cons (pv 0) (pa_cons (pv 3) pa_nil))))) pa_nil)))) (pss_one (ps_ret pe_bl)) pss_nil)
      (pss_one (ps_ret (pe_cmpR (op_eqD hr.units) (pe_callB (cr_sortXw (w := w) rfl rfl) (by rfl) Z.sorted (by decide +kernel) (pa_cons (pe_callTy (cr_setXw (w := w) rfl rfl) (by rfl) M.hset (by decide +kernel) (pa_cons (pe_listVals rfl (pv 1) rfl Z.list) pa_nil)) pa_nil)) (pe_m0 M.wor T.cl hr (pv 0)) (nomark _))))), ?_⟩
    have ld : (dkv dl).length ≤ 8 := by rw [dkv_len]; exact ok.few
    have kw : KW ws f := let ⟨_, _, _, q⟩ := kd; q.kw
    refine ⟨fun b H' => b = false ∧ L2.Same H H', ?_, ?_⟩
    · refine ⟨_, rfl, _, _, _, _, true, rfl, .ty _, .base (.dK hd), kit_ty (by decide +kernel), _, rfl, iteF ?_⟩
      refine lkK_true (fun od R hh => ⟨_, rfl, hh⟩) hd (by omega) ?_ ?_
      · rintro i kk v od H1 R hk s1 kR
        obtain ⟨q, hq, e⟩ := List.mem_map.mp (List.mem_of_getElem? hk)
        obtain ⟨rfl, rfl⟩ : Sum.inr q.1 = kk ∧ V.str q.2 = v := ⟨congrArg Prod.fst e, congrArg Prod.snd e⟩
        refine at_name (σ' := [some (.ref p), some (.ref d), some (.str q.1), none]) rfl ⟨rfl, _, rfl, q.1, rfl, ok.wd _ (List.mem_map.mpr ⟨q, hq, rfl⟩), kR⟩
      · intro D H1 s1 hD
        refine ⟨D, _, rfl, SqL.of hD, ?_⟩
        rw [all_true]
        exact ⟨_, rfl, rfl, s1⟩
    · rintro b H1 ⟨rfl, s1⟩
      refine iteF ?_
      have hd1 := s1 _ _ hd
      refine lkV_true (fun od R hh => ⟨_, rfl, hh⟩) hd1 (by omega) ?_ ?_
      · rintro i kk v od H2 R hk s2 kR
        obtain ⟨q, hq, e⟩ := List.mem_map.mp (List.mem_of_getElem? hk)
        obtain ⟨rfl, rfl⟩ : Sum.inr q.1 = kk ∧ V.str q.2 = v := ⟨congrArg Prod.fst e, congrArg Prod.snd e⟩
        refine at_name (σ' := [some (.ref p), some (.ref d), none, some (.str q.2)]) rfl ⟨rfl, _, rfl, _, rfl, p, ws, f, q.2, rfl, ((kd.mono s1).frz hd1).mono s2, ok.kd q hq, kR⟩
      · intro D H2 s2 hD
        refine ⟨D, _, rfl, SqL.of hD, ?_⟩
        rw [all_true]
        refine ⟨_, rfl, iteF ?_⟩
        have s02 : L2.Same H H2 := s1.trans s2
        have hd2 := s02 _ _ hd
        refine ⟨_, rfl, d, _, rfl, hd2, fun v hv => ?_⟩
        have ev : (dkv dl).map (·.2) = (dl.map (·.2)).map V.str := by unfold dkv; rw [List.map_map, List.map_map]; rfl
        rw [ev]
        have s3 := Same.new (H := H2) (o := .lst ((dl.map (·.2)).map V.str)) hv
        have hv3 : upd H2 v (.lst ((dl.map (·.2)).map V.str)) v = _ := upd_same
        generalize upd H2 v (.lst ((dl.map (·.2)).map V.str)) = H3 at s3 hv3 ⊢
        refine ⟨v, _, rfl, SqL.of hv3, by rw [List.length_map]; have := ok.few; omega, fun a ha => ?_⟩
        have s4 := Same.new (H := H3) (o := SetX w a (met (dl.map (·.2)))) ha
        have ha4 : upd H3 a (SetX w a (met (dl.map (·.2)))) a = _ := upd_same
        generalize upd H3 a (SetX w a (met (dl.map (·.2)))) = H4 at s4 ha4 ⊢
        have mW : ∀ x, x ∈ met (dl.map (·.2)) ↔ x ∈ ws := fun x => by
          rw [met_mem]
          constructor
          · intro hx
            obtain ⟨q, hq, rfl⟩ := List.mem_map.mp hx
            exact ok.kd q hq
          · intro hx
            obtain ⟨q, hq, rfl⟩ := ok.all x hx
            exact List.mem_map.mpr ⟨q, hq, rfl⟩
        have nM := met_nodup (dl.map (·.2))
        have l4 : (met (dl.map (·.2))).length ≤ 4 := Nat.le_trans (List.Nodup.length_le_of_subset nM fun x hx => (mW x).mp hx) kw.few
        refine ⟨a, met (dl.map (·.2)), rfl, ha4, by omega, fun ys t pm so ht => ?_⟩
        have ey : ys = ws := (sortedS_asc so (pm.nodup_iff.mpr nM)).eq kw.asc ((List.perm_ext_iff_of_nodup (pm.nodup_iff.mpr nM) kw.asc.nodup).mpr fun z => by rw [pm.mem_iff, mW])
        subst ey
        have s5 := Same.new (H := H4) (o := .lst (ys.map V.str)) ht
        have ht5 : upd H4 t (.lst (ys.map V.str)) t = _ := upd_same
        generalize upd H4 t (.lst (ys.map V.str)) = H5 at s5 ht5 ⊢
        have s05 : L2.Same H H5 := s02.trans (s3.trans (s4.trans s5))
        obtain ⟨kx, kdd, kl, kin⟩ := id (kd.mono s05)
        refine ⟨_, rfl, p, kx, _, rfl, kin.ob, flds_no _ _ (by decide +kernel) (by decide +kernel), p, ys, f, rfl, kd.mono s05, fun q H6 s6 hq0 hq => ?_⟩
        refine ⟨_, _, dp_strs (SqL.of (s6 _ _ ht5)), dp_strs (SqL.of hq), shaped_strs _ kw.wd, shaped_strs _ kw.wd, ?_⟩
        rw [eqv_strs, decide_eq_true rfl]
        exact k _ (s05.trans s6)
def spIsTwice (C : Addr) : Sp := fun vs H Q _ => ∃ (p l : Addr) (ws : List Str) (f : Str → Str → Str) (tw : List Str), vs = [.ref p, .ref l] ∧ KdAt C H p ws f ∧ H l = some (.lst (tw.map V.str)) ∧ TwOk ws f tw ∧ ∀ H', L2.Same H H' → Q (.bl true) H'
abbrev nIsTwice : List Str := ["kinds", "twice", "squares", "kind"]
theorem scIsTwice : FnScope nIsTwice ["kinds", "twice"] (defScope pIsTwice) := ⟨rfl, rfl, rfl, by decide +kernel, rfl, by decide +kernel, by decide +kernel⟩
theorem ok_isTwice {g : Addr} {fd : FuncData} (F : Fun K "_is_twice" "_is_twice" pIsTwice g fd) (T : KTx K mg C) (Z : Blp mg) (M : DeedsC P w K mg base C) : FnOk P w K mg base CX0 6 g fd ["kinds", "twice"] (spIsTwice C) := by
  refine F.ok scIsTwice (fun vs H Q E h => ?_) (fun cdv A outer s H vs Q E hr h => ?_)
  · obtain ⟨p, l, ws, f, tw, rfl, _⟩ := h
    rfl
  · obtain ⟨p, l, ws, f, tw, rfl, kd, hl, tok, k⟩ := h
    have nd := scIsTwice.nd
    refine ⟨_, pss_cons (ps_if (pt_cut <| PW.pt (pw_or (pt_not (pt_val (pe_c M.isl hr rfl (pa_cons (pv 0) (pa_cons (pv 1) pa_nil)))))
          (pw_or1 (pt_not (pt_val (pe_c M.asc hr rfl (pa_cons (pv 1) pa_nil))))))) (pss_one (ps_ret pe_bl)) pss_nil)
      (pss_cons (ps_set (i := 2) nd rfl (Or.inr rfl) (pe_c M.osq hr rfl (pa_cons (pv 0) pa_nil)))
      (pss_one (ps_ret (pe_callB (cr_all rfl) (by rfl) Z.all (by decide +kernel) (pa_cons
        (pe_lc (own := [("kind", 3)]) (g := gName 3) (tt := tYes) (te := tOp (rIn K false) (tVar 3) (tVar 2)) rfl nd (pi_list (pv 1)) (blkOk_by (own := [("kind", 3)]) (N := nIsTwice) (sc := defScope pIsTwice) (by decide +kernel))
            (fun _ _ _ _ _ => pg_name (i := 3) nd rfl (Or.inl rfl)) (fun _ _ _ _ _ => pts_nil) (fun _ _ _ _ _ => pe_cmpR op_in_seq (pv 3) (pv 2) (by rfl))) pa_nil))))), ?_⟩
    have kw : KW ws f := let ⟨_, _, _, q⟩ := kd; q.kw
    have l4 := tok.len kw
    refine ⟨fun b H' => b = false ∧ L2.Same H H', ?_, ?_⟩
    · refine ⟨_, rfl, _, rfl, p, l, ws, f, tw, rfl, kd, hl, by omega, fun x hx => (List.mem_filter.mp (tok.sq x hx)).1, fun H1 s1 => ⟨_, rfl, iteF ?_⟩⟩
      exact ⟨_, rfl, l, tw, rfl, s1 _ _ hl, tok.asc, by omega, fun H2 s2 => ⟨_, rfl, rfl, s1.trans s2⟩⟩
    · rintro b H1 ⟨rfl, s1⟩
      refine iteF ?_
      refine ⟨_, rfl, p, ws, f, rfl, kd.mono s1, fun q H2 s2 hq0 hq => ?_⟩
      refine at_name (σ' := [some (.ref p), some (.ref l), some (.ref q), none]) rfl ?_
      have hl2 := s2 _ _ (s1 _ _ hl)
      refine ⟨_, rfl, l, rfl, ⟨_, SqL.of hl2⟩, fun D hD => ?_⟩
      refine lc_true (walk_list (K := K) (a := l) (xs := tw.map V.str)) (by rw [List.length_map]; omega) hD (fun H' s => SqL.of (s _ _ hl2)) ?_ ?_
      · rintro i v H0 H3 R hi s3 ⟨rfl, hx⟩ kR
        obtain ⟨x, ex, rfl⟩ := str_get hx
        refine at_name (σ' := [some (.ref p), some (.ref l), some (.ref q), some (.str x)]) rfl ⟨rfl, ?_⟩
        refine ⟨_, rfl, _, rfl, q, _, rfl, .inl (SqL.of (s3 _ _ hq)), rfl, flat_strs _, ?_⟩
        rw [if_neg Bool.false_ne_true, inV_strs, decide_eq_true (tok.sq x (List.mem_of_getElem? ex))]
        exact kR _ fun _ _ e => e
      · intro H3 s3 hD3
        refine ⟨D, _, rfl, SqL.of hD3, ?_⟩
        rw [all_true]
        exact k _ (s1.trans (s2.trans s3))
end
end KT
set_option Elab.async false
set_option linter.all false
set_option maxRecDepth 100000
set_option maxHeartbeats 4000000
namespace KT
open PySem L2 PyProof.Rows DTp TxS
/-- what the walk asks of the class Setting -/
structure STx (K : PySem.W.Frag) (mg : Str → Option Value) (S : Addr) : Prop where
  cl : L2.Cls K S
  nK : NoAttr K S "_kinds"
  nD : NoAttr K S "_deeds"
  nT : NoAttr K S "_twice"
  mgS : mg "Setting" = some (.ref S)
  ha : PySem.W.findIn K (.ref S) "__class__" = some (some (.builtin "object.__class__"))
  hn : PySem.W.specialIn K (.builtin "object.__class__") "__get__" = some (some (.builtin "getset_descriptor.__get__"))
  htk : PySem.W.takesIn K (.builtin "object.__class__") = some true
  hm : PySem.W.mroIn K S (.type "object") = some true
  own : PySem.W.kitOne K (.ref S) (.ref S) = some true
theorem STx.ty {K : PySem.W.Frag} {mg : Str → Option Value} {S p dx : Addr} {fs : List (Str × V)} {H : Hp} (T : STx K mg S) (h : H p = some (.ins S dx fs)) : TyX K H (.ref p) (.ref S) := .base (.ins h T.cl T.ha T.hn T.htk T.hm)
section
variable {P : Program} {w : World} {K : PySem.W.Frag} {mg : Str → Option Value} {base : Heap} {C S : Addr}
def spSInit (S C : Addr) : Sp := fun vs H Q _ => ∃ (x dx p kx kd kl d l : Addr) (ws : List Str) (f : Str → Str → Str) (dl dl2 : List (Str × Str)) (tw : List Str), vs = [.ref x, .ref p, .ref d, .ref l] ∧ H x = some (.ins S dx []) ∧ KdIn C H p kx kd kl ws f ∧ H d = some (.dK (dkv dl)) ∧ DlOk ws dl ∧ dl2.Perm dl ∧ Asc (keysD dl2) ∧
  H l = some (.lst (tw.map V.str)) ∧ TwOk ws f tw ∧ ∀ H' d2 l2, StIn S C H' ⟨x, dx, p, kx, kd, kl, d2, l2⟩ ws f dl2 tw → H d2 = none → H l2 = none → (∀ b o, H b = some o → b ≠ x → H' b = some o) → Q .non H'
abbrev nSInit : List Str := ["self", "kinds", "deeds", "twice", "deed"]
theorem scSInit : FnScope nSInit ["self", "kinds", "deeds", "twice"] (defScope sInit) := ⟨rfl, rfl, rfl, by decide +kernel, rfl, by decide +kernel, by decide +kernel⟩
structure InitC (P : Program) (w : World) (K : PySem.W.Frag) (mg : Str → Option Value) (base : Heap) (C : Addr) : Prop where
  chk : Cee P w K mg base 1 "check_kinds" ["kinds"] (spCheckKinds C)
  ard : Cee P w K mg base 3 "_are_deeds" ["kinds", "deeds"] (spAreDeeds C)
  itw : Cee P w K mg base 6 "_is_twice" ["kinds", "twice"] (spIsTwice C)
theorem ok_sinit {g : Addr} {fd : FuncData} (F : Fun K "__init__" "Setting.__init__" sInit g fd) (TS : STx K mg S) (T : KTx K mg C) (Z : Blp mg) (M : InitC P w K mg base C) : FnOk P w K mg base CX0 7 g fd ["self", "kinds", "deeds", "twice"] (spSInit S C) := by
  refine F.ok scSInit (fun vs H Q E h => ?_) (fun cdv A outer s H vs Q E hr h => ?_)
  · obtain ⟨x, dx, p, kx, kd, kl, d, l, ws, f, dl, dl2, tw, rfl, _⟩ := h
    rfl
  · obtain ⟨x, dx, p, kx, kd, kl, d, l, ws, f, dl, dl2, tw, rfl, hx, kin, hd, ok, pm, asc, hl, tok, k⟩ := h
    have nd := scSInit.nd
    refine ⟨_, pss_cons (ps_expr (pe_c M.chk hr rfl (pa_cons (pv 1) pa_nil)))
      (pss_cons (ps_if (pt_not (pt_val (pe_c M.ard hr rfl (pa_cons (pv 1) (pa_cons (pv 2) pa_nil))))) (pss_one ps_never) pss_nil)
      (pss_cons (ps_if (pt_not (pt_val (pe_c M.itw hr rfl (pa_cons (pv 1) (pa_cons (pv 3) pa_nil))))) (pss_one ps_never) pss_nil)
      (pss_cons (ps_fld (pv 0) (pv 1) rfl)
      (pss_cons (ps_fld (pv 0) (GC.pe_dcK (own := [("deed", 4)]) (g := gName 4) (tt := tYes) (tk := tVar 4) (tv := tDGet (tVar 2) (tVar 4)) rfl nd (pi_list (pe_callB (call_sortedD rfl) (by rfl) Z.sorted (by decide +kernel) (pa_cons (pv 2) pa_nil)))
          (blkOk_by (own := [("deed", 4)]) (N := nSInit) (sc := defScope sInit) (by decide +kernel)) (fun _ _ _ _ _ => pg_name (i := 4) nd rfl (Or.inl rfl)) (fun _ _ _ _ _ => pts_nil) GC.cl0 trivial (fun _ _ _ _ _ => pv 4)
          (fun _ _ _ _ _ => pe_dget (hu_of hr) (pv 2) (pv 4) (fun _ _ => rfl))) rfl)
      (pss_one (ps_fld (pv 0) (pe_callTy call_list_of (by rfl) Z.list (by decide +kernel) (pa_cons (pv 3) pa_nil)) rfl)))))), ?_⟩
    have kdA : KdAt C H p ws f := ⟨_, _, _, kin⟩
    have few := ok.few
    refine ⟨_, rfl, p, ws, f, rfl, kdA, ?_⟩
    refine ⟨_, rfl, _, rfl, p, d, ws, f, dl, rfl, kdA, hd, ok, fun H1 s1 => ⟨_, rfl, iteF ?_⟩⟩
    refine ⟨_, rfl, _, rfl, p, l, ws, f, tw, rfl, kdA.mono s1, s1 _ _ hl, tok, fun H2 s2 => ⟨_, rfl, iteF ?_⟩⟩
    have s02 : L2.Same H H2 := s1.trans s2
    refine ⟨_, rfl, _, rfl, x, S, dx, [], rfl, s02 _ _ hx, TS.cl, TS.nK, (by show 0 < 1000; decide), ?_⟩
    have nxp : x ≠ p := fun e => by
      have z := kin.ob
      rw [← e, hx, flds_eq] at z
      injection z with z
      injection z with z1 z2 z3
      cases z3
    have nxd : x ≠ d := ne_of hx hd (by intro z; cases z)
    have nxl : x ≠ l := ne_of hx hl (by intro z; cases z)
    have nxkd : x ≠ kd := ne_of hx kin.dc (by intro z; cases z)
    have nxkl : x ≠ kl := ne_of hx kin.ls (by intro z; cases z)
    have st3 : ∀ b o, H b = some o → b ≠ x → upd H2 x (.ins S dx (putF "_kinds" (.ref p) [])) b = some o := fun b o e ne => (upd_ne ne).trans (s02 _ _ e)
    have hx3 : upd H2 x (.ins S dx (putF "_kinds" (.ref p) [])) x = some (.ins S dx (putF "_kinds" (.ref p) [])) := upd_same
    generalize upd H2 x (.ins S dx (putF "_kinds" (.ref p) [])) = H3 at st3 hx3 ⊢
    have hd3 := st3 _ _ hd (Ne.symm nxd)
    dsimp only [tNext, tSeq, sFld]
    refine dcS_list (key := fun x => x) (val := fun x => .str (kof dl2 x)) (xs := keysD dl2) (fun _ H' => L2.Same H3 H') (by rw [keysD_len, pm.length_eq]; omega) ?_ ?_ ?_
    · intro R hR
      refine ⟨_, rfl, d, _, keysD dl, rfl, .inl hd3, dkv_keys dl, by rw [keysD_len]; omega, fun ys t py so ht => ?_⟩
      have ey : ys = keysD dl2 := (sortedS_asc so (py.nodup_iff.mpr ok.nd)).eq asc (py.trans (perm_keys pm).symm)
      subst ey
      exact hR t _ upd_same (Same.new ht)
    · intro t y H4 H5 R Cn kc hy s4 s5 kR
      have hd5 := s5 _ _ (s4 _ _ hd3)
      refine at_name (σ' := [some (.ref x), some (.ref p), some (.ref d), some (.ref l), some (.str y)]) rfl ⟨rfl, kc _ _ ?_⟩
      have hy1 : y ∈ keysD dl := (perm_keys pm).mem_iff.mp hy
      have dg := DGet.k (k := Sum.inr y) hd5
      rw [valV_dkv ok.nd hy1, ← kof_perm pm ok.nd hy1] at dg
      exact ⟨_, rfl, _, rfl, _, rfl, d, _, rfl, dg, kR _ fun _ _ e => e⟩
    · intro d2 t H4 H5 s4 s5 hd20 hd2
      rw [mergeK_strs asc.nodup, dkv_of asc.nodup] at hd2
      have s35 : L2.Same H3 H5 := s4.trans s5
      have hd2H3 : H3 d2 = none := s4.free hd20
      have fresh : ∀ z, H3 z = none → H z = none := fun z hz => by
        by_cases e : z = x
        · rw [e, hx3] at hz; cases hz
        · cases q : H z with
          | none => rfl
          | some o => rw [st3 _ _ q e] at hz; cases hz
      have nxd2 : x ≠ d2 := ne_of_none hx3 hd2H3
      refine ⟨_, rfl, x, S, dx, _, rfl, s35 _ _ hx3, TS.cl, TS.nD, (by show 1 < 1000; decide), ?_⟩
      have st6 : ∀ b o, H b = some o → b ≠ x → upd H5 x (.ins S dx (putF "_deeds" (.ref d2) (putF "_kinds" (.ref p) []))) b = some o := fun b o e ne => (upd_ne ne).trans (s35 _ _ (st3 _ _ e ne))
      have hx6 : upd H5 x (.ins S dx (putF "_deeds" (.ref d2) (putF "_kinds" (.ref p) []))) x = some _ := upd_same
      have hd6 : upd H5 x (.ins S dx (putF "_deeds" (.ref d2) (putF "_kinds" (.ref p) []))) d2 = some _ := (upd_ne nxd2.symm).trans hd2
      generalize upd H5 x (.ins S dx (putF "_deeds" (.ref d2) (putF "_kinds" (.ref p) []))) = H6 at st6 hx6 hd6 ⊢
      refine ⟨_, rfl, l, _, rfl, .inl (SqL.of (st6 _ _ hl (Ne.symm nxl))), fun l2 hl20 => ?_⟩
      have s7 := Same.new (H := H6) (o := .lst (tw.map V.str)) hl20
      have hl7 : upd H6 l2 (.lst (tw.map V.str)) l2 = _ := upd_same
      have nxl2 : x ≠ l2 := ne_of_none hx6 hl20
      have nd2l2 : d2 ≠ l2 := ne_of_none hd6 hl20
      generalize upd H6 l2 (.lst (tw.map V.str)) = H7 at s7 hl7 ⊢
      refine ⟨_, rfl, x, S, dx, _, rfl, s7 _ _ hx6, TS.cl, TS.nT, (by show 2 < 1000; decide), ?_⟩
      have st8 : ∀ b o, H b = some o → b ≠ x → upd H7 x (.ins S dx (sflds p d2 l2)) b = some o := fun b o e ne => (upd_ne ne).trans (s7 _ _ (st6 _ _ e ne))
      refine k _ d2 l2 ⟨upd_same, ⟨st8 _ _ kin.ob (Ne.symm nxp), st8 _ _ kin.dc (Ne.symm nxkd), st8 _ _ kin.ls (Ne.symm nxkl), kin.kw⟩, (upd_ne nxd2.symm).trans (s7 _ _ hd6), (upd_ne nxl2.symm).trans hl7, ok.perm pm, asc, tok⟩ (fresh _ hd2H3) ?_ st8
      cases q : H l2 with
      | none => rfl
      | some o => rw [st6 _ _ q nxl2.symm] at hl20; cases hl20
/-- making Settings -/
structure SMk (P : Program) (w : World) (K : PySem.W.Frag) (mg : Str → Option Value) (base : Heap) (S C : Addr) : Prop where
  ex : ∃ (f : Addr) (fd : FuncData), Mk K S f ∧ FnOk P w K mg base CX0 7 f fd ["self", "kinds", "deeds", "twice"] (spSInit S C) ∧ Binds K fd ["self", "kinds", "deeds", "twice"] []
section
variable {X : Cx} {j : Nat} {p pos : Pos} {e : Expr} {es : List Expr} {t : TA}
theorem pe_setting (M : SMk X.prog X.w X.K X.mg X.base S C) (hm : X.mg "Setting" = some (.ref S)) (hr : Room j X.A) (hg : Gl X "Setting") (ha : PA X (e :: es) t) (hkj : 8 ≤ j := by decide)
    (he : starEach (e :: es) X.env = (false, eval e X.env) :: starEach es X.env := by rfl) (hpl : (backTo pos (starEach es X.env)).any (·.1) = false := by rfl) :
    PE X (.Call (.Name "Setting" p) (e :: es) [] pos) (tMake S (spSInit S C) [] E0 t) := by
  obtain ⟨f, fd, h1, h2, h3⟩ := M.ex
  exact pe_make h1 h2 (hr.mono hkj) hg hm h3 .nil pass0 ha (by decide) he hpl
end
/-- the Setting at A, its own parts new since H -/
def StNew (S C : Addr) (H H' : Hp) (A : SA) (ws : List Str) (f : Str → Str → Str) (dl : List (Str × Str)) (tw : List Str) : Prop := StIn S C H' A ws f dl tw ∧ H A.q = none ∧ H A.d = none ∧ H A.l = none
theorem mk_setting {H : Hp} {R : Addr → Hp → Prop} {p kx kd kl d l : Addr} {ws : List Str} {f : Str → Str → Str} {dl dl2 : List (Str × Str)} {tw : List Str} (kin : KdIn C H p kx kd kl ws f) (hd : H d = some (.dK (dkv dl))) (ok : DlOk ws dl) (pm : dl2.Perm dl) (asc : Asc (keysD dl2)) (hl : H l = some (.lst (tw.map V.str))) (tok : TwOk ws f tw)
    (k : ∀ x dx d2 l2 H', StNew S C H H' ⟨x, dx, p, kx, kd, kl, d2, l2⟩ ws f dl2 tw → L2.Same H H' → R x H') : ∀ x dx, H x = none → H dx = none → dx ≠ x → spSInit S C (.ref x :: ([.ref p, .ref d, .ref l] ++ [])) (upd (upd H dx (.own x)) x (.ins S dx [])) (fun v H2 => v = .non ∧ R x H2) E0 := by
  intro x dx hx hdx ne
  have old : ∀ b o, H b = some o → upd (upd H dx (.own x)) x (.ins S dx []) b = some o := fun b o e => (upd_ne (ne_of_none e hx)).trans ((upd_ne (ne_of_none e hdx)).trans e)
  have free : ∀ z : Addr, upd (upd H dx (.own x)) x (.ins S dx []) z = none → H z = none := fun z hz => by
    cases q : H z with
    | none => rfl
    | some o => rw [old _ _ q] at hz; cases hz
  refine ⟨x, dx, p, kx, kd, kl, d, l, ws, f, dl, dl2, tw, rfl, upd_same, ⟨old _ _ kin.ob, old _ _ kin.dc, old _ _ kin.ls, kin.kw⟩, old _ _ hd, ok, pm, asc, old _ _ hl, tok, fun H' d2 l2 st hd2 hl2 keep => ⟨rfl, k x dx d2 l2 H' ⟨st, hx, free _ hd2, free _ hl2⟩ fun b o e => ?_⟩⟩
  exact keep b o (old _ _ e) (ne_of_none e hx)
def spSKinds (S C : Addr) : Sp := fun vs H Q _ => ∃ (A : SA) (ws : List Str) (f : Str → Str → Str) (dl : List (Str × Str)) (tw : List Str), vs = [.ref A.q] ∧ StIn S C H A ws f dl tw ∧ Q (.ref A.p) H
theorem scSKinds : FnScope ["self"] ["self"] (defScope sKinds) := ⟨rfl, rfl, rfl, by decide +kernel, rfl, by decide +kernel, by decide +kernel⟩
theorem ok_skinds {g : Addr} {fd : FuncData} (F : Fun K "kinds" "Setting.kinds" sKinds g fd) (T : STx K mg S) : FnOk P w K mg base CX0 1 g fd ["self"] (spSKinds S C) := by
  refine F.ok scSKinds (fun vs H Q E h => ?_) (fun cdv A outer s H vs Q E hr h => ?_)
  · obtain ⟨A, ws, f, dl, tw, rfl, _⟩ := h
    rfl
  · obtain ⟨A0, ws, f, dl, tw, rfl, st, k⟩ := h
    refine ⟨_, pss_one (ps_ret (pe_fld (pv 0) rfl)), ?_⟩
    exact ⟨_, rfl, _, S, _, _, _, rfl, st.ob, T.cl, T.nK, sflds_k _ _ _, k⟩
def spSDeeds (S C : Addr) : Sp := fun vs H Q _ => ∃ (A : SA) (ws : List Str) (f : Str → Str → Str) (dl : List (Str × Str)) (tw : List Str), vs = [.ref A.q] ∧ StIn S C H A ws f dl tw ∧ ∀ q H', L2.Same H H' → H q = none → H' q = some (.dK (dkv dl)) → Q (.ref q) H'
theorem scSDeeds : FnScope ["self"] ["self"] (defScope sDeeds) := ⟨rfl, rfl, rfl, by decide +kernel, rfl, by decide +kernel, by decide +kernel⟩
theorem ok_sdeeds {g : Addr} {fd : FuncData} (F : Fun K "deeds" "Setting.deeds" sDeeds g fd) (T : STx K mg S) (Z : Blp mg) : FnOk P w K mg base CX0 1 g fd ["self"] (spSDeeds S C) := by
  refine F.ok scSDeeds (fun vs H Q E h => ?_) (fun cdv A outer s H vs Q E hr h => ?_)
  · obtain ⟨A, ws, f, dl, tw, rfl, _⟩ := h
    rfl
  · obtain ⟨A0, ws, f, dl, tw, rfl, st, k⟩ := h
    refine ⟨_, pss_one (ps_ret (pe_callTy call_dictD (by rfl) Z.dict (by decide +kernel) (pa_cons (pe_fld (pv 0) rfl) pa_nil))), ?_⟩
    exact ⟨_, rfl, _, S, _, _, _, rfl, st.ob, T.cl, T.nD, sflds_d _ _ _, _, _, rfl, .inl st.dc, fun q hq => k q _ (Same.new hq) hq upd_same⟩
def spSTwice (S C : Addr) : Sp := fun vs H Q _ => ∃ (A : SA) (ws : List Str) (f : Str → Str → Str) (dl : List (Str × Str)) (tw : List Str), vs = [.ref A.q] ∧ StIn S C H A ws f dl tw ∧ ∀ q H', L2.Same H H' → H q = none → H' q = some (.lst (tw.map V.str)) → Q (.ref q) H'
theorem scSTwice : FnScope ["self"] ["self"] (defScope sTwice) := ⟨rfl, rfl, rfl, by decide +kernel, rfl, by decide +kernel, by decide +kernel⟩
theorem ok_stwice {g : Addr} {fd : FuncData} (F : Fun K "twice" "Setting.twice" sTwice g fd) (T : STx K mg S) (Z : Blp mg) : FnOk P w K mg base CX0 1 g fd ["self"] (spSTwice S C) := by
  refine F.ok scSTwice (fun vs H Q E h => ?_) (fun cdv A outer s H vs Q E hr h => ?_)
  · obtain ⟨A, ws, f, dl, tw, rfl, _⟩ := h
    rfl
  · obtain ⟨A0, ws, f, dl, tw, rfl, st, k⟩ := h
    refine ⟨_, pss_one (ps_ret (pe_callTy call_list_of (by rfl) Z.list (by decide +kernel) (pa_cons (pe_fld (pv 0) rfl) pa_nil))), ?_⟩
    exact ⟨_, rfl, _, S, _, _, _, rfl, st.ob, T.cl, T.nT, sflds_t _ _ _, _, _, rfl, .inl (SqL.of st.ls), fun q hq => k q _ (Same.new hq) hq upd_same⟩
theorem scSEq : FnScope ["self", "other"] ["self", "other"] (defScope sEq) := ⟨rfl, rfl, rfl, by decide +kernel, rfl, by decide +kernel, by decide +kernel⟩
end
end KT
set_option Elab.async false
set_option linter.all false
set_option maxRecDepth 100000
set_option maxHeartbeats 4000000
namespace KT
open PySem L2 PyProof.Rows DTp TxS
def lp (f : Str → Str → Str) : List Str → Str
  | [] => ⟨#[]⟩
  | x :: xs => xs.foldl f x
end KT
set_option Elab.async false
set_option linter.all false
set_option maxRecDepth 100000
set_option maxHeartbeats 4000000
set_option pp.maxSteps 600
namespace KT
open PySem L2 PyProof.Rows DTp TxS
section
variable {P : Program} {w : World} {K : PySem.W.Frag} {mg : Str → Option Value} {base : Heap} {C S : Addr}
def spCheckSet (S C : Addr) : Sp := fun vs H Q _ => ∃ (A : SA) (ws : List Str) (f : Str → Str → Str) (dl : List (Str × Str)) (tw : List Str), vs = [.ref A.q] ∧ StIn S C H A ws f dl tw ∧ Q .non H
theorem scCheckSet : FnScope ["setting"] ["setting"] (defScope pCheckSetting) := ⟨rfl, rfl, rfl, by decide +kernel, rfl, by decide +kernel, by decide +kernel⟩
theorem ok_checkSet {g : Addr} {fd : FuncData} (F : Fun K "check_setting" "check_setting" pCheckSetting g fd) (T : STx K mg S) (Z : Blp mg) : FnOk P w K mg base CX0 1 g fd ["setting"] (spCheckSet S C) := by
  refine F.ok scCheckSet (fun vs H Q E h => ?_) (fun cdv A outer s H vs Q E hr h => ?_)
  · obtain ⟨A, ws, f, dl, tw, rfl, _⟩ := h
    rfl
  · obtain ⟨A0, ws, f, dl, tw, rfl, st, k⟩ := h
    refine ⟨_, pss_one (ps_if (pt_not (pt_val (pe_callB call_isi (by rfl) Z.isi boot_isi (pa_cons (pv 0) (pa_cons (pe_glob (v := .ref S) rfl T.mgS rfl) pa_nil))))) (pss_one ps_never) pss_nil), ?_⟩
    exact ⟨_, rfl, _, _, _, _, true, rfl, .own _, T.ty st.ob, T.own, _, rfl, iteF k⟩
/-- a log that is passed -/
structure LogAt (dl : List (Str × Str)) (H : Hp) (r : Addr) (row : List Str) : Prop where
  at' : H r = some (.lst (row.map V.str))
  few : row.length ≤ 100
  mem : ∀ x ∈ row, x ∈ keysD dl
theorem LogAt.mono {dl : List (Str × Str)} {H H' : Hp} {r : Addr} {row : List Str} (s : L2.Same H H') (h : LogAt dl H r row) : LogAt dl H' r row := ⟨s _ _ h.at', h.few, h.mem⟩
structure LogC (P : Program) (w : World) (K : PySem.W.Frag) (mg : Str → Option Value) (base : Heap) (S C : Addr) : Prop where
  cs : Cee P w K mg base 1 "check_setting" ["setting"] (spCheckSet S C)
  knd : Mee P w K mg base S 1 "kinds" ["self"] (spSKinds S C)
  ded : Mee P w K mg base S 1 "deeds" ["self"] (spSDeeds S C)
  twi : Mee P w K mg base S 1 "twice" ["self"] (spSTwice S C)
  wor : Mee P w K mg base C 1 "words" ["self"] (spKWords C)
  put : Mee P w K mg base C 4 "put" ["self", "one", "other"] (spKPut C)
end
end KT
set_option Elab.async false
set_option linter.all false
set_option maxRecDepth 100000
set_option maxHeartbeats 4000000
namespace GC
open PySem PySem.Spec PyProof.Rows L2
variable {X : Cx}
/-- name = {..} on one line, the name a local, the keys ints and texts -/
theorem ps_setDcK {i : Nat} {y : Str} {py : Pos} {k v tg iter : Expr} {ifs : List Expr} {scope : Scope} {own : List (Str × Nat)} {pos spos : Pos} {wi : TI} {g : TG} {tt : TT} {tk tv : TE} (hc : X.calm = true) (hN : X.N.Nodup) (hy : X.N[i]? = some y) (hyl : X.env.scope.names.lookup y = some .local)
    (hsw : swapsWith (.DictComp k v [⟨tg, iter, ifs, 0⟩] scope pos) (some (.Name y py)) spos.line X.env = pure true) (hi : PI X tg iter wi) (ok : BlkOk X.N X.env.scope scope own)
    (hg : Blk X scope fun B => PG B tg g) (ht : Blk X scope fun B => PTs B ifs tt) (hk : Blk X scope fun B => PE B k tk) (hv : Blk X scope fun B => PE B v tv) (hs : ∀ env x, foldedSetIterable iter env x = pure x := by intro _ _; rfl) :
    PS X (.Assign [.Name y py] (.DictComp k v [⟨tg, iter, ifs, 0⟩] scope pos) spos) (tAsg (tCo (fun _ => .dK []) ⟨tg, iter, ifs, wi, g, tt, own.map (·.2)⟩ [] (emK tk tv)) (gName i)) := by
  refine ⟨fun pins s σ H D I h => ?_⟩
  rw [exec_Assign_Name_used _ _ _ _ hsw]
  refine wpAny_bind (wpAny_standAt (wpAny_bind ?_))
  show wpAny _ X.A (do let _ ← comprehension (.DictComp k v [⟨tg, iter, ifs, 0⟩] scope pos) scope X.env _ _ false (eval iter X.env) (some (assign (.Name y py) X.env))) _ _ s
  have h2 : tCo (fun _ => .dK []) ⟨tg, iter, ifs, wi, g, tt, own.map (·.2)⟩ [] (emK tk tv) σ H (fun x H1 => gName i x σ H1 D.nx) := h
  refine wpAny_bind (thn (core (o0 := fun _ => .dK []) (c := ⟨tg, iter, ifs, wi, g, tt, own.map (·.2)⟩) (cs := []) (em := emK tk tv) (Qf := fun _ s' => SP X pins D .next s') (.d ..) new_dK hc hN I hi ok rfl (hs _) trivial (fun x hx => ?_) (fun x hx => by cases hx) (fun D s H C cl fp => emK_ok rfl (hk s H C cl fp) (hv s H C cl fp)) h2 fun L C s' m H' I' q hn f => ?_) fun _ s' hq => wpAny_pure (wpAny_pure hq))
  · rcases List.mem_cons.mp hx with rfl | hx
    · exact fun s H C cl fp => ⟨hg s H C cl fp, ht s H C cl fp, hs _⟩
    · cases hx
  · show wpAny _ _ (assign (.Name y py) X.env (.ref L)) _ _ _
    refine wpAny_assign_Name (store_ok2 (v := V.ref L) I' hN hy (.inl hyl) rfl (fun s2 I2 ⟨a, sb, ha⟩ => ?_) (.inr hyl))
    obtain ⟨f0, f1, f2, f3, f4, f5⟩ := f
    have haC : C ≠ a := by
      rcases ha with z | z
      · rw [z]; exact f1
      · exact fun e => f4 y a z e.symm
    exact ⟨m, hn.sameBut sb haC, fun h3 sb3 => ⟨_, H', I2.turned (t' := s2.toks) (fun b o hb e => (sb3.2 b hb).trans e) f0 f1 f3 f4 f5, q⟩⟩
theorem sw_trueD {k v : Expr} {gs : List Comprehension} {scope : Scope} {pos py : Pos} {y : Str} {l : Nat} {env : Env} (hk : env.scope.kind = .function) (hy : env.scope.names.lookup y = some .local) (hl : (py.line == pos.line) = true)
    (ha : (scope.names.any fun (n, k) => n == y && (k == .local || k == .cell)) = false) : swapsWith (.DictComp k v gs scope pos) (some (.Name y py)) l env = pure true := by
  have ky : env.kindOf y = some .local := hy
  have hb : env.blockKind = .function := by unfold Env.blockKind; rw [hk]; rfl
  unfold swapsWith
  simp only [hb, ky, ha, Expr.pos, hl]
  rfl
end GC
set_option Elab.async false
set_option linter.all false
set_option maxRecDepth 100000
set_option maxHeartbeats 4000000
set_option pp.maxSteps 900
set_option Elab.async false
set_option linter.all false
set_option maxRecDepth 100000
set_option maxHeartbeats 4000000
set_option pp.maxSteps 900
namespace KT
open PySem L2 PyProof.Rows DTp TxS
section
variable {P : Program} {w : World} {K : PySem.W.Frag} {mg : Str → Option Value} {base : Heap} {C S : Addr}
def spWithTwice (S C : Addr) : Sp := fun vs H Q _ => ∃ (A : SA) (ws : List Str) (f : Str → Str → Str) (dl : List (Str × Str)) (tw : List Str) (l : Addr) (tw2 : List Str), vs = [.ref A.q, .ref l] ∧ StIn S C H A ws f dl tw ∧ H l = some (.lst (tw2.map V.str)) ∧ TwOk ws f tw2 ∧
  ∀ x dx d2 l2 H', StNew S C H H' ⟨x, dx, A.p, A.kx, A.kd, A.kl, d2, l2⟩ ws f dl tw2 → L2.Same H H' → Q (.ref x) H'
theorem scWithTwice : FnScope ["setting", "twice"] ["setting", "twice"] (defScope pWithTwice) := ⟨rfl, rfl, rfl, by decide +kernel, rfl, by decide +kernel, by decide +kernel⟩
theorem ok_withTwice {g : Addr} {fd : FuncData} (F : Fun K "with_twice" "with_twice" pWithTwice g fd) (TS : STx K mg S) (M : LogC P w K mg base S C) (SM : SMk P w K mg base S C) : FnOk P w K mg base CX0 9 g fd ["setting", "twice"] (spWithTwice S C) := by
  refine F.ok scWithTwice (fun vs H Q E h => ?_) (fun cdv A outer s H vs Q E hr h => ?_)
  · obtain ⟨A, ws, f, dl, tw, l, tw2, rfl, _⟩ := h
    rfl
  · obtain ⟨A0, ws, f, dl, tw, l, tw2, rfl, st, hl, tok, k⟩ := h
    refine ⟨_, pss_cons (ps_expr (pe_c M.cs hr rfl (pa_cons (pv 0) pa_nil)))
      (pss_one (ps_ret (pe_setting SM TS.mgS hr rfl (pa_cons (pe_m0 M.knd TS.cl hr (pv 0)) (pa_cons (pe_m0 M.ded TS.cl hr (pv 0)) (pa_cons (pv 1) pa_nil)))))), ?_⟩
    refine ⟨_, rfl, A0, ws, f, dl, tw, rfl, st, ?_⟩
    refine ⟨_, rfl, A0.q, A0.dx, _, rfl, st.ob, sflds_no _ _ _ (by decide +kernel) (by decide +kernel) (by decide +kernel), A0, ws, f, dl, tw, rfl, st, ?_⟩
    refine ⟨_, rfl, A0.q, A0.dx, _, rfl, st.ob, sflds_no _ _ _ (by decide +kernel) (by decide +kernel) (by decide +kernel), A0, ws, f, dl, tw, rfl, st, fun d H1 s1 hd0 hd => ?_⟩
    refine ⟨_, rfl, ?_⟩
    exact mk_setting (st.mono s1).kin hd st.ok (.refl _) st.asc (s1 _ _ hl) tok fun x dx d2 l2 H' sn s2 => k x dx d2 l2 H' ⟨sn.1, s1.free sn.2.1, s1.free sn.2.2.1, s1.free sn.2.2.2⟩ (s1.trans s2)
end
end KT
set_option Elab.async false
set_option linter.all false
set_option maxRecDepth 100000
set_option maxHeartbeats 4000000
set_option pp.maxSteps 900
namespace KT
open PySem L2 PyProof.Rows DTp TxS
theorem PE.either {X : Cx} {e : Expr} {t1 t2 : TE} (a : PE X e t1) (b : PE X e t2) : PE X e fun σ H Q => t1 σ H Q ∨ t2 σ H Q := ⟨fun pins s σ H Q I h => h.elim (a.run pins s σ H Q I) (b.run pins s σ H Q I)⟩
/-- dict(of pairs), the keys ints and texts -/
def rDP (K : PySem.W.Frag) : List V → Hp → VK → Prop := fun xs H Q => ∃ (a : Addr) (ps : List Addr) (kvs : List (Key × V)), xs = [.ref a] ∧ SqL K H a (ps.map V.ref) ∧ Paired (fun p kv => SqT K H p [kV kv.1, kv.2]) ps kvs ∧ ∀ p, H p = none → Q (.ref p) (upd H p (.dK (mergeK [] kvs)))
theorem cr_dictP {X : Cx} (hc : X.calm = true) : CallR X (.type "dict") (rDP X.K) := call_dictP hc
theorem tups_prT {K : PySem.W.Frag} {key : Str → Str} {val : Str → V} {H' : Hp} : ∀ {ps : List Addr} {xs : List Str}, Paired (fun t x => H' t = some (.tup [.str (key x), val x])) ps xs → Paired (fun p (kv : Key × V) => SqT K H' p [kV kv.1, kv.2]) ps (xs.map fun x => (Sum.inr (key x), val x))
  | _, _, .nil => .nil
  | _, _, .cons r t => .cons (SqT.of r) (tups_prT t)
/-- dict([(key, value) for text in list]) -/
theorem rdS_list {K : PySem.W.Frag} {key : Str → Str} {val : Str → V} {tl : TE} {g : TG} {te : TE} {vs : List Nat} {σ : L2.St} {H : Hp} {Q : VK} {xs : List Str} (Pd : Addr → Hp → Prop) (few : xs.length ≤ 1000)
    (hl : ∀ R : VK, (∀ l H1, H1 l = some (.lst (xs.map V.str)) → Pd l H1 → R (.ref l) H1) → tl σ H R)
    (step : ∀ l x H1 H2 (R : VK), x ∈ xs → Pd l H1 → L2.Same H1 H2 → (∀ t H3, L2.Same H2 H3 → H3 t = some (.tup [.str (key x), val x]) → R (.ref t) H3) → g (.str x) (wipe σ vs) H2 fun σ2 H3 => wipe σ2 vs = wipe σ vs ∧ te σ2 H3 R)
    (k : ∀ q l H1 H', Pd l H1 → L2.Same H1 H' → H1 q = none → H' q = some (.dK (mergeK [] (xs.map fun x => (Sum.inr (key x), val x)))) → Q (.ref q) H') :
    tCB (rDP K) (tCons (tLc (iList K tl) g tYes te vs) tNil) σ H Q := by
  dsimp only [tCB, tCons, tNil]
  refine ll_each (K := K) (fun l ys H1 => ys = xs.map V.str ∧ H1 l = some (.lst (xs.map V.str)) ∧ Pd l H1) (fun i y H' => ∃ t ys, y = .ref t ∧ H' t = some (.tup ys) ∧ ∃ x, xs[i]? = some x ∧ ys = [.str (key x), val x]) (StabF.tup _) (fun R hR => hl R fun l H1 h1 pd => hR l _ H1 ⟨rfl, h1, pd⟩ (SqL.of h1) (by rw [List.length_map]; exact few)) ?_ ?_ ?_
  · rintro l ys H1 H2 ⟨rfl, h1, _⟩ s
    exact SqL.of (s _ _ h1)
  · rintro l ys H0 i v H1 R ⟨rfl, h1, pd⟩ hx s kR
    obtain ⟨x, ex, rfl⟩ := str_get hx
    exact step l x H0 H1 R (List.mem_of_getElem? ex) pd s fun t H3 s3 ht => kR _ _ s3 ⟨t, _, rfl, ht, x, ex, rfl⟩
  · rintro l ys H0 D zs H' ⟨rfl, h1, pd⟩ s hD0 hD lz fz
    obtain ⟨ps, rfl, pr⟩ := refs_of (L := xs) (R := fun t x => H' t = some (.tup [.str (key x), val x])) (by rw [lz, List.length_map]) fun i y x h1 h2 => by
      obtain ⟨t, ys, e1, e2, x2, e3, e4⟩ := fz i y h1
      rw [h2] at e3
      obtain rfl := Option.some.inj e3
      exact ⟨t, e1, by rw [← e4]; exact e2⟩
    have pr2 := tups_prT (K := K) pr
    refine ⟨D, ps, _, rfl, SqL.of hD, pr2, fun q hq => k q l H0 _ pd (fun b o e => ?_) (s.free hq) upd_same⟩
    rw [upd_ne (ne_of_none (s _ _ e) hq)]
    exact s _ _ e
/-- the law's own view of a setting: a list of a table, a dict and a list -/
structure SetAt (H : Hp) (s td dd tl : Addr) (ws : List Str) (f : Str → Str → Str) (dl : List (Str × Str)) (tw : List Str) : Prop where
  hs : H s = some (.lst [.ref td, .ref dd, .ref tl])
  ht : H td = some (.dT (tabW ws f))
  hd : H dd = some (.dK (dkv dl))
  hl : H tl = some (.lst (tw.map V.str))
  kw : KW ws f
  ok : DlOk ws dl
  asc : Asc (keysD dl)
  tok : TwOk ws f tw
section
variable {ws : List Str} {f : Str → Str → Str} {dl : List (Str × Str)} {tw : List Str}
theorem SetAt.mono {H H' : Hp} {s td dd tl : Addr} (sm : L2.Same H H') (h : SetAt H s td dd tl ws f dl tw) : SetAt H' s td dd tl ws f dl tw := ⟨sm _ _ h.hs, sm _ _ h.ht, sm _ _ h.hd, sm _ _ h.hl, h.kw, h.ok, h.asc, h.tok⟩
theorem SetAt.but {H H' : Hp} {s td dd tl z : Addr} (h : SetAt H s td dd tl ws f dl tw) (b : But z H H') (n1 : s ≠ z) (n2 : td ≠ z) (n3 : dd ≠ z) (n4 : tl ≠ z) : SetAt H' s td dd tl ws f dl tw := ⟨b _ _ n1 h.hs, b _ _ n2 h.ht, b _ _ n3 h.hd, b _ _ n4 h.hl, h.kw, h.ok, h.asc, h.tok⟩
theorem SetAt.new {H H' : Hp} {s td dd tl z : Addr} (h : SetAt H s td dd tl ws f dl tw) (hz : H z = none) (b : But z H H') : SetAt H' s td dd tl ws f dl tw :=
  h.but b (ne_of_none h.hs hz) (ne_of_none h.ht hz) (ne_of_none h.hd hz) (ne_of_none h.hl hz)
end
section
variable {P : Program} {w : World} {K : PySem.W.Frag} {mg : Str → Option Value} {base : Heap} {C S : Addr}
def spMade (S C : Addr) : Sp := fun vs H Q _ => ∃ (s td dd tl : Addr) (ws : List Str) (f : Str → Str → Str) (dl : List (Str × Str)) (tw : List Str), vs = [.ref s] ∧ SetAt H s td dd tl ws f dl tw ∧ ∀ A H', StIn S C H' A ws f dl tw → L2.Same H H' → H A.l = none ∧ H A.d = none → Q (.ref A.q) H'
abbrev nMade : List Str := ["_law_setting_here", "_law_table_here", "_law_deeds", "_law_some"]
theorem scMade : FnScope nMade ["_law_setting_here"] (defScope sMade) := ⟨rfl, rfl, rfl, by decide +kernel, rfl, by decide +kernel, by decide +kernel⟩
def tEither (t1 t2 : TE) : TE := fun σ H Q => t1 σ H Q ∨ t2 σ H Q
theorem PE.both {X : Cx} {e : Expr} {t1 t2 : TE} (a : PE X e t1) (b : PE X e t2) : PE X e (tEither t1 t2) := PE.either a b
theorem cut2 (x y z : V) : cutV [x, y, z] none (some 2) = [x, y] := by rfl
theorem ok_made {g : Addr} {fd : FuncData} (F : Fun K "_law_made" "_law_made" sMade g fd) (TS : STx K mg S) (T : KTx K mg C) (Z : Blp mg) (SM : SMk P w K mg base S C) (N : KMk P w K mg base C) : FnOk P w K mg base CX0 9 g fd ["_law_setting_here"] (spMade S C) := by
  refine F.ok scMade (fun vs H Q E h => ?_) (fun cdv A outer s H vs Q E hr h => ?_)
  · obtain ⟨s, td, dd, tl, ws, f, dl, tw, rfl, _⟩ := h
    rfl
  · obtain ⟨s0, td, dd, tl, ws, f, dl, tw, rfl, se, k⟩ := h
    have nd := scMade.nd
    refine ⟨_, pss_cons (ps_asg (pe_lc (own := [("_law_some", 3)]) (g := gName 3) (tt := tYes)
          (te := tEither (tCB (rDictT K) (tCons (tRevL K (tCB rListIt (tCons (tBM0 K "dict" L2.DX.rItemsT (tVar 3)) tNil))) tNil)) (tCB (rDP K) (tCons (tRevL K (LiI.tListItems (tVar 3))) tNil))) rfl nd (pi_list (pe_slice sl_list (pv 0) po_none (po_some pe_int))) (blkOk_by (own := [("_law_some", 3)]) (N := nMade) (sc := defScope sMade) (by decide +kernel))
          (fun _ _ _ _ _ => pg_name (i := 3) nd rfl (Or.inl rfl)) (fun _ _ _ _ _ => pts_nil)
          (fun _ _ _ _ _ => PE.both (pe_callTy (cr_dictT rfl (u2 hr.units)) (by rfl) Z.dict (by decide +kernel) (pa_cons (pe_revL (pe_callTy (cr_listIt rfl) (by rfl) Z.list (by decide +kernel) (pa_cons (pe_bm0 PySem.F.plainAttrs_dict PySem.F.slot_dict_items PySem.F.type_dict_items L2.DX.mt_itemsT (pv 3)) pa_nil))) pa_nil))
            (pe_callTy (cr_dictP rfl) (by rfl) Z.dict (by decide +kernel) (pa_cons (pe_revL (LiI.pe_listItems rfl (pv 3) rfl Z.list (by decide +kernel))) pa_nil))))
          (pg_unl (n := 2) rfl (pgs_cons (pg_name (i := 1) nd rfl (Or.inl rfl)) (pgs_cons (pg_name (i := 2) nd rfl (Or.inl rfl)) pgs_nil))))
      (pss_one (ps_ret (pe_setting SM TS.mgS hr rfl (pa_cons (pe_kinds N T.mgC hr rfl (pa_cons (pv 1) pa_nil)) (pa_cons (pv 2) (pa_cons (pe_callTy call_list_of (by rfl) Z.list (by decide +kernel) (pa_cons (pe_ix ix_list (pv 0) pe_int (fun _ _ => rfl)) pa_nil)) pa_nil)))))), ?_⟩
    have kw := se.kw
    dsimp only [tSeq, tAsg]
    refine ⟨_, rfl, _, rfl, s0, _, rfl, SqL.of se.hs, fun L hL => ?_⟩
    rw [cut2]
    have s1 := Same.new (H := H) (o := .lst [.ref td, .ref dd]) hL
    have hL1 : upd H L (.lst [.ref td, .ref dd]) L = _ := upd_same
    generalize upd H L (.lst [.ref td, .ref dd]) = H1 at s1 hL1 ⊢
    refine ⟨L, rfl, ⟨_, SqL.of hL1⟩, fun D hD => ?_⟩
    obtain ⟨ps, eps⟩ : ∃ ps, ps = (pairsW ws).reverse := ⟨_, rfl⟩
    refine lc_it (walk_list (K := K) (a := L) (xs := [.ref td, .ref dd])) (fun n H' => L2.Same H1 H' ∧ ((n = 0 ∧ H' D = some (.lst [])) ∨ (n = 1 ∧ ∃ a, H' D = some (.lst [.ref a]) ∧ H' a = some (.dT (mergeT [] (tabW ws f).reverse))) ∨ (n = 2 ∧ ∃ a b, H' D = some (.lst [.ref a, .ref b]) ∧ H' a = some (.dT (mergeT [] (tabW ws f).reverse)) ∧ H' b = some (.dK (dkv dl.reverse))))) ?_ ?_ ?_ ?_
    · exact ⟨Same.new hD, .inl ⟨rfl, upd_same⟩⟩
    · rintro i H' _ ⟨sm, _⟩
      exact SqL.of (sm _ _ hL1)
    · rintro i v H0 H2 hi ⟨s2, c⟩ ⟨rfl, hx⟩
      refine at_name (σ' := [some (.ref s0), none, none, some v]) rfl ⟨rfl, ?_⟩
      have se2 := (se.mono s1).mono s2
      rcases c with ⟨rfl, hD2⟩ | ⟨rfl, a, hD2, ha2⟩ | ⟨rfl, _⟩
      · obtain rfl : V.ref td = v := Option.some.inj hx
        refine yes_if ?_
        refine .inl ⟨_, rfl, tyV_dT se2.ht, td, _, rfl, rfl, se2.ht, fun v hv => ?_⟩
        have t1 := Same.new (H := H2) (o := L2.DX.itemsO v td) hv
        have hv1 : upd H2 v (L2.DX.itemsO v td) v = _ := upd_same
        generalize upd H2 v (L2.DX.itemsO v td) = G1 at t1 hv1 ⊢
        refine ⟨v, td, _, rfl, hv1, .inl (t1 _ _ se2.ht), fun G2 l ts t2 _ _ _ _ hl it => ?_⟩
        refine ⟨l, _, rfl, SqL.of hl, fun r hr0 => ?_⟩
        have t3 := Same.new (H := G2) (o := .lst (ts.map V.ref).reverse) hr0
        have hr1 : upd G2 r (.lst (ts.map V.ref).reverse) r = _ := upd_same
        have it3 := ItT.mono t3 it
        generalize upd G2 r (.lst (ts.map V.ref).reverse) = G3 at t3 hr1 it3 ⊢
        rw [← List.map_reverse] at hr1
        refine ⟨r, ts.reverse, (tabW ws f).reverse, rfl, SqL.of hr1, ItT.prT (paired_rev it3), fun q hq => ?_⟩
        have t4 := Same.new (H := G3) (o := .dT (mergeT [] (tabW ws f).reverse)) hq
        have hq1 : upd G3 q (.dT (mergeT [] (tabW ws f).reverse)) q = _ := upd_same
        generalize upd G3 q (.dT (mergeT [] (tabW ws f).reverse)) = G4 at t4 hq1 ⊢
        have t04 : L2.Same H2 G4 := t1.trans (t2.trans (t3.trans t4))
        have hD4 := t04 _ _ hD2
        have nqD : q ≠ D := fun e => by rw [e, t3 _ _ (t2 _ _ (t1 _ _ hD2))] at hq; cases hq
        refine ⟨_, hD4, by decide, fun b o e => ?_, .inr (.inl ⟨rfl, q, upd_same, (upd_ne nqD).trans hq1⟩)⟩
        rw [upd_ne (ne_of_none e hD)]
        exact t04 _ _ (s2 _ _ e)
      · obtain rfl : V.ref dd = v := Option.some.inj hx
        refine yes_if ?_
        refine .inr ⟨_, rfl, dd, _, rfl, se2.hd, fun G1 l ts t1 hl0 hts nl hl it => ?_⟩
        refine ⟨l, _, rfl, SqL.of hl, fun r hr0 => ?_⟩
        have t3 := Same.new (H := G1) (o := .lst (ts.map V.ref).reverse) hr0
        have hr1 : upd G1 r (.lst (ts.map V.ref).reverse) r = _ := upd_same
        have it3 : Paired (fun (t : Addr) (q : Key × V) => SqT K (upd G1 r (.lst (ts.map V.ref).reverse)) t [kV q.1, q.2]) ts (dkv dl) := Paired.mapP it fun t q h => SqT.of (t3 _ _ h)
        generalize upd G1 r (.lst (ts.map V.ref).reverse) = G3 at t3 hr1 it3 ⊢
        rw [← List.map_reverse] at hr1
        refine ⟨r, ts.reverse, (dkv dl).reverse, rfl, SqL.of hr1, paired_rev it3, fun q hq => ?_⟩
        have eq : mergeK [] (dkv dl).reverse = dkv dl.reverse := by
          have e1 : (dkv dl).reverse = dkv dl.reverse := by unfold dkv; rw [List.map_reverse]
          rw [e1, mergeK_nd _ _ (by
            rw [List.nil_append, dkv_keys]
            exact inr_nodup ((perm_keys (List.reverse_perm dl)).nodup_iff.mpr se.ok.nd)), List.nil_append]
        rw [eq]
        have t4 := Same.new (H := G3) (o := .dK (dkv dl.reverse)) hq
        have hq1 : upd G3 q (.dK (dkv dl.reverse)) q = _ := upd_same
        generalize upd G3 q (.dK (dkv dl.reverse)) = G4 at t4 hq1 ⊢
        have t04 : L2.Same H2 G4 := L2.Same.trans t1 (t3.trans t4)
        have hD4 := t04 _ _ hD2
        have nqD : q ≠ D := fun e => by rw [e, t3 _ _ (t1 _ _ hD2)] at hq; cases hq
        have naD : a ≠ D := ne_of ha2 hD2 (by intro z; cases z)
        refine ⟨_, hD4, (by show 1 < sizeLine; decide), fun b o e => ?_, .inr (.inr ⟨rfl, a, q, upd_same, (upd_ne naD).trans (t04 _ _ ha2), (upd_ne nqD).trans hq1⟩)⟩
        rw [upd_ne (ne_of_none e hD)]
        exact t04 _ _ (s2 _ _ e)
      · exact absurd hi (by simp)
    · rintro H2 ⟨s2, c⟩
      rcases c with ⟨z, _⟩ | ⟨z, _⟩ | ⟨_, a, b, hD2, ha2, hb2⟩
      · exact absurd z (by simp)
      · exact absurd z (by simp)
      · refine ⟨D, _, rfl, SqL.of hD2, rfl, _, _, rfl, ?_⟩
        refine at_name (σ' := [some (.ref s0), some (.ref a), none, none]) rfl ⟨_, _, rfl, ?_⟩
        refine at_name (σ' := [some (.ref s0), some (.ref a), some (.ref b), none]) rfl ⟨rfl, ?_⟩
        have se2 := (se.mono s1).mono s2
        have tb := merge_perm (f := f) kw.asc.nodup (List.reverse_perm (pairsW ws))
        rw [← tabW_rev] at tb
        refine ⟨_, rfl, ?_⟩
        refine mk_kindsR ha2 tb kw fun x H3 kn s3 => ?_
        have se3 := se2.mono s3
        refine ⟨_, rfl, _, rfl, s0, _, 2, _, rfl, rfl, SqL.of se3.hs, atI_nat (j := 2) rfl, tl, _, rfl, .inl (SqL.of se3.hl), fun m hm => ?_⟩
        have s4 := Same.new (H := H3) (o := .lst (tw.map V.str)) hm
        have hm4 : upd H3 m (.lst (tw.map V.str)) m = _ := upd_same
        generalize upd H3 m (.lst (tw.map V.str)) = H4 at s4 hm4 ⊢
        obtain ⟨kx, kd, kl, kin⟩ := kn.at.mono s4
        exact mk_setting kin (s4 _ _ (s3 _ _ hb2)) (se.ok.perm (List.reverse_perm dl)) (List.reverse_perm dl).symm se.asc hm4 se.tok fun x2 dx d2 l2 H' sn s5 => k ⟨x2, dx, x, kx, kd, kl, d2, l2⟩ H' sn.1 (s1.trans (s2.trans (s3.trans (s4.trans s5)))) ⟨L2.Same.free (s1.trans (s2.trans (s3.trans s4))) sn.2.2.2, L2.Same.free (s1.trans (s2.trans (s3.trans s4))) sn.2.2.1⟩
end
end KT
set_option Elab.async false
set_option linter.all false
set_option maxRecDepth 100000
set_option maxHeartbeats 4000000
set_option pp.maxSteps 900
set_option Elab.async false
set_option linter.all false
set_option maxRecDepth 100000
set_option maxHeartbeats 4000000
set_option pp.maxSteps 900
namespace KT
open PySem L2 PyProof.Rows DTp TxS
def rLtI : R2 := fun x y H Q => ∃ i j, x = .int i ∧ y = .int j ∧ Q (.bl (decide (i < j))) H
theorem op_ltI {X : Cx} : OpR X (compareOp .Lt) rLtI := op_lt
def rLenS (K : PySem.W.Frag) : List V → Hp → VK → Prop := fun xs H Q => ∃ p ys, xs = [.ref p] ∧ (SqL K H p ys ∨ SqT K H p ys) ∧ Q (.int ys.length) H
theorem cr_lenS {X : Cx} : CallR X (.builtin "len") (rLenS X.K) := call_len_seq
/-- pairs of words and kinds, made one by one -/
structure DlPv (G : Hp) (p D : Addr) (B : Int) (W ws : List Str) (j : Nat) (H : Hp) : Prop where
  bt : But p G H
  hP : PurseAt H p (B + 4 * j)
  ls : ∃ (ts : List Addr) (L : List (Str × Str)), H D = some (.lst (ts.map V.ref)) ∧ Paired (fun t q => H t = some (.tup [.str q.1, .str q.2])) ts L ∧ keysD L = W.take j ∧ (∀ q ∈ L, q.2 ∈ ws) ∧ ∀ i, i < j → i < ws.length → (L.map (·.2))[i]? = ws[i]?
theorem paired_snoc {α β : Type} {F : α → β → Prop} {xs : List α} {ys : List β} {x : α} {y : β} (h : Paired F xs ys) (r : F x y) : Paired F (xs ++ [x]) (ys ++ [y]) := paired_append h (.cons r .nil)
theorem tups_dkv {K : PySem.W.Frag} {H : Hp} : ∀ {ts : List Addr} {L : List (Str × Str)}, Paired (fun t q => H t = some (.tup [.str q.1, .str q.2])) ts L → Paired (fun p (kv : Key × V) => SqT K H p [kV kv.1, kv.2]) ts (dkv L)
  | _, _, .nil => .nil
  | _, _, .cons r t => .cons (SqT.of r) (tups_dkv t)
section
variable {P : Program} {w : World} {K : PySem.W.Frag} {mg : Str → Option Value} {base : Heap} {C S : Addr}
def spSetting : Sp := fun vs H Q _ => ∃ (p : Addr) (B : Int) (mo : Nat), vs = [.ref p, .int mo] ∧ 0 < mo ∧ mo ≤ 4 ∧ PurseAt H p B ∧ 0 ≤ B ∧ B ≤ 800000 ∧
  ∀ s td dd tl ws f dl tw H', But p H H' → PurseAt H' p (B + 4000) → SetAt H' s td dd tl ws f dl tw → Q (.ref s) H'
abbrev nSetting : List Str := ["_law_purse_here", "_law_most", "_law_table_here", "_law_kinds", "_law_words_here", "_law_deeds", "_law_twice", "_law_word_here", "_law_at", "_law_kind"]
theorem scSetting : FnScope nSetting ["_law_purse_here", "_law_most"] (defScope sSetting) := ⟨rfl, rfl, rfl, by decide +kernel, rfl, by decide +kernel, by decide +kernel⟩
structure SetC (P : Program) (w : World) (K : PySem.W.Frag) (mg : Str → Option Value) (base : Heap) : Prop where
  tab : Cee P w K mg base 5 "_law_table" ["_law_purse_here", "_law_most"] spTable
  kof : Cee P w K mg base 1 "_law_kinds_of" ["_law_table_here"] spKindsOf
  sqr : Cee P w K mg base 2 "_law_squares" ["_law_table_here"] spSquares
  wor : Cee P w K mg base 4 "_law_words" ["_law_purse_here", "_law_many"] spWords
  draw : DrawC P w K mg base
  one : Cee P w K mg base 3 "_law_one_of" ["_law_purse_here", "_law_some"] spOneOf
  hen : mg "enumerate" = none
theorem ok_setting {g : Addr} {fd : FuncData} (F : Fun K "_law_setting" "_law_setting" sSetting g fd) (B0 : Blt mg) (Z : Blp mg) (M : SetC P w K mg base) : FnOk P w K mg base CX0 6 g fd ["_law_purse_here", "_law_most"] spSetting := by
  refine F.ok scSetting (fun vs H Q E h => ?_) (fun cdv A outer s H vs Q E hr h => ?_)
  · obtain ⟨p, B, mo, rfl, _⟩ := h
    rfl
  · obtain ⟨p, B, mo, rfl, mo0, mo4, hP, b0, b1, k⟩ := h
    have nd := scSetting.nd
    refine ⟨_, pss_cons (ps_set (i := 2) nd rfl (Or.inl rfl) (pe_c M.tab hr rfl (pa_cons (pv 0) (pa_cons (pv 1) pa_nil))))
      (pss_cons (ps_set (i := 3) nd rfl (Or.inr rfl) (pe_c M.kof hr rfl (pa_cons (pv 2) pa_nil)))
      (pss_cons (ps_set (i := 4) nd rfl (Or.inl rfl) (pe_c M.wor hr rfl (pa_cons (pv 0) (pa_cons (pe_op op_add (pe_callB cr_lenS (by rfl) B0.len PySem.boot_len (pa_cons (pv 3) pa_nil)) (pe_c M.draw hr rfl (pa_cons (pv 0) (pa_cons pe_int pa_nil)))) pa_nil))))
      (pss_cons (ps_set (i := 5) nd rfl (Or.inr rfl) (pe_callTy (cr_dictP rfl) (by rfl) Z.dict (by decide +kernel) (pa_cons
        (pe_lc (own := [("_law_word_here", 7), ("_law_at", 8)]) (g := gXY K 8 7) (tt := tYes) (te := tTup (tCons (tVar 7) (tCons (tIf (tTest (tOp rLtI (tVar 8) (tCB (rLenS K) (tCons (tVar 3) tNil)))) (tOp (rIxL K) (tVar 3) (tVar 8)) (tCall spOneOf [] E0 (tCons (tVar 0) (tCons (tVar 3) tNil)))) tNil))) rfl nd (pi_enum (by rfl) M.hen (pa_cons (pv 4) pa_nil)) (blkOk_by (own := [("_law_word_here", 7), ("_law_at", 8)]) (N := nSetting) (sc := defScope sSetting) (by decide +kernel))
          (fun _ _ _ _ _ => pg_tup rfl (pgs_cons (pg_name (i := 8) nd rfl (Or.inl rfl)) (pgs_cons (pg_name (i := 7) nd rfl (Or.inl rfl)) pgs_nil))) (fun _ _ _ _ _ => pts_nil)
          (fun _ _ _ _ _ => pe_tup (pa_cons (pv 7) (pa_cons (pe_ifExp (pt_cmpR op_ltI (pv 8) (pe_callB cr_lenS (by rfl) B0.len PySem.boot_len (pa_cons (pv 3) pa_nil)) (nomark _)) (pe_ix ix_list (pv 3) (pv 8) (fun _ _ => rfl)) (pe_c M.one hr rfl (pa_cons (pv 0) (pa_cons (pv 3) pa_nil)))) pa_nil)))) pa_nil)))
      (pss_cons (ps_set (i := 6) nd rfl (Or.inl rfl) (pe_c M.sqr hr rfl (pa_cons (pv 2) pa_nil)))
      (pss_cons (ps_cut (ps_if (pt_cmpR op_eq (pe_c M.draw hr rfl (pa_cons (pv 0) (pa_cons pe_int pa_nil))) pe_int (nomark _)) (pss_one (ps_setLc (i := 6) (own := [("_law_kind", 9)]) (g := gName 9) (tt := tTest (tOp rEq (tCall spDraw [] E0 (tCons (tVar 0) (tCons (tC (.int 2)) tNil))) (tC (.int 0)))) (te := tVar 9) rfl nd rfl rfl (sw_true rfl rfl rfl (by decide +kernel)) (pi_list (pv 6)) (blkOk_by (own := [("_law_kind", 9)]) (N := nSetting) (sc := defScope sSetting) (by decide +kernel))
          (fun _ _ _ _ _ => pg_name (i := 9) nd rfl (Or.inl rfl)) (fun _ _ _ _ _ => pts_one (pt_cmpR op_eq (pe_c M.draw hr rfl (pa_cons (pv 0) (pa_cons pe_int pa_nil))) pe_int (nomark _))) (fun _ _ _ _ _ => pv 9))) pss_nil))
      (pss_one (ps_ret (pe_lst (pa_cons (pv 2) (pa_cons (pe_callTy (cr_dictP rfl) (by rfl) Z.dict (by decide +kernel) (pa_cons
        (pe_lc (own := [("_law_word_here", 7)]) (g := gName 7) (tt := tYes) (te := tTup (tCons (tVar 7) (tCons (tDGet (tVar 5) (tVar 7)) tNil))) rfl nd (pi_list (pe_callB (call_sortedD rfl) (by rfl) Z.sorted (by decide +kernel) (pa_cons (pv 5) pa_nil))) (blkOk_by (own := [("_law_word_here", 7)]) (N := nSetting) (sc := defScope sSetting) (by decide +kernel))
          (fun _ _ _ _ _ => pg_name (i := 7) nd rfl (Or.inl rfl)) (fun _ _ _ _ _ => pts_nil) (fun _ _ _ _ _ => pe_tup (pa_cons (pv 7) (pa_cons (pe_dget (hu_of hr) (pv 5) (pv 7) (fun _ _ => rfl)) pa_nil)))) pa_nil)) (pa_cons (pv 6) pa_nil))))))))))), ?_⟩
    refine ⟨_, rfl, _, rfl, p, B, mo, rfl, mo0, mo4, hP, b0, by omega, fun td ws f H1 htd0 bt1 hP1 htd kw => ?_⟩
    refine at_name (σ' := [some (.ref p), some (.int (mo : Nat)), some (.ref td), none, none, none, none, none, none, none]) rfl ?_
    refine ⟨_, rfl, td, ws, f, rfl, htd, kw, fun kl H2 s2 hkl0 hkl => ?_⟩
    refine at_name (σ' := [some (.ref p), some (.int (mo : Nat)), some (.ref td), some (.ref kl), none, none, none, none, none, none]) rfl ?_
    have l4 := kw.few
    have l1 := kw.pos
    have hP2 := hP1.mono s2
    refine ⟨_, rfl, _, rfl, kl, _, rfl, .inl (SqL.of hkl), _, rfl, p, 3, _, rfl, hP2, by omega, by omega, by decide, by decide, fun r H3 bt3 hP3 r0 r1 => ?_⟩
    obtain ⟨m, rfl⟩ := nat_of (m := 0) r0
    rw [List.length_map]
    refine ⟨_, _, rfl, rfl, p, _, _, rfl, hP3, by omega, by omega, by omega, by omega, fun wl W H4 hwl0 bt4 hP4 hwl lW wdW ndW => ?_⟩
    refine at_name (σ' := [some (.ref p), some (.int (mo : Nat)), some (.ref td), some (.ref kl), some (.ref wl), none, none, none, none, none]) rfl ?_
    have lW' : W.length = ws.length + m := by omega
    have npk : p ≠ kl := hP2.strs hkl
    have npt : p ≠ td := by
      rintro rfl
      obtain ⟨_, _, _, _, e, _⟩ := hP1
      rw [htd] at e; cases e
    have hk4 := bt4 _ _ (Ne.symm npk) (bt3 _ _ (Ne.symm npk) hkl)
    have ht4 := bt4 _ _ (Ne.symm npt) (bt3 _ _ (Ne.symm npt) (s2 _ _ htd))
    have npw : p ≠ wl := hP4.strs hwl
    have b04 : But p H H4 := ((bt1.same s2).trans bt3).trans bt4
    refine ⟨_, rfl, wl, _, rfl, SqL.of hwl, fun D hD => ?_⟩
    have npD : p ≠ D := hP4.ne hD
    refine lc_it (walk_enum (K := K) (a := wl) (xs := W.map V.str)) (DlPv H4 p D (B + 2000 + 4 + 1000) W ws) ?_ ?_ ?_ ?_
    · exact ⟨(But.refl p H4).new hD, (hP4.upd npD).le (by omega), [], [], upd_same, .nil, rfl, (fun q hq => by cases hq), fun i h => by omega⟩
    · intro i H' _ pv
      exact SqL.of (pv.bt _ _ (Ne.symm npw) hwl)
    · rintro i v H5 H6 hi ⟨bt5, hP5, ts, L, hD5, pr, ks, mk, hk⟩ ⟨q, a, b, rfl, hq, rfl, ha, hb⟩
      rw [List.length_map] at hi
      obtain ⟨x, ex, rfl⟩ := str_get hb
      obtain rfl := Option.some.inj ha
      have nqD : D ≠ q := ne_of_none hD5 hq
      have npq : p ≠ q := hP5.ne hq
      have s6 := Same.new (H := H5) (o := .tup [.int (i : Nat), .str x]) hq
      have hq6 : upd H5 q (.tup [.int (i : Nat), .str x]) q = _ := upd_same
      generalize upd H5 q (.tup [.int (i : Nat), .str x]) = H6 at s6 hq6 ⊢
      refine ⟨q, _, rfl, SqT.of hq6, rfl, _, _, rfl, ?_⟩
      refine at_name (σ' := [some (.ref p), some (.int (mo : Nat)), some (.ref td), some (.ref kl), some (.ref wl), none, none, none, some (.int (i : Nat)), none]) rfl ⟨_, _, rfl, ?_⟩
      refine at_name (σ' := [some (.ref p), some (.int (mo : Nat)), some (.ref td), some (.ref kl), some (.ref wl), none, none, some (.str x), some (.int (i : Nat)), none]) rfl ⟨rfl, rfl, yes_if ?_⟩
      have hk6 := s6 _ _ (bt5 _ _ (Ne.symm npk) hk4)
      have hP6 := hP5.mono s6
      have fin : ∀ H7 y t, But p H6 H7 → PurseAt H7 p (B + 2000 + 4 + 1000 + 4 * i + 4) → y ∈ ws → (i < ws.length → ws[i]? = some y) → H7 t = none → ∃ acc, upd H7 t (.tup [.str x, .str y]) D = some (.lst acc) ∧ acc.length < sizeLine ∧ DlPv H4 p D (B + 2000 + 4 + 1000) W ws (i + 1) (upd (upd H7 t (.tup [.str x, .str y])) D (.lst (acc ++ [V.ref t]))) := by
        intro H7 y t bt7 hP7 my hy ht
        have s7 := Same.new (H := H7) (o := .tup [.str x, .str y]) ht
        have ht7 : upd H7 t (.tup [.str x, .str y]) t = _ := upd_same
        have npt2 : p ≠ t := hP7.ne ht
        have hP8 := hP7.mono s7
        generalize upd H7 t (.tup [.str x, .str y]) = H8 at s7 ht7 hP8 ⊢
        have hD8 := s7 _ _ (bt7 _ _ (Ne.symm npD) (s6 _ _ hD5))
        have ltD : t ≠ D := ne_of ht7 hD8 (by intro z; cases z)
        have lts : ts.length = i := by
          rw [pr.length]
          have := congrArg List.length ks
          rw [keysD_len, List.length_take] at this
          omega
        refine ⟨_, hD8, by rw [List.length_map]; exact small1000 (by omega), ?_, (hP8.upd npD).le (by omega), ts ++ [t], L ++ [(x, y)], ?_, ?_, ?_, ?_, ?_⟩
        · refine But.fresh ?_ hD
          exact fun b o n e => s7 _ _ (bt7 b o n (s6 _ _ (bt5 b o n e)))
        · rw [upd_same, List.map_append]; rfl
        · refine paired_snoc (Paired.mapP pr fun t2 q2 h => ?_) ((upd_ne ltD).trans ht7)
          have n1 : t2 ≠ D := ne_of h hD5 (by intro z; cases z)
          have n2 : t2 ≠ p := fun e => by
            obtain ⟨_, _, _, _, e3, _⟩ := hP5
            rw [e, e3] at h; cases h
          exact (upd_ne n1).trans (s7 _ _ (bt7 _ _ n2 (s6 _ _ h)))
        · rw [take_next' ex]
          unfold keysD at ks ⊢
          rw [List.map_append, ks]
          rfl
        · intro z hz
          rcases List.mem_append.mp hz with hz | hz
          · exact mk z hz
          · rw [List.mem_singleton.mp hz]; exact my
        · intro j hj hj2
          have lL : (L.map (·.2)).length = i := by rw [List.length_map, ← pr.length]; exact lts
          rw [List.map_append]
          by_cases e : j < i
          · rw [List.getElem?_append_left (by omega)]
            exact hk j e hj2
          · have e2 : j = i := by omega
            subst e2
            rw [List.getElem?_append_right (by omega), lL, Nat.sub_self, hy hj2]
            rfl
      refine ⟨_, rfl, _, rfl, _, rfl, kl, _, rfl, .inl (SqL.of hk6), _, _, rfl, rfl, _, rfl, ?_⟩
      rw [List.length_map]
      refine ite2 (fun z => ?_) (fun z => ?_)
      · have hlt : i < ws.length := by have := of_decide_eq_true z; omega
        have ei : ws[i]? = some ws[i] := List.getElem?_eq_getElem hlt
        refine ⟨_, rfl, _, rfl, kl, _, _, _, rfl, rfl, SqL.of hk6, atI_nat (j := i) (by rw [List.getElem?_map, ei]; rfl), (by show 2 ≤ sizeLine; decide), fun t ht => ?_⟩
        exact fin H6 ws[i] t (But.refl _ _) (hP6.le (by omega)) (List.getElem_mem hlt) (fun _ => ei) ht
      · have hge : ¬ i < ws.length := fun q => z (decide_eq_true (by omega))
        refine ⟨_, rfl, _, rfl, p, kl, _, _, rfl, npk, hP6, by omega, by omega, hk6, by rw [List.length_map]; omega, by rw [List.length_map]; omega, fun y H7 hy bt7 hP7 => ⟨(by show 2 ≤ sizeLine; decide), fun t ht => ?_⟩⟩
        obtain ⟨y, my, rfl⟩ := List.mem_map.mp hy
        exact fin H7 y t bt7 hP7 my (fun q => absurd q hge) ht
    · rintro H5 ⟨bt5, hP5, ts, L, hD5, pr, ks, mk, hk⟩
      rw [List.length_map, List.take_length] at ks
      rw [List.length_map] at hP5 hk
      have okL : DlOk ws L := {
        nd := by rw [ks]; exact ndW
        wd := by rw [ks]; exact wdW
        few := by have := congrArg List.length ks; rw [keysD_len] at this; omega
        kd := mk
        all := fun x hx => by
          obtain ⟨i, hi⟩ := List.mem_iff_getElem?.mp hx
          obtain ⟨hlt, _⟩ := List.getElem?_eq_some_iff.mp hi
          have := hk i (by omega) hlt
          rw [hi] at this
          obtain ⟨z, hz, e⟩ := List.mem_map.mp (List.mem_of_getElem? this)
          exact ⟨z, hz, e⟩ }
      refine ⟨D, ts, dkv L, rfl, SqL.of hD5, tups_dkv pr, fun dl0 hdl => ?_⟩
      have e1 : mergeK [] (dkv L) = dkv L := by
        rw [mergeK_nd _ _ (by
          rw [List.nil_append, dkv_keys]
          exact inr_nodup okL.nd), List.nil_append]
      rw [e1]
      have s6 := Same.new (H := H5) (o := .dK (dkv L)) hdl
      have hd6 : upd H5 dl0 (.dK (dkv L)) dl0 = _ := upd_same
      generalize upd H5 dl0 (.dK (dkv L)) = H6 at s6 hd6 ⊢
      refine at_name (σ' := [some (.ref p), some (.int (mo : Nat)), some (.ref td), some (.ref kl), some (.ref wl), some (.ref dl0), none, none, none, none]) rfl ?_
      have ht6 := s6 _ _ (bt5 _ _ (Ne.symm npt) ht4)
      have hP6 := hP5.mono s6
      have b06 : But p H H6 := (b04.trans bt5).same s6
      refine ⟨_, rfl, td, ws, f, rfl, ht6, kw, fun sq H7 s7 hsq0 hsq => ?_⟩
      refine at_name (σ' := [some (.ref p), some (.int (mo : Nat)), some (.ref td), some (.ref kl), some (.ref wl), some (.ref dl0), some (.ref sq), none, none, none]) rfl ?_
      have hP7 := hP6.mono s7
      have ht7 := s7 _ _ ht6
      have hd7 := s7 _ _ hd6
      have npd : p ≠ dl0 := by
        rintro rfl
        obtain ⟨_, _, _, _, e, _⟩ := hP6
        rw [hd6] at e; cases e
      have nps : p ≠ sq := hP7.strs hsq
      have asq : Asc (sqs ws f) := List.Pairwise.sublist List.filter_sublist kw.asc
      refine ⟨fun σ' H' => ∃ (tl : Addr) (tw : List Str), σ' = [some (.ref p), some (.int (mo : Nat)), some (.ref td), some (.ref kl), some (.ref wl), some (.ref dl0), some (.ref tl), none, none, none] ∧ But p H7 H' ∧ PurseAt H' p (B + 3500) ∧ H' tl = some (.lst (tw.map V.str)) ∧ tw.Sublist (sqs ws f), ?_, ?_⟩
      · refine ⟨_, rfl, p, 2, _, rfl, hP7, by omega, by omega, by decide, by decide, fun r2 H8 bt8 hP8 r20 r21 => ⟨rfl, _, rfl, ?_⟩⟩
        have hsq8 := bt8 _ _ (Ne.symm nps) hsq
        refine ite2 (fun z => ?_) (fun z => ?_)
        · refine ⟨_, rfl, sq, rfl, ⟨_, SqL.of hsq8⟩, fun E2 hE => ?_⟩
          have npE : p ≠ E2 := hP8.ne hE
          have lsq : (sqs ws f).length ≤ 4 := Nat.le_trans (List.length_filter_le _ _) l4
          refine lc_it (walk_list (K := K) (a := sq) (xs := (sqs ws f).map V.str)) (fun j H' => But p H8 H' ∧ PurseAt H' p (B + 2000 + 4 + 1000 + 4 * W.length + 4 + 4 * j) ∧ ∃ tw : List Str, H' E2 = some (.lst (tw.map V.str)) ∧ tw.Sublist ((sqs ws f).take j)) ?_ ?_ ?_ ?_
          · exact ⟨(But.refl p H8).new hE, (hP8.upd npE).le (by omega), [], upd_same, List.nil_sublist _⟩
          · rintro j H' _ ⟨bt9, _⟩
            exact SqL.of (bt9 _ _ (Ne.symm nps) hsq8)
          · rintro j v H9' H9 hj ⟨bt9, hP9, tw, hE9, sub⟩ ⟨rfl, hx⟩
            rw [List.length_map] at hj
            obtain ⟨x, ex, rfl⟩ := str_get hx
            refine at_name (σ' := [some (.ref p), some (.int (mo : Nat)), some (.ref td), some (.ref kl), some (.ref wl), some (.ref dl0), some (.ref sq), none, none, some (.str x)]) rfl ⟨rfl, ?_⟩
            refine ⟨_, rfl, p, 2, _, rfl, hP9, by omega, by omega, by decide, by decide, fun r3 H10 bt10 hP10 _ _ => ⟨rfl, _, rfl, ?_⟩⟩
            have hE10 := bt10 _ _ (Ne.symm npE) hE9
            have ltw : tw.length ≤ 4 := Nat.le_trans sub.length_le (by rw [List.length_take]; omega)
            rw [take_next' ex]
            refine ite2 (fun z => ?_) (fun z => ?_)
            · refine ⟨_, rfl, _, hE10, by rw [List.length_map]; exact small1000 (by omega), (bt9.trans bt10).fresh hE, (hP10.upd npE).le (by omega), tw ++ [x], ?_, sub.append_right [x]⟩
              rw [upd_same, List.map_append]; rfl
            · exact ⟨bt9.trans bt10, hP10.le (by omega), tw, hE10, sub.trans (List.sublist_append_left _ _)⟩
          · rintro H9 ⟨bt9, hP9, tw, hE9, sub⟩
            rw [List.length_map] at hP9 sub
            rw [List.take_length] at sub
            refine at_name (σ' := [some (.ref p), some (.int (mo : Nat)), some (.ref td), some (.ref kl), some (.ref wl), some (.ref dl0), some (.ref E2), none, none, none]) rfl ?_
            exact ⟨E2, tw, rfl, bt8.trans bt9, hP9.le (by omega), hE9, sub⟩
        · exact ⟨sq, sqs ws f, rfl, bt8, hP8.le (by omega), hsq8, List.Sublist.refl _⟩
      · rintro σ' H8 ⟨tl, tw, rfl, bt8, hP8, htl8, sub⟩
        have ht8 := bt8 _ _ (Ne.symm npt) ht7
        have hd8 := bt8 _ _ (Ne.symm npd) hd7
        have nas : (keysD L).Nodup := okL.nd
        have asc2 := ascOf_asc nas
        obtain ⟨dl, edl⟩ : ∃ dl : List (Str × Str), dl = (ascOf (keysD L)).map fun x => (x, kof L x) := ⟨_, rfl⟩
        have kdl : keysD dl = ascOf (keysD L) := by
          rw [edl]
          unfold keysD
          rw [List.map_map]
          exact List.map_id _
        have pdl : dl.Perm L := by
          rw [edl]
          have q := (ascOf_perm (keysD L)).map fun x => (x, kof L x)
          rw [by_keys nas] at q
          exact q
        have dkl : ((ascOf (keysD L)).map fun x => ((Sum.inr x : Key), V.str (kof L x))) = dkv dl := by
          rw [edl]
          unfold dkv
          rw [List.map_map]
          rfl
        have l8 : L.length ≤ 8 := okL.few
        refine ⟨_, rfl, ?_⟩
        refine rdS_list (key := fun x => x) (val := fun x => .str (kof L x)) (xs := ascOf (keysD L)) (fun _ H' => L2.Same H8 H') (by rw [(ascOf_perm _).length_eq, keysD_len]; omega) ?_ ?_ ?_
        · intro R hR
          refine ⟨_, rfl, dl0, _, keysD L, rfl, .inl hd8, dkv_keys L, by rw [keysD_len]; omega, fun ys t pm so ht => ?_⟩
          have ey : ys = ascOf (keysD L) := (sortedS_asc so (pm.nodup_iff.mpr nas)).eq asc2 (pm.trans (ascOf_perm _).symm)
          subst ey
          exact hR t _ upd_same (Same.new ht)
        · intro l x H9 H10 R hx s9 s10 kR
          have mx : x ∈ keysD L := (ascOf_perm _).mem_iff.mp hx
          have dg := DGet.k (k := Sum.inr x) (s10 _ _ (s9 _ _ hd8))
          rw [valV_dkv nas mx] at dg
          refine at_name (σ' := [some (.ref p), some (.int (mo : Nat)), some (.ref td), some (.ref kl), some (.ref wl), some (.ref dl0), some (.ref tl), some (.str x), none, none]) rfl ⟨rfl, ?_⟩
          exact ⟨_, rfl, _, rfl, _, rfl, dl0, _, rfl, dg, (by show 2 ≤ sizeLine; decide), fun t ht => kR t _ (Same.new ht) upd_same⟩
        · intro dd l H9 H10 s9 s10 hdd0 hdd
          rw [mergeK_strs asc2.nodup, dkl] at hdd
          refine ⟨_, rfl, (by show 3 ≤ sizeLine; decide), fun s2 hs2 => ?_⟩
          have s11 := Same.new (H := H10) (o := .lst [.ref td, .ref dd, .ref tl]) hs2
          have s811 := s9.trans (s10.trans s11)
          exact k s2 td dd tl ws f dl tw _ (((b06.same s7).trans bt8).same s811) ((hP8.mono s811).le (by omega)) ⟨upd_same, s811 _ _ ht8, s11 _ _ hdd, s811 _ _ htl8, kw, okL.perm pdl, by rw [kdl]; exact asc2, ⟨List.Pairwise.sublist sub asq, fun x hx => sub.subset hx⟩⟩
end
end KT
set_option Elab.async false
set_option linter.all false
set_option maxRecDepth 100000
set_option maxHeartbeats 4000000
set_option pp.maxSteps 900
set_option Elab.async false
set_option linter.all false
set_option maxRecDepth 100000
set_option maxHeartbeats 4000000
set_option pp.maxSteps 900
namespace KT
open PySem L2 PyProof.Rows DTp TxS
section
variable {P : Program} {w : World} {K : PySem.W.Frag} {mg : Str → Option Value} {base : Heap} {C S : Addr}
theorem scIsCount : FnScope ["value"] ["value"] (defScope pIsCount) := ⟨rfl, rfl, rfl, by decide +kernel, rfl, by decide +kernel, by decide +kernel⟩
theorem ok_isCount {f : Addr} {fd : FuncData} (F : Fun K "is_count" "is_count" pIsCount f fd) (T : Blt mg) (Z : Blp mg) : FnOk P w K mg base CX0 1 f fd ["value"] spIsCount := by
  refine F.ok scIsCount (fun vs H Q E h => ?_) (fun cdv A outer s H vs Q E hr h => ?_)
  · obtain ⟨n, rfl, _⟩ := h
    rfl
  · obtain ⟨n, rfl, n0, k⟩ := h
    refine ⟨_, pss_one (ps_ret (pe_and (pe_callB call_isi (by rfl) Z.isi boot_isi (pa_cons (pv 0) (pa_cons (pe_bltn (v := .ty "int") (by rfl) T.int boot_int rfl) pa_nil)))
      (pe_and (pe_not (pe_callB call_isi (by rfl) Z.isi boot_isi (pa_cons (pv 0) (pa_cons (pe_bltn (v := .ty "bool") (by rfl) Z.bool (by decide +kernel) rfl) pa_nil))))
        (pe_one (pe_cmpR op_ge (pv 0) pe_int (nomark _)))))), ?_⟩
    refine ⟨_, rfl, _, _, _, _, true, rfl, .ty _, .base (.int _), kit_ty (by decide +kernel), _, rfl, iteT ?_⟩
    refine ⟨_, rfl, _, _, _, _, false, rfl, .ty _, .base (.int _), kit_ty (by decide +kernel), _, rfl, _, rfl, iteT ?_⟩
    refine ⟨_, rfl, _, _, rfl, rfl, ?_⟩
    show Q (.bl (decide ((0 : Int) ≤ n))) H
    rw [decide_eq_true n0]
    exact k
end
end KT
set_option Elab.async false
set_option linter.all false
set_option maxRecDepth 100000
set_option maxHeartbeats 2000000
namespace DKq
open PySem PySem.Spec PyProof.Rows L2
def hitK (ls : List (Key × V)) (p : Key × V) : Bool := match valV ls p.1 with
  | some v => eqV p.2 v
  | none => false
def sameK (ks ls : List (Key × V)) : Bool := ks.length == ls.length && ks.all (hitK ls)
def FlV (kvs : List (Key × V)) : Prop := ∀ p ∈ kvs, flatV p.2 = true
theorem FlV.val {ls : List (Key × V)} (h : FlV ls) {k : Key} {v : V} (e : valV ls k = some v) : flatV v = true := by
  unfold valV at e
  obtain ⟨p, h1, rfl⟩ := Option.map_eq_some_iff.mp e
  exact h p (List.mem_of_find?_eq_some h1)
theorem hits_any {A : Around} {s : Shared} {ls : List (Key × V)} {vb : List (Key × Value)} (rb : KV ls vb) (fl : FlV ls) {ks : List (Key × V)} {va : List (Key × Value)} (ra : KV ks va) :
    FlV ks → PySem.W.KeqHits A s vb va (ks.all (hitK ls)) := by
  unfold KV at ra
  induction ra with
  | nil => intro _; exact .nil
  | @cons p q ps qs h t ih =>
    intro hp
    obtain ⟨h1, h2⟩ := h
    obtain ⟨k, v⟩ := q
    have h1 : p.1 = k := h1
    have rr : RelO (valV ls p.1) (valueAt vb p.1) := rb.val p.1
    rw [List.all_cons]
    unfold hitK
    cases e : valV ls p.1 with
    | none =>
      rw [e] at rr
      cases e2 : valueAt vb p.1 with
      | none =>
        rw [h1] at e2
        exact .miss e2
      | some y => rw [e2] at rr; exact rr.elim
    | some x =>
      rw [e] at rr
      cases e2 : valueAt vb p.1 with
      | none => rw [e2] at rr; exact rr.elim
      | some y =>
        rw [e2] at rr
        rw [h1] at e2
        exact .hit e2 (eqAt_V h2 rr (hp p List.mem_cons_self) (fl.val e)) (ih fun p' hm => hp p' (List.mem_cons_of_mem _ hm))
def rEqK (neg : Bool) : R2 := fun x y H Q => ∃ a b ks ls, x = .ref a ∧ y = .ref b ∧ H a = some (.dK ks) ∧ H b = some (.dK ls) ∧ FlV ks ∧ FlV ls ∧ Q (.bl (if neg = true then !sameK ks ls else sameK ks ls)) H
section
variable {X : Cx}
theorem op_eqK (hu : X.A.units < cLine) : OpR X (compareOp .Eq) (rEqK false) := by
  intro pins s σ H x y v u Q I rx ry h
  obtain ⟨a, b, ks, ls, rfl, rfl, ea, eb, fk, fl, q⟩ := h
  obtain rfl : v = Value.ref a := rx
  obtain rfl : u = Value.ref b := ry
  obtain ⟨_, ya, va, ra, da⟩ := (show ObjOk X.prog X.w H s.heap a (.dK ks) from I.hok a _ ea)
  obtain ⟨_, yb, vb, rb, db⟩ := (show ObjOk X.prog X.w H s.heap b (.dK ls) from I.hok b _ eb)
  refine PySem.W.keq_eq (knd := mixKind X.prog X.w) (r := ks.all (hitK ls)) ya yb da db hu (fun _ => hits_any rb fl ra fk) (fin_bl I q ?_)
  rw [if_neg (by decide)]
  unfold sameK
  rw [ra.length, rb.length]
end
end DKq
set_option Elab.async false
set_option linter.all false
set_option maxRecDepth 100000
set_option maxHeartbeats 4000000
set_option pp.maxSteps 900
namespace KT
open PySem L2 PyProof.Rows DTp TxS DKq
theorem fl_dkv (dl : List (Str × Str)) : FlV (dkv dl) := fun p hp => by
  obtain ⟨q, _, rfl⟩ := List.mem_map.mp hp
  rfl
theorem sameK_iff {dl d2 : List (Str × Str)} (n : (keysD dl).Nodup) (n2 : (keysD d2).Nodup) : sameK (dkv dl) (dkv d2) = true ↔ dl.length = d2.length ∧ ∀ p ∈ dl, p ∈ d2 := by
  unfold sameK
  rw [Bool.and_eq_true, beq_iff_eq, dkv_len, dkv_len, List.all_eq_true]
  constructor
  · rintro ⟨h1, h2⟩
    refine ⟨h1, fun p hp => ?_⟩
    have h := h2 (Sum.inr p.1, V.str p.2) (List.mem_map.mpr ⟨p, hp, rfl⟩)
    unfold hitK at h
    by_cases m : p.1 ∈ keysD d2
    · rw [show (Sum.inr p.1, V.str p.2).1 = (Sum.inr p.1 : Key) from rfl, valV_dkv n2 m] at h
      have e : p.2 = kof d2 p.1 := beq_iff_eq.mp (show (p.2 == kof d2 p.1) = true from h)
      have q := kof_pair n2 m
      rw [← e] at q
      exact q
    · rw [show (Sum.inr p.1, V.str p.2).1 = (Sum.inr p.1 : Key) from rfl, valV_no m] at h
      exact absurd h Bool.false_ne_true
  · rintro ⟨h1, h2⟩
    refine ⟨h1, fun q hq => ?_⟩
    obtain ⟨p, hp, rfl⟩ := List.mem_map.mp hq
    have m := h2 p hp
    unfold hitK
    rw [show (Sum.inr p.1, V.str p.2).1 = (Sum.inr p.1 : Key) from rfl, valV_dkv n2 (List.mem_map.mpr ⟨p, m, rfl⟩), kof_mem n2 m]
    exact beq_self_eq_true p.2
theorem sameK_self {dl : List (Str × Str)} (n : (keysD dl).Nodup) : sameK (dkv dl) (dkv dl) = true := (sameK_iff n n).mpr ⟨rfl, fun _ h => h⟩
section
variable {P : Program} {w : World} {K : PySem.W.Frag} {mg : Str → Option Value} {base : Heap} {C S : Addr}
def sameS (ws : List Str) (f : Str → Str → Str) (dl : List (Str × Str)) (tw ws2 : List Str) (f2 : Str → Str → Str) (d2 : List (Str × Str)) (tw2 : List Str) : Bool := sameT (tabW ws f) (tabW ws2 f2) && (sameK (dkv dl) (dkv d2) && decide (tw = tw2))
def spSEqA (K : PySem.W.Frag) (S C : Addr) : Sp := fun vs H Q _ => ∃ (A : SA) (y : V) (ws : List Str) (f : Str → Str → Str) (dl : List (Str × Str)) (tw : List Str), vs = [.ref A.q, y] ∧ StIn S C H A ws f dl tw ∧
  ((∃ (B : SA) (ws2 : List Str) (f2 : Str → Str → Str) (d2 : List (Str × Str)) (tw2 : List Str), y = .ref B.q ∧ StIn S C H B ws2 f2 d2 tw2 ∧ Q (.bl (sameS ws f dl tw ws2 f2 d2 tw2)) H) ∨ ∃ t, TyX K H y t ∧ PySem.W.kitOne K t (.ref S) = some false ∧ Q (.bl false) H)
theorem ok_seqA {g : Addr} {fd : FuncData} (F : Fun K "__eq__" "Setting.__eq__" sEq g fd) (TS : STx K mg S) (T : KTx K mg C) (Z : Blp mg) (D : OwQ.EqC P w K mg base 1 C (spKEq K C)) (hn : PySem.W.notFirst K C (.ref C) = true) : FnOk P w K mg base CX0 2 g fd ["self", "other"] (spSEqA K S C) := by
  refine F.ok scSEq (fun vs H Q E h => ?_) (fun cdv A outer s H vs Q E hr h => ?_)
  · obtain ⟨A, y, ws, f, dl, tw, rfl, _⟩ := h
    rfl
  · obtain ⟨A0, y, ws, f, dl, tw, rfl, st, h⟩ := h
    refine ⟨_, pss_one (ps_ret (pe_and (pe_callB call_isi (by rfl) Z.isi boot_isi (pa_cons (pv 1) (pa_cons (pe_glob (v := .ref S) rfl TS.mgS rfl) pa_nil)))
      (pe_and (pe_cmpR (OwQ.op_eqOwn D (hr.mono (by decide))) (pe_fld (pv 0) rfl) (pe_fld (pv 1) rfl) (nomark _))
      (pe_and (pe_cmpR (op_eqK hr.units0) (pe_fld (pv 0) rfl) (pe_fld (pv 1) rfl) (nomark _))
      (pe_one (pe_cmpR (op_eqD hr.units) (pe_fld (pv 0) rfl) (pe_fld (pv 1) rfl) (nomark _))))))), ?_⟩
    rcases h with ⟨B0, ws2, f2, d2, tw2, rfl, su, k⟩ | ⟨t, ty, kt, k⟩
    · refine ⟨_, rfl, _, _, _, _, true, rfl, .own _, TS.ty su.ob, TS.own, _, rfl, iteT ?_⟩
      refine ⟨_, rfl, _, S, _, _, _, rfl, st.ob, TS.cl, TS.nK, sflds_k _ _ _, _, rfl, _, S, _, _, _, rfl, su.ob, TS.cl, TS.nK, sflds_k _ _ _, ?_⟩
      refine ⟨_, _, _, _, rfl, st.kin.ob, T.ty su.kin.ob, hn, A0.p, .ref B0.p, ws, f, rfl, st.kdAt, .inl ⟨B0.p, ws2, f2, rfl, su.kdAt, ?_⟩⟩
      refine ⟨_, rfl, _, rfl, ?_⟩
      rw [if_neg Bool.false_ne_true]
      unfold sameS at k
      refine ite2 (fun e1 => ?_) (fun e1 => ?_)
      · rw [e1, Bool.true_and] at k
        refine ⟨_, rfl, _, S, _, _, _, rfl, st.ob, TS.cl, TS.nD, sflds_d _ _ _, _, rfl, _, S, _, _, _, rfl, su.ob, TS.cl, TS.nD, sflds_d _ _ _, ?_⟩
        refine ⟨_, _, _, _, rfl, rfl, st.dc, su.dc, fl_dkv _, fl_dkv _, _, rfl, ?_⟩
        rw [if_neg Bool.false_ne_true]
        refine ite2 (fun e2 => ?_) (fun e2 => ?_)
        · rw [e2, Bool.true_and] at k
          refine ⟨_, rfl, _, S, _, _, _, rfl, st.ob, TS.cl, TS.nT, sflds_t _ _ _, _, rfl, _, S, _, _, _, rfl, su.ob, TS.cl, TS.nT, sflds_t _ _ _, ?_⟩
          have wt : ∀ {t v : List Str} {g : Str → Str → Str}, KW v g → TwOk v g t → ∀ x ∈ t, Wd x := fun kw h x hx => kw.wd x (List.mem_filter.mp (h.sq x hx)).1
          refine ⟨_, _, dp_strs (SqL.of st.ls), dp_strs (SqL.of su.ls), shaped_strs _ (wt st.kin.kw st.tok), shaped_strs _ (wt su.kin.kw su.tok), ?_⟩
          rw [eqv_strs]
          exact k
        · have e2' : sameK (dkv dl) (dkv d2) = false := by simpa using e2
          rw [e2', Bool.false_and] at k
          exact k
      · have e1' : sameT (tabW ws f) (tabW ws2 f2) = false := by simpa using e1
        rw [e1', Bool.false_and] at k
        exact k
    · exact ⟨_, rfl, _, _, _, _, false, rfl, .own _, ty, kt, _, rfl, iteF k⟩
end
end KT
set_option Elab.async false
set_option linter.all false
set_option maxRecDepth 100000
set_option maxHeartbeats 4000000
set_option pp.maxSteps 900
namespace KT
open PySem L2 PyProof.Rows DTp TxS DKq
theorem KdIn.mono {C : Addr} {H H' : Hp} {z dx d l : Addr} {ws : List Str} {f : Str → Str → Str} (s : L2.Same H H') (h : KdIn C H z dx d l ws f) : KdIn C H' z dx d l ws f := ⟨s _ _ h.ob, s _ _ h.dc, s _ _ h.ls, h.kw⟩
/-- others than the Setting of these -/
def OthS (K : PySem.W.Frag) (S C : Addr) (ws : List Str) (f : Str → Str → Str) (dl : List (Str × Str)) (tw : List Str) (H : Hp) (x : V) : Prop :=
  (∃ (B : SA) (ws2 : List Str) (f2 : Str → Str → Str) (d2 : List (Str × Str)) (tw2 : List Str), x = .ref B.q ∧ StIn S C H B ws2 f2 d2 tw2 ∧ sameS ws f dl tw ws2 f2 d2 tw2 = false) ∨ ∃ t ∈ [Value.type "NoneType", .type "int", .type "dict", .type "list", .type "tuple", .ref C], TyX K H x t
section
variable {K : PySem.W.Frag} {S C : Addr} {ws : List Str} {f : Str → Str → Str} {dl : List (Str × Str)} {tw : List Str}
theorem OthS.mono {H H' : Hp} {x : V} (s : L2.Same H H') (h : OthS K S C ws f dl tw H x) : OthS K S C ws f dl tw H' x := by
  rcases h with ⟨B, ws2, f2, d2, tw2, e, st, n⟩ | ⟨t, m, ty⟩
  · exact .inl ⟨B, ws2, f2, d2, tw2, e, st.mono s, n⟩
  · exact .inr ⟨t, m, tyX_mono s ty⟩
end
end KT
set_option Elab.async false
set_option linter.all false
set_option maxRecDepth 100000
set_option maxHeartbeats 4000000
set_option Elab.async false
set_option linter.all false
set_option maxRecDepth 100000
set_option maxHeartbeats 4000000
set_option pp.maxSteps 900
namespace KT
open PySem L2 PyProof.Rows DTp TxS DKq
section
variable {K : PySem.W.Frag}
/-- [x for x in xs if ..] -/
theorem lcF_list {tl : TE} {g : TG} {tt : TT} {te : TE} {vs : List Nat} {σ : L2.St} {H : Hp} {Q : VK} {xs : List Str} (p : Str → Bool) (few : xs.length ≤ 1000)
    (hl : ∀ R : VK, (∀ l H1, L2.Same H H1 → H1 l = some (.lst (xs.map V.str)) → R (.ref l) H1) → tl σ H R)
    (step : ∀ x H2 (Y : VK) (N : Hp → Prop), x ∈ xs → L2.Same H H2 → (p x = true → ∀ H3, L2.Same H2 H3 → Y (.str x) H3) → (p x = false → ∀ H3, L2.Same H2 H3 → N H3) →
      g (.str x) (wipe σ vs) H2 fun σ2 H3 => wipe σ2 vs = wipe σ vs ∧ tt σ2 H3 fun b H4 => if b = true then te σ2 H4 Y else N H4)
    (k : ∀ q H', L2.Same H H' → H q = none → H' q = some (.lst ((xs.filter p).map V.str)) → Q (.ref q) H') :
    tLc (iList K tl) g tt te vs σ H Q := by
  refine hl _ fun l H1 s1 h1 => ?_
  refine ⟨l, rfl, ⟨_, SqL.of h1⟩, fun D hD => ?_⟩
  refine lc_it (walk_list (K := K) (a := l) (xs := xs.map V.str)) (fun i H' => L2.Same H1 H' ∧ H' D = some (.lst (((xs.take i).filter p).map V.str))) ?_ ?_ ?_ ?_
  · exact ⟨Same.new hD, upd_same⟩
  · rintro i H' _ ⟨s2, _⟩
    exact SqL.of (s2 _ _ h1)
  · rintro i v H2' H2 hi ⟨s2, hD2⟩ ⟨rfl, hx⟩
    obtain ⟨x, ex, rfl⟩ := str_get hx
    have mx := List.mem_of_getElem? ex
    have lF : ((xs.take i).filter p).length ≤ 1000 := Nat.le_trans (List.length_filter_le _ _) (by rw [List.length_take]; omega)
    refine step x H2 _ _ mx (s1.trans s2) (fun e H5 s5 => ?_) (fun e H5 s5 => ?_)
    · refine ⟨_, s5 _ _ hD2, by rw [List.length_map]; exact small1000 lF, fun b o eo => ?_, ?_⟩
      · rw [upd_ne (ne_of_none eo hD)]
        exact s5 _ _ (s2 _ _ eo)
      · rw [upd_same, take_next' ex, List.filter_append, List.filter_cons_of_pos e, List.filter_nil, List.map_append]
        rfl
    · refine ⟨fun b o eo => s5 _ _ (s2 _ _ eo), ?_⟩
      rw [take_next' ex, List.filter_append, List.filter_cons_of_neg (by rw [e]; exact Bool.false_ne_true), List.filter_nil, List.append_nil]
      exact s5 _ _ hD2
  · rintro H2 ⟨s2, hD2⟩
    rw [List.length_map, List.take_length] at hD2
    exact k D H2 (s1.trans s2) (s1.free hD) hD2
/-- [x for x in d if ..] -/
theorem lcF_keys {te0 : TE} {g : TG} {tt : TT} {te : TE} {vs : List Nat} {σ : L2.St} {H : Hp} {Q : VK} {d : Addr} {kvs : List (Key × V)} {xs : List Str} (p : Str → Bool) (hi : ∀ od (R : VK), R (.ref d) (upd H d (.frz od (.dK kvs))) → te0 σ (upd H d (.frz od (.dK kvs))) R) (hd : H d = some (.dK kvs))
    (ek : kvs.map (·.1) = xs.map Sum.inr) (few : xs.length ≤ 1000)
    (step : ∀ x od H2 (Y : VK) (N : Hp → Prop), x ∈ xs → L2.Same (upd H d (.frz od (.dK kvs))) H2 → (p x = true → ∀ H3, L2.Same H2 H3 → Y (.str x) H3) → (p x = false → ∀ H3, L2.Same H2 H3 → N H3) →
      g (.str x) (wipe σ vs) H2 fun σ2 H3 => wipe σ2 vs = wipe σ vs ∧ tt σ2 H3 fun b H4 => if b = true then te σ2 H4 Y else N H4)
    (k : ∀ q H', L2.Same H H' → H q = none → H' q = some (.lst ((xs.filter p).map V.str)) → Q (.ref q) H') :
    tLockE (tLc (iKeys te0) g tt te vs) σ H Q := by
  have lk : kvs.length = xs.length := by have := congrArg List.length ek; rw [List.length_map, List.length_map] at this; exact this
  refine ⟨d, .dK kvs, hd, trivial, fun od => ?_⟩
  refine hi od _ ⟨d, od, rfl, .inl ⟨kvs, upd_same, fun D hD => ?_⟩⟩
  have nDd : D ≠ d := fun e => by rw [e, upd_same] at hD; cases hD
  have hD0 : H D = none := by rw [upd_ne nDd] at hD; exact hD
  refine lc_it walk_keys (fun i H' => L2.Same (upd H d (.frz od (.dK kvs))) H' ∧ H' D = some (.lst (((xs.take i).filter p).map V.str))) ?_ ?_ ?_ ?_
  · exact ⟨Same.new hD, upd_same⟩
  · rintro i H' _ ⟨s2, _⟩
    exact s2 _ _ upd_same
  · rintro i v H2' H2 hi ⟨s2, hD2⟩ ⟨rfl, kk, v2, hk, rfl⟩
    have hx : (kvs.map (·.1))[i]? = some kk := by rw [List.getElem?_map, hk]; rfl
    rw [ek, List.getElem?_map] at hx
    cases ex : xs[i]? with
    | none => rw [ex] at hx; cases hx
    | some x =>
      rw [ex] at hx
      obtain rfl : Sum.inr x = kk := Option.some.inj hx
      have mx := List.mem_of_getElem? ex
      have lF : ((xs.take i).filter p).length ≤ 1000 := Nat.le_trans (List.length_filter_le _ _) (by rw [List.length_take]; omega)
      refine step x od H2 _ _ mx s2 (fun e H5 s5 => ?_) (fun e H5 s5 => ?_)
      · refine ⟨_, s5 _ _ hD2, by rw [List.length_map]; exact small1000 lF, fun b o eo => ?_, ?_⟩
        · rw [upd_ne (ne_of_none eo hD)]
          exact s5 _ _ (s2 _ _ eo)
        · rw [upd_same, take_next' ex, List.filter_append, List.filter_cons_of_pos e, List.filter_nil, List.map_append]
          rfl
      · refine ⟨fun b o eo => s5 _ _ (s2 _ _ eo), ?_⟩
        rw [take_next' ex, List.filter_append, List.filter_cons_of_neg (by rw [e]; exact Bool.false_ne_true), List.filter_nil, List.append_nil]
        exact s5 _ _ hD2
  · rintro H1 ⟨s1, hD1⟩
    rw [lk, List.take_length] at hD1
    have hdl : H1 d = some (.frz od (.dK kvs)) := s1 _ _ upd_same
    refine ⟨hdl, k D _ (fun b o e => ?_) hD0 ((upd_ne nDd).trans hD1)⟩
    by_cases hb : b = d
    · rw [hb] at e ⊢
      rw [hd] at e
      rw [upd_same]; exact e
    · rw [upd_ne hb]
      exact s1 _ _ ((upd_ne hb).trans e)
end
section
variable {P : Program} {w : World} {K : PySem.W.Frag} {mg : Str → Option Value} {base : Heap} {C S : Addr}
def opK (ws : List Str) (f : Str → Str → Str) (tw : List Str) : List Str := (sqs ws f).filter fun x => decide (x ∉ tw)
structure EndC (P : Program) (w : World) (K : PySem.W.Frag) (mg : Str → Option Value) (base : Heap) (S C : Addr) : Prop where
  cs : Cee P w K mg base 1 "check_setting" ["setting"] (spCheckSet S C)
  knd : Mee P w K mg base S 1 "kinds" ["self"] (spSKinds S C)
  ded : Mee P w K mg base S 1 "deeds" ["self"] (spSDeeds S C)
  twi : Mee P w K mg base S 1 "twice" ["self"] (spSTwice S C)
  osq : Cee P w K mg base 5 "own_squares" ["kinds"] (spOwnSq C)
def spOpenK (S C : Addr) : Sp := fun vs H Q _ => ∃ (A : SA) (ws : List Str) (f : Str → Str → Str) (dl : List (Str × Str)) (tw : List Str), vs = [.ref A.q] ∧ StIn S C H A ws f dl tw ∧ ∀ q H', L2.Same H H' → H q = none → H' q = some (.lst ((opK ws f tw).map V.str)) → Q (.ref q) H'
abbrev nOpenK : List Str := ["setting", "twice", "kind"]
theorem scOpenK : FnScope nOpenK ["setting"] (defScope pOpenK) := ⟨rfl, rfl, rfl, by decide +kernel, rfl, by decide +kernel, by decide +kernel⟩
theorem ok_openK {g : Addr} {fd : FuncData} (F : Fun K "open_kinds" "open_kinds" pOpenK g fd) (TS : STx K mg S) (M : EndC P w K mg base S C) : FnOk P w K mg base CX0 6 g fd ["setting"] (spOpenK S C) := by
  refine F.ok scOpenK (fun vs H Q E h => ?_) (fun cdv A outer s H vs Q E hr h => ?_)
  · obtain ⟨A, ws, f, dl, tw, rfl, _⟩ := h
    rfl
  · obtain ⟨A0, ws, f, dl, tw, rfl, st, k⟩ := h
    have nd := scOpenK.nd
    refine ⟨_, pss_cons (ps_expr (pe_c M.cs hr rfl (pa_cons (pv 0) pa_nil)))
      (pss_cons (ps_set (i := 1) nd rfl (Or.inr rfl) (pe_m0 M.twi TS.cl hr (pv 0)))
      (pss_one (ps_ret (pe_lc (own := [("kind", 2)]) (g := gName 2) (tt := tTest (tOp (rIn K true) (tVar 2) (tVar 1))) (te := tVar 2) rfl nd (pi_list (pe_c M.osq hr rfl (pa_cons (pe_m0 M.knd TS.cl hr (pv 0)) pa_nil))) (blkOk_by (own := [("kind", 2)]) (N := nOpenK) (sc := defScope pOpenK) (by decide +kernel))
        (fun _ _ _ _ _ => pg_name (i := 2) nd rfl (Or.inl rfl)) (fun _ _ _ _ _ => pts_one (pt_cmpR op_notIn_seq (pv 2) (pv 1) (by rfl))) (fun _ _ _ _ _ => pv 2))))), ?_⟩
    have kw := st.kin.kw
    have lsq : (sqs ws f).length ≤ 1000 := Nat.le_trans (List.length_filter_le _ _) (by have := kw.few; omega)
    refine ⟨_, rfl, A0, ws, f, dl, tw, rfl, st, ?_⟩
    refine ⟨_, rfl, A0.q, A0.dx, _, rfl, st.ob, sflds_no _ _ _ (by decide +kernel) (by decide +kernel) (by decide +kernel), A0, ws, f, dl, tw, rfl, st, fun t H1 s1 ht0 ht => ?_⟩
    refine at_name (σ' := [some (.ref A0.q), some (.ref t), none]) rfl ?_
    have st1 := st.mono s1
    show tLc (iList K (tCall (spOwnSq C) [] E0 (tCons (tMeth S (Str.ofString "kinds") (spSKinds S C) [] E0 (tVar 0) tNil) tNil))) (gName 2) (tTest (tOp (rIn K true) (tVar 2) (tVar 1))) (tVar 2) [2] _ _ _
    refine lcF_list (K := K) (xs := sqs ws f) (fun x => decide (x ∉ tw)) lsq ?_ ?_ ?_
    · intro R hR
      exact ⟨_, rfl, A0.q, A0.dx, _, rfl, st1.ob, sflds_no _ _ _ (by decide +kernel) (by decide +kernel) (by decide +kernel), A0, ws, f, dl, tw, rfl, st1, A0.p, ws, f, rfl, st1.kdAt, fun q H2 s2 hq0 hq => hR q H2 s2 hq⟩
    · intro x H2 Y N hx s2 hY hN
      refine at_name (σ' := [some (.ref A0.q), some (.ref t), some (.str x)]) rfl ⟨rfl, ?_⟩
      refine ⟨_, rfl, _, rfl, t, _, rfl, .inl (SqL.of (s2 _ _ ht)), rfl, flat_strs _, _, rfl, ?_⟩
      rw [inV_strs]
      by_cases e : x ∈ tw
      · rw [decide_eq_true e]
        exact hN (decide_eq_false fun h => h e) _ (fun _ _ e => e)
      · rw [decide_eq_false e]
        exact ⟨_, rfl, hY (decide_eq_true e) _ (fun _ _ e => e)⟩
    · intro q H2 s2 hq0 hq
      exact k q H2 (s1.trans s2) (s1.free hq0) hq
def spEndless (S C : Addr) : Sp := fun vs H Q _ => ∃ (A : SA) (ws : List Str) (f : Str → Str → Str) (dl : List (Str × Str)) (tw : List Str), vs = [.ref A.q] ∧ StIn S C H A ws f dl tw ∧ ∀ H', L2.Same H H' → Q (.bl (decide (opK ws f tw ≠ []))) H'
theorem scEndless : FnScope ["setting"] ["setting"] (defScope pEndless) := ⟨rfl, rfl, rfl, by decide +kernel, rfl, by decide +kernel, by decide +kernel⟩
theorem ok_endless {g : Addr} {fd : FuncData} (F : Fun K "is_endless" "is_endless" pEndless g fd) (B0 : Blt mg) (M : Cee P w K mg base 6 "open_kinds" ["setting"] (spOpenK S C)) : FnOk P w K mg base CX0 7 g fd ["setting"] (spEndless S C) := by
  refine F.ok scEndless (fun vs H Q E h => ?_) (fun cdv A outer s H vs Q E hr h => ?_)
  · obtain ⟨A, ws, f, dl, tw, rfl, _⟩ := h
    rfl
  · obtain ⟨A0, ws, f, dl, tw, rfl, st, k⟩ := h
    refine ⟨_, pss_one (ps_ret (pe_cmpR op_gt (pe_callB call_len_seq (by rfl) B0.len PySem.boot_len (pa_cons (pe_c M hr rfl (pa_cons (pv 0) pa_nil)) pa_nil)) pe_int (nomark _))), ?_⟩
    refine ⟨_, rfl, A0, ws, f, dl, tw, rfl, st, fun q H1 s1 hq0 hq => ?_⟩
    refine ⟨q, _, rfl, .inl (SqL.of hq), _, _, rfl, rfl, ?_⟩
    have e : decide ((0 : Int) < (((opK ws f tw).map V.str).length : Nat)) = decide (opK ws f tw ≠ []) := by
      rw [List.length_map]
      cases opK ws f tw with
      | nil => rfl
      | cons a b => rw [decide_eq_true (by rw [List.length_cons]; omega), decide_eq_true (by simp)]
    show Q (V.bl (decide ((0 : Int) < (((opK ws f tw).map V.str).length : Nat)))) H1
    rw [e]
    exact k _ s1
def cntD (ws : List Str) (f : Str → Str → Str) (dl : List (Str × Str)) (tw : List Str) : List Str := (keysD dl).filter fun x => decide (kof dl x ∈ opK ws f tw)
def spCntD (S C : Addr) : Sp := fun vs H Q _ => ∃ (A : SA) (ws : List Str) (f : Str → Str → Str) (dl : List (Str × Str)) (tw : List Str), vs = [.ref A.q] ∧ StIn S C H A ws f dl tw ∧ ∀ q H', L2.Same H H' → H q = none → H' q = some (.lst ((cntD ws f dl tw).map V.str)) → Q (.ref q) H'
abbrev nCntD : List Str := ["setting", "kinds", "deeds", "deed"]
theorem scCntD : FnScope nCntD ["setting"] (defScope pCntDeeds) := ⟨rfl, rfl, rfl, by decide +kernel, rfl, by decide +kernel, by decide +kernel⟩
theorem ok_cntD {g : Addr} {fd : FuncData} (F : Fun K "counting_deeds" "counting_deeds" pCntDeeds g fd) (TS : STx K mg S) (M : EndC P w K mg base S C) (N : Cee P w K mg base 6 "open_kinds" ["setting"] (spOpenK S C)) : FnOk P w K mg base CX0 7 g fd ["setting"] (spCntD S C) := by
  refine F.ok scCntD (fun vs H Q E h => ?_) (fun cdv A outer s H vs Q E hr h => ?_)
  · obtain ⟨A, ws, f, dl, tw, rfl, _⟩ := h
    rfl
  · obtain ⟨A0, ws, f, dl, tw, rfl, st, k⟩ := h
    have nd := scCntD.nd
    refine ⟨_, pss_cons (ps_set (i := 1) nd rfl (Or.inr rfl) (pe_c N hr rfl (pa_cons (pv 0) pa_nil)))
      (pss_cons (ps_set (i := 2) nd rfl (Or.inr rfl) (pe_m0 M.ded TS.cl hr (pv 0)))
      (pss_one (ps_ret (pe_lock (pe_lc (own := [("deed", 3)]) (g := gName 3) (tt := tTest (tOp (rIn K false) (tDGet (tVar 2) (tVar 3)) (tVar 1))) (te := tVar 3) rfl nd (pi_keys (pv 2)) (blkOk_by (own := [("deed", 3)]) (N := nCntD) (sc := defScope pCntDeeds) (by decide +kernel))
        (fun _ _ _ _ _ => pg_name (i := 3) nd rfl (Or.inl rfl)) (fun _ _ _ _ _ => pts_one (pt_cmpR op_in_seq (pe_dget (hu_of hr) (pv 2) (pv 3) (fun _ _ => rfl)) (pv 1) (by rfl))) (fun _ _ _ _ _ => pv 3)))))), ?_⟩
    have kw := st.kin.kw
    refine ⟨_, rfl, A0, ws, f, dl, tw, rfl, st, fun o H1 s1 ho0 ho => ?_⟩
    refine at_name (σ' := [some (.ref A0.q), some (.ref o), none, none]) rfl ?_
    have st1 := st.mono s1
    refine ⟨_, rfl, A0.q, A0.dx, _, rfl, st1.ob, sflds_no _ _ _ (by decide +kernel) (by decide +kernel) (by decide +kernel), A0, ws, f, dl, tw, rfl, st1, fun d H2 s2 hd0 hd => ?_⟩
    refine at_name (σ' := [some (.ref A0.q), some (.ref o), some (.ref d), none]) rfl ?_
    have ho2 := s2 _ _ ho
    have nod : o ≠ d := ne_of ho2 hd (by intro z; cases z)
    refine lcF_keys (xs := keysD dl) (fun x => decide (kof dl x ∈ opK ws f tw)) (fun od R hh => ⟨_, rfl, hh⟩) hd (dkv_keys dl) (by rw [keysD_len]; have := st.ok.few; omega) ?_ ?_
    · intro x od H3 Y N hx s3 hY hN
      refine at_name (σ' := [some (.ref A0.q), some (.ref o), some (.ref d), some (.str x)]) rfl ⟨rfl, ?_⟩
      have hd3 : H3 d = some (.frz od (.dK (dkv dl))) := s3 _ _ upd_same
      have ho3 := s3 _ _ ((upd_ne nod).trans ho2)
      have dg : DGet H3 d (.str x) (valV (dkv dl) (Sum.inr x)) := .inl ⟨_, Sum.inr x, .inr ⟨od, hd3⟩, rfl, rfl⟩
      rw [valV_dkv st.ok.nd hx] at dg
      refine ⟨_, rfl, _, rfl, d, _, rfl, dg, _, rfl, o, _, rfl, .inl (SqL.of ho3), rfl, flat_strs _, _, rfl, ?_⟩
      rw [inV_strs]
      by_cases e : kof dl x ∈ opK ws f tw
      · rw [decide_eq_true e]
        exact ⟨_, rfl, hY (decide_eq_true e) _ (fun _ _ e => e)⟩
      · rw [decide_eq_false e]
        exact hN (decide_eq_false e) _ (fun _ _ e => e)
    · intro q H3 s3 hq0 hq
      exact k q H3 (s1.trans (s2.trans s3)) (s1.free (s2.free hq0)) hq
def spClosedS (S C : Addr) : Sp := fun vs H Q _ => ∃ (A : SA) (ws : List Str) (f : Str → Str → Str) (dl : List (Str × Str)) (tw : List Str), vs = [.ref A.q] ∧ StIn S C H A ws f dl tw ∧ ∀ B H', StIn S C H' B ws f dl (sqs ws f) → L2.Same H H' → Q (.ref B.q) H'
theorem scClosedS : FnScope ["setting"] ["setting"] (defScope pClosed) := ⟨rfl, rfl, rfl, by decide +kernel, rfl, by decide +kernel, by decide +kernel⟩
theorem sqs_tok {ws : List Str} {f : Str → Str → Str} (kw : KW ws f) : TwOk ws f (sqs ws f) := ⟨List.Pairwise.sublist List.filter_sublist kw.asc, fun _ h => h⟩
theorem ok_closedS {g : Addr} {fd : FuncData} (F : Fun K "closed" "closed" pClosed g fd) (TS : STx K mg S) (M : EndC P w K mg base S C) (W : Cee P w K mg base 9 "with_twice" ["setting", "twice"] (spWithTwice S C)) : FnOk P w K mg base CX0 10 g fd ["setting"] (spClosedS S C) := by
  refine F.ok scClosedS (fun vs H Q E h => ?_) (fun cdv A outer s H vs Q E hr h => ?_)
  · obtain ⟨A, ws, f, dl, tw, rfl, _⟩ := h
    rfl
  · obtain ⟨A0, ws, f, dl, tw, rfl, st, k⟩ := h
    refine ⟨_, pss_cons (ps_expr (pe_c M.cs hr rfl (pa_cons (pv 0) pa_nil)))
      (pss_one (ps_ret (pe_c W hr rfl (pa_cons (pv 0) (pa_cons (pe_c M.osq hr rfl (pa_cons (pe_m0 M.knd TS.cl hr (pv 0)) pa_nil)) pa_nil))))), ?_⟩
    have kw := st.kin.kw
    refine ⟨_, rfl, A0, ws, f, dl, tw, rfl, st, ?_⟩
    refine ⟨_, rfl, _, rfl, A0.q, A0.dx, _, rfl, st.ob, sflds_no _ _ _ (by decide +kernel) (by decide +kernel) (by decide +kernel), A0, ws, f, dl, tw, rfl, st, A0.p, ws, f, rfl, st.kdAt, fun q H1 s1 hq0 hq => ?_⟩
    exact ⟨A0, ws, f, dl, tw, q, sqs ws f, rfl, st.mono s1, hq, sqs_tok kw, fun x dx d2 l2 H' sn s2 => k _ H' sn.1 (s1.trans s2)⟩
end
end KT
set_option Elab.async false
set_option linter.all false
set_option maxRecDepth 100000
set_option maxHeartbeats 4000000
set_option pp.maxSteps 900
namespace KT
open PySem L2 PyProof.Rows DTp TxS DKq
section
variable {P : Program} {w : World} {K : PySem.W.Frag} {mg : Str → Option Value} {base : Heap} {C S : Addr}
def spCheckCnt : Sp := fun vs H Q _ => ∃ n : Nat, vs = [.int (n : Nat), .int 0] ∧ Q .non H
theorem scCheckCnt : FnScope ["number", "least"] ["number", "least"] (defScope pCheckCnt) := ⟨rfl, rfl, rfl, by decide +kernel, rfl, by decide +kernel, by decide +kernel⟩
theorem ok_checkCnt {g : Addr} {fd : FuncData} (F : Fun K "check_count" "check_count" pCheckCnt g fd) (M : Cee P w K mg base 1 "is_count" ["value"] spIsCount) : FnOk P w K mg base CX0 2 g fd ["number", "least"] spCheckCnt := by
  refine F.ok scCheckCnt (fun vs H Q E h => ?_) (fun cdv A outer s H vs Q E hr h => ?_)
  · obtain ⟨n, rfl, _⟩ := h
    rfl
  · obtain ⟨n, rfl, k⟩ := h
    refine ⟨_, pss_one (ps_if (pt_cut <| PW.pt (pw_or (pt_not (pt_val (pe_c M hr rfl (pa_cons (pv 0) pa_nil)))) (pw_or1 (pt_cmpR op_lt (pv 0) (pv 1) (nomark _))))) (pss_one ps_never) pss_nil), ?_⟩
    refine ⟨fun b H' => b = false ∧ H' = H, ?_, ?_⟩
    · refine ⟨_, rfl, (n : Nat), rfl, by omega, _, rfl, iteF ?_⟩
      refine ⟨_, rfl, _, rfl, _, _, rfl, rfl, _, rfl, ?_⟩
      rw [decide_eq_false (by omega)]
      exact ⟨rfl, rfl⟩
    · rintro b H' ⟨rfl, rfl⟩
      exact iteF k
def spOpened (S C : Addr) : Sp := fun vs H Q _ => ∃ (A : SA) (ws : List Str) (f : Str → Str → Str) (dl : List (Str × Str)) (tw : List Str) (x : Str), vs = [.ref A.q, .str x] ∧ StIn S C H A ws f dl tw ∧ x ∈ tw ∧ ∀ B H', StIn S C H' B ws f dl (tw.filter fun y => decide (y ≠ x)) → L2.Same H H' → Q (.ref B.q) H'
abbrev nOpened : List Str := ["setting", "kind", "twice", "other"]
theorem scOpened : FnScope nOpened ["setting", "kind"] (defScope pOpened) := ⟨rfl, rfl, rfl, by decide +kernel, rfl, by decide +kernel, by decide +kernel⟩
theorem ok_opened {g : Addr} {fd : FuncData} (F : Fun K "opened" "opened" pOpened g fd) (TS : STx K mg S) (M : EndC P w K mg base S C) (N : Cee P w K mg base 3 "check_kind" ["kinds", "kind"] (spCheckKind C)) (W : Cee P w K mg base 9 "with_twice" ["setting", "twice"] (spWithTwice S C)) : FnOk P w K mg base CX0 10 g fd ["setting", "kind"] (spOpened S C) := by
  refine F.ok scOpened (fun vs H Q E h => ?_) (fun cdv A outer s H vs Q E hr h => ?_)
  · obtain ⟨A, ws, f, dl, tw, x, rfl, _⟩ := h
    rfl
  · obtain ⟨A0, ws, f, dl, tw, x, rfl, st, mx, k⟩ := h
    have nd := scOpened.nd
    refine ⟨_, pss_cons (ps_expr (pe_c M.cs hr rfl (pa_cons (pv 0) pa_nil)))
      (pss_cons (ps_expr (pe_c N hr rfl (pa_cons (pe_m0 M.knd TS.cl hr (pv 0)) (pa_cons (pv 1) pa_nil))))
      (pss_cons (ps_set (i := 2) nd rfl (Or.inl rfl) (pe_m0 M.twi TS.cl hr (pv 0)))
      (pss_cons (ps_if (pt_cmpR op_notIn_seq (pv 1) (pv 2) (by rfl)) (pss_one ps_never) pss_nil)
      (pss_one (ps_ret (pe_c W hr rfl (pa_cons (pv 0) (pa_cons (pe_lc (own := [("other", 3)]) (g := gName 3) (tt := tTest (tOp rNe (tVar 3) (tVar 1))) (te := tVar 3) rfl nd (pi_list (pv 2)) (blkOk_by (own := [("other", 3)]) (N := nOpened) (sc := defScope pOpened) (by decide +kernel))
        (fun _ _ _ _ _ => pg_name (i := 3) nd rfl (Or.inl rfl)) (fun _ _ _ _ _ => pts_one (pt_cmpR op_ne (pv 3) (pv 1) (nomark _))) (fun _ _ _ _ _ => pv 3)) pa_nil)))))))), ?_⟩
    have kw := st.kin.kw
    have ltw := st.tok.len kw
    have mw : x ∈ ws := (List.mem_filter.mp (st.tok.sq x mx)).1
    refine ⟨_, rfl, A0, ws, f, dl, tw, rfl, st, ?_⟩
    refine ⟨_, rfl, A0.q, A0.dx, _, rfl, st.ob, sflds_no _ _ _ (by decide +kernel) (by decide +kernel) (by decide +kernel), A0, ws, f, dl, tw, rfl, st, _, rfl, A0.p, ws, f, x, rfl, st.kdAt, mw, fun H1 s1 => ?_⟩
    have st1 := st.mono s1
    refine ⟨_, rfl, A0.q, A0.dx, _, rfl, st1.ob, sflds_no _ _ _ (by decide +kernel) (by decide +kernel) (by decide +kernel), A0, ws, f, dl, tw, rfl, st1, fun t H2 s2 ht0 ht => ?_⟩
    refine at_name (σ' := [some (.ref A0.q), some (.str x), some (.ref t), none]) rfl ?_
    refine ⟨_, rfl, _, rfl, t, _, rfl, .inl (SqL.of ht), rfl, flat_strs _, _, rfl, ?_⟩
    rw [inV_strs, decide_eq_true mx]
    refine iteF ?_
    refine ⟨_, rfl, ?_⟩
    show tLc (iList K (tVar 2)) (gName 3) (tTest (tOp rNe (tVar 3) (tVar 1))) (tVar 3) [3] _ _ _
    refine lcF_list (K := K) (xs := tw) (fun y => decide (y ≠ x)) (by omega) ?_ ?_ ?_
    · intro R hR
      exact ⟨_, rfl, hR t H2 (fun _ _ e => e) ht⟩
    · intro y H3 Y N hy s3 hY hN
      refine at_name (σ' := [some (.ref A0.q), some (.str x), some (.ref t), some (.str y)]) rfl ⟨rfl, ?_⟩
      refine ⟨_, rfl, _, rfl, rfl, _, rfl, ?_⟩
      by_cases e : y = x
      · have e2 : (!decide (V.str y = V.str x)) = false := by rw [e]; simp
        rw [e2]
        exact hN (decide_eq_false fun h => h e) _ (fun _ _ e => e)
      · have e2 : (!decide (V.str y = V.str x)) = true := by simp [e]
        rw [e2]
        exact ⟨_, rfl, hY (decide_eq_true e) _ (fun _ _ e => e)⟩
    · intro q H3 s3 hq0 hq
      have st3 := (st1.mono s2).mono s3
      exact ⟨A0, ws, f, dl, tw, q, _, rfl, st3, hq, ⟨List.Pairwise.sublist List.filter_sublist st.tok.asc, fun z hz => st.tok.sq z (List.mem_filter.mp hz).1⟩, fun x dx d2 l2 H' sn s4 => k _ H' sn.1 (s1.trans (s2.trans (s3.trans s4)))⟩
end
end KT
set_option Elab.async false
set_option linter.all false
set_option maxRecDepth 100000
set_option maxHeartbeats 4000000
set_option pp.maxSteps 900
namespace KT
open PySem L2 PyProof.Rows DTp TxS DKq
def abcS : Str := "abcdefghijklmnopqrstuvwxyz"
def cw1 : List Str := (List.range 26).map fun j => (⟨#[97 + j]⟩ : Str)
def nextL (L : List Str) : List Str := L.flatMap fun x => cw1.map fun y => x ++ y
theorem abc_get (i : Nat) : ∀ c, abcS.cps[i]? = some c → cw1[i]? = some ⟨#[c]⟩ := by
  have h : ∀ i, i < 26 → abcS.cps[i]? = some (97 + i) := by decide +kernel
  intro c hc
  have hi : i < 26 := by
    have := (Array.getElem?_eq_some_iff.mp hc).1
    exact this
  rw [h i hi] at hc
  unfold cw1
  rw [List.getElem?_map, List.getElem?_range hi, ← Option.some.inj hc]
  rfl
theorem cw1_len : cw1.length = 26 := by decide +kernel
theorem abc_size : abcS.cps.size = 26 := by decide +kernel
theorem nextL_len (L : List Str) : (nextL L).length = 26 * L.length := by
  unfold nextL
  induction L with
  | nil => rfl
  | cons a L ih => rw [List.flatMap_cons, List.length_append, ih, List.length_map, cw1_len, List.length_cons]; omega
theorem nextL_take {L : List Str} {i : Nat} {x : Str} (e : L[i]? = some x) : nextL (L.take (i + 1)) = nextL (L.take i) ++ cw1.map fun y => x ++ y := by
  rw [take_next' e]
  unfold nextL
  rw [List.flatMap_append, List.flatMap_cons, List.flatMap_nil, List.append_nil]
def rAddX : R2 := fun x y H Q => ∃ i j, x = .str i ∧ y = .str j ∧ i.length + j.length ≤ sizeLine ∧ Q (.str (i ++ j)) H
section
variable {K : PySem.W.Frag}
theorem lc2_words {σ : L2.St} {H : Hp} {Q : VK} {ll : Addr} {L : List Str} {m lw : V} (es : σ = [some m, some lw, some (.ref ll), none, none]) (hL : H ll = some (.lst (L.map V.str))) (few : L.length ≤ 30) (sm : ∀ x ∈ L, x.length ≤ 8)
    (k : ∀ q H', L2.Same H H' → H q = none → H' q = some (.lst ((nextL L).map V.str)) → Q (.ref q) H') :
    tLc2 (iList K (tVar 2)) (gName 3) tYes (iStr (tC (.str abcS))) (gName 4) tYes (tOp rAddX (tVar 3) (tVar 4)) [3, 4] [4] σ H Q := by
  subst es
  refine ⟨_, rfl, ll, rfl, ⟨_, SqL.of hL⟩, fun D hD => ?_⟩
  refine ⟨fun i n H' => n = L.length - i ∧ i ≤ L.length ∧ L2.Same H H' ∧ H' D = some (.lst ((nextL (L.take i)).map V.str)), ⟨_, rfl, Nat.zero_le _, Same.new hD, upd_same⟩, ?_⟩
  rintro i n H1 ⟨rfl, hi, s1, hD1⟩
  have w := walk_list (K := K) (a := ll) (xs := L.map V.str)
  by_cases hlt : i < L.length
  · refine .inr ⟨w.goes i H1 (by rw [List.length_map]; exact hlt) (SqL.of (s1 _ _ hL)), fun H' => L2.Same H H' ∧ H' D = some (.lst ((nextL (L.take (i + 1))).map V.str)), fun H' h => ⟨_, by omega, rfl, by omega, h.1, h.2⟩, fun v H2' y => ?_⟩
    obtain ⟨rfl, hx⟩ := w.yields i H1 v H2' (by rw [List.length_map]; exact hlt) (SqL.of (s1 _ _ hL)) y
    obtain ⟨x, ex, rfl⟩ := str_get hx
    have mx := List.mem_of_getElem? ex
    refine at_name (σ' := [some m, some lw, some (.ref ll), some (.str x), none]) rfl ⟨rfl, yes_if ?_⟩
    refine ⟨abcS, rfl, fun j n H' => n = 26 - j ∧ j ≤ 26 ∧ L2.Same H H' ∧ H' D = some (.lst ((nextL (L.take i) ++ (cw1.take j).map fun y => x ++ y).map V.str)), ⟨_, rfl, Nat.zero_le _, s1, by rw [List.take_zero, List.map_nil, List.append_nil]; exact hD1⟩, ?_⟩
    rintro j n H3 ⟨rfl, hj, s3, hD3⟩
    have w1 := walk_str (z := abcS)
    by_cases jlt : j < 26
    · refine .inr ⟨w1.goes j H3 (by rw [abc_size]; exact jlt) trivial, fun H' => L2.Same H H' ∧ H' D = some (.lst ((nextL (L.take i) ++ (cw1.take (j + 1)).map fun y => x ++ y).map V.str)), fun H' h => ⟨_, by omega, rfl, by omega, h.1, h.2⟩, fun v H4' y => ?_⟩
      obtain ⟨rfl, c, hc, rfl⟩ := w1.yields j H3 v H4' (by rw [abc_size]; exact jlt) trivial y
      have ec := abc_get j c hc
      refine at_name (σ' := [some m, some lw, some (.ref ll), some (.str x), some (.str ⟨#[c]⟩)]) rfl ⟨rfl, yes_if ?_⟩
      have l1 := nextL_len (L.take i)
      refine ⟨_, rfl, _, rfl, x, ⟨#[c]⟩, rfl, rfl, ?_, _, hD3, ?_, ?_, ?_⟩
      · have h1 := sm x mx
        have h2 : (⟨#[c]⟩ : Str).length = 1 := rfl
        rw [h2, sizeLine_eq]; omega
      · rw [List.length_map, List.length_append, l1, List.length_map, List.length_take, List.length_take, sizeLine_eq]
        omega
      · exact fun b o e => by rw [upd_ne (ne_of_none e hD)]; exact s3 _ _ e
      · rw [upd_same, take_next' ec, List.map_append (l₁ := cw1.take j), ← List.append_assoc, List.map_append (l₁ := nextL (L.take i) ++ _)]
        rfl
    · have ej : j = 26 := by omega
      subst ej
      refine .inl ⟨?_, s3, ?_⟩
      · have := w1.stops H3 trivial
        rwa [abc_size] at this
      · have e26 : cw1.take 26 = cw1 := List.take_of_length_le (Nat.le_of_eq cw1_len)
        rw [nextL_take ex, hD3, e26]
  · have ei : i = L.length := by omega
    subst ei
    refine .inl ⟨?_, ?_⟩
    · have := w.stops H1 (SqL.of (s1 _ _ hL))
      rwa [List.length_map] at this
    · rw [List.take_length] at hD1
      exact k D H1 s1 hD hD1
end
/-- the words after j rounds, the longest -/
def wds : Nat → List Str
  | 0 => []
  | 1 => cw1
  | _ => cw1 ++ nextL cw1
def lng : Nat → List Str
  | 0 => [⟨#[]⟩]
  | 1 => cw1
  | _ => nextL cw1
theorem lng_next : nextL (lng 0) = lng 1 := by decide +kernel
theorem cw1_small : ∀ x ∈ cw1, x.length ≤ 8 := by decide +kernel
def cws (n : Nat) : List Str := (cw1 ++ nextL cw1).take n
section
variable {P : Program} {w : World} {K : PySem.W.Frag} {mg : Str → Option Value} {base : Heap} {C S : Addr}
def spCntWords : Sp := fun vs H Q _ => ∃ n : Nat, vs = [.int (n : Nat)] ∧ n ≤ 100 ∧ ∀ q H', L2.Same H H' → H q = none → H' q = some (.lst ((cws n).map V.str)) → Q (.ref q) H'
abbrev nCntWords : List Str := ["many", "words", "longest", "word", "letter"]
theorem scCntWords : FnScope nCntWords ["many"] (defScope pCntWords) := ⟨rfl, rfl, rfl, by decide +kernel, rfl, by decide +kernel, by decide +kernel⟩
def measW (σ : L2.St) (H : Hp) : Nat := match σ[1]? with
  | some (some (V.ref a)) => match H a with
    | some (.lst xs) => 1000 - xs.length
    | _ => 0
  | _ => 0
theorem measW_eq {σ : L2.St} {H : Hp} {a : Addr} {xs : List V} (h1 : σ[1]? = some (some (.ref a))) (h2 : H a = some (.lst xs)) : measW σ H = 1000 - xs.length := by
  unfold measW
  rw [h1]
  dsimp only
  rw [h2]
theorem wds_len : (wds 0).length = 0 ∧ (wds 1).length = 26 ∧ (wds 2).length = 702 := by
  refine ⟨rfl, cw1_len, ?_⟩
  show (cw1 ++ nextL cw1).length = 702
  rw [List.length_append, nextL_len, cw1_len]
theorem ok_cntWords {g : Addr} {fd : FuncData} (F : Fun K "counting_words" "counting_words" pCntWords g fd) (B0 : Blt mg) (Z : Blp mg) : FnOk P w K mg base CX0 1 g fd ["many"] spCntWords := by
  refine F.ok scCntWords (fun vs H Q E h => ?_) (fun cdv A outer s H vs Q E hr h => ?_)
  · obtain ⟨n, rfl, _⟩ := h
    rfl
  · obtain ⟨n, rfl, n1, k⟩ := h
    have nd := scCntWords.nd
    obtain ⟨tl, ml⟩ := Z.letters
    refine ⟨_, pss_cons (ps_set (i := 1) nd rfl (Or.inl rfl) (pe_lst pa_nil))
      (pss_cons (ps_set (i := 2) nd rfl (Or.inl rfl) (pe_lst (pa_cons pe_str pa_nil)))
      (pss_cons (ps_while PassesOwn.never (pt_cut <| pt_cmpR op_lt (pe_callB call_len_seq (by rfl) B0.len PySem.boot_len (pa_cons (pv 1) pa_nil)) (pv 0) (nomark _))
        (pss_cons (ps_setLc2 (i := 2) (own := [("word", 3), ("letter", 4)]) (vs1 := [4]) (g := gName 3) (tt := tYes) (wi1 := iStr (tC (.str abcS))) (g1 := gName 4) (tt1 := tYes) (te := tOp rAddX (tVar 3) (tVar 4)) rfl nd rfl rfl (sw_true rfl rfl rfl (by decide +kernel)) (pi_list (pv 2)) (blkOk_by (own := [("word", 3), ("letter", 4)]) (N := nCntWords) (sc := defScope pCntWords) (by decide +kernel)) (by decide)
            (fun _ _ _ _ _ => pg_name (i := 3) nd rfl (Or.inl rfl)) (fun _ _ _ _ _ => pts_nil) (fun _ _ _ _ _ => pi_str (pe_glob rfl ml ⟨_, rfl⟩)) (fun _ _ _ _ _ => pg_name (i := 4) nd rfl (Or.inl rfl)) (fun _ _ _ _ _ => pts_nil) (fun _ _ _ _ _ => pe_op op_add_str (pv 3) (pv 4)))
        (pss_one (ps_set (i := 1) nd rfl (Or.inl rfl) (pe_op op_cat (pv 1) (pv 2))))))
      (pss_one (ps_ret (pe_slice sl_list (pv 1) po_none (po_some (pv 0))))))), ?_⟩
    refine ⟨(by show 0 ≤ sizeLine; decide), fun lw hlw0 => ?_⟩
    have s1 := Same.new (H := H) (o := .lst []) hlw0
    have hlw : upd H lw (.lst []) lw = some (.lst ((wds 0).map V.str)) := upd_same
    generalize upd H lw (.lst []) = H1 at s1 hlw ⊢
    refine at_name (σ' := [some (.int (n : Nat)), some (.ref lw), none, none, none]) rfl ?_
    refine ⟨(by show 1 ≤ sizeLine; decide), fun ll hll0 => ?_⟩
    have s2 := Same.new (H := H1) (o := .lst [.str ⟨#[]⟩]) hll0
    have hll : upd H1 ll (.lst [.str ⟨#[]⟩]) ll = some (.lst ((lng 0).map V.str)) := upd_same
    refine at_name (σ' := [some (.int (n : Nat)), some (.ref lw), some (.ref ll), none, none]) rfl ?_
    have hlw2 := s2 _ _ hlw
    have s02 := s1.trans s2
    refine while_by (fun σ H' => ∃ (j : Nat) (lw ll : Addr), j ≤ 2 ∧ σ = [some (.int (n : Nat)), some (.ref lw), some (.ref ll), none, none] ∧ L2.Same H H' ∧ H' lw = some (.lst ((wds j).map V.str)) ∧ H' ll = some (.lst ((lng j).map V.str))) measW ?_ ?_ (fun σ H Q Q' i ⟨Pn, h, kk⟩ => ⟨Pn, h, fun b H' q => i _ _ (kk _ _ q)⟩)
    · exact ⟨0, lw, ll, by omega, rfl, s02, hlw2, hll⟩
    · rintro σ H3 ⟨j, lw, ll, j2, rfl, s3, hw3, hl3⟩
      refine ⟨fun b H' => H' = H3 ∧ b = decide ((wds j).length < n), ?_, ?_⟩
      · refine ⟨_, rfl, lw, _, rfl, .inl (SqL.of hw3), _, rfl, _, _, rfl, rfl, _, rfl, rfl, ?_⟩
        rw [List.length_map]
        by_cases z : (wds j).length < n
        · rw [decide_eq_true z, decide_eq_true (by omega)]
        · rw [decide_eq_false z, decide_eq_false (by omega)]
      rintro b H3 ⟨rfl, rfl⟩
      obtain ⟨w0, w1, w2⟩ := wds_len
      refine ite2 (fun z => ?_) (fun z => ?_)
      · have z := of_decide_eq_true z
        have j1 : j = 0 ∨ j = 1 := by
          rcases Nat.lt_or_ge j 2 with h | h
          · omega
          · have : j = 2 := by omega
            subst this
            omega
        have nx : nextL (lng j) = lng (j + 1) := by
          rcases j1 with rfl | rfl
          · exact lng_next
          · rfl
        have wx : wds j ++ lng (j + 1) = wds (j + 1) := by
          rcases j1 with rfl | rfl
          · rfl
          · rfl
        have lf : (lng j).length ≤ 26 := by
          rcases j1 with rfl | rfl
          · show 1 ≤ 26; decide
          · show cw1.length ≤ 26; rw [cw1_len]; decide
        have sm : ∀ x ∈ lng j, x.length ≤ 8 := by
          rcases j1 with rfl | rfl
          · intro x hx
            rw [List.mem_singleton.mp hx]; decide
          · exact cw1_small
        have lw3 : (wds j).length ≤ 26 := by
          rcases j1 with rfl | rfl
          · omega
          · omega
        have lw4 : (wds j).length < (wds (j + 1)).length ∧ (wds (j + 1)).length ≤ 702 := by
          rcases j1 with rfl | rfl
          · show (wds 0).length < (wds 1).length ∧ (wds 1).length ≤ 702
            exact ⟨by omega, by omega⟩
          · show (wds 1).length < (wds 2).length ∧ (wds 2).length ≤ 702
            exact ⟨by omega, by omega⟩
        have lng1 : (lng (j + 1)).length ≤ 676 := by
          rw [← nx, nextL_len]; omega
        dsimp only [tSeq, tAsg]
        refine lc2_words rfl hl3 (by omega) sm fun q H4 s4 hq0 hq => ?_
        rw [nx] at hq
        refine at_name (σ' := [some (.int (n : Nat)), some (.ref lw), some (.ref q), none, none]) rfl ?_
        have hw4 := s4 _ _ hw3
        refine ⟨_, rfl, _, rfl, lw, q, _, _, rfl, rfl, hw4, hq, by rw [List.length_map, List.length_map, sizeLine_eq]; omega, fun nw hnw0 => ?_⟩
        rw [← List.map_append, wx]
        have s5 := Same.new (H := H4) (o := .lst ((wds (j + 1)).map V.str)) hnw0
        have hnw : upd H4 nw (.lst ((wds (j + 1)).map V.str)) nw = _ := upd_same
        generalize upd H4 nw (.lst ((wds (j + 1)).map V.str)) = H5 at s5 hnw ⊢
        refine at_name (σ' := [some (.int (n : Nat)), some (.ref nw), some (.ref q), none, none]) rfl ⟨⟨j + 1, nw, q, by omega, rfl, s3.trans (s4.trans s5), hnw, s5 _ _ hq⟩, ?_⟩
        rw [measW_eq rfl hnw, measW_eq rfl hw3, List.length_map, List.length_map]
        omega
      · have z : ¬ (wds j).length < n := fun h => z (decide_eq_true h)
        have ew : (wds j).take n = cws n := by
          unfold cws
          have e2 : wds 2 = cw1 ++ nextL cw1 := rfl
          rcases Nat.lt_or_ge j 1 with h | h
          · have : j = 0 := by omega
            subst this
            have : n = 0 := by omega
            subst this
            rfl
          · rcases Nat.lt_or_ge j 2 with h2 | h2
            · have : j = 1 := by omega
              subst this
              rw [List.take_append_of_le_length (by rw [cw1_len]; omega)]
              rfl
            · have : j = 2 := by omega
              subst this
              rfl
        refine ⟨_, rfl, _, rfl, _, rfl, lw, _, rfl, SqL.of hw3, fun q hq0 => ?_⟩
        rw [cut_to _ _ (by rw [List.length_map]; omega), ← List.map_take, ew]
        exact k q _ (s3.trans (Same.new hq0)) (s3.free hq0) upd_same
end
end KT
set_option Elab.async false
set_option linter.all false
set_option maxRecDepth 100000
set_option maxHeartbeats 4000000
set_option pp.maxSteps 900
namespace KT
open PySem L2 PyProof.Rows DTp TxS DKq
section
variable {P : Program} {w : World} {K : PySem.W.Frag} {mg : Str → Option Value} {base : Heap} {C S : Addr}
/-- a dict with these keys, all words -/
structure LeadOk (kvs : List (Key × V)) (ks : List Str) : Prop where
  keys : kvs.map (·.1) = ks.map Sum.inr
  ne : ks ≠ []
  few : ks.length ≤ 100
  wd : ∀ x ∈ ks, Wd x
def spLeads : Sp := fun vs H Q _ => ∃ (d : Addr) (kvs : List (Key × V)) (ks : List Str), vs = [.ref d] ∧ H d = some (.dK kvs) ∧ LeadOk kvs ks ∧ ∀ H', L2.Same H H' → Q (.bl true) H'
abbrev nLeads : List Str := ["value", "word"]
theorem scLeads : FnScope nLeads ["value"] (defScope pLeads) := ⟨rfl, rfl, rfl, by decide +kernel, rfl, by decide +kernel, by decide +kernel⟩
theorem ok_leads {g : Addr} {fd : FuncData} (F : Fun K "_leads_from_words" "_leads_from_words" pLeads g fd) (B0 : Blt mg) (Z : Blp mg) (M : Cee P w K mg base 1 "is_word" ["value"] spIsWord) : FnOk P w K mg base CX0 2 g fd ["value"] spLeads := by
  refine F.ok scLeads (fun vs H Q E h => ?_) (fun cdv A outer s H vs Q E hr h => ?_)
  · obtain ⟨d, kvs, ks, rfl, _⟩ := h
    rfl
  · obtain ⟨d, kvs, ks, rfl, hd, ok, k⟩ := h
    have nd := scLeads.nd
    refine ⟨_, pss_one (ps_ret (pe_and (pe_callB call_isi (by rfl) Z.isi boot_isi (pa_cons (pv 0) (pa_cons (pe_bltn (v := .ty "dict") (by rfl) Z.dict (by decide +kernel) rfl) pa_nil)))
      (pe_and (pe_cmpR op_gt (pe_callB call_lenD (by rfl) B0.len PySem.boot_len (pa_cons (pv 0) pa_nil)) pe_int (nomark _))
        (pe_one (pe_callB (cr_all rfl) (by rfl) Z.all (by decide +kernel) (pa_cons (pe_lock
            (pe_lc (own := [("word", 1)]) (g := gName 1) (tt := tYes) (te := tCall spIsWord [] E0 (tCons (tVar 1) tNil)) rfl nd (pi_keys (pv 0)) (blkOk_by (own := [("word", 1)]) (N := nLeads) (sc := defScope pLeads) (by decide +kernel))
              (fun _ _ _ _ _ => pg_name (i := 1) nd rfl (Or.inl rfl)) (fun _ _ _ _ _ => pts_nil) (fun _ _ _ _ _ => pe_c M hr rfl (pa_cons (pv 1) pa_nil)))) pa_nil)))))), ?_⟩
    have lk : kvs.length = ks.length := by have := congrArg List.length ok.keys; rw [List.length_map, List.length_map] at this; exact this
    have lp : 0 < ks.length := List.length_pos_iff.mpr ok.ne
    have few := ok.few
    refine ⟨_, rfl, _, _, _, _, true, rfl, .ty _, .base (.dK hd), kit_ty (by decide +kernel), _, rfl, iteT ?_⟩
    refine ⟨_, rfl, d, kvs, rfl, hd, _, _, rfl, rfl, _, rfl, ?_⟩
    refine ite2 (fun _ => ?_) (fun z => absurd (decide_eq_true (show (0 : Int) < (kvs.length : Nat) by omega)) z)
    refine lkK_true (fun od R hh => ⟨_, rfl, hh⟩) hd (by omega) ?_ ?_
    · rintro i kk v od H1 R hk s1 kR
      have hx : (kvs.map (·.1))[i]? = some kk := by rw [List.getElem?_map, hk]; rfl
      rw [ok.keys, List.getElem?_map] at hx
      cases ex : ks[i]? with
      | none => rw [ex] at hx; cases hx
      | some x =>
        rw [ex] at hx
        obtain rfl : Sum.inr x = kk := Option.some.inj hx
        exact at_name (σ' := [some (.ref d), some (.str x)]) rfl ⟨rfl, _, rfl, x, rfl, ok.wd x (List.mem_of_getElem? ex), kR⟩
    · intro D H1 s1 hD
      refine ⟨D, _, rfl, SqL.of hD, ?_⟩
      rw [all_true]
      exact k _ s1
end
end KT
set_option Elab.async false
set_option linter.all false
set_option maxRecDepth 100000
set_option maxHeartbeats 4000000
set_option pp.maxSteps 900
namespace KT
open PySem L2 PyProof.Rows DTp TxS DKq
def tLockN : Nat → TE → TE
  | 0, t => t
  | n + 1, t => tLockE (tLockN n t)
def tLocks (t : TE) : TE := fun σ H Q => ∃ n, tLockN n t σ H Q
theorem pe_lockN {X : Cx} {e : Expr} {t : TE} (h : PE X e t) : ∀ n, PE X e (tLockN n t)
  | 0 => h
  | n + 1 => pe_lock (pe_lockN h n)
theorem pe_locks {X : Cx} {e : Expr} {t : TE} (h : PE X e t) : PE X e (tLocks t) := ⟨fun pins s σ H Q I ⟨n, hw⟩ => (pe_lockN h n).run pins s σ H Q I hw⟩
/-- these are locked, the rest is as it was -/
def Fz (ds : List (Addr × HO)) (H H' : Hp) : Prop := (∀ p ∈ ds, ∃ od, H' p.1 = some (.frz od p.2)) ∧ ∀ b, b ∉ ds.map (·.1) → H' b = H b
def unfz : List (Addr × HO) → Hp → Hp
  | [], H => H
  | p :: ds, H => upd (unfz ds H) p.1 p.2
theorem unfz_no : ∀ {ds : List (Addr × HO)} {H : Hp} {b : Addr}, b ∉ ds.map (·.1) → unfz ds H b = H b
  | [], _, _, _ => rfl
  | p :: ds, H, b, h => by
    rw [List.map_cons, List.mem_cons, not_or] at h
    show upd (unfz ds H) p.1 p.2 b = _
    rw [upd_ne h.1, unfz_no h.2]
theorem unfz_at : ∀ {ds : List (Addr × HO)} {H : Hp}, (ds.map (·.1)).Nodup → ∀ p ∈ ds, unfz ds H p.1 = some p.2
  | [], _, _, p, hp => by cases hp
  | q :: ds, H, nd, p, hp => by
    rw [List.map_cons, List.nodup_cons] at nd
    rcases List.mem_cons.mp hp with rfl | h
    · exact upd_same
    · have : p.1 ≠ q.1 := fun e => nd.1 (e ▸ List.mem_map.mpr ⟨p, h, rfl⟩)
      show upd (unfz ds H) q.1 q.2 p.1 = _
      rw [upd_ne this, unfz_at nd.2 p h]
theorem locks_read {t : TE} {σ : L2.St} : ∀ (ds : List (Addr × HO)) (H : Hp) (Q : VK), (ds.map (·.1)).Nodup → (∀ p ∈ ds, H p.1 = some p.2 ∧ Mut (some p.2)) →
    (∀ H' (R : VK), Fz ds H H' → (∀ v H1, (∀ p ∈ ds, H1 p.1 = H' p.1) → Q v (unfz ds H1) → R v H1) → t σ H' R) → tLockN ds.length t σ H Q
  | [], H, Q, _, _, h => h H Q ⟨(fun p hp => by cases hp), fun _ _ => rfl⟩ fun v H1 _ q => q
  | p :: ds, H, Q, nd, hh, h => by
    rw [List.map_cons, List.nodup_cons] at nd
    have hp := hh p List.mem_cons_self
    refine ⟨p.1, p.2, hp.1, hp.2, fun od => ?_⟩
    refine locks_read ds (upd H p.1 (.frz od p.2)) _ nd.2 (fun q hq => ?_) fun H' R fz k => ?_
    · have : q.1 ≠ p.1 := fun e => nd.1 (e ▸ List.mem_map.mpr ⟨q, hq, rfl⟩)
      rw [upd_ne this]
      exact hh q (List.mem_cons_of_mem _ hq)
    · have hpe : H' p.1 = some (.frz od p.2) := by rw [fz.2 p.1 nd.1, upd_same]
      refine h H' R ⟨fun q hq => ?_, fun b hb => ?_⟩ fun v H1 same q => k v H1 (fun z hz => same z (List.mem_cons_of_mem _ hz)) ⟨?_, q⟩
      · rcases List.mem_cons.mp hq with rfl | hq
        · exact ⟨od, hpe⟩
        · exact fz.1 q hq
      · rw [List.map_cons, List.mem_cons, not_or] at hb
        rw [fz.2 b hb.2, upd_ne hb.1]
      · rw [unfz_no nd.1, same p List.mem_cons_self]
        exact hpe
/-- what was there is there behind the locks -/
theorem unfz_same {ds : List (Addr × HO)} {H H' H1 : Hp} (nd : (ds.map (·.1)).Nodup) (hh : ∀ p ∈ ds, H p.1 = some p.2) (fz : Fz ds H H') (s : L2.Same H' H1) : L2.Same H (unfz ds H1) := fun b o e => by
  by_cases hb : b ∈ ds.map (·.1)
  · obtain ⟨p, hp, rfl⟩ := List.mem_map.mp hb
    rw [unfz_at nd p hp, ← hh p hp]
    exact e
  · rw [unfz_no hb]
    exact s _ _ ((fz.2 b hb).trans e)
end KT
set_option Elab.async false
set_option linter.all false
set_option maxRecDepth 100000
set_option maxHeartbeats 4000000
set_option pp.maxSteps 900
namespace KT
open PySem L2 PyProof.Rows DTp TxS DKq
structure MvOk (sts : List Str) (row : Str → List (Str × Str)) (ds : List Str) : Prop where
  ne : sts ≠ []
  few : sts.length ≤ 100
  wd : ∀ s ∈ sts, Wd s
  nd : sts.Nodup
  ks : ∀ s ∈ sts, keysD (row s) = ds
  dne : ds ≠ []
  dfew : ds.length ≤ 60
  dwd : ∀ s ∈ ds, Wd s
  asc : Asc ds
  vs : ∀ s ∈ sts, ∀ p ∈ row s, p.2 ∈ sts
structure MvAt (H : Hp) (a : Addr) (sts : List Str) (as : List Addr) (row : Str → List (Str × Str)) : Prop where
  at' : H a = some (.dK ((sts.zip as).map fun p => ((Sum.inr p.1 : Key), V.ref p.2)))
  len : as.length = sts.length
  nda : (a :: as).Nodup
  inn : ∀ (i : Nat) (s : Str) (b : Addr), sts[i]? = some s → as[i]? = some b → H b = some (.dK (dkv (row s)))
theorem MvAt.mono {H H' : Hp} {a : Addr} {sts : List Str} {as : List Addr} {row : Str → List (Str × Str)} (s : L2.Same H H') (h : MvAt H a sts as row) : MvAt H' a sts as row := ⟨s _ _ h.at', h.len, h.nda, fun i x b h1 h2 => s _ _ (h.inn i x b h1 h2)⟩
theorem MvAt.keys {H : Hp} {a : Addr} {sts : List Str} {as : List Addr} {row : Str → List (Str × Str)} (h : MvAt H a sts as row) : ((sts.zip as).map fun p => ((Sum.inr p.1 : Key), V.ref p.2)).map (·.1) = sts.map Sum.inr := by
  rw [List.map_map]
  have e : (sts.zip as).map Prod.fst = sts := List.map_fst_zip (Nat.le_of_eq h.len.symm)
  conv => rhs; rw [← e, List.map_map]
  rfl
def rSortD : List V → Hp → VK → Prop := fun xs H Q => ∃ (a : Addr) (kvs : List (Key × V)) (ks : List Str), xs = [.ref a] ∧ Rd H a (.dK kvs) ∧ kvs.map (·.1) = ks.map Sum.inr ∧ ks.length < 64 ∧
    ∀ ys p, ys.Perm ks → sortedS ys = true → H p = none → Q (.ref p) (upd H p (.lst (ys.map V.str)))
theorem cr_sortD {X : Cx} (hc : X.calm = true) : CallR X (.builtin "sorted") rSortD := call_sortedD hc
section
variable {P : Program} {w : World} {K : PySem.W.Frag} {mg : Str → Option Value} {base : Heap} {C S : Addr}
def spAreMoves : Sp := fun vs H Q _ => ∃ (a : Addr) (sts : List Str) (as : List Addr) (row : Str → List (Str × Str)) (ds : List Str), vs = [.ref a] ∧ MvAt H a sts as row ∧ MvOk sts row ds ∧ ∀ H', L2.Same H H' → Q (.bl true) H'
abbrev nAM : List Str := ["moves", "deeds", "led", "row", "state"]
theorem scAM : FnScope nAM ["moves"] (defScope pAreMoves) := ⟨rfl, rfl, rfl, by decide +kernel, rfl, by decide +kernel, by decide +kernel⟩
theorem ok_areMoves {g : Addr} {fd : FuncData} (F : Fun K "_are_moves" "_are_moves" pAreMoves g fd) (B0 : Blt mg) (Z : Blp mg) (M : Cee P w K mg base 2 "_leads_from_words" ["value"] spLeads) : FnOk P w K mg base CX0 3 g fd ["moves"] spAreMoves := by
  refine F.ok scAM (fun vs H Q E h => ?_) (fun cdv A outer s H vs Q E hr h => ?_)
  · obtain ⟨a, sts, as, row, ds, rfl, _⟩ := h
    rfl
  · obtain ⟨a, sts, as, row, ds, rfl, mv, ok, k⟩ := h
    have nd := scAM.nd
    refine ⟨_, pss_cons (ps_if (pt_cut <| PW.pt (pw_or (pt_not (pt_val (pe_c M hr rfl (pa_cons (pv 0) pa_nil)))) (pw_or1 (pt_not (pt_val (pe_callB (cr_all rfl) (by rfl) Z.all (by decide +kernel) (pa_cons (pe_lock
            (pe_lc (own := [("led", 2)]) (g := gName 2) (tt := tYes) (te := tCall spLeads [] E0 (tCons (tVar 2) tNil)) rfl nd (pi_values (pv 0)) (blkOk_by (own := [("led", 2)]) (N := nAM) (sc := defScope pAreMoves) (by decide +kernel))
              (fun _ _ _ _ _ => pg_name (i := 2) nd rfl (Or.inl rfl)) (fun _ _ _ _ _ => pts_nil) (fun _ _ _ _ _ => pe_c M hr rfl (pa_cons (pv 2) pa_nil)))) pa_nil))))))) (pss_one (ps_ret pe_bl)) pss_nil)
      (pss_cons (ps_cut (ps_set (i := 1) nd rfl (Or.inr rfl) (pe_lock
            (pe_lc (own := [("led", 2)]) (g := gName 2) (tt := tYes) (te := tCB rSortD (tCons (tVar 2) tNil)) rfl nd (pi_values (pv 0)) (blkOk_by (own := [("led", 2)]) (N := nAM) (sc := defScope pAreMoves) (by decide +kernel))
              (fun _ _ _ _ _ => pg_name (i := 2) nd rfl (Or.inl rfl)) (fun _ _ _ _ _ => pts_nil) (fun _ _ _ _ _ => pe_callB (cr_sortD rfl) (by rfl) Z.sorted (by decide +kernel) (pa_cons (pv 2) pa_nil))))))
      (pss_cons (ps_if (pt_not (pt_val (pe_callB (cr_all rfl) (by rfl) Z.all (by decide +kernel) (pa_cons
            (pe_lc (own := [("row", 3)]) (g := gName 3) (tt := tYes) (te := tOp (rEqD K) (tVar 3) (tOp (rIxL K) (tVar 1) (tC (.int 0)))) rfl nd (pi_list (pv 1)) (blkOk_by (own := [("row", 3)]) (N := nAM) (sc := defScope pAreMoves) (by decide +kernel))
              (fun _ _ _ _ _ => pg_name (i := 3) nd rfl (Or.inl rfl)) (fun _ _ _ _ _ => pts_nil) (fun _ _ _ _ _ => pe_cmpR (op_eqD hr.units) (pv 3) (pe_ix ix_list (pv 1) pe_int (fun _ _ => rfl)) (nomark _))) pa_nil)))) (pss_one (ps_ret pe_bl)) pss_nil)
      (pss_one (ps_ret (pe_callB (cr_all rfl) (by rfl) Z.all (by decide +kernel) (pa_cons (pe_locks
            (pe_lc2 (own := [("led", 2), ("state", 4)]) (vs1 := [4]) (g := gName 2) (tt := tYes) (wi1 := iVals (tVar 2)) (g1 := gName 4) (tt1 := tYes) (te := tAndV (tCB (rIsi K) (tCons (tVar 4) (tCons (tC (.ty "str")) tNil))) (tDIn (tVar 4) (tVar 0))) rfl nd (pi_values (pv 0)) (blkOk_by (own := [("led", 2), ("state", 4)]) (N := nAM) (sc := defScope pAreMoves) (by decide +kernel)) (by decide)
              (fun _ _ _ _ _ => pg_name (i := 2) nd rfl (Or.inl rfl)) (fun _ _ _ _ _ => pts_nil) (fun _ _ _ _ _ => pi_values (pv 2)) (fun _ _ _ _ _ => pg_name (i := 4) nd rfl (Or.inl rfl)) (fun _ _ _ _ _ => pts_nil)
              (fun _ _ _ _ _ => pe_and (pe_callB call_isi (by rfl) Z.isi boot_isi (pa_cons (pv 4) (pa_cons (pe_bltn (v := .ty "str") (by rfl) Z.str (by decide +kernel) rfl) pa_nil))) (pe_one (pe_cmp (pc_din (hu_of hr) (pv 4) (pv 0)) (by rfl)))))) pa_nil)))))), ?_⟩
    obtain ⟨kvs, ekv⟩ : ∃ kvs, kvs = (sts.zip as).map fun p => ((Sum.inr p.1 : Key), V.ref p.2) := ⟨_, rfl⟩
    have lk : kvs.length = sts.length := by rw [ekv, List.length_map, List.length_zip, mv.len, Nat.min_self]
    have get : ∀ (i : Nat) (kk : Key) (v : V), kvs[i]? = some (kk, v) → ∃ s b, sts[i]? = some s ∧ as[i]? = some b ∧ kk = Sum.inr s ∧ v = .ref b := by
      intro i kk v h
      rw [ekv, List.getElem?_map] at h
      cases e : (sts.zip as)[i]? with
      | none => rw [e] at h; cases h
      | some p =>
        rw [e] at h
        have h := Option.some.inj h
        obtain ⟨h1, h2⟩ := List.getElem?_zip_eq_some.mp e
        exact ⟨p.1, p.2, h1, h2, (congrArg Prod.fst h).symm, (congrArg Prod.snd h).symm⟩
    have at' : H a = some (.dK kvs) := by rw [ekv]; exact mv.at'
    have keys : kvs.map (·.1) = sts.map Sum.inr := by rw [ekv]; exact mv.keys
    have few := ok.few
    have dfew := ok.dfew
    have nba : ∀ (i : Nat) (b : Addr), as[i]? = some b → b ≠ a := fun i b h e => by
      have := (List.nodup_cons.mp mv.nda).1
      exact this (e ▸ List.mem_of_getElem? h)
    have lead : ∀ (i : Nat) (s : Str), sts[i]? = some s → LeadOk (dkv (row s)) ds := fun i s h => ⟨by rw [dkv_keys, ok.ks s (List.mem_of_getElem? h)], ok.dne, by omega, ok.dwd⟩
    -- all are dicts of words
    refine ⟨fun b H' => b = false ∧ L2.Same H H', ?_, ?_⟩
    · refine ⟨_, rfl, a, kvs, sts, rfl, at', ⟨keys, ok.ne, ok.few, ok.wd⟩, fun H1 s1 => ⟨_, rfl, iteF ?_⟩⟩
      refine lkV_true (fun od R hh => ⟨_, rfl, hh⟩) (s1 _ _ at') (by omega) ?_ ?_
      · rintro i kk v od H2 R hk s2 kR
        obtain ⟨s, b, es, eb, rfl, rfl⟩ := get i kk v hk
        have hb2 := s2 _ _ ((upd_ne (nba i b eb)).trans (s1 _ _ (mv.inn i s b es eb)))
        exact at_name (σ' := [some (.ref a), none, some (.ref b), none, none]) rfl ⟨rfl, _, rfl, b, _, ds, rfl, hb2, lead i s es, kR⟩
      · intro D H2 s2 hD
        refine ⟨D, _, rfl, SqL.of hD, ?_⟩
        rw [all_true]
        exact ⟨_, rfl, rfl, s1.trans s2⟩
    rintro b H1 ⟨rfl, s1⟩
    refine iteF ?_
    have mv1 := mv.mono s1
    -- the deeds, sorted
    refine ⟨fun σ' H' => ∃ (dD : Addr) (ts : List Addr), σ' = [some (.ref a), some (.ref dD), none, none, none] ∧ L2.Same H1 H' ∧ H' dD = some (.lst (ts.map V.ref)) ∧ ts.length = sts.length ∧ ∀ t ∈ ts, H' t = some (.lst (ds.map V.str)), ?_, ?_⟩
    · refine ⟨a, .dK kvs, s1 _ _ at', trivial, fun od => ?_⟩
      refine ⟨_, rfl, a, od, kvs, rfl, upd_same, fun D hD => ?_⟩
      have nDa : D ≠ a := fun e => by rw [e, upd_same] at hD; cases hD
      refine lc_it walk_values (fun i H' => L2.Same (upd H1 a (.frz od (.dK kvs))) H' ∧ ∃ ts : List Addr, H' D = some (.lst (ts.map V.ref)) ∧ ts.length = i ∧ ∀ t ∈ ts, H' t = some (.lst (ds.map V.str))) ?_ ?_ ?_ ?_
      · exact ⟨Same.new hD, [], upd_same, rfl, fun t ht => by cases ht⟩
      · rintro i H' _ ⟨s2, _⟩
        exact s2 _ _ upd_same
      · rintro i v H2' H2 hi ⟨s2, ts, hD2, lt, all⟩ ⟨rfl, kk, hk⟩
        obtain ⟨s, b, es, eb, rfl, rfl⟩ := get i kk v hk
        have hb2 := s2 _ _ ((upd_ne (nba i b eb)).trans (mv1.inn i s b es eb))
        refine at_name (σ' := [some (.ref a), none, some (.ref b), none, none]) rfl ⟨rfl, yes_if ?_⟩
        refine ⟨_, rfl, b, _, ds, rfl, .inl hb2, (lead i s es).keys, by omega, fun ys q pm so hq0 => ?_⟩
        have ey : ys = ds := (sortedS_asc so (pm.nodup_iff.mpr ok.asc.nodup)).eq ok.asc pm
        subst ey
        have s3 := Same.new (H := H2) (o := .lst (ys.map V.str)) hq0
        have hq : upd H2 q (.lst (ys.map V.str)) q = _ := upd_same
        generalize upd H2 q (.lst (ys.map V.str)) = H3 at s3 hq ⊢
        have hD3 := s3 _ _ hD2
        have nqD : q ≠ D := fun e => by rw [e, hD2] at hq0; cases hq0
        refine ⟨_, hD3, by rw [List.length_map]; exact small1000 (by omega), fun b o e => ?_, ts ++ [q], by rw [upd_same, List.map_append]; rfl, by rw [List.length_append, lt]; rfl, fun t ht => ?_⟩
        · rw [upd_ne (ne_of_none e hD)]
          exact s3 _ _ (s2 _ _ e)
        · rcases List.mem_append.mp ht with h | h
          · have ntD : t ≠ D := fun e => by
              have h1 := all t h
              rw [e, hD2] at h1
              have h1 := HO.lst.inj (Option.some.inj h1)
              have h2 := ok.dne
              match ys, ts, h1, h2 with
              | y :: ys, [], h1, _ => cases h1
              | y :: ys, t :: ts, h1, _ => injection h1 with h1 _; cases h1
              | [], _, _, h2 => exact h2 rfl
            rw [upd_ne ntD]
            exact s3 _ _ (all t h)
          · rw [List.mem_singleton.mp h, upd_ne nqD]
            exact hq
      · rintro H2 ⟨s2, ts, hD2, lt, all⟩
        have hdl : H2 a = some (.frz od (.dK kvs)) := s2 _ _ upd_same
        refine ⟨hdl, D, ts, rfl, fun b o e => ?_, (upd_ne nDa).trans hD2, by rw [lt, lk], fun t ht => ?_⟩
        · by_cases hb : b = a
          · rw [hb] at e ⊢
            rw [s1 _ _ at'] at e
            rw [upd_same]; exact e
          · rw [upd_ne hb]
            exact s2 _ _ ((upd_ne hb).trans e)
        · have nta : t ≠ a := fun e => by
            have h := all t ht
            rw [e, hdl] at h; cases h
          rw [upd_ne nta]
          exact all t ht
    rintro σ' H2 ⟨dD, ts, rfl, s2, hdD, lt, all⟩
    -- all are alike
    have lts : 0 < ts.length := by rw [lt]; exact List.length_pos_iff.mpr ok.ne
    refine ⟨_, rfl, dD, rfl, ⟨_, SqL.of hdD⟩, fun D hD => ?_⟩
    refine lc_true (walk_list (K := K) (a := dD) (xs := ts.map V.ref)) (by rw [List.length_map]; omega) hD (fun H' s => SqL.of (s _ _ hdD)) ?_ ?_
    · rintro i v H3 H3' R hi s3 ⟨rfl, hx⟩ kR
      rw [List.getElem?_map] at hx
      cases et : ts[i]? with
      | none => rw [et] at hx; cases hx
      | some t =>
        rw [et] at hx
        obtain rfl : V.ref t = v := Option.some.inj hx
        obtain ⟨t0, e0⟩ : ∃ t0, ts[0]? = some t0 := ⟨_, List.getElem?_eq_getElem lts⟩
        refine at_name (σ' := [some (.ref a), some (.ref dD), none, some (.ref t), none]) rfl ⟨rfl, ?_⟩
        refine ⟨_, rfl, _, rfl, dD, _, 0, _, rfl, rfl, SqL.of (s3 _ _ hdD), atI_nat (j := 0) (by rw [List.getElem?_map, e0]; rfl), ?_⟩
        refine ⟨_, _, dp_strs (SqL.of (s3 _ _ (all t (List.mem_of_getElem? et)))), dp_strs (SqL.of (s3 _ _ (all t0 (List.mem_of_getElem? e0)))), shaped_strs _ ok.dwd, shaped_strs _ ok.dwd, ?_⟩
        rw [eqv_strs, decide_eq_true rfl]
        exact kR _ (fun _ _ e => e)
    · intro H3 s3 hD3
      refine ⟨D, _, rfl, SqL.of hD3, ?_⟩
      rw [all_true]
      refine ⟨_, rfl, iteF ?_⟩
      have s13 : L2.Same H1 H3 := s2.trans s3
      have mv3 := mv1.mono s13
      have at3 : H3 a = some (.dK kvs) := s13 _ _ (s1 _ _ at')
      obtain ⟨Lds, eL⟩ : ∃ Lds : List (Addr × HO), Lds = (a, HO.dK kvs) :: (sts.zip as).map fun p => (p.2, HO.dK (dkv (row p.1))) := ⟨_, rfl⟩
      have mz : (sts.zip as).map Prod.snd = as := List.map_snd_zip (Nat.le_of_eq mv.len)
      have mL : Lds.map (·.1) = a :: as := by
        rw [eL, List.map_cons, List.map_map]
        congr 1
      have ndL : (Lds.map (·.1)).Nodup := by rw [mL]; exact mv.nda
      have hL : ∀ p ∈ Lds, H3 p.1 = some p.2 := by
        intro p hp
        rw [eL] at hp
        rcases List.mem_cons.mp hp with rfl | hp
        · exact at3
        · obtain ⟨z, hz, rfl⟩ := List.mem_map.mp hp
          obtain ⟨i, hi⟩ := List.mem_iff_getElem?.mp hz
          obtain ⟨h1, h2⟩ := List.getElem?_zip_eq_some.mp hi
          exact mv3.inn i _ _ h1 h2
      have hM : ∀ p ∈ Lds, H3 p.1 = some p.2 ∧ Mut (some p.2) := by
        intro p hp
        refine ⟨hL p hp, ?_⟩
        rw [eL] at hp
        rcases List.mem_cons.mp hp with rfl | hp
        · trivial
        · obtain ⟨z, hz, rfl⟩ := List.mem_map.mp hp
          trivial
      have inL : ∀ (i : Nat) (s : Str) (b : Addr), sts[i]? = some s → as[i]? = some b → (b, HO.dK (dkv (row s))) ∈ Lds := by
        intro i s b h1 h2
        rw [eL]
        exact List.mem_cons_of_mem _ (List.mem_map.mpr ⟨(s, b), List.mem_of_getElem? (List.getElem?_zip_eq_some.mpr ⟨h1, h2⟩), rfl⟩)
      have kvn : (kvs.map (·.1)).Nodup := by rw [keys]; exact inr_nodup ok.nd
      have there : ∀ x ∈ sts, (valV kvs (Sum.inr x)).isSome = true := by
        intro x hx
        obtain ⟨i, hi⟩ := List.mem_iff_getElem?.mp hx
        have hlt := (List.getElem?_eq_some_iff.mp hi).1
        obtain ⟨b, hb⟩ : ∃ b, as[i]? = some b := ⟨_, List.getElem?_eq_getElem (by rw [mv.len]; exact hlt)⟩
        have m : ((Sum.inr x : Key), V.ref b) ∈ kvs := by
          rw [ekv]
          exact List.mem_map.mpr ⟨(x, b), List.mem_of_getElem? (List.getElem?_zip_eq_some.mpr ⟨hi, hb⟩), rfl⟩
        rw [valV_mem kvn m]
        rfl
      refine ⟨Lds.length, locks_read Lds H3 _ ndL hM fun H4 R fz kR => ?_⟩
      obtain ⟨oda, hfa⟩ := fz.1 (a, HO.dK kvs) (by rw [eL]; exact List.mem_cons_self)
      refine ⟨_, rfl, a, oda, kvs, rfl, hfa, fun D2 hD2 => ?_⟩
      have nD2 : D2 ∉ Lds.map (·.1) := fun h => by
        obtain ⟨p, hp, e⟩ := List.mem_map.mp h
        obtain ⟨od, ho⟩ := fz.1 p hp
        rw [e, hD2] at ho
        cases ho
      refine ⟨fun i n H' => n = kvs.length - i ∧ i ≤ kvs.length ∧ L2.Same H4 H' ∧ ∃ c, c ≤ i * 60 ∧ H' D2 = some (.lst ((List.replicate c true).map V.bl)), ⟨_, rfl, Nat.zero_le _, Same.new hD2, 0, Nat.le_refl _, upd_same⟩, ?_⟩
      rintro i n H5 ⟨rfl, hi, s5, c, hc, hD5⟩
      have w := walk_values (d := a) (o := oda) (kvs := kvs)
      by_cases hlt : i < kvs.length
      · refine .inr ⟨w.goes i H5 hlt (s5 _ _ hfa), fun H' => L2.Same H4 H' ∧ ∃ c, c ≤ (i + 1) * 60 ∧ H' D2 = some (.lst ((List.replicate c true).map V.bl)), fun H' h => ⟨_, by omega, rfl, by omega, h.1, h.2⟩, fun v H6 y => ?_⟩
        obtain ⟨rfl, kk, hk⟩ := w.yields i H5 v H6 hlt (s5 _ _ hfa) y
        obtain ⟨s, b, es, eb, rfl, rfl⟩ := get i kk v hk
        obtain ⟨odb, hfb⟩ := fz.1 _ (inL i s b es eb)
        have ms := List.mem_of_getElem? es
        have lr : (dkv (row s)).length ≤ 60 := by
          have := congrArg List.length (ok.ks s ms)
          rw [keysD_len] at this
          rw [dkv_len]; omega
        refine at_name (σ' := [some (.ref a), some (.ref dD), some (.ref b), none, none]) rfl ⟨rfl, yes_if ?_⟩
        refine ⟨_, rfl, b, odb, dkv (row s), rfl, s5 _ _ hfb, ?_⟩
        refine ⟨fun j n H' => n = (dkv (row s)).length - j ∧ j ≤ (dkv (row s)).length ∧ L2.Same H4 H' ∧ ∃ c', c' ≤ c + j ∧ H' D2 = some (.lst ((List.replicate c' true).map V.bl)), ⟨_, rfl, Nat.zero_le _, s5, c, Nat.le_refl _, hD5⟩, ?_⟩
        rintro j n H7 ⟨rfl, hj, s7, c', hc', hD7⟩
        have w1 := walk_values (d := b) (o := odb) (kvs := dkv (row s))
        by_cases jlt : j < (dkv (row s)).length
        · refine .inr ⟨w1.goes j H7 jlt (s7 _ _ hfb), fun H' => L2.Same H4 H' ∧ ∃ c', c' ≤ c + (j + 1) ∧ H' D2 = some (.lst ((List.replicate c' true).map V.bl)), fun H' h => ⟨_, by omega, rfl, by omega, h.1, h.2⟩, fun v H8 y => ?_⟩
          obtain ⟨rfl, kk, hk2⟩ := w1.yields j H7 v H8 jlt (s7 _ _ hfb) y
          obtain ⟨z, hz, e⟩ := List.mem_map.mp (List.mem_of_getElem? hk2)
          obtain ⟨rfl, rfl⟩ : Sum.inr z.1 = kk ∧ V.str z.2 = v := ⟨congrArg Prod.fst e, congrArg Prod.snd e⟩
          refine at_name (σ' := [some (.ref a), some (.ref dD), some (.ref b), none, some (.str z.2)]) rfl ⟨rfl, yes_if ?_⟩
          refine ⟨_, rfl, _, _, _, _, true, rfl, .ty _, .base (.str _), kit_ty (by decide +kernel), _, rfl, iteT ?_⟩
          refine ⟨_, rfl, _, rfl, a, _, rfl, .inl ⟨kvs, Sum.inr z.2, .inr ⟨oda, s7 _ _ hfa⟩, rfl, rfl⟩, ?_⟩
          rw [there z.2 (ok.vs s ms z hz)]
          refine ⟨_, hD7, by rw [List.length_map, List.length_replicate, sizeLine_eq]; omega, ?_, c' + 1, by omega, ?_⟩
          · exact fun b o e => by rw [upd_ne (ne_of_none e hD2)]; exact s7 _ _ e
          · rw [upd_same, List.replicate_succ', List.map_append]
            rfl
        · have ej : j = (dkv (row s)).length := by omega
          subst ej
          exact .inl ⟨w1.stops H7 (s7 _ _ hfb), s7, c', by omega, hD7⟩
      · have ei : i = kvs.length := by omega
        subst ei
        refine .inl ⟨w.stops H5 (s5 _ _ hfa), kR _ H5 (fun p hp => ?_) ?_⟩
        · obtain ⟨od, ho⟩ := fz.1 p hp
          rw [ho]
          exact s5 _ _ ho
        · refine ⟨D2, _, rfl, SqL.of ((unfz_no nD2).trans hD5), ?_⟩
          rw [all_true]
          exact k _ (s1.trans (s13.trans (unfz_same ndL hL fz s5)))
end
end KT
set_option Elab.async false
set_option linter.all false
set_option maxRecDepth 100000
set_option maxHeartbeats 4000000
set_option pp.maxSteps 900
namespace KT
open PySem L2 PyProof.Rows DTp TxS DKq
section
variable {K : PySem.W.Frag}
/-- {x: (a new object) for x in list} -/
theorem dcR_list {tl tk tv : TE} {tg iter : Expr} {ifs : List Expr} {g : TG} {vs : List Nat} {σ : L2.St} {H : Hp} {Q : VK} {xs : List Str} (O : Str → HO) (few : xs.length ≤ 1000) (ndx : xs.Nodup)
    (hl : ∀ R : VK, (∀ l H1, L2.Same H H1 → H1 l = some (.lst (xs.map V.str)) → R (.ref l) H1) → tl σ H R)
    (step : ∀ x H2 (R : V → V → Hp → Prop) (Cn : L2.St → Hp → Prop), (∀ σ2 H3, (tk σ2 H3 fun y H4 => tv σ2 H4 fun z H5 => R y z H5) → Cn σ2 H3) → x ∈ xs → L2.Same H H2 → (∀ b H3, L2.Same H2 H3 → H2 b = none → H3 b = some (O x) → R (.str x) (.ref b) H3) → g (.str x) (wipe σ vs) H2 fun σ2 H3 => wipe σ2 vs = wipe σ vs ∧ Cn σ2 H3)
    (k : ∀ q (bs : List Addr) H', L2.Same H H' → H q = none → bs.length = xs.length → (q :: bs).Nodup → (∀ b ∈ bs, H b = none) → H' q = some (.dK ((xs.zip bs).map fun p => ((Sum.inr p.1 : Key), V.ref p.2))) → (∀ (i : Nat) s b, xs[i]? = some s → bs[i]? = some b → H' b = some (O s)) → Q (.ref q) H') :
    GC.tCo (fun _ => .dK []) ⟨tg, iter, ifs, iList K tl, g, tYes, vs⟩ [] (GC.emK tk tv) σ H Q := by
  refine hl _ fun l H1 s1 h1 => ?_
  refine ⟨l, rfl, ⟨_, SqL.of h1⟩, fun D hD => ?_⟩
  refine GC.lp_it (walk_list (K := K) (a := l) (xs := xs.map V.str)) (fun n H' => L2.Same H1 H' ∧ ∃ bs : List Addr, bs.length = n ∧ (D :: bs).Nodup ∧ (∀ b ∈ bs, H1 b = none) ∧ H' D = some (.dK (((xs.take n).zip bs).map fun p => ((Sum.inr p.1 : Key), V.ref p.2))) ∧ ∀ (i : Nat) s b, xs[i]? = some s → bs[i]? = some b → H' b = some (O s)) ?_ ?_ ?_ ?_
  · exact ⟨Same.new hD, [], rfl, by simp, by simp, upd_same, by simp⟩
  · rintro i H2 _ ⟨s2, _⟩
    exact SqL.of (s2 _ _ h1)
  · rintro n x H0 H2 hn ⟨s2, bs, lb, nd2, fr, hD2, ob⟩ ⟨rfl, hx⟩
    rw [List.length_map] at hn
    obtain ⟨y, ey, rfl⟩ := str_get hx
    refine step y _ (fun a z H3 => ∃ (kvs2 : List (Key × V)) (k : Key), a = kV k ∧ H3 D = some (.dK kvs2) ∧ kvs2.length < sizeLine ∧ (L2.Same H1 (upd H3 D (.dK (putK kvs2 k z))) ∧ ∃ bs : List Addr, bs.length = n + 1 ∧ (D :: bs).Nodup ∧ (∀ b ∈ bs, H1 b = none) ∧ (upd H3 D (.dK (putK kvs2 k z))) D = some (.dK (((xs.take (n + 1)).zip bs).map fun p => ((Sum.inr p.1 : Key), V.ref p.2))) ∧ ∀ (i : Nat) s b, xs[i]? = some s → bs[i]? = some b → (upd H3 D (.dK (putK kvs2 k z))) b = some (O s))) _ (fun σ2 H3 hh => hh) (List.mem_of_getElem? ey) (s1.trans s2) fun b H3 s3 hb0 hb => ?_
    have lz : ((xs.take n).zip bs).length = n := by rw [List.length_zip, List.length_take, lb]; omega
    have nbD : b ≠ D := fun e => by rw [e, hD2] at hb0; cases hb0
    have nDb : ∀ c ∈ bs, c ≠ D := fun c hc e => (List.nodup_cons.mp nd2).1 (e ▸ hc)
    have keys : (((xs.take n).zip bs).map fun p => ((Sum.inr p.1 : Key), V.ref p.2)).map (·.1) = (xs.take n).map Sum.inr := by
      rw [List.map_map]
      have e : ((xs.take n).zip bs).map Prod.fst = xs.take n := List.map_fst_zip (by rw [List.length_take, lb]; omega)
      conv => rhs; rw [← e, List.map_map]
      rfl
    have new : (Sum.inr y : Key) ∉ (((xs.take n).zip bs).map fun p => ((Sum.inr p.1 : Key), V.ref p.2)).map (·.1) := by
      rw [keys]
      intro h
      obtain ⟨z, hz, e⟩ := List.mem_map.mp h
      obtain rfl : z = y := Sum.inr.inj e
      have t := take_next' ey
      have nt : (xs.take (n + 1)).Nodup := List.Pairwise.sublist (List.take_sublist _ _) ndx
      rw [t] at nt
      exact (List.nodup_append.mp nt).2.2 z hz z (List.mem_singleton.mpr rfl) rfl
    refine ⟨_, Sum.inr y, rfl, s3 _ _ hD2, ?_, fun c o e => ?_, bs ++ [b], by rw [List.length_append, lb]; rfl, ?_, ?_, ?_, ?_⟩
    · rw [List.length_map, lz]
      exact small1000 (by omega)
    · rw [upd_ne (ne_of_none e hD)]
      exact s3 _ _ (s2 _ _ e)
    · have nb : b ∉ bs := fun hc => by
        obtain ⟨i, hi⟩ := List.mem_iff_getElem?.mp hc
        have hlt := (List.getElem?_eq_some_iff.mp hi).1
        have := ob i xs[i] b (List.getElem?_eq_getElem (by omega)) hi
        rw [hb0] at this
        cases this
      rw [← List.cons_append]
      exact List.nodup_append.mpr ⟨nd2, by simp, fun c hc d hd e => by
        rw [List.mem_singleton.mp hd] at e
        rcases List.mem_cons.mp hc with h | h
        · exact nbD (e.symm.trans h)
        · exact nb (e ▸ h)⟩
    · intro c hc
      rcases List.mem_append.mp hc with h | h
      · exact fr c h
      · rw [List.mem_singleton.mp h]
        cases e : H1 b with
        | none => rfl
        | some o => rw [s2 _ _ e] at hb0; cases hb0
    · rw [upd_same, putK_new new, take_next' ey, List.zip_append (by rw [List.length_take, lb]; omega), List.map_append]
      rfl
    · intro i s c h1' h2'
      by_cases hi : i < n
      · rw [List.getElem?_append_left (by omega)] at h2'
        rw [upd_ne (nDb c (List.mem_of_getElem? h2'))]
        exact s3 _ _ (ob i s c h1' h2')
      · rw [List.getElem?_append_right (by omega)] at h2'
        have hi2 : i = n := by
          have := (List.getElem?_eq_some_iff.mp h2').1
          rw [List.length_singleton] at this
          omega
        rw [hi2, lb, Nat.sub_self] at h2'
        obtain rfl : b = c := Option.some.inj h2'
        rw [hi2, ey] at h1'
        obtain rfl := Option.some.inj h1'
        rw [upd_ne nbD]
        exact hb
  · rintro H2 ⟨s2, bs, lb, nd2, fr, hD2, ob⟩
    rw [List.length_map] at lb
    rw [List.length_map, List.take_length] at hD2
    exact k D bs H2 (s1.trans s2) (s1.free hD) lb nd2 (fun b hb => s1.free (fr b hb)) hD2 ob
end
structure GTx (K : PySem.W.Frag) (mg : Str → Option Value) (G : Addr) : Prop where
  cl : L2.Cls K G
  nM : NoAttr K G "_moves"
  mgG : mg "Store" = some (.ref G)
def gflds (m : Addr) : List (Str × V) := [("_moves", .ref m)]
structure StoAt (G : Addr) (H : Hp) (p dx m : Addr) (sts : List Str) (as : List Addr) (row : Str → List (Str × Str)) : Prop where
  ob : H p = some (.ins G dx (gflds m))
  mv : MvAt H m sts as row
section
variable {P : Program} {w : World} {K : PySem.W.Frag} {mg : Str → Option Value} {base : Heap} {C S G : Addr}
def spGInit (G : Addr) : Sp := fun vs H Q _ => ∃ (p dx a : Addr) (sts : List Str) (as : List Addr) (row : Str → List (Str × Str)) (ds : List Str), vs = [.ref p, .ref a] ∧ H p = some (.ins G dx []) ∧ MvAt H a sts as row ∧ MvOk sts row ds ∧ sts.length < 64 ∧
  ∀ H' m bs, StoAt G H' p dx m (ascOf sts) bs row → (∀ b o, H b = some o → b ≠ p → H' b = some o) → Q .non H'
/-- the scope of the outer comprehension -/
abbrev scSt : Scope := { kind := .function, names := [(".0", .local), ("state", .cell), ("sorted", .globalImplicit), ("moves", .cell)], isGenerator := false, isCoroutine := false }
abbrev nGInit : List Str := ["self", "moves", "state", "deed"]
theorem scGInit : FnScope nGInit ["self", "moves"] (defScope gInit) := ⟨rfl, rfl, rfl, by decide +kernel, rfl, by decide +kernel, by decide +kernel⟩
theorem ok_ginit {g : Addr} {fd : FuncData} (F : Fun K "__init__" "Store.__init__" gInit g fd) (T : GTx K mg G) (Z : Blp mg) (M : Cee P w K mg base 3 "_are_moves" ["moves"] spAreMoves) : FnOk P w K mg base CX0 4 g fd ["self", "moves"] (spGInit G) := by
  refine F.ok scGInit (fun vs H Q E h => ?_) (fun cdv A outer s H vs Q E hr h => ?_)
  · obtain ⟨p, dx, a, sts, as, row, ds, rfl, _⟩ := h
    rfl
  · obtain ⟨p, dx, a, sts, as, row, ds, rfl, hp, mv, ok, l64, k⟩ := h
    have nd := scGInit.nd
    refine ⟨_, pss_cons (ps_if (pt_not (pt_val (pe_c M hr rfl (pa_cons (pv 1) pa_nil)))) (pss_one ps_never) pss_nil)
      (pss_one (ps_fld (pv 0) (GC.pe_dcK (own := [("state", 2)]) (g := gName 2) (tt := tYes) (tk := tVar 2) (tv := GC.tCo (fun _ => .dK []) ⟨_, _, [], iList K (tCB rSortD (tCons (tDGet (tVar 1) (tVar 2)) tNil)), gName 3, tYes, [3]⟩ [] (GC.emK (tVar 3) (tDGet (tDGet (tVar 1) (tVar 2)) (tVar 3)))) rfl nd (pi_list (pe_callB (cr_sortD rfl) (by rfl) Z.sorted (by decide +kernel) (pa_cons (pv 1) pa_nil)))
          (blkOk_by (own := [("state", 2)]) (N := nGInit) (sc := defScope gInit) (by decide +kernel)) (fun _ _ _ _ _ => pg_name (i := 2) nd rfl (Or.inr rfl)) (fun _ _ _ _ _ => pts_nil) GC.cl0 trivial (fun _ _ _ _ _ => pv 2)
          (fun _ _ _ _ _ => GC.pe_dcK (own := [("deed", 3)]) (g := gName 3) (tt := tYes) (tk := tVar 3) (tv := tDGet (tDGet (tVar 1) (tVar 2)) (tVar 3)) rfl nd (pi_list (pe_callB (cr_sortD rfl) (by rfl) Z.sorted (by decide +kernel) (pa_cons (pe_dget (hu_of hr) (pv 1) (pv 2) (fun _ _ => rfl)) pa_nil)))
            (blkOk_by (own := [("deed", 3)]) (N := nGInit) (sc := scSt) (by decide +kernel)) (fun _ _ _ _ _ => pg_name (i := 3) nd rfl (Or.inl rfl)) (fun _ _ _ _ _ => pts_nil) GC.cl0 trivial (fun _ _ _ _ _ => pv 3)
            (fun _ _ _ _ _ => pe_dget (hu_of hr) (pe_dget (hu_of hr) (pv 1) (pv 2) (fun _ _ => rfl)) (pv 3) (fun _ _ => rfl)))) rfl)), ?_⟩
    have dfew := ok.dfew
    have asc := ascOf_asc ok.nd
    have pm0 := ascOf_perm sts
    refine ⟨_, rfl, a, sts, as, row, ds, rfl, mv, ok, fun H1 s1 => ⟨_, rfl, iteF ?_⟩⟩
    have mv1 := mv.mono s1
    have dgm : ∀ {H2 : Hp} (x : Str), L2.Same H1 H2 → x ∈ sts → ∃ b, H2 b = some (.dK (dkv (row x))) ∧ DGet H2 a (.str x) (some (.ref b)) := by
      intro H2 x s2 hx
      have mv2 := mv1.mono s2
      obtain ⟨i, hi⟩ := List.mem_iff_getElem?.mp hx
      have hlt := (List.getElem?_eq_some_iff.mp hi).1
      obtain ⟨b, hb⟩ : ∃ b, as[i]? = some b := ⟨_, List.getElem?_eq_getElem (by rw [mv.len]; exact hlt)⟩
      have m : ((Sum.inr x : Key), V.ref b) ∈ (sts.zip as).map fun p => ((Sum.inr p.1 : Key), V.ref p.2) := List.mem_map.mpr ⟨(x, b), List.mem_of_getElem? (List.getElem?_zip_eq_some.mpr ⟨hi, hb⟩), rfl⟩
      have dg := DGet.k (k := Sum.inr x) mv2.at'
      rw [valV_mem (by rw [mv2.keys]; exact inr_nodup ok.nd) m] at dg
      exact ⟨b, mv2.inn i x b hi hb, dg⟩
    dsimp only [tNext, tSeq, sFld]
    refine dcR_list (K := K) (xs := ascOf sts) (fun s => .dK (dkv (row s))) (by rw [pm0.length_eq]; omega) asc.nodup ?_ ?_ ?_
    · intro R hR
      refine ⟨_, rfl, a, _, sts, rfl, .inl mv1.at', mv1.keys, l64, fun ys q pm so hq0 => ?_⟩
      have ey : ys = ascOf sts := (sortedS_asc so (pm.nodup_iff.mpr ok.nd)).eq asc (pm.trans pm0.symm)
      subst ey
      exact hR q _ (Same.new hq0) upd_same
    · intro x H2 R Cn kc hx s2 kR
      have mx : x ∈ sts := pm0.mem_iff.mp hx
      obtain ⟨b, hb, dg⟩ := dgm x s2 mx
      refine at_name (σ' := [some (.ref p), some (.ref a), some (.str x), none]) rfl ⟨rfl, kc _ _ ?_⟩
      refine ⟨_, rfl, ?_⟩
      refine dcS_list (K := K) (xs := ds) (key := fun y => y) (val := fun y => .str (kof (row x) y)) (fun _ H' => L2.Same H2 H') (by omega) ?_ ?_ ?_
      · intro R2 hR2
        refine ⟨_, rfl, _, rfl, a, _, rfl, dg, b, dkv (row x), ds, rfl, .inl hb, by rw [dkv_keys, ok.ks x mx], by omega, fun ys q pm so hq0 => ?_⟩
        have ey : ys = ds := (sortedS_asc so (pm.nodup_iff.mpr ok.asc.nodup)).eq ok.asc pm
        subst ey
        exact hR2 q _ upd_same (Same.new hq0)
      · intro l y H3 H4 R3 Cn3 kc3 hy s3 s4 kR3
        have hy2 : y ∈ keysD (row x) := by rw [ok.ks x mx]; exact hy
        refine at_name (σ' := [some (.ref p), some (.ref a), some (.str x), some (.str y)]) rfl ⟨rfl, kc3 _ _ ?_⟩
        obtain ⟨b2, hb2, dg2⟩ := dgm x (s2.trans (L2.Same.trans s3 s4)) mx
        have dg3 := DGet.k (k := Sum.inr y) hb2
        rw [valV_dkv (by rw [ok.ks x mx]; exact ok.asc.nodup) hy2] at dg3
        exact ⟨_, rfl, _, rfl, _, rfl, a, _, rfl, dg2, _, rfl, b2, _, rfl, dg3, kR3 _ (fun _ _ e => e)⟩
      · intro q l H3 H4 s3 s4 hq0 hq
        rw [mergeK_strs ok.asc.nodup, ← ok.ks x mx, dkv_of (by rw [ok.ks x mx]; exact ok.asc.nodup)] at hq
        exact kR q H4 (L2.Same.trans s3 s4) (L2.Same.free s3 hq0) hq
    · intro q bs H2 s2 hq0 lb nd2 fr hq ob
      have hp2 := s2 _ _ (s1 _ _ hp)
      have npq : q ≠ p := fun e => by rw [e, s1 _ _ hp] at hq0; cases hq0
      have npb : ∀ b ∈ bs, b ≠ p := fun b hb e => by
        have := fr b hb
        rw [e, s1 _ _ hp] at this; cases this
      refine ⟨_, rfl, p, G, dx, [], rfl, hp2, T.cl, T.nM, (by show 0 < 1000; decide), ?_⟩
      refine k _ q bs ⟨upd_same, ⟨(upd_ne npq).trans hq, lb, nd2, fun i s b h1 h2 => (upd_ne (npb b (List.mem_of_getElem? h2))).trans (ob i s b h1 h2)⟩⟩ fun b o e ne => ?_
      rw [upd_ne ne]
      exact s2 _ _ (s1 _ _ e)
end
end KT
set_option Elab.async false
set_option linter.all false
set_option maxRecDepth 100000
set_option maxHeartbeats 4000000
set_option pp.maxSteps 900
namespace KT
open PySem L2 PyProof.Rows DTp TxS DKq
section
variable {K : PySem.W.Frag}
/-- {x: (a new object) for x in dict} -/
theorem dcR_keys {te0 tk tv : TE} {tg iter : Expr} {ifs : List Expr} {g : TG} {vs : List Nat} {σ : L2.St} {H : Hp} {Q : VK} {d : Addr} {kvs : List (Key × V)} {xs : List Str} (O : Str → HO) (hi : ∀ od (R : VK), R (.ref d) (upd H d (.frz od (.dK kvs))) → te0 σ (upd H d (.frz od (.dK kvs))) R) (hd : H d = some (.dK kvs)) (ek : kvs.map (·.1) = xs.map Sum.inr) (few : xs.length ≤ 1000) (ndx : xs.Nodup)
    (step : ∀ x od H2 (R : V → V → Hp → Prop) (Cn : L2.St → Hp → Prop), (∀ σ2 H3, (tk σ2 H3 fun y H4 => tv σ2 H4 fun z H5 => R y z H5) → Cn σ2 H3) → x ∈ xs → L2.Same (upd H d (.frz od (.dK kvs))) H2 → (∀ b H3, L2.Same H2 H3 → H2 b = none → H3 b = some (O x) → R (.str x) (.ref b) H3) → g (.str x) (wipe σ vs) H2 fun σ2 H3 => wipe σ2 vs = wipe σ vs ∧ Cn σ2 H3)
    (k : ∀ q (bs : List Addr) H', L2.Same H H' → H q = none → bs.length = xs.length → (q :: bs).Nodup → (∀ b ∈ bs, H b = none) → H' q = some (.dK ((xs.zip bs).map fun p => ((Sum.inr p.1 : Key), V.ref p.2))) → (∀ (i : Nat) s b, xs[i]? = some s → bs[i]? = some b → H' b = some (O s)) → Q (.ref q) H') :
    tLockE (GC.tCo (fun _ => .dK []) ⟨tg, iter, ifs, iKeys te0, g, tYes, vs⟩ [] (GC.emK tk tv)) σ H Q := by
  have lk : kvs.length = xs.length := by have := congrArg List.length ek; rw [List.length_map, List.length_map] at this; exact this
  refine ⟨d, .dK kvs, hd, trivial, fun od => ?_⟩
  refine hi od _ ⟨d, od, rfl, .inl ⟨kvs, upd_same, fun D hD => ?_⟩⟩
  obtain ⟨H1, eH1⟩ : ∃ H1, H1 = upd H d (.frz od (.dK kvs)) := ⟨_, rfl⟩
  rw [← eH1] at hD ⊢
  have hfd : H1 d = some (.frz od (.dK kvs)) := by rw [eH1]; exact upd_same
  have nDd : D ≠ d := fun e => by rw [e, hfd] at hD; cases hD
  refine GC.lp_it (walk_keys (d := d) (o := od) (kvs := kvs)) (fun n H' => L2.Same H1 H' ∧ ∃ bs : List Addr, bs.length = n ∧ (D :: bs).Nodup ∧ (∀ b ∈ bs, H1 b = none) ∧ H' D = some (.dK (((xs.take n).zip bs).map fun p => ((Sum.inr p.1 : Key), V.ref p.2))) ∧ ∀ (i : Nat) s b, xs[i]? = some s → bs[i]? = some b → H' b = some (O s)) ?_ ?_ ?_ ?_
  · exact ⟨Same.new hD, [], rfl, by simp, by simp, upd_same, by simp⟩
  · rintro i H2 _ ⟨s2, _⟩
    exact s2 _ _ hfd
  · rintro n x H0 H2 hn ⟨s2, bs, lb, nd2, fr, hD2, ob⟩ ⟨rfl, kk, v2, hk, rfl⟩
    rw [lk] at hn
    have hx : (kvs.map (·.1))[n]? = some kk := by rw [List.getElem?_map, hk]; rfl
    rw [ek, List.getElem?_map, List.getElem?_eq_getElem hn] at hx
    obtain rfl : Sum.inr xs[n] = kk := Option.some.inj hx
    obtain ⟨y, hyx⟩ : ∃ y, y = xs[n] := ⟨_, rfl⟩
    have ey : xs[n]? = some y := by rw [hyx]; exact List.getElem?_eq_getElem hn
    rw [← hyx]
    refine step y od _ (fun a z H3 => ∃ (kvs2 : List (Key × V)) (k : Key), a = kV k ∧ H3 D = some (.dK kvs2) ∧ kvs2.length < sizeLine ∧ (L2.Same H1 (upd H3 D (.dK (putK kvs2 k z))) ∧ ∃ bs : List Addr, bs.length = n + 1 ∧ (D :: bs).Nodup ∧ (∀ b ∈ bs, H1 b = none) ∧ (upd H3 D (.dK (putK kvs2 k z))) D = some (.dK (((xs.take (n + 1)).zip bs).map fun p => ((Sum.inr p.1 : Key), V.ref p.2))) ∧ ∀ (i : Nat) s b, xs[i]? = some s → bs[i]? = some b → (upd H3 D (.dK (putK kvs2 k z))) b = some (O s))) _ (fun σ2 H3 hh => hh) (List.mem_of_getElem? ey) (by rw [← eH1]; exact s2) fun b H3 s3 hb0 hb => ?_
    have lz : ((xs.take n).zip bs).length = n := by rw [List.length_zip, List.length_take, lb]; omega
    have nbD : b ≠ D := fun e => by rw [e, hD2] at hb0; cases hb0
    have nDb : ∀ c ∈ bs, c ≠ D := fun c hc e => (List.nodup_cons.mp nd2).1 (e ▸ hc)
    have keys : (((xs.take n).zip bs).map fun p => ((Sum.inr p.1 : Key), V.ref p.2)).map (·.1) = (xs.take n).map Sum.inr := by
      rw [List.map_map]
      have e : ((xs.take n).zip bs).map Prod.fst = xs.take n := List.map_fst_zip (by rw [List.length_take, lb]; omega)
      conv => rhs; rw [← e, List.map_map]
      rfl
    have new : (Sum.inr y : Key) ∉ (((xs.take n).zip bs).map fun p => ((Sum.inr p.1 : Key), V.ref p.2)).map (·.1) := by
      rw [keys]
      intro h
      obtain ⟨z, hz, e⟩ := List.mem_map.mp h
      obtain rfl : z = y := Sum.inr.inj e
      have t := take_next' ey
      have nt : (xs.take (n + 1)).Nodup := List.Pairwise.sublist (List.take_sublist _ _) ndx
      rw [t] at nt
      exact (List.nodup_append.mp nt).2.2 z hz z (List.mem_singleton.mpr rfl) rfl
    refine ⟨_, Sum.inr y, rfl, s3 _ _ hD2, ?_, fun c o e => ?_, bs ++ [b], by rw [List.length_append, lb]; rfl, ?_, ?_, ?_, ?_⟩
    · rw [List.length_map, lz]
      exact small1000 (by omega)
    · rw [upd_ne (ne_of_none e hD)]
      exact s3 _ _ (s2 _ _ e)
    · have nb : b ∉ bs := fun hc => by
        obtain ⟨i, hi⟩ := List.mem_iff_getElem?.mp hc
        have hlt := (List.getElem?_eq_some_iff.mp hi).1
        have := ob i xs[i] b (List.getElem?_eq_getElem (by omega)) hi
        rw [hb0] at this
        cases this
      rw [← List.cons_append]
      exact List.nodup_append.mpr ⟨nd2, by simp, fun c hc d hd e => by
        rw [List.mem_singleton.mp hd] at e
        rcases List.mem_cons.mp hc with h | h
        · exact nbD (e.symm.trans h)
        · exact nb (e ▸ h)⟩
    · intro c hc
      rcases List.mem_append.mp hc with h | h
      · exact fr c h
      · rw [List.mem_singleton.mp h]
        cases e : H1 b with
        | none => rfl
        | some o => rw [s2 _ _ e] at hb0; cases hb0
    · rw [upd_same, putK_new new, take_next' ey, List.zip_append (by rw [List.length_take, lb]; omega), List.map_append]
      rfl
    · intro i s c h1' h2'
      by_cases hi : i < n
      · rw [List.getElem?_append_left (by omega)] at h2'
        rw [upd_ne (nDb c (List.mem_of_getElem? h2'))]
        exact s3 _ _ (ob i s c h1' h2')
      · rw [List.getElem?_append_right (by omega)] at h2'
        have hi2 : i = n := by
          have := (List.getElem?_eq_some_iff.mp h2').1
          rw [List.length_singleton] at this
          omega
        rw [hi2, lb, Nat.sub_self] at h2'
        obtain rfl : b = c := Option.some.inj h2'
        rw [hi2, ey] at h1'
        obtain rfl := Option.some.inj h1'
        rw [upd_ne nbD]
        exact hb
  · rintro H2 ⟨s2, bs, lb, nd2, fr, hD2, ob⟩
    rw [lk] at lb
    rw [lk, List.take_length] at hD2
    have hdl : H2 d = some (.frz od (.dK kvs)) := s2 _ _ hfd
    have ne1 : ∀ b, H1 b = none → b ≠ d := fun b h e => by rw [e, hfd] at h; cases h
    have fr0 : ∀ b, H1 b = none → H b = none := fun b h => by
      have z := ne1 b h
      rw [eH1, upd_ne z] at h
      exact h
    refine ⟨hdl, k D bs _ (fun b o e => ?_) (fr0 D hD) lb nd2 (fun b hb => fr0 b (fr b hb)) ((upd_ne nDd).trans hD2) fun i s b h1 h2 => (upd_ne (ne1 b (fr b (List.mem_of_getElem? h2)))).trans (ob i s b h1 h2)⟩
    by_cases hb : b = d
    · rw [hb] at e ⊢
      rw [hd] at e
      rw [upd_same]; exact e
    · rw [upd_ne hb]
      refine s2 _ _ ?_
      rw [eH1, upd_ne hb]
      exact e
end
section
variable {P : Program} {w : World} {K : PySem.W.Frag} {mg : Str → Option Value} {base : Heap} {C S G : Addr}
def rDictD : List V → Hp → VK → Prop := fun xs H Q => ∃ (a : Addr) (kvs : List (Key × V)), xs = [.ref a] ∧ Rd H a (.dK kvs) ∧ ∀ p, H p = none → Q (.ref p) (upd H p (.dK kvs))
theorem cr_dictD {X : Cx} : CallR X (.type "dict") rDictD := call_dictD
def spGMoves (G : Addr) : Sp := fun vs H Q _ => ∃ (p dx m : Addr) (sts : List Str) (as : List Addr) (row : Str → List (Str × Str)) (ds : List Str), vs = [.ref p] ∧ StoAt G H p dx m sts as row ∧ MvOk sts row ds ∧
  ∀ q bs H', L2.Same H H' → H q = none → (∀ b ∈ bs, H b = none) → MvAt H' q sts bs row → Q (.ref q) H'
abbrev nGMoves : List Str := ["self", "state"]
theorem scGMoves : FnScope nGMoves ["self"] (defScope gMoves) := ⟨rfl, rfl, rfl, by decide +kernel, rfl, by decide +kernel, by decide +kernel⟩
theorem ok_gmoves {g : Addr} {fd : FuncData} (F : Fun K "moves" "Store.moves" gMoves g fd) (T : GTx K mg G) (Z : Blp mg) : FnOk P w K mg base CX0 1 g fd ["self"] (spGMoves G) := by
  refine F.ok scGMoves (fun vs H Q E h => ?_) (fun cdv A outer s H vs Q E hr h => ?_)
  · obtain ⟨p, dx, m, sts, as, row, ds, rfl, _⟩ := h
    rfl
  · obtain ⟨p, dx, m, sts, as, row, ds, rfl, st, ok, k⟩ := h
    have nd := scGMoves.nd
    refine ⟨_, pss_one (ps_ret (pe_lock (GC.pe_dcK (own := [("state", 1)]) (g := gName 1) (tt := tYes) (tk := tVar 1) (tv := tCB rDictD (tCons (tDGet (L2.tFld K (tVar 0) "_moves") (tVar 1)) tNil)) rfl nd (pi_keys (pe_fld (pv 0) rfl)) (blkOk_by (own := [("state", 1)]) (N := nGMoves) (sc := defScope gMoves) (by decide +kernel)) (fun _ _ _ _ _ => pg_name (i := 1) nd rfl (Or.inl rfl)) (fun _ _ _ _ _ => pts_nil) GC.cl0 trivial (fun _ _ _ _ _ => pv 1)
      (fun _ _ _ _ _ => pe_callTy cr_dictD (by rfl) Z.dict (by decide +kernel) (pa_cons (pe_dget (hu_of hr) (pe_fld (pv 0) rfl) (pv 1) (fun _ _ => rfl)) pa_nil))))), ?_⟩
    obtain ⟨kvs, ekv⟩ : ∃ kvs, kvs = (sts.zip as).map fun p => ((Sum.inr p.1 : Key), V.ref p.2) := ⟨_, rfl⟩
    have hm : H m = some (.dK kvs) := by rw [ekv]; exact st.mv.at'
    have keys : kvs.map (·.1) = sts.map Sum.inr := by rw [ekv]; exact st.mv.keys
    have few := ok.few
    have npm : p ≠ m := ne_of st.ob hm (by intro z; cases z)
    refine dcR_keys (xs := sts) (kvs := kvs) (fun s => .dK (dkv (row s))) (fun od R hh => ?_) hm keys (by omega) ok.nd ?_ ?_
    · exact ⟨_, rfl, p, G, dx, _, _, rfl, (upd_ne npm).trans st.ob, T.cl, T.nM, rfl, hh⟩
    · intro x od H2 R Cn kc hx s2 kR
      obtain ⟨i, hi⟩ := List.mem_iff_getElem?.mp hx
      have hlt := (List.getElem?_eq_some_iff.mp hi).1
      obtain ⟨b, hb⟩ : ∃ b, as[i]? = some b := ⟨_, List.getElem?_eq_getElem (by rw [st.mv.len]; exact hlt)⟩
      have nbm : b ≠ m := fun e => (List.nodup_cons.mp st.mv.nda).1 (e ▸ List.mem_of_getElem? hb)
      have hb2 := s2 _ _ ((upd_ne nbm).trans (st.mv.inn i x b hi hb))
      have m1 : ((Sum.inr x : Key), V.ref b) ∈ kvs := by
        rw [ekv]
        exact List.mem_map.mpr ⟨(x, b), List.mem_of_getElem? (List.getElem?_zip_eq_some.mpr ⟨hi, hb⟩), rfl⟩
      have dg : DGet H2 m (.str x) (valV kvs (Sum.inr x)) := .inl ⟨_, Sum.inr x, .inr ⟨od, s2 _ _ upd_same⟩, rfl, rfl⟩
      rw [valV_mem (by rw [keys]; exact inr_nodup ok.nd) m1] at dg
      refine at_name (σ' := [some (.ref p), some (.str x)]) rfl ⟨rfl, kc _ _ ?_⟩
      refine ⟨_, rfl, ?_⟩
      exact ⟨_, rfl, p, G, dx, _, _, rfl, s2 _ _ ((upd_ne npm).trans st.ob), T.cl, T.nM, rfl, _, rfl, m, _, rfl, dg, b, _, rfl, .inl hb2, fun q hq0 => kR q _ (Same.new hq0) hq0 upd_same⟩
    · intro q bs H2 s2 hq0 lb nd2 fr hq ob
      exact k q bs H2 s2 hq0 fr ⟨hq, lb, nd2, ob⟩
end
end KT
set_option Elab.async false
set_option linter.all false
set_option maxRecDepth 100000
set_option maxHeartbeats 4000000
set_option pp.maxSteps 900
namespace KT
open PySem L2 PyProof.Rows DTp TxS DKq
theorem for_zipM {K : PySem.W.Frag} {a b : Addr} {xs ys : List V} {g : TG} {tb : TS} {D : Ends} {σ : L2.St} {H : Hp} (hl : xs.length ≤ ys.length) (Pv : Nat → L2.St → Hp → Prop) (h0 : Pv 0 σ H) (hq : ∀ i σ H, Pv i σ H → SqL K H a xs ∧ SqL K H b ys)
    (hs : ∀ (i : Nat) (x y : V) (T : Addr) (σ : L2.St) (H : Hp), xs[i]? = some x → ys[i]? = some y → Pv i σ H → H T = none → g (.ref T) σ (upd H T (.tup [x, y])) fun σ2 H2 => tb { D with nx := Pv (i + 1), ct := Pv (i + 1), bk := D.nx } σ2 H2) (hd : ∀ σ H, Pv xs.length σ H → D.nx σ H) :
    ∃ W : Nat → Nat → L2.St → Hp → Prop, (∃ m, W 0 m σ H) ∧ ∀ i m σ H, W i m σ H →
      ((Itz K a b).stop i H ∧ D.nx σ H) ∨ ((Itz K a b).go i H ∧ ∃ N : L2.St → Hp → Prop, (∀ σ' H', N σ' H' → ∃ m', m' < m ∧ W (i + 1) m' σ' H') ∧ ∀ v H', (Itz K a b).yld i H v H' → g v σ H' fun σ2 H2 => tb { D with nx := N, ct := N, bk := D.nx } σ2 H2) := by
  refine ⟨fun i m σ H => m = xs.length - i ∧ i ≤ xs.length ∧ Pv i σ H, ⟨xs.length, rfl, Nat.zero_le _, h0⟩, ?_⟩
  rintro i m σ H ⟨rfl, hi, p⟩
  obtain ⟨qx, qy⟩ := hq i σ H p
  by_cases hlt : i < xs.length
  · have hx : xs[i]? = some xs[i] := List.getElem?_eq_getElem hlt
    have hlt2 : i < ys.length := by omega
    have hy : ys[i]? = some ys[i] := List.getElem?_eq_getElem hlt2
    refine .inr ⟨⟨xs, ys, _, _, qx, qy, hx, hy⟩, Pv (i + 1), fun σ' H' p' => ⟨xs.length - (i + 1), by omega, rfl, hlt, p'⟩, fun v H' y => ?_⟩
    obtain ⟨T, x', y', rfl, hT, rfl, f1, f2⟩ := y
    exact hs i x' y' T σ H (f1 xs qx) (f2 ys qy) p hT
  · have e : i = xs.length := by omega
    subst e
    exact .inl ⟨⟨xs, ys, qx, qy, Or.inl (Nat.le_refl _)⟩, hd σ H p⟩
theorem cut_but2 (xs : List V) (h : 2 ≤ xs.length) : cutV xs none (some (-2)) = xs.take (xs.length - 2) := by
  unfold cutV
  have e1 : HT.sIx xs.length 0 none = 0 := rfl
  have e2 : HT.sIx xs.length xs.length (some (-2)) = xs.length - 2 := by
    unfold HT.sIx
    simp
    omega
  rw [e1, e2, List.drop_zero, Nat.sub_zero]
theorem cws_len (n : Nat) (h : n ≤ 700) : (cws n).length = n := by
  have e : (cw1 ++ nextL cw1).length = 702 := by rw [List.length_append, nextL_len, cw1_len]
  unfold cws
  rw [List.length_take, e]; omega
theorem cws_nd64 : (cws 64).Nodup := by decide +kernel
theorem cws_wd64 : ∀ x ∈ cws 64, Wd x := by unfold Wd; decide +kernel
theorem cws_take {n m : Nat} (h : n ≤ m) : cws n = (cws m).take n := by
  unfold cws
  rw [List.take_take, Nat.min_eq_left h]
theorem cws_nd {n : Nat} (h : n ≤ 64) : (cws n).Nodup := by
  rw [cws_take h]
  exact List.Pairwise.sublist (List.take_sublist _ _) cws_nd64
theorem cws_wd {n : Nat} (h : n ≤ 64) : ∀ x ∈ cws n, Wd x := by
  rw [cws_take h]
  exact fun x hx => cws_wd64 x (List.mem_of_mem_take hx)
/-- the state at a place -/
def stW (i : Nat) : Str := ((cws 64)[i]?).getD ⟨#[]⟩
theorem stW_get {n i : Nat} (h : n ≤ 64) (hi : i < n) : (cws n)[i]? = some (stW i) := by
  rw [cws_take h, List.getElem?_take, if_pos hi]
  unfold stW
  rw [List.getElem?_eq_getElem (by rw [cws_len 64 (by decide)]; omega)]
  rfl
theorem cws_succ {m : Nat} (h : m + 1 ≤ 64) : cws (m + 1) = cws m ++ [stW m] := by
  have e := take_next' (stW_get h (Nat.lt_succ_self m))
  rw [← cws_take (Nat.le_succ m), List.take_of_length_le (by rw [cws_len _ (by omega)]; exact Nat.le_refl _)] at e
  exact e
/-- where the counting deed leads to behind i rounds -/
def cNext (n i : Nat) (s : Str) : Str := if (cws (n + 2)).idxOf s < i then stW ((cws (n + 2)).idxOf s + 1) else stW (n + 1)
def cRow (ds : List Str) (dd : Str) (n i : Nat) (s : Str) : List (Str × Str) := ds.map fun o => (o, if o = dd then cNext n i s else stW (n + 1))
theorem cRow_keys (ds : List Str) (dd : Str) (n i : Nat) (s : Str) : keysD (cRow ds dd n i s) = ds := by
  unfold keysD cRow
  rw [List.map_map]
  exact List.map_id _
theorem cRow_zero (ds : List Str) (dd : Str) (n : Nat) (s : Str) : cRow ds dd n 0 s = ds.map fun o => (o, stW (n + 1)) := by
  unfold cRow
  refine List.map_congr_left fun o _ => ?_
  unfold cNext
  rw [if_neg (Nat.not_lt_zero _)]
  split <;> rfl
theorem idx_at {L : List Str} (nd : L.Nodup) {i : Nat} {s : Str} (h : L[i]? = some s) : L.idxOf s = i := by
  obtain ⟨hi, e⟩ := List.getElem?_eq_some_iff.mp h
  subst e
  exact nd.idxOf_getElem i hi
theorem cNext_at {n i : Nat} (h : n + 2 ≤ 64) (hi : i < n) {s : Str} (hs : (cws (n + 2))[i]? = some s) : cNext n (i + 1) s = stW (i + 1) := by
  unfold cNext
  rw [idx_at (cws_nd h) hs, if_pos (Nat.lt_succ_self _)]
theorem cNext_off {n i j : Nat} (h : n + 2 ≤ 64) {s : Str} (hs : (cws (n + 2))[j]? = some s) (ne : j ≠ i) : cNext n (i + 1) s = cNext n i s := by
  unfold cNext
  rw [idx_at (cws_nd h) hs]
  by_cases z : j < i
  · rw [if_pos z, if_pos (by omega)]
  · rw [if_neg z, if_neg (by omega)]
theorem cRow_off {ds : List Str} {dd : Str} {n i j : Nat} (h : n + 2 ≤ 64) {s : Str} (hs : (cws (n + 2))[j]? = some s) (ne : j ≠ i) : cRow ds dd n (i + 1) s = cRow ds dd n i s := by
  unfold cRow
  rw [cNext_off h hs ne]
theorem putK_dkv {dl : List (Str × Str)} {x y : Str} (h : x ∈ keysD dl) : putK (dkv dl) (Sum.inr x) (.str y) = dkv (dl.map fun p => if p.1 = x then (p.1, y) else p) := by
  unfold putK
  have e : ((dkv dl).any fun kv => decide (kv.1 = Sum.inr x)) = true := by
    obtain ⟨p, hp, rfl⟩ := List.mem_map.mp h
    exact List.any_eq_true.mpr ⟨(Sum.inr p.1, V.str p.2), List.mem_map.mpr ⟨p, hp, rfl⟩, decide_eq_true rfl⟩
  rw [if_pos e]
  unfold dkv
  rw [List.map_map, List.map_map]
  refine List.map_congr_left fun p _ => ?_
  show (if (Sum.inr p.1 : Key) = Sum.inr x then ((Sum.inr p.1 : Key), V.str y) else (Sum.inr p.1, V.str p.2)) = (Sum.inr (if p.1 = x then (p.1, y) else p).1, V.str (if p.1 = x then (p.1, y) else p).2)
  by_cases z : p.1 = x
  · rw [if_pos (congrArg Sum.inr z), if_pos z]
  · rw [if_neg (fun e => z (Sum.inr.inj e)), if_neg z]
theorem cRow_put {ds : List Str} {dd : Str} {n i : Nat} (h : n + 2 ≤ 64) (hi : i < n) (hd : dd ∈ ds) {s : Str} (hs : (cws (n + 2))[i]? = some s) : putK (dkv (cRow ds dd n i s)) (Sum.inr dd) (.str (stW (i + 1))) = dkv (cRow ds dd n (i + 1) s) := by
  rw [putK_dkv (by rw [cRow_keys]; exact hd)]
  congr 1
  unfold cRow
  rw [List.map_map]
  refine List.map_congr_left fun o _ => ?_
  show (if o = dd then (o, stW (i + 1)) else (o, if o = dd then cNext n i s else stW (n + 1))) = _
  rw [cNext_at h hi hs]
  by_cases z : o = dd
  · rw [if_pos z, if_pos z]
  · rw [if_neg z, if_neg z, if_neg z]
theorem stW_mem {n i : Nat} (h : n ≤ 64) (hi : i < n) : stW i ∈ cws n := List.mem_of_getElem? (stW_get h hi)
theorem cRow_ok {ws : List Str} {dl : List (Str × Str)} {dd : Str} {n : Nat} (ok : DlOk ws dl) (asc : Asc (keysD dl)) (ne : keysD dl ≠ []) (h : n + 2 < 64) : MvOk (cws (n + 2)) (cRow (keysD dl) dd n n) (keysD dl) where
  ne := fun e => by have := cws_len (n + 2) (by omega); rw [e] at this; simp at this
  few := by rw [cws_len _ (by omega)]; omega
  wd := cws_wd (by omega)
  nd := cws_nd (by omega)
  ks := fun s _ => cRow_keys _ _ _ _ s
  dne := ne
  dfew := by rw [keysD_len]; have := ok.few; omega
  dwd := ok.wd
  asc := asc
  vs := fun s _ p hp => by
    obtain ⟨o, _, rfl⟩ := List.mem_map.mp hp
    have e1 : stW (n + 1) ∈ cws (n + 2) := stW_mem (by omega) (by omega)
    show (if o = dd then cNext n n s else stW (n + 1)) ∈ _
    split
    · unfold cNext
      split
      · rename_i z
        exact stW_mem (by omega) (by omega)
      · exact e1
    · exact e1
structure GMk (P : Program) (w : World) (K : PySem.W.Frag) (mg : Str → Option Value) (base : Heap) (G : Addr) : Prop where
  ex : ∃ (f : Addr) (fd : FuncData), Mk K G f ∧ FnOk P w K mg base CX0 4 f fd ["self", "moves"] (spGInit G) ∧ Binds K fd ["self", "moves"] []
section
variable {X : Cx} {j : Nat} {p pos : Pos} {e : Expr} {es : List Expr} {t : TA} {G : Addr}
theorem pe_store (M : GMk X.prog X.w X.K X.mg X.base G) (hm : X.mg "Store" = some (.ref G)) (hr : Room j X.A) (hg : Gl X "Store") (ha : PA X (e :: es) t) (hkj : 5 ≤ j := by decide)
    (he : starEach (e :: es) X.env = (false, eval e X.env) :: starEach es X.env := by rfl) (hpl : (backTo pos (starEach es X.env)).any (·.1) = false := by rfl) :
    PE X (.Call (.Name "Store" p) (e :: es) [] pos) (tMake G (spGInit G) [] E0 t) := by
  obtain ⟨f, fd, h1, h2, h3⟩ := M.ex
  exact pe_make h1 h2 (hr.mono hkj) hg hm h3 .nil pass0 ha (by decide) he hpl
end
theorem mk_store {G : Addr} {H : Hp} {Q : VK} {a : Addr} {sts : List Str} {as : List Addr} {row : Str → List (Str × Str)} {ds : List Str} (mv : MvAt H a sts as row) (ok : MvOk sts row ds) (l64 : sts.length < 64)
    (k : ∀ x dx m bs H', StoAt G H' x dx m (ascOf sts) bs row → H x = none → L2.Same H H' → Q (.ref x) H') : ∀ x dx, H x = none → H dx = none → dx ≠ x → spGInit G (.ref x :: ([.ref a] ++ [])) (upd (upd H dx (.own x)) x (.ins G dx [])) (fun v H2 => v = .non ∧ Q (.ref x) H2) E0 := by
  intro x dx hx hdx ne
  have s2 : L2.Same H (upd (upd H dx (.own x)) x (.ins G dx [])) := fun b o e => (upd_ne (ne_of_none e hx)).trans ((upd_ne (ne_of_none e hdx)).trans e)
  refine ⟨x, dx, a, sts, as, row, ds, rfl, upd_same, mv.mono s2, ok, l64, fun H' m bs st keep => ⟨rfl, k x dx m bs H' st hx fun b o e => keep b o (s2 b o e) (ne_of_none e hx)⟩⟩
section
variable {P : Program} {w : World} {K : PySem.W.Frag} {mg : Str → Option Value} {base : Heap} {C S G : Addr}
def spCntStore (S C G : Addr) : Sp := fun vs H Q _ => ∃ (A : SA) (ws : List Str) (f : Str → Str → Str) (dl : List (Str × Str)) (tw : List Str) (dd : Str) (n : Nat), vs = [.ref A.q, .str dd, .int (n : Nat)] ∧ StIn S C H A ws f dl tw ∧ dd ∈ cntD ws f dl tw ∧ n + 2 < 64 ∧
  ∀ x dx m bs H', StoAt G H' x dx m (ascOf (cws (n + 2))) bs (cRow (keysD dl) dd n n) → L2.Same H H' → Q (.ref x) H'
abbrev nCS : List Str := ["setting", "deed", "number", "deeds", "states", "end", "state", "moves", "following", "other"]
theorem scCS : FnScope nCS ["setting", "deed", "number"] (defScope pCntStore) := ⟨rfl, rfl, rfl, by decide +kernel, rfl, by decide +kernel, by decide +kernel⟩
abbrev scCs : Scope := { kind := .function, names := [(".0", .local), ("state", .local), ("deeds", .cell), ("end", .cell)], isGenerator := false, isCoroutine := false }
structure CsC (P : Program) (w : World) (K : PySem.W.Frag) (mg : Str → Option Value) (base : Heap) (S C G : Addr) : Prop where
  cnt : Cee P w K mg base 2 "check_count" ["number", "least"] spCheckCnt
  cdd : Cee P w K mg base 7 "counting_deeds" ["setting"] (spCntD S C)
  wds : Cee P w K mg base 1 "counting_words" ["many"] spCntWords
  gmk : GMk P w K mg base G
theorem ok_cntStore {g : Addr} {fd : FuncData} (F : Fun K "counting_store" "counting_store" pCntStore g fd) (TS : STx K mg S) (T : GTx K mg G) (Z : Blp mg) (hz : mg "zip" = none) (M : EndC P w K mg base S C) (N : CsC P w K mg base S C G) : FnOk P w K mg base CX0 8 g fd ["setting", "deed", "number"] (spCntStore S C G) := by
  refine F.ok scCS (fun vs H Q E h => ?_) (fun cdv A outer s H vs Q E hr h => ?_)
  · obtain ⟨A, ws, f, dl, tw, dd, n, rfl, _⟩ := h
    rfl
  · obtain ⟨A0, ws, f, dl, tw, dd, n, rfl, st, mdd, n64, k⟩ := h
    have nd := scCS.nd
    refine ⟨_, pss_cons (ps_expr (pe_c M.cs hr rfl (pa_cons (pv 0) pa_nil)))
      (pss_cons (ps_set (i := 3) nd rfl (Or.inr rfl) (pe_callTy (call_listD rfl) (by rfl) Z.list (by decide +kernel) (pa_cons (pe_m0 M.ded TS.cl hr (pv 0)) pa_nil)))
      (pss_cons (ps_if (pt_cmpR op_notIn_seq (pv 1) (pv 3) (by rfl)) (pss_one ps_never) pss_nil)
      (pss_cons (ps_expr (pe_c N.cnt hr rfl (pa_cons (pv 2) (pa_cons pe_int pa_nil))))
      (pss_cons (ps_if (pt_cmpR op_notIn_seq (pv 1) (pe_c N.cdd hr rfl (pa_cons (pv 0) pa_nil)) (by rfl)) (pss_one ps_never) pss_nil)
      (pss_cons (ps_set (i := 4) nd rfl (Or.inl rfl) (pe_c N.wds hr rfl (pa_cons (pe_op op_add (pv 2) pe_int) pa_nil)))
      (pss_cons (ps_set (i := 5) nd rfl (Or.inr rfl) (pe_ix ix_list (pv 4) (pe_un un_neg pe_int) (fun _ _ => rfl)))
      (pss_cons (GC.ps_setDcK (i := 7) (own := [("state", 6)]) (g := gName 6) (tt := tYes) (tk := tVar 6) (tv := GC.tCo (fun _ => .dK []) ⟨_, _, [], iList K (tVar 3), gName 9, tYes, [9]⟩ [] (GC.emK (tVar 9) (tVar 5))) rfl nd rfl rfl (GC.sw_trueD rfl rfl rfl (by decide +kernel)) (pi_list (pv 4))
          (blkOk_by (own := [("state", 6)]) (N := nCS) (sc := defScope pCntStore) (by decide +kernel)) (fun _ _ _ _ _ => pg_name (i := 6) nd rfl (Or.inl rfl)) (fun _ _ _ _ _ => pts_nil) (fun _ _ _ _ _ => pv 6)
          (fun _ _ _ _ _ => GC.pe_dcK (own := [("other", 9)]) (g := gName 9) (tt := tYes) (tk := tVar 9) (tv := tVar 5) rfl nd (pi_list (pv 3))
            (blkOk_by (own := [("other", 9)]) (N := nCS) (sc := scCs) (by decide +kernel)) (fun _ _ _ _ _ => pg_name (i := 9) nd rfl (Or.inl rfl)) (fun _ _ _ _ _ => pts_nil) GC.cl0 trivial (fun _ _ _ _ _ => pv 9) (fun _ _ _ _ _ => pv 5)))
      (pss_cons (ps_for PassesOwn.never rfl (pi_zip (by rfl) hz (pa_cons (pe_slice sl_list (pv 4) po_none (po_some (pe_un un_neg pe_int))) (pa_cons (pe_slice sl_list (pv 4) (po_some pe_int) po_none) pa_nil)))
          (pg_tup rfl (pgs_cons (pg_name (i := 6) nd rfl (Or.inl rfl)) (pgs_cons (pg_name (i := 8) nd rfl (Or.inl rfl)) pgs_nil)))
          (pss_one (ps_dput (hu_of hr) (pe_dget (hu_of hr) (pv 7) (pv 6) (fun _ _ => rfl)) (pv 1) (pv 8) rfl)))
      (pss_one (ps_ret (pe_store N.gmk T.mgG hr rfl (pa_cons (pv 7) pa_nil)))))))))))), ?_⟩
    have kw := st.kin.kw
    have mds : dd ∈ keysD dl := (List.mem_filter.mp mdd).1
    have dne : keysD dl ≠ [] := fun e => by rw [e] at mds; cases mds
    have lS : (cws (n + 2)).length = n + 2 := cws_len _ (by omega)
    have ldl : (keysD dl).length ≤ 8 := by rw [keysD_len]; exact st.ok.few
    refine ⟨_, rfl, A0, ws, f, dl, tw, rfl, st, ?_⟩
    refine ⟨_, rfl, A0.q, A0.dx, _, rfl, st.ob, sflds_no _ _ _ (by decide +kernel) (by decide +kernel) (by decide +kernel), A0, ws, f, dl, tw, rfl, st, fun d H1 s1 hd0 hd => ?_⟩
    refine ⟨d, dkv dl, rfl, .inl hd, fun dq hdq0 => ?_⟩
    have ek : (dkv dl).map (fun kv => kV kv.1) = (keysD dl).map V.str := by
      unfold dkv keysD
      rw [List.map_map, List.map_map]; rfl
    rw [ek]
    have s2 := Same.new (H := H1) (o := .lst ((keysD dl).map V.str)) hdq0
    have hdq : upd H1 dq (.lst ((keysD dl).map V.str)) dq = _ := upd_same
    generalize upd H1 dq (.lst ((keysD dl).map V.str)) = H2 at s2 hdq ⊢
    have s02 := s1.trans s2
    have st2 := st.mono s02
    refine at_name (σ' := [some (.ref A0.q), some (.str dd), some (.int (n : Nat)), some (.ref dq), none, none, none, none, none, none]) rfl ?_
    refine ⟨_, rfl, _, rfl, dq, _, rfl, .inl (SqL.of hdq), rfl, flat_strs _, _, rfl, ?_⟩
    rw [inV_strs, decide_eq_true mds]
    refine iteF ?_
    refine ⟨_, rfl, n, rfl, ?_⟩
    refine ⟨_, rfl, _, rfl, A0, ws, f, dl, tw, rfl, st2, fun cq H3 s3 hcq0 hcq => ?_⟩
    refine ⟨cq, _, rfl, .inl (SqL.of hcq), rfl, flat_strs _, _, rfl, ?_⟩
    rw [inV_strs, decide_eq_true mdd]
    refine iteF ?_
    refine ⟨_, rfl, _, _, rfl, rfl, n + 2, rfl, by omega, fun sq H4 s4 hsq0 hsq => ?_⟩
    refine at_name (σ' := [some (.ref A0.q), some (.str dd), some (.int (n : Nat)), some (.ref dq), some (.ref sq), none, none, none, none, none]) rfl ?_
    have hdq4 := s4 _ _ (s3 _ _ hdq)
    have s04 := s02.trans (s3.trans s4)
    refine ⟨_, rfl, 1, rfl, sq, _, -1, .str (stW (n + 1)), rfl, rfl, SqL.of hsq, ?_, ?_⟩
    · rw [cws_succ (by omega), List.map_append]
      exact atI_last _ _
    refine at_name (σ' := [some (.ref A0.q), some (.str dd), some (.int (n : Nat)), some (.ref dq), some (.ref sq), some (.str (stW (n + 1))), none, none, none, none]) rfl ?_
    dsimp only [tNext, tSeq, tAsg]
    refine dcR_list (K := K) (xs := cws (n + 2)) (fun _ => .dK (dkv ((keysD dl).map fun o => (o, stW (n + 1))))) (by rw [lS]; omega) (cws_nd (by omega)) ?_ ?_ ?_
    · intro R hR
      exact ⟨_, rfl, hR sq H4 (fun _ _ e => e) hsq⟩
    · intro x H5 R Cn kc hx s5 kR
      refine at_name (σ' := [some (.ref A0.q), some (.str dd), some (.int (n : Nat)), some (.ref dq), some (.ref sq), some (.str (stW (n + 1))), some (.str x), none, none, none]) rfl ⟨rfl, kc _ _ ?_⟩
      refine ⟨_, rfl, ?_⟩
      refine dcS_list (K := K) (xs := keysD dl) (key := fun y => y) (val := fun _ => .str (stW (n + 1))) (fun _ H' => L2.Same H5 H') (by omega) ?_ ?_ ?_
      · intro R2 hR2
        exact ⟨_, rfl, hR2 dq H5 (s5 _ _ hdq4) (fun _ _ e => e)⟩
      · intro l y H6 H7 R3 Cn3 kc3 hy s6 s7 kR3
        refine at_name (σ' := [some (.ref A0.q), some (.str dd), some (.int (n : Nat)), some (.ref dq), some (.ref sq), some (.str (stW (n + 1))), some (.str x), none, none, some (.str y)]) rfl ⟨rfl, kc3 _ _ ?_⟩
        exact ⟨_, rfl, _, rfl, kR3 _ (fun _ _ e => e)⟩
      · intro q l H6 H7 s6 s7 hq0 hq
        rw [mergeK_strs st.asc.nodup] at hq
        refine kR q H7 (L2.Same.trans s6 s7) (L2.Same.free s6 hq0) ?_
        rw [hq]
        unfold dkv
        rw [List.map_map]; rfl
    intro q bs H5 s5 hq0 lb nd2 fr hq ob
    have mv5 : MvAt H5 q (cws (n + 2)) bs (cRow (keysD dl) dd n 0) := ⟨hq, lb, nd2, fun i s b h1 h2 => by rw [cRow_zero]; exact ob i s b h1 h2⟩
    clear hq ob
    refine at_name (σ' := [some (.ref A0.q), some (.str dd), some (.int (n : Nat)), some (.ref dq), some (.ref sq), some (.str (stW (n + 1))), none, some (.ref q), none, none]) rfl ?_
    have hsq5 := s5 _ _ hsq
    refine ⟨_, rfl, 2, rfl, -2, rfl, sq, _, rfl, SqL.of hsq5, fun l1 hl10 => ?_⟩
    rw [cut_but2 _ (by rw [List.length_map, lS]; omega), List.length_map, lS, Nat.add_sub_cancel, ← List.map_take]
    have s6 := Same.new (H := H5) (o := .lst (((cws (n + 2)).take n).map V.str)) hl10
    have hl1 : upd H5 l1 (.lst (((cws (n + 2)).take n).map V.str)) l1 = _ := upd_same
    generalize upd H5 l1 (.lst (((cws (n + 2)).take n).map V.str)) = H6 at s6 hl1 ⊢
    refine ⟨_, rfl, _, rfl, sq, _, rfl, SqL.of (s6 _ _ hsq5), fun l2 hl20 => ?_⟩
    rw [cut_tail', ← List.map_drop]
    have s7 := Same.new (H := H6) (o := .lst (((cws (n + 2)).drop 1).map V.str)) hl20
    have hl2 : upd H6 l2 (.lst (((cws (n + 2)).drop 1).map V.str)) l2 = _ := upd_same
    generalize upd H6 l2 (.lst (((cws (n + 2)).drop 1).map V.str)) = H7 at s7 hl2 ⊢
    have hl1 := s7 _ _ hl1
    have mv7 := (mv5.mono s6).mono s7
    refine ⟨l1, l2, _, _, rfl, SqL.of hl1, SqL.of hl2, ?_⟩
    have s07 := s04.trans (s5.trans (s6.trans s7))
    have fr0 : ∀ b ∈ bs, H b = none := fun b hb => s04.free (fr b hb)
    refine for_zipM (xs := ((cws (n + 2)).take n).map V.str) (ys := ((cws (n + 2)).drop 1).map V.str) (by rw [List.length_map, List.length_map, List.length_take, List.length_drop, lS]; omega) (fun i σ H' => ∃ x6 x8, σ = [some (.ref A0.q), some (.str dd), some (.int (n : Nat)), some (.ref dq), some (.ref sq), some (.str (stW (n + 1))), x6, some (.ref q), x8, none] ∧ L2.Same H H' ∧ MvAt H' q (cws (n + 2)) bs (cRow (keysD dl) dd n i) ∧ H' l1 = some (.lst (((cws (n + 2)).take n).map V.str)) ∧ H' l2 = some (.lst (((cws (n + 2)).drop 1).map V.str))) ?_ ?_ ?_ ?_
    · exact ⟨_, _, rfl, s07, mv7, hl1, hl2⟩
    · rintro i σ H' ⟨_, _, _, _, _, h1, h2⟩
      exact ⟨SqL.of h1, SqL.of h2⟩
    · rintro i x y T σ H8 hx hy ⟨x6, x8, rfl, s8, mv8, hl18, hl28⟩ hT
      obtain ⟨s, es, rfl⟩ := str_get hx
      obtain ⟨z, ez, rfl⟩ := str_get hy
      rw [List.getElem?_take] at es
      split at es
      case isFalse => cases es
      rename_i hi
      rw [List.getElem?_drop] at ez
      rw [show 1 + i = i + 1 from Nat.add_comm 1 i, stW_get (by omega) (by omega)] at ez
      obtain rfl := Option.some.inj ez
      have sT := Same.new (H := H8) (o := .tup [.str s, .str (stW (i + 1))]) hT
      have hT2 : upd H8 T (.tup [.str s, .str (stW (i + 1))]) T = _ := upd_same
      generalize upd H8 T (.tup [.str s, .str (stW (i + 1))]) = H9 at sT hT2 ⊢
      have mv9 := mv8.mono sT
      refine ⟨T, _, rfl, SqT.of hT2, rfl, _, _, rfl, ?_⟩
      refine at_name (σ' := [some (.ref A0.q), some (.str dd), some (.int (n : Nat)), some (.ref dq), some (.ref sq), some (.str (stW (n + 1))), some (.str s), some (.ref q), x8, none]) rfl ?_
      refine ⟨_, _, rfl, ?_⟩
      refine at_name (σ' := [some (.ref A0.q), some (.str dd), some (.int (n : Nat)), some (.ref dq), some (.ref sq), some (.str (stW (n + 1))), some (.str s), some (.ref q), some (.str (stW (i + 1))), none]) rfl ?_
      refine ⟨rfl, ?_⟩
      obtain ⟨b, hb⟩ : ∃ b, bs[i]? = some b := ⟨_, List.getElem?_eq_getElem (by rw [lb, lS]; omega)⟩
      have mem : ((Sum.inr s : Key), V.ref b) ∈ ((cws (n + 2)).zip bs).map fun p => ((Sum.inr p.1 : Key), V.ref p.2) := List.mem_map.mpr ⟨(s, b), List.mem_of_getElem? (List.getElem?_zip_eq_some.mpr ⟨es, hb⟩), rfl⟩
      have dg := DGet.k (k := Sum.inr s) mv9.at'
      rw [valV_mem (by rw [mv9.keys]; exact inr_nodup (cws_nd (by omega))) mem] at dg
      have hbv := mv9.inn i s b es hb
      refine ⟨_, rfl, _, rfl, _, rfl, q, .ref b, rfl, dg, _, rfl, b, _, rfl, DPut.k (k := Sum.inr dd) hbv (by unfold dkv cRow; rw [List.length_map, List.length_map, sizeLine_eq]; omega), ?_⟩
      rw [cRow_put (by omega) hi mds es]
      have mb := List.mem_of_getElem? hb
      have nqb : q ≠ b := fun e => (List.nodup_cons.mp nd2).1 (e ▸ mb)
      have n1b : l1 ≠ b := ne_of (sT _ _ hl18) hbv (fun z => nomatch z)
      have n2b : l2 ≠ b := ne_of (sT _ _ hl28) hbv (fun z => nomatch z)
      refine ⟨_, _, rfl, fun c o e => (upd_ne (ne_of_none e (fr0 b mb))).trans (sT _ _ (s8 _ _ e)), ⟨(upd_ne nqb).trans mv9.at', lb, nd2, fun j s2 b2 h1 h2 => ?_⟩, (upd_ne n1b).trans (sT _ _ hl18), (upd_ne n2b).trans (sT _ _ hl28)⟩
      by_cases hj : j = i
      · subst hj
        rw [es] at h1
        obtain rfl := Option.some.inj h1
        rw [hb] at h2
        obtain rfl := Option.some.inj h2
        exact upd_same
      · have nb : b2 ≠ b := fun e => by
          rw [e] at h2
          exact hj ((List.getElem?_inj (List.getElem?_eq_some_iff.mp h2).1 (List.nodup_cons.mp nd2).2).mp (h2.trans hb.symm))
        rw [upd_ne nb, cRow_off (by omega) h1 hj]
        exact mv9.inn j s2 b2 h1 h2
    · rintro σ H8 ⟨x6, x8, rfl, s8, mv8, _, _⟩
      rw [List.length_map, List.length_take, lS, Nat.min_eq_left (by omega)] at mv8
      exact ⟨_, rfl, mk_store mv8 (cRow_ok st.ok st.asc dne n64) (by rw [lS]; exact n64) fun x dx m bs2 H9 st9 hx0 s9 => k x dx m bs2 H9 st9 (s8.trans s9)⟩
end
end KT
set_option Elab.async false
set_option linter.all false
set_option maxRecDepth 100000
set_option maxHeartbeats 4000000
set_option pp.maxSteps 900
namespace KT
open PySem L2 PyProof.Rows DTp TxS DKq
/-- the inner dicts of moves -/
structure MvIn (H : Hp) (sts : List Str) (as : List Addr) (row : Str → List (Str × Str)) : Prop where
  len : as.length = sts.length
  inn : ∀ (i : Nat) (s : Str) (b : Addr), sts[i]? = some s → as[i]? = some b → H b = some (.dK (dkv (row s)))
theorem MvIn.mono {H H' : Hp} {sts : List Str} {as : List Addr} {row : Str → List (Str × Str)} (m : MvIn H sts as row) (s : L2.Same H H') : MvIn H' sts as row := ⟨m.len, fun i x b h1 h2 => s _ _ (m.inn i x b h1 h2)⟩
theorem MvAt.get {H : Hp} {a : Addr} {sts : List Str} {as : List Addr} {row : Str → List (Str × Str)} {i : Nat} {kk : Key} {v : V} (h : ((sts.zip as).map fun p => ((Sum.inr p.1 : Key), V.ref p.2))[i]? = some (kk, v)) : ∃ s b, sts[i]? = some s ∧ as[i]? = some b ∧ kk = Sum.inr s ∧ v = .ref b := by
  rw [List.getElem?_map] at h
  cases e : (sts.zip as)[i]? with
  | none => rw [e] at h; cases h
  | some p =>
    rw [e] at h
    have h := Option.some.inj h
    obtain ⟨h1, h2⟩ := List.getElem?_zip_eq_some.mp e
    exact ⟨p.1, p.2, h1, h2, (congrArg Prod.fst h).symm, (congrArg Prod.snd h).symm⟩
theorem MvAt.val {H : Hp} {a : Addr} {sts : List Str} {as : List Addr} {row : Str → List (Str × Str)} (m : MvAt H a sts as row) (nd : sts.Nodup) {i : Nat} {s : Str} {b : Addr} (hs : sts[i]? = some s) (hb : as[i]? = some b) : valV ((sts.zip as).map fun p => ((Sum.inr p.1 : Key), V.ref p.2)) (Sum.inr s) = some (.ref b) :=
  valV_mem (by rw [m.keys]; exact inr_nodup nd) (List.mem_map.mpr ⟨(s, b), List.mem_of_getElem? (List.getElem?_zip_eq_some.mpr ⟨hs, hb⟩), rfl⟩)
end KT
set_option Elab.async false
set_option linter.all false
set_option maxRecDepth 100000
set_option maxHeartbeats 4000000
set_option pp.maxSteps 900
namespace KT
open PySem L2 PyProof.Rows DTp TxS DKq
section
variable {P : Program} {w : World} {K : PySem.W.Frag} {mg : Str → Option Value} {base : Heap} {C S : Addr}
def spClosed : Sp := fun vs H Q _ => ∃ (s td dd tl : Addr) (ws : List Str) (f : Str → Str → Str) (dl : List (Str × Str)) (tw : List Str), vs = [.ref s] ∧ SetAt H s td dd tl ws f dl tw ∧ ∀ q t2 H', L2.Same H H' → H q = none → SetAt H' q td dd t2 ws f dl (sqs ws f) → Q (.ref q) H'
theorem scClosed : FnScope ["_law_setting_here"] ["_law_setting_here"] (defScope sClosed) := ⟨rfl, rfl, rfl, by decide +kernel, rfl, by decide +kernel, by decide +kernel⟩
theorem ok_closed {g : Addr} {fd : FuncData} (F : Fun K "_law_closed" "_law_closed" sClosed g fd) (M : Cee P w K mg base 2 "_law_squares" ["_law_table_here"] spSquares) : FnOk P w K mg base CX0 3 g fd ["_law_setting_here"] spClosed := by
  refine F.ok scClosed (fun vs H Q E h => ?_) (fun cdv A outer s H vs Q E hr h => ?_)
  · obtain ⟨s, td, dd, tl, ws, f, dl, tw, rfl, _⟩ := h
    rfl
  · obtain ⟨s0, td, dd, tl, ws, f, dl, tw, rfl, se, k⟩ := h
    refine ⟨_, pss_one (ps_ret (pe_lst (pa_cons (pe_ix ix_list (pv 0) pe_int (fun _ _ => rfl)) (pa_cons (pe_ix ix_list (pv 0) pe_int (fun _ _ => rfl)) (pa_cons (pe_c M hr rfl (pa_cons (pe_ix ix_list (pv 0) pe_int (fun _ _ => rfl)) pa_nil)) pa_nil))))), ?_⟩
    refine ⟨_, rfl, s0, _, 0, _, rfl, rfl, SqL.of se.hs, atI_nat (j := 0) rfl, _, rfl, s0, _, 1, _, rfl, rfl, SqL.of se.hs, atI_nat (j := 1) rfl, _, rfl, s0, _, 0, _, rfl, rfl, SqL.of se.hs, atI_nat (j := 0) rfl, td, ws, f, rfl, se.ht, se.kw, fun t2 H1 s1 ht20 ht2 => ?_⟩
    refine ⟨(by show 3 ≤ sizeLine; decide), fun q hq => ?_⟩
    have s2 := Same.new (H := H1) (o := .lst [.ref td, .ref dd, .ref t2]) hq
    have se2 := (se.mono s1).mono s2
    exact k q t2 _ (s1.trans s2) (s1.free hq) ⟨upd_same, se2.ht, se2.hd, s2 _ _ ht2, se.kw, se.ok, se.asc, sqs_tok se.kw⟩
/-- the states and deeds fit -/
structure MvFit (sts : List Str) (row : Str → List (Str × Str)) (ds : List Str) : Prop where
  nd : sts.Nodup
  ks : ∀ s ∈ sts, keysD (row s) = ds
  ndd : ds.Nodup
  vs : ∀ s ∈ sts, ∀ p ∈ row s, p.2 ∈ sts
def ledS (row : Str → List (Str × Str)) : Str → List Str → Str
  | s, [] => s
  | s, o :: L => ledS row (kof (row s) o) L
theorem MvFit.kof {sts : List Str} {row : Str → List (Str × Str)} {ds : List Str} (h : MvFit sts row ds) {s o : Str} (hs : s ∈ sts) (ho : o ∈ ds) : kof (row s) o ∈ sts :=
  h.vs s hs _ (kof_pair (by rw [h.ks s hs]; exact h.ndd) (by rw [h.ks s hs]; exact ho))
theorem MvFit.led {sts : List Str} {row : Str → List (Str × Str)} {ds : List Str} (h : MvFit sts row ds) : ∀ {L : List Str} {s : Str}, s ∈ sts → (∀ o ∈ L, o ∈ ds) → ledS row s L ∈ sts
  | [], _, hs, _ => hs
  | o :: L, s, hs, hL => show ledS row (KT.kof (row s) o) L ∈ sts from MvFit.led h (h.kof hs (hL o List.mem_cons_self)) fun x hx => hL x (List.mem_cons_of_mem _ hx)
end
end KT
set_option Elab.async false
set_option linter.all false
set_option maxRecDepth 100000
set_option maxHeartbeats 4000000
namespace KT
open PySem L2 PyProof.Rows DTp TxS DKq
def revG {α : Type} : List α → List α → List α := fun _ zs => zs.reverse
theorem revG_rel {vs : List V} {us : List Value} {zs : List V} {ws : List Value} (_ : Vals vs us) (r : Vals zs ws) : Vals (revG vs zs) (revG us ws) := paired_rev r
end KT
set_option Elab.async false
set_option linter.all false
set_option maxRecDepth 100000
set_option maxHeartbeats 4000000
namespace PySem.SeqAt
open PySem PySem.Spec PyProof.Rows
theorem str_eq_declines_dict (x : Str) (t : Tok) (b : Addr) (es : Array DictEntry) (ep : Nat) (dd : Option Addr) (sl : Array (Option Value)) :
    Meets (Builtin.«str.__eq__» ⟨[.str x t, .ref b], []⟩) (fun _ R s => s.heap.get? b = some { cls := .type "dict", dict := dd, data := .dict es ep, slots := sl } ∧ R (.ok (.ret .notImplemented)) s) :=
  .of_wp fun prog w A R s h => by obtain ⟨hp, g, d, tk, os⟩ := s; obtain ⟨hl, h⟩ := h; wp_walk using wpAny_loadPart' hl, wpAny_load hl; exact ⟨_, rfl, h⟩
theorem dict_eq_declines_str (x : Str) (t : Tok) (b : Addr) (es : Array DictEntry) (ep : Nat) (dd : Option Addr) (sl : Array (Option Value)) :
    Meets (Builtin.«dict.__eq__» ⟨[.ref b, .str x t], []⟩) (fun _ R s => s.heap.get? b = some { cls := .type "dict", dict := dd, data := .dict es ep, slots := sl } ∧ R (.ok (.ret .notImplemented)) s) :=
  .of_wp fun prog w A R s h => by obtain ⟨hp, g, d, tk, os⟩ := s; obtain ⟨hl, h⟩ := h; have f1 := F.sub_str_dict; wp_walk using wpAny_loadPart' hl; exact ⟨_, rfl, h⟩
section
variable {A : Around} {s : Shared}
theorem RcAt.str_dict {l : Addr} {o : Obj} {es : Array DictEntry} {ep : Nat} (b : Str) (u : Tok) (ho : s.heap.get? l = some o) (hc : o.cls = .type "dict") (hd : o.data = .dict es ep) (hu : A.units < cLine) : RcAt A s (.str b u) (.ref l) false := fun prog w E Q h => by
  obtain ⟨cls, dd, data, sl⟩ := o
  simp only at hc hd
  subst hc hd
  exact rc_eq_decline_or (k := false) (typeIs_str s b u) ⟨_, ho, rfl⟩ (by decide) F.sub_dict_str F.slot_str_eq F.slot_dict_eq_refl
    (fun _ hq => call_meets F.slot_str_eq (typeIs_str s b u) F.entry_str_eq (F.args_str_eq_2 _ _) (str_eq_declines_dict b u l es ep dd sl) ⟨ho, hq⟩)
    (fun _ hq => call_meets F.slot_dict_eq_refl ⟨_, ho, rfl⟩ F.entry_dict_eq (F.args_dict_eq_2 _ _) (dict_eq_declines_str b u l es ep dd sl) ⟨ho, hq⟩)
    (fun _ hq => wpAny_of_eq (rfl : isSame (.str b u) (.ref l) = pure false) hq) (.inr hu) h
theorem EqAt.str_dict {l : Addr} {o : Obj} {es : Array DictEntry} {ep : Nat} (b : Str) (u : Tok) (ho : s.heap.get? l = some o) (hc : o.cls = .type "dict") (hd : o.data = .dict es ep) (hu : A.units < cLine) : EqAt A s (.str b u) (.ref l) false := fun prog w E Q h => by
  unfold eqBool
  refine wpAny_holding ?_
  refine wpAny_ite_split (fun hab => absurd (eq_of_beq hab) nofun) (fun _ => ?_)
  exact wpAny_bind (RcAt.str_dict b u ho hc hd hu prog w E _ (wpAny_truthy_bool h))
end
end PySem.SeqAt
namespace L2
open PySem PySem.Spec PyProof.Rows
/-- a dict is in no list of texts -/
def rDictOut (K : PySem.W.Frag) : R2 := fun x y H Q => ∃ (b p : Addr) (kvs : List (Key × V)) (ws : List Str), x = .ref b ∧ y = .ref p ∧ H b = some (.dK kvs) ∧ SqL K H p (ws.map V.str) ∧ Q (.bl true) H
theorem op_dictOut {X : Cx} (hu : X.A.units + 1 < cLine) : OpR X (compareOp .NotIn) (rDictOut X.K) := by
  intro pins s σ H x y v u Q I rx ry h
  obtain ⟨b, p, kvs, ws, rfl, rfl, hb, hq, q⟩ := h
  cases ry
  obtain rfl : v = Value.ref b := rx
  obtain ⟨its, r, pl, hz⟩ := I.list hq
  obtain ⟨z, hd, vs, rel, dd⟩ := dk_of I.hok hb
  obtain ⟨o, es, ep, ho, hc, hdt, hr⟩ := id dd
  have items : ∀ {ws : List Str} {its : List Value}, Vals (ws.map V.str) its → ∀ w ∈ its, ∃ a t, w = Value.str a t := by
    intro ws
    induction ws with
    | nil =>
      intro its r w hw
      cases r
      cases hw
    | cons x ws ih =>
      intro its r w hw
      cases r with
      | cons r1 rt =>
        obtain ⟨t, rfl⟩ := r1
        rcases List.mem_cons.mp hw with rfl | hw
        · exact ⟨x, t, rfl⟩
        · exact ih rt w hw
  refine SeqAt.notIn_listAt (fun _ => false) pl.isList (fun w hw => ?_) ⟨.bl true, H, I, ?_, q⟩
  · obtain ⟨a, t, rfl⟩ := items r w (by simpa using hw)
    exact SeqAt.EqAt.str_dict a t ho hc.1 hdt (by show X.A.units + 1 < cLine; exact hu)
  · simp [RelV]
end L2
set_option Elab.async false
set_option linter.all false
set_option maxRecDepth 100000
set_option maxHeartbeats 2000000
namespace HotX
open PySem PySem.Spec PyProof.Rows
section
variable {prog : Program} {w : World} {A : Around} {E : Value → Shared → Prop} {s : Shared}
theorem next_tuple_end_hot {it t x1 : Addr} {i : Nat} {items} {Q : Option Value → Shared → Prop} (hot : HotAt A x1 s.heap) (hxi : x1 ≠ it)
    (hit : IsTupIter s.heap it t i) (ht : IsTup s.heap t items) (hx : items[i]? = none)
    (hQ : ∀ h', Heap.ExtBut it s.heap h' → Q none { s with heap := h' }) : wpAny (model prog w) A (pyNext (.ref it)) Q E s := by
  obtain ⟨hh, o1, vs1, h1, d1, c1⟩ := hot
  obtain ⟨o, ho, hc, hd⟩ := id hit
  obtain ⟨ol, hol, _, nl, hdl⟩ := ht
  unfold pyNext
  refine wpAny_bind (wpAny_attempt (wpAny_callSpecial?_slot (name := Str.ofString "__next__") hit.typeIs slot_tupleiter_next
    (wpAny_call_entry slot_tupleiter_next hit.typeIs entry_tupleiter_next ?_ (args_tupleiter_next _))))
  show wpAny _ _ (field (.ref it) 0 >>= _) _ _ s
  refine wpAny_bind (wpAny_field ho hd (x := .ref t) rfl ?_)
  show wpAny _ _ (if (Value.ref t == Value.none) = true then _ else _) _ _ s
  rw [if_neg (show ¬ ((Value.ref t == Value.none) = true) from Bool.false_ne_true)]
  show wpAny _ _ (field (.ref it) 1 >>= _) _ _ s
  refine wpAny_bind (wpAny_field ho hd (x := .int i 0) rfl ?_)
  show wpAny _ _ (seqItems? (.ref t) >>= _) _ _ s
  refine wpAny_bind (wpAny_seqItems hol hdl ?_)
  simp only [Int.toNat_natCast, hx]
  refine wpAny_bind (wpAny_rule (wpAny_bind (wpAny_setField ho hd (by simp) ?_)))
  show wpAny _ _ (newExc (.type "StopIteration") [] >>= _) _ _ _
  refine wpAny_bind ?_
  simp only [newExc, newTuple]
  refine wpAny_bind (wpAny_newObj_type ?_ (by size_fits))
  refine wpAny_bind (m := firstArgMember _ _) (wpAny_of_eq (a := Value.none) (by first | rfl | (simp only [firstArgMember]; rfl)) ?_)
  refine wpAny_newObj_type ?_ (by size_fits)
  have hu := (Heap.get?_update_other s.heap (Obj.mapFields (·.setIfInBounds 0 Value.none)) (Ne.symm hxi)).trans h1
  refine raiseNew_hot ⟨hh, o1, vs1, Heap.get?_push_of_some _ (Heap.get?_push_of_some _ hu), d1, c1⟩ (Nat.ne_of_lt (Heap.lt_size (Heap.get?_push_of_some _ hu))) (Heap.get?_push_size _ rfl) rfl (by first | (simp; done) | (simp; omega) | (simp only [Array.size_append]; simp; omega)) ?_
  refine wpAny_bind (wpAny_isInstance (T := "StopIteration") (b := true) ⟨_, Heap.get?_update_self _ (Heap.get?_push_size _ rfl) rfl, rfl⟩ isSubtype_stop ?_)
  refine wpAny_pure (hQ _ fun b o hb e => ?_)
  have e0 := (Heap.get?_update_other s.heap (Obj.mapFields (·.setIfInBounds 0 Value.none)) (Ne.symm hb)).trans e
  rw [Heap.get?_update_other _ _ (Nat.ne_of_gt (Heap.lt_size (Heap.get?_push_of_some _ e0)))]
  exact Heap.get?_push_of_some _ (Heap.get?_push_of_some _ e0)
theorem unpackItems_tuple_hot {t x1 : Addr} {items : Array Value} {Q : List Value → Shared → Prop} (hot : HotAt A x1 s.heap) (ht : IsTup s.heap t items)
    (hQ : ∀ h', Heap.ExtBut s.heap.objs.size s.heap h' → Q items.toList { s with heap := h' }) : wpAny (model prog w) A (unpackItems (.ref t) items.size none) Q E s := by
  obtain ⟨hh, o1, vs1, h1, d1, c1⟩ := hot
  have hlt : t ≠ s.heap.objs.size := by obtain ⟨o, ho, _⟩ := ht; exact Nat.ne_of_lt (Heap.lt_size ho)
  have hx1 : x1 ≠ s.heap.objs.size := Nat.ne_of_lt (Heap.lt_size h1)
  unfold unpackItems
  refine wpAny_bind ?_
  · unfold notIterableAtAll
    refine wpAny_bind (wpAny_specialOf ht.typeIs slot_tuple_iter.lookup ?_)
    refine wpAny_pure ?_
    simp only [Bool.false_eq_true, if_false]
    refine wpAny_bind (wpAny_holding (iter_tuple ht ?_))
    refine wpAny_bind (wpAny_holding (draw_tuple hlt items.size 0 _ _ ⟨_, Heap.get?_push_size _ rfl, rfl, rfl⟩ (ht.push _) (by omega) fun h₁ hit₁ hs₁ => ?_))
    have hall : List.take items.size (List.drop 0 items.toList) = items.toList := by
      rw [List.drop_zero]; exact List.take_of_length_le (by simp)
    rw [hall]
    rw [if_neg (by simp)]
    have ht₁ : IsTup h₁ t items := (ht.push _).extBut hs₁.extBut hlt
    have hx₁ : h₁.get? x1 = some o1 := hs₁.extBut x1 o1 hx1 (Heap.get?_push_of_some _ h1)
    refine wpAny_bind (wpAny_holding (next_tuple_end_hot ⟨hh, o1, vs1, hx₁, d1, c1⟩ hx1 hit₁ ht₁ (by simp) fun h₂ he₂ => ?_))
    simp only [Option.isSome_none, Bool.false_eq_true, if_false]
    refine wpAny_pure (hQ h₂ fun b o hb e => he₂ b o hb (hs₁.extBut b o hb (Heap.get?_push_of_some _ e)))
end
end HotX
namespace L2N
open PySem PySem.Spec PyProof.Rows L2 L2H
/-- a, b = x, y within an except suite -/
theorem ps_parH {X : Cx} {i j : Nat} {x y : Str} {a b : Expr} {ta : TA} {pos px py pt : Pos} {kt k2 pt2} (hc : HotC X) (hN : X.N.Nodup) (hi : X.N[i]? = some x) (hj : X.N[j]? = some y) (hij : i ≠ j)
    (hx : X.env.scope.names.lookup x = some .local) (hy : X.env.scope.names.lookup y = some .local) (ha : PA X [a, b] ta)
    (hw : swappedStores [.Tuple [.Name x px, .Name y py] kt pt] (.Tuple [a, b] k2 pt2) X.env = pure (some [x, y]))
    (hs : swapsWithSole [.Tuple [.Name x px, .Name y py] kt pt] (.Tuple [a, b] k2 pt2) pos.line X.env = pure false := by rfl) :
    PS X (.Assign [.Tuple [.Name x px, .Name y py] kt pt] (.Tuple [a, b] k2 pt2) pos) (tPar i j ta) := by
  refine ⟨fun pins s σ H D I h => ?_⟩
  rw [exec_Assign_arm]
  refine wpAny_bind (wpAny_standAt ?_)
  rw [hs]
  refine wpAny_bind (wpAny_pure ?_)
  rw [if_neg (by decide)]
  refine wpAny_bind (Tuple_ (thn (ha.run _ pins s σ H _ I h) fun us s1 ⟨vs, H1, I1, r1, q1⟩ => ?_))
  obtain ⟨v, w, e1, q1⟩ := q1
  subst e1
  obtain ⟨u1, u2, rfl, rv, rw'⟩ : ∃ u1 u2, us = [u1, u2] ∧ RelV v u1 ∧ RelV w u2 := by
    cases r1 with
    | cons p q =>
      cases q with
      | cons p' q' =>
        cases q'
        exact ⟨_, _, rfl, p, p'⟩
  refine wpAny_newObj_type ?_ (by show 2 ≤ sizeLine; decide)
  have I2 : Inv X pins σ H1 { s1 with heap := s1.heap.push { cls := .type "tuple", data := .seq [u1, u2].toArray } } := I1.kept (t' := s1.toks) fun b o e => Heap.get?_push_of_some _ e
  rw [hw]
  refine wpAny_bind (wpAny_pure ?_)
  show wpAny (model X.prog X.w) X.A (do rule "assign.swapped-stores"; let items ← unpackItems (.ref s1.heap.objs.size) 2 none; assignInOrder [fun v => bindName X.env y v, fun v => bindName X.env x v] items.reverse; pure Flow.next) _ _ _
  obtain ⟨x1, hot⟩ := hc.at I2
  refine wpAny_bind (wpAny_rule (wpAny_bind (HotX.unpackItems_tuple_hot (items := #[u1, u2]) hot (IsTup.new s1.heap _) fun h' hx' => ?_)))
  have I3 := I2.kept (h' := h') (t' := s1.toks) fun b o e => hx' b o (Nat.ne_of_lt (Heap.lt_size e)) e
  show wpAny _ _ (assignInOrder [fun v => bindName X.env y v, fun v => bindName X.env x v] [u2, u1] >>= fun _ => pure Flow.next) _ _ _
  refine wpAny_bind (assignInOrder_cons (wpAny_bindName (store_ok I3 hN hj (.inl hy) rw' (fun s2 I4 => ?_) (.inr hy))))
  refine assignInOrder_cons (wpAny_bindName (store_ok I4 hN hi (.inl hx) rv (fun s3 I5 => assignInOrder_nil (wpAny_pure ?_)) (.inr hx)))
  rw [List.set_comm _ _ (Ne.symm hij)] at I5
  exact ⟨_, H1, I5, q1⟩
/-- an exception that was raised and caught, of the class cls, its own dict at d -/
def CauO (cls : Value) (d : Option Addr) (a : Addr) : HO := .ext fun h => ∃ (oe : Obj) (vs : Array Value), h.get? a = some oe ∧ oe.cls = cls ∧ oe.dict = d ∧ oe.data = .fields vs
theorem cauO_ok {P : Program} {w : World} {H : Hp} {h : Heap} {a : Addr} {cls : Value} {d : Option Addr} {oe : Obj} {vs : Array Value} (e : h.get? a = some oe) (z : Zn cls d oe) (dd : oe.data = .fields vs) : ObjOk P w H h a (CauO cls d a) :=
  ⟨⟨oe, vs, e, z.1, z.2.1, dd⟩, ⟨oe, e⟩, fun _ _ ⟨o, v, q, r⟩ k => ⟨o, v, k o q, r⟩⟩
section
variable {X : Cx} {pins : List (Addr × Obj)} {σ : St} {H : Hp} {s : Shared}
/-- an object that stands, unknown so far and no one's of the entry, is tracked from here -/
theorem _root_.L2.Inv.track {a : Addr} {o : HO} (I : Inv X pins σ H s) (n0 : X.s_0.heap.get? a = none) (na : H a = none) (nL : a ≠ X.env.locals) (nC : ∀ x c, X.env.cells.lookup x = some c → c ≠ a) (nP : ∀ p ∈ X.pn ++ pins, p.1 ≠ a)
    (new : ObjOk X.prog X.w (upd H a o) s.heap a o) : Inv X pins σ (upd H a o) s := by
  have ne0 : ∀ b u, X.s_0.heap.get? b = some u → b ≠ a := fun b u e z => by
    rw [z, n0] at e
    cases e
  refine ⟨I.ok, I.os, I.bare, ⟨I.base.keep, I.base.slot, fun b u e n hx => ?_, I.base.there, fun b xs q => ?_, fun b u xs q => ?_, fun b ps q => ?_⟩, I.loc, I.cell, ?_, fun x c e => ?_, fun p hp => ?_, I.hok.laidN (fun _ _ q => q) na new, I.len⟩
  · rw [upd_ne (ne0 b u e)]
    exact I.base.free b u e n hx
  · have z := I.base.tups b xs q
    rw [upd_ne (ne_of_none z na)]
    exact z
  · have z := I.base.frzs b u xs q
    rw [upd_ne (ne_of_none z na)]
    exact z
  · obtain ⟨m, z⟩ := I.base.tbls b ps q
    exact ⟨m, by rw [upd_ne (ne_of_none z na)]; exact z⟩
  · rw [upd_ne (Ne.symm nL)]
    exact I.free
  · rw [upd_ne (nC x c e)]
    exact I.freeC x c e
  · obtain ⟨e, n, ne, nf, d⟩ := I.pin p hp
    exact ⟨e, by rw [upd_ne (nP p hp)]; exact n, ne, nf, d⟩
/-- out of the suite, the exception still pinned -/
theorem unsuiteP {a : Addr} {q : Addr × Obj} {pn' : List (Addr × Obj)} (I : Inv (X.suite a (q :: (X.pn ++ pins))) pn' σ H s) (ok : X.Ok) : Inv X (q :: pins) σ H s :=
  ⟨ok, I.os, I.bare, I.base, I.loc, I.cell, I.free, I.freeC, fun p hp => I.pin p (List.mem_append_left _ (by
    rcases List.mem_append.mp hp with z | z
    · exact List.mem_cons_of_mem _ (List.mem_append_left _ z)
    · rcases List.mem_cons.mp z with z | z
      · rw [z]; exact List.mem_cons_self
      · exact List.mem_cons_of_mem _ (List.mem_append_right _ z))), I.hok, I.len⟩
theorem unpinned {q : Addr × Obj} (I : Inv X (q :: pins) σ H s) : Inv X pins σ H s :=
  ⟨I.ok, I.os, I.bare, I.base, I.loc, I.cell, I.free, I.freeC, fun p hp => I.pin p (by
    rcases List.mem_append.mp hp with z | z
    · exact List.mem_append_left _ z
    · exact List.mem_append_right _ (List.mem_cons_of_mem _ z)), I.hok, I.len⟩
end
/-- what several clauses 'except X as n' wish of an exception of the body: slot i is n's; behind the suite the exception is tracked -/
def wManyN (K : PySem.W.Frag) (Wout : WX) (D : Ends) (i : Nat) : List (Value × (Addr → Value → Option Addr → TS)) → WX
  | [] => Wout
  | (c, ts) :: r => fun cls d σ H => ∃ b, PySem.W.exmOne K cls c = some b ∧ (b = true → ∀ a, H a = none → ts a cls d { nx := fun σ' H' => D.nx (σ'.set i none) (upd H' a (CauO cls d a)), rt := fun _ _ => False, bk := fun _ _ => False, ct := fun _ _ => False } (σ.set i (some (.ref a))) H) ∧ (b = false → wManyN K Wout D i r cls d σ H)
inductive HdsN (X : Cx) (n : Str) : List ExceptHandler → List (Value × (Addr → Value → Option Addr → TS)) → Prop
  | nil : HdsN X n [] []
  | cons {x : Str} {c : Value} {ts : Addr → Value → Option Addr → TS} {b₀ : Stmt} {suite : List Stmt} {np pos' : Pos} {hds : List ExceptHandler} {l : List (Value × (Addr → Value → Option Addr → TS))} (hc : Names X x c)
      (hsu : ∀ (a : Addr) (oe : Obj) (cls : Value) (d : Option Addr) (pn : List (Addr × Obj)), Zn cls d oe → (∃ vs, oe.data = .fields vs) → PSs (X.suite a ((a, oe) :: pn)) (b₀ :: suite) (ts a cls d)) (r : HdsN X n hds l) :
      HdsN X n (.ExceptHandler (some (.Name x np)) (some n) (b₀ :: suite) pos' :: hds) ((c, ts) :: l)
section
variable {X : Cx} {n : Str} {i : Nat} {body : List Stmt} {h₀ : ExceptHandler} {hds : List ExceptHandler} {l : List (Value × (Addr → Value → Option Addr → TS))} {pos : Pos} {tb : WX → TS} {Wout : WX}
theorem ps_try_manyN (hs : X.stack = X.env :: X.outer) (hf : X.env.frame = some X.env.locals) (hN : X.N.Nodup) (hi : X.N[i]? = some n) (hln : X.env.kindOf n = some .local) (hex : X.ex = []) (tk : Takes X Wout)
    (hb : ∀ (W : WX) (pn : List (Addr × Obj)) (xe : Value → Shared → Prop), Takes (X.tr pn xe) W → PassesOwn (model X.prog X.w) X.A X.env xe → PSs (X.tr pn xe) body (tb W))
    (hh : HdsN X n (h₀ :: hds) l) : PS X (.Try body (h₀ :: hds) [] [] pos) (fun D σ H => tb (wManyN X.K Wout D i l) D σ H) := by
  refine ⟨fun pins s σ H D I h => ?_⟩
  have ok := I.ok
  have hfr : X.A.frames = some (X.env :: X.outer) := by rw [ok.frames, hs]
  have hloc : Loc X.env.scope n := .inl hln
  refine wpAny_Try_except ?_
  refine wpAny_mono ((hb (wManyN X.K Wout D i l) (X.pn ++ pins) (fun e s₁ => wpAny (model X.prog X.w) X.A (noteFrame e X.env) (fun _ s₂ => wpAny (model X.prog X.w) X.A (setFlight e none) (fun _ s₃ =>
    wpAny (model X.prog X.w) X.A (handleBy e X.env (h₀ :: hds)) (SP X pins D) X.xe s₃) X.xe s₂) X.xe s₁) (fun u s' xx => ?_) PassesOwn.looking).run [] s σ H D (I.toTry _) h) (fun f s1 hsp => ?_) (fun e s1 he => he)
  · -- the catch
    obtain ⟨a, B, sI, pins', σ', H', cls, d, rfl, J', nb, up, sky, na, os, ag, w⟩ := xx
    have J : Inv X pins σ' H' sI := J'.ofTry ok
    have sky' : Sky B (X.env :: X.outer) a (Zn cls d) X.env.locals s'.heap := by rw [← hs]; exact sky
    show wpAny (model X.prog X.w) X.A (noteFrame (.ref a) X.env) _ _ _
    refine Sky.land Zn.steady hfr hf sky' fun h3 fl3 up3 => ?_
    have J3 : Inv X pins σ' H' { s' with heap := h3 } := J.landed nb fl3.1 (up.trans up3) os ag
    obtain ⟨oe3, vs3, he3, hz3, hd3⟩ := fl3.there
    have notFr : ∀ {h : Heap} {o : Obj} {vs : Array Value}, h.FunFrames B (X.env :: X.outer) → h.get? a = some o → o.data = .fields vs → a ∉ frs (X.env :: X.outer) := fun {h o vs} ff e dd hm => by
      obtain ⟨_, o', e', hnf⟩ := ff.mem hm
      rw [e] at e'; cases e'
      exact hnf _ dd
    have nfr := notFr fl3.2.2.1 he3 hd3
    have nL : a ≠ X.env.locals := fun z => nfr (List.mem_filterMap.mpr ⟨X.env, List.mem_cons_self, by rw [hf, z]⟩)
    have nF : a ∉ X.fs := fun hm => by
      obtain ⟨e, he, q⟩ := List.mem_filterMap.mp hm
      exact nfr (List.mem_filterMap.mpr ⟨e, List.mem_cons_of_mem _ he, q⟩)
    have S3 := J3.suite he3 hd3 na nL nF
    -- the exception stood not in the state without it
    have nS : ∀ b o, sI.heap.get? b = some o → b ≠ a := fun b o e z => by
      have e1 := nb b o e (by rw [z, hs]; exact nfr)
      rw [z, fl3.2.1] at e1
      cases e1
    have n0 : X.s_0.heap.get? a = none := by
      cases e : X.s_0.heap.get? a with
      | none => rfl
      | some o =>
        obtain ⟨o', e1⟩ := J.base.there a o e (by rw [hex]; exact fun z => nomatch z)
        exact absurd rfl (nS a o' e1)
    have nC : ∀ x c, X.env.cells.lookup x = some c → c ≠ a := fun x c e => by
      obtain ⟨v, o, ho, _⟩ := J.cell x c e
      exact nS c o ho
    have nP : ∀ p ∈ X.pn ++ pins, p.1 ≠ a := fun p hp => nS p.1 p.2 (J.pin p hp).1
    have go : ∀ {hds' : List ExceptHandler} {l' : List (Value × (Addr → Value → Option Addr → TS))}, HdsN X n hds' l' → wManyN X.K Wout D i l' cls d σ' H' →
        wpAny (model X.prog X.w) X.A (handleBy (.ref a) X.env hds') (SP X pins D) X.xe { s' with heap := h3 } := by
      intro hds' l' hk
      induction hk with
      | nil =>
        intro w
        refine wpAny_handleBy_nil ?_
        obtain ⟨k1, k2, k3, oe, vs, T, oT, ts', he, hz, hd, h1, hr⟩ := id fl3
        unfold PySem.passOn
        refine wpAny_bind (wpAny_field he hd h1 ?_)
        rw [if_neg (show ¬ ((Value.ref T == Value.none) = true) from by simp)]
        have fin : wpAny (model X.prog X.w) X.A (setFlight (.ref a) X.env.frame) (fun _ s4 => wpAny (model X.prog X.w) X.A (throw (.ref a) : Sem Flow) (SP X pins D) X.xe s4) X.xe { s' with heap := h3 } := by
          rw [hf]
          refine HandSPX.setFlight_upZ fl3 fun h4 hh4 up4 => wpAny_throw (tk _ _ ?_)
          exact ⟨a, B, sI, pins, σ', H', cls, d, rfl, J, nb, (up.trans up3).trans up4, .inr (.inr (by rw [hs]; exact hh4)), na, os, ag, w⟩
        first
          | exact wpAny_bind (wpAny_pure (wpAny_bind fin))
          | exact wpAny_bind fin
      | @cons x c ts b₀ suite np pos' hds2 l2 hc hsu r ih =>
        intro w
        obtain ⟨b, hb1, hyes, hno⟩ := w
        refine wpAny_handleBy_cons (codeAny_handlers_test ?_) (by intro q; cases q)
        have LT : PySem.W.Looks (model X.prog X.w) h3 (typeOf (.ref a)) cls := fun A Q E s k q => wpAny_typeOf_ref (k _ _ he3) (by rw [hz3.1]; exact q)
        have LM := PySem.W.exm_one (M := model X.prog X.w) (J3.kIn) LT hb1
        have test : ∀ {Q : Value → Shared → Prop} {E : Value → Shared → Prop}, Q c { s' with heap := h3 } → wpAny (model X.prog X.w) (X.A.mark (some (.ref a))) (eval (.Name x np) X.env) Q E { s' with heap := h3 } := fun {Q E} q => by
          obtain ⟨hg, hdbg, hm | ⟨hm, hv, hnn⟩⟩ := hc
          · exact ld_glob (X := X.suite a ((a, oe3) :: (X.pn ++ pins))) S3 hg hm q hdbg
          · exact ld_blt (X := X.suite a ((a, oe3) :: (X.pn ++ pins))) S3 hg hm hv q hnn hdbg
        refine test (LM.here ?_)
        cases b with
        | true =>
          refine codeAny_handlers_suite_as ?_
          refine HandSPX.lands_againZ fl3 fun h4 fl4 up4 => ?_
          have J4 : Inv X pins σ' H' { s' with heap := h4 } := J.landed nb fl4.1 ((up.trans up3).trans up4) os ag
          obtain ⟨oe4, vs4, he4, hz4, hd4⟩ := fl4.there
          have S4 := J4.suite he4 hd4 na nL nF
          refine store_ok (X := X.suite a ((a, oe4) :: (X.pn ++ pins))) (v := .ref a) S4 hN hi hloc rfl (fun s5 S5 => ?_) (.inr hln)
          refine wpAny_mono ((hsu a oe4 cls d (X.pn ++ pins) hz4 ⟨_, hd4⟩).run [] s5 _ H' _ S5 (hyes rfl a na)) (fun f s6 hsp => ?_) (fun _ _ z => False.elim z)
          cases f with
          | next =>
            obtain ⟨σ6, H6, S6, q6⟩ := hsp
            refine gone_ok (unsuiteP S6 ok) hN hi hln fun s7 J7 => ?_
            have z := J7.pin (a, oe4) (List.mem_append_right _ List.mem_cons_self)
            exact ⟨_, _, (unpinned J7).track n0 z.2.1 nL nC nP (cauO_ok z.1 hz4 hd4), q6⟩
          | brk =>
            obtain ⟨σ6, H6, S6, q6⟩ := hsp
            exact q6.elim
          | cont =>
            obtain ⟨σ6, H6, S6, q6⟩ := hsp
            exact q6.elim
          | ret u =>
            obtain ⟨v6, σ6, H6, S6, r6, q6⟩ := hsp
            exact q6.elim
        | false =>
          show wpAny _ X.A (handleBy (.ref a) X.env hds2) _ _ _
          exact ih (hno rfl)
    exact go hh w
  · cases f with
    | next =>
      obtain ⟨σ', H', J', q⟩ := hsp
      exact wpAny_execs_nil ⟨σ', H', J'.ofTry ok, q⟩
    | brk =>
      obtain ⟨σ', H', J', q⟩ := hsp
      exact ⟨σ', H', J'.ofTry ok, q⟩
    | cont =>
      obtain ⟨σ', H', J', q⟩ := hsp
      exact ⟨σ', H', J'.ofTry ok, q⟩
    | ret u =>
      obtain ⟨v, σ', H', J', r, q⟩ := hsp
      exact ⟨v, σ', H', J'.ofTry ok, r, q⟩
end
end L2N
set_option Elab.async false
set_option linter.all false
set_option maxRecDepth 100000
set_option maxHeartbeats 4000000
namespace KX
open PySem PySem.Spec PyProof.Rows L2
abbrev CXN (P : Program) (w : World) : CXT := L2N.CX P w
section
variable {P : Program} {w : World} {K : PySem.W.Frag} {mg : Str → Option Value} {base : Heap} {CX : CXT} {k : Nat} {f : Addr} {fd : FuncData} {ps : List Str} {sp sp' : Sp}
theorem fnLift (F : FnOk P w K mg base CX0 k f fd ps sp) : FnOk P w K mg base CX k f fd ps (fun vs H Q _ => sp vs H Q E0) :=
  ⟨fun vs H Q E q => F.len vs H Q E0 q, fun A outer s H args us vs Q E hr he hb hv hs => codeAny_mono (F.run A outer s H args us vs Q E0 hr he hb hv hs) fun r s' y => by
    cases r with
    | error e => exact y.elim
    | ok fl =>
      cases fl with
      | ret u => exact y
      | next => exact y
      | brk => exact y
      | cont => exact y⟩
theorem fnOr (F : FnOk P w K mg base CX k f fd ps sp) (G : FnOk P w K mg base CX k f fd ps sp') : FnOk P w K mg base CX k f fd ps (fun vs H Q E => sp vs H Q E ∨ sp' vs H Q E) :=
  ⟨fun vs H Q E q => q.elim (F.len vs H Q E) (G.len vs H Q E), fun A outer s H args us vs Q E hr he hb hv hs => hs.elim (F.run A outer s H args us vs Q E hr he hb hv) (G.run A outer s H args us vs Q E hr he hb hv)⟩
theorem funN {x qual : Str} {st : Stmt} {N : List Str} (F : Fun K x qual st f fd) (S : FnScope N ps (defScope st)) (len : ∀ vs H Q E, sp vs H Q E → vs.length = ps.length)
    (hbody : ∀ (cdv : Value) (A : Around) (outer : List Env) (s : Shared) (H : Hp) (vs : List V) (Q : VK) (E : XK), Room k (A.deeper (envOfC qual (defScope st) s.heap.objs.size f cdv)) → sp vs H Q E →
      ∃ t, PSs (cxOf (CXN P w) P w K mg base N qual (defScope st) f cdv A outer s H E) (defBody st) t ∧ t { nx := fun _ H' => Q .non H', rt := Q } (start N vs) H) : FnOk P w K mg base (CXN P w) (k + 1) f fd ps sp := by
  obtain ⟨oc, od, kV, doc, pm, an, cdv, ct, osl, rfl, lk, hcd⟩ := F.ex
  exact fn_of lk hcd S len fun A outer s H vs Q E hr hsp => hbody cdv A outer s H vs Q E hr hsp
end
/-- such a def as its callers know it: by places, and by keywords alone -/
structure Ree (P : Program) (w : World) (K : PySem.W.Frag) (mg : Str → Option Value) (base : Heap) (k : Nat) (x : Str) (ps : List Str) (sp : Sp) : Prop where
  ex : ∃ (f : Addr) (fd : FuncData), FnOk P w K mg base (CXN P w) k f fd ps sp ∧ mg x = some (.ref f) ∧ PySem.W.keepIn K (.ref f) = true ∧ Binds K fd ps []
structure ReK (P : Program) (w : World) (K : PySem.W.Frag) (mg : Str → Option Value) (base : Heap) (k : Nat) (x : Str) (ps : List Str) (sp : Sp) (ks : List Str) (gV : List V → List V → List V) : Prop where
  ex : ∃ (f : Addr) (fd : FuncData) (g : List Value → List Value → List Value), FnOk P w K mg base (CXN P w) k f fd ps sp ∧ mg x = some (.ref f) ∧ PySem.W.keepIn K (.ref f) = true ∧ KBn K fd ps 0 ks g gV
/-- the wish about what is raised, of the context's own def -/
def Own (X : Cx) (E : XK) : Prop := L2N.Takes X (fun cls d _ H => E cls d H)
theorem Own.pass {X : Cx} {E : XK} (t : Own X E) : Passes (CXN X.prog X.w) X E := L2N.passes_call t fun _ _ _ _ h => h
section
variable {X : Cx} {k j : Nat} {x : Str} {ps ks : List Str} {sp : Sp} {E : XK} {W : WX} {gV : List V → List V → List V} {p pos : Pos} {e : Expr} {es : List Expr} {t tk : TA} {kws : List Keyword}
theorem pe_r (C : Ree X.prog X.w X.K X.mg X.base k x ps sp) (tk : Own X E) (hr : Room j X.A) (hg : Gl X x) (ha : PA X (e :: es) t) (hkj : k ≤ j := by decide) (hdb : (x == ("__debug__" : Str)) = false := by decide)
    (he : starEach (e :: es) X.env = (false, eval e X.env) :: starEach es X.env := by rfl) (hpl : (backTo pos (starEach es X.env)).any (·.1) = false := by rfl) : PE X (.Call (.Name x p) (e :: es) [] pos) (tCallS sp (fun _ => E) t) := by
  obtain ⟨f, fd, F, m, kp, b⟩ := C.ex
  exact pe_callS F (hr.mono hkj) hg m kp b (fun σ pins H s e s' I c => tk.pass pins σ H s e s' I c) ha hdb he hpl
/-- .. within a try: the wish may look at the slots -/
theorem pe_rW (C : Ree X.prog X.w X.K X.mg X.base k x ps sp) (tk : L2N.Takes X W) (hr : Room j X.A) (hg : Gl X x) (ha : PA X (e :: es) t) (hkj : k ≤ j := by decide) (hdb : (x == ("__debug__" : Str)) = false := by decide)
    (he : starEach (e :: es) X.env = (false, eval e X.env) :: starEach es X.env := by rfl) (hpl : (backTo pos (starEach es X.env)).any (·.1) = false := by rfl) : PE X (.Call (.Name x p) (e :: es) [] pos) (tCallS sp (WE W) t) := by
  obtain ⟨f, fd, F, m, kp, b⟩ := C.ex
  exact pe_callS F (hr.mono hkj) hg m kp b (L2N.passAt tk) ha hdb he hpl
theorem pe_rk (C : ReK X.prog X.w X.K X.mg X.base k x ps sp ks gV) (to : Own X E) (hr : Room j X.A) (hg : Gl X x) (hkw : PK X kws tk) (hkj : k ≤ j := by decide) (hall : (backToKw pos (keywordEach kws X.env)).all (·.1.isSome) = true := by rfl) (hks : (backToKw pos (keywordEach kws X.env)).filterMap (·.1) = ks := by rfl)
    (hdb : (x == ("__debug__" : Str)) = false := by decide) (hpl : ((backTo pos (starEach [] X.env)).any (·.1) || (backToKw pos (keywordEach kws X.env)).any (·.1.isNone)) = false := by rfl) :
    PE X (.Call (.Name x p) [] kws pos) (L2.tCallN 0 ks.length sp gV E tNil tk) := by
  obtain ⟨f, fd, g, F, m, kp, hb⟩ := C.ex
  refine ⟨fun pins s σ H Q I h => ?_⟩
  refine wpAny_Call_Name_kw (ld_glob I hg m ?_ hdb)
  refine PySem.W.callWith_KW0 (h₀ := X.base) I.ok.mod.kin kp hall (thn (hkw.run pos pins s σ H _ I h) fun ws s2 ⟨zs, H2, I2, rz, l1, l2, q2⟩ => ⟨I2.kIn, ?_⟩) hpl
  rw [hks]
  exact run_fnN (us := []) (vs := []) F (hr.mono hkj) hb to.pass I2 .nil rz rfl l2 q2
end
/-- behind a statement that never ends well, anything may follow -/
theorem pss_any {X : Cx} {l : List Stmt} : PSs X l (fun _ _ _ => False) := ⟨fun _ _ _ _ _ _ h => h.elim⟩
theorem freeS {H H' : Hp} {b : Addr} (s : L2.Same H H') (h : H' b = none) : H b = none := by
  cases q : H b with
  | none => rfl
  | some o =>
    rw [s b o q] at h
    cases h
/-- raised: an exception of the class at C whose one field `value` is v, all else as it was -/
def Rz (C : Addr) (v : V) (H : Hp) (E : XK) : Prop := ∀ d H', L2.Same H H' → H d = none → H' d = some (.xd [("value", v)]) → E (.ref C) (some d) H'
theorem Rz.at {C d : Addr} {v : V} {H : Hp} {E : XK} (r : Rz C v H E) (h : H d = none) : E (.ref C) (some d) (upd H d (.xd [("value", v)])) := r d _ (KT.Same.new h) h upd_same
theorem Rz.mono {C : Addr} {v : V} {H H1 : Hp} {E : XK} (s : L2.Same H H1) (r : Rz C v H E) : Rz C v H1 E := fun d H' s' n e => r d H' (fun b o q => s' b o (s b o q)) (freeS s n) e
/-- the promise of every __init__(self, value=None): self.value = value -/
def spEI (K : PySem.W.Frag) : Sp := fun vs H Q _ => ∃ (a C : Addr) (v : V), vs = [.ref a, v] ∧ OexC K C ∧ PySem.W.findIn K (.ref C) "value" = some none ∧ H a = some (exo a C none) ∧
  ∀ d, H d = none → d ≠ a → Q .non (upd (upd H d (exd d [("value", v)])) a (exo a C (some d)))
/-- what isinstance asks -/
structure ErrI (K : PySem.W.Frag) (C : Addr) : Prop where
  ga : PySem.W.findIn K (.ref C) "__getattribute__" = some (some (.builtin "BaseException.__getattribute__"))
  gg : PySem.W.findIn K (.ref C) "__getattr__" = some none
  ex : PySem.W.subIn K (.ref C) (.type "BaseException") = some true
  cl : (PySem.W.clsIn K C).isSome = true
  cc : PySem.W.findIn K (.ref C) "__class__" = some (some (.builtin "object.__class__"))
  sp : PySem.W.specialIn K (.builtin "object.__class__") "__get__" = some (some (.builtin "getset_descriptor.__get__"))
  tk : PySem.W.takesIn K (.builtin "object.__class__") = some true
  ob : PySem.W.mroIn K C (.type "object") = some true
structure ErrX (P : Program) (w : World) (K : PySem.W.Frag) (mg : Str → Option Value) (base : Heap) (x : Str) (C : Addr) : Prop where
  T : OexC K C
  no : PySem.W.findIn K (.ref C) "value" = some none
  m : mg x = some (.ref C)
  I : ∃ (fI : Addr) (fd : FuncData), PySem.W.findIn K (.ref C) "__init__" = some (some (.ref fI)) ∧ PySem.W.typeIn K (.ref fI) = some (.type "function") ∧ FnOk P w K mg base CX0 1 fI fd ["self", "value"] (spEI K) ∧
    (∀ (s : Shared) (self u : Value), K.In s.heap → BindsTo s fd ⟨[self, u], []⟩ [("self", self), ("value", u)])
  hd : PySem.W.hasDictIn K C = true
  is : ErrI K C
def eArgs (q1 q2 q3 : Pos) : Arguments := { posonlyargs := [], args := [{ arg := "self", annotation := none, pos := q1 }, { arg := "value", annotation := none, pos := q2 }], vararg := none, kwonlyargs := [], kw_defaults := [], kwarg := none, defaults := [.Constant .none 0 q3] }
def eBody (p1 p2 p3 p4 : Pos) : List Stmt := [.Assign [.Attribute (.Name "self" p1) "value" p2] (.Name "value" p3) p4]
def eSc : Scope := { kind := .function, names := [("self", .local), ("value", .local)], isGenerator := false, isCoroutine := false, more := [] }
section
variable {P : Program} {w : World} {K : PySem.W.Frag} {mg : Str → Option Value} {base : Heap} {qual : Str} {f : Addr} {fd : FuncData} {q1 q2 q3 p1 p2 p3 p4 p5 : Pos}
theorem scE : FnScope ["self", "value"] ["self", "value"] eSc := ⟨rfl, rfl, rfl, by decide +kernel, rfl, by decide +kernel, by decide +kernel⟩
theorem ok_einit (F : FunD K "__init__" qual (eArgs q1 q2 q3) (eBody p1 p2 p3 p4) eSc [.non] [] f fd) : FnOk P w K mg base CX0 1 f fd ["self", "value"] (spEI K) := by
  refine F.ok scE (fun vs H Q E h => ?_) (fun cdv A outer s H vs Q E hr h => ?_)
  · obtain ⟨a, C, v, rfl, _⟩ := h
    rfl
  · obtain ⟨a, C, v, rfl, T, no, ha, k⟩ := h
    refine ⟨_, pss_one (ps_ost (pv 0) (pv 1)), ?_⟩
    exact ⟨_, rfl, _, rfl, a, C, rfl, T, no, .inl ⟨ha, k⟩⟩
theorem einit_binds (F : FunD K "__init__" qual (eArgs q1 q2 q3) (eBody p1 p2 p3 p4) eSc [.non] [] f fd) :
    (∀ (s : Shared) (self u : Value), K.In s.heap → BindsTo s fd ⟨[self, u], []⟩ [("self", self), ("value", u)]) := by
  obtain ⟨ds, r1, b1⟩ := F.binds1 (ps := ["self", "value"]) 2 1 (by simp) rfl fun T kV doc pm an cdv ct us its hu hi => match us, hu, its, hi with | [_, _], _, [_], _ => ⟨_, rfl, rfl⟩
  refine fun s self u X => ?_
  cases r1
  exact b1 s [self, u] X rfl
end
/-- raise C(e) -/
def tErr (C : Addr) (te : TE) : L2.St → Hp → XK → Prop := fun σ H Q => te σ H fun v H1 => ∀ d, H1 d = none → Q (.ref C) (some d) (upd H1 d (.xd [("value", v)]))
section
variable {X : Cx} {C : Addr} {x : Str} {e : Expr} {te : TE} {p pos : Pos} {k : Nat}
theorem pmk_err (Z : ErrX X.prog X.w X.K X.mg X.base x C) (hr : Room k X.A) (hg : Gl X x) (he : PE X e te) (h2 : 2 ≤ k := by decide) (hdb : (x == ("__debug__" : Str)) = false := by decide)
    (hs : starEach [e] X.env = (false, eval e X.env) :: starEach [] X.env := by rfl) : L2N.PMk X (.Call (.Name x p) [e] [] pos) (tErr C te) := by
  obtain ⟨fI, fd, iC, tI, F, b1⟩ := Z.I
  intro pins s σ H Q I h
  obtain ⟨nm, q, N, bs, bm, sn, sub, ab, col, dd, k0, k1, k2, k3, k5, hC, hbm⟩ := Z.T.cls
  refine wpAny_Call_Name_kw (ld_glob I hg Z.m ?_ hdb)
  refine PySem.W.callWith_K (h₀ := X.base) I.ok.mod.kin Z.T.kC ?_ hs (by rfl)
  rw [hs]
  show wpAny _ _ (spliced ((false, eval e X.env) :: backTo pos (starEach [] X.env))) _ _ s
  refine Calls.spliced_cons (thn (he.run pins s σ H _ I h) fun u s1 ⟨v, H1, I1, r1, q1⟩ => ?_)
  refine Calls.spliced_nil ⟨I1.kIn, ?_⟩
  show wpAny _ _ (call (.ref C) [u]) _ _ _
  obtain ⟨hp, g, dr, tk, os⟩ := s1
  have hsz : hp.objs.size ≤ hp.objs.size + 1 := Nat.le_succ _
  have hn : H1 (hp.objs.size + 1) = none := I1.hok.fresh hsz
  have kk : ∀ b o, hp.get? b = some o → ((hp.push (PySem.W.kdv_tup [u])).push (PySem.HandSPX.excO C hp.objs.size)).get? b = some o := fun b o e => Heap.get?_push_of_some _ (Heap.get?_push_of_some _ e)
  have hget : ((hp.push (PySem.W.kdv_tup [u])).push (PySem.HandSPX.excO C hp.objs.size)).get? (hp.objs.size + 1) = some (PySem.HandSPX.excO C hp.objs.size) := by heap_get
  have I2 : Inv X pins σ (upd H1 (hp.objs.size + 1) (exo (hp.objs.size + 1) C none)) ⟨(hp.push (PySem.W.kdv_tup [u])).push (PySem.HandSPX.excO C hp.objs.size), g, dr, tk, os⟩ :=
    I1.laid (t' := tk) (a := hp.objs.size + 1) (o := exo (hp.objs.size + 1) C none) (h' := (hp.push (PySem.W.kdv_tup [u])).push (PySem.HandSPX.excO C hp.objs.size)) kk hsz (exo_ok hget)
  have r2 : Vals [V.ref (hp.objs.size + 1), v] [Value.ref (hp.objs.size + 1), u] := .cons rfl (.cons r1 .nil)
  have hq : spEI X.K [V.ref (hp.objs.size + 1), v] (upd H1 (hp.objs.size + 1) (exo (hp.objs.size + 1) C none)) (fun z H2 => z = .non ∧ ∃ d, H1 d = none ∧ d ≠ hp.objs.size + 1 ∧ H2 = upd (upd (upd H1 (hp.objs.size + 1) (exo (hp.objs.size + 1) C none)) d (exd d [("value", v)])) (hp.objs.size + 1) (exo (hp.objs.size + 1) C (some d))) E0 :=
    ⟨_, C, v, rfl, Z.T, Z.no, upd_same, fun d hd hda => ⟨rfl, d, by rw [upd_ne hda] at hd; exact hd, hda, rfl⟩⟩
  have hr2 : Room 1 (X.A.under (.builtin "type.__call__" ⟨.ref C :: [u], []⟩)) := (hr.mono h2).make C [u] []
  refine wpAny_call (PySem.HandSPX.call_own PySem.F.excBase_ValueError (fun Y => PySem.HandSPX.refsVE_contains Y bm hbm) (I1.kIn _ _ hC) (PySem.W.looks_findIn I1.kIn iC) (fun self => PySem.W.bind_fn I1.kIn self tI) (by show 1 ≤ sizeLine; decide)
    (codeAny_mono (F.run _ X.stack _ _ ⟨[Value.ref (hp.objs.size + 1), u], []⟩ [Value.ref (hp.objs.size + 1), u] _ _ E0 hr2 (I2.env0.make C [u] []) (b1 _ (Value.ref (hp.objs.size + 1)) u I2.kIn) r2 hq) fun r s' hq' => ?_))
  cases r with
  | error er => exact hq'.elim
  | ok fl =>
    cases fl with
    | ret z =>
      obtain ⟨v2, H2, os2, bare2, un2, hok2, rv, ev, d, hd1, hda, eH⟩ := hq'
      subst ev
      obtain ⟨h2', g2, d2, t2, os'⟩ := s'
      have ea : H2 (hp.objs.size + 1) = some (exo (hp.objs.size + 1) C (some d)) := by rw [eH]; exact upd_same
      have ed : H2 d = some (exd d [("value", v)]) := by rw [eH, upd_ne hda]; exact upd_same
      obtain ⟨t0, G, J, kG, ge, hoe, na⟩ := mk_end0 (d2 := d2) (t2 := t2) I1 hsz kk un2 hok2 os2 bare2 ea ed hd1
      have eJ : upd (del H2 (hp.objs.size + 1)) d (.xd [("value", v)]) = upd H1 d (.xd [("value", v)]) := by
        funext b
        by_cases hb : b = d
        · rw [hb, upd_same, upd_same]
        · rw [upd_ne hb, upd_ne hb]
          by_cases hba : b = hp.objs.size + 1
          · rw [hba, del_same, hn]
          · rw [del_ne hba, eH, upd_ne hba, upd_ne hb, upd_ne hba]
      rw [eJ] at J na
      refine ⟨rv, ⟨hp.objs.size + 1, _, _, ⟨G, g2, d2, t2, os'⟩, _, .ref C, some d, rfl, J, kG, ge, hoe, ⟨rfl, rfl, fun vs hv => ?_⟩, rfl, rfl, na, rfl, bare2, raises_own Z.T.exC Z.T.tyC, q1 d hd1⟩⟩
      cases hv
      rfl
    | next => exact False.elim hq'
    | brk => exact False.elim hq'
    | cont => exact False.elim hq'
end
/-- `raise C(e)`, in a def -/
theorem ps_err {X : Cx} {E : XK} {C : Addr} {x : Str} {e : Expr} {te : TE} {p pos pos2 : Pos} {k : Nat} (Z : ErrX X.prog X.w X.K X.mg X.base x C) (to : Own X E) (hc : X.calm = true) (hr : Room k X.A) (hg : Gl X x) (he : PE X e te) (h2 : 2 ≤ k := by decide) (hdb : (x == ("__debug__" : Str)) = false := by decide)
    (hs : starEach [e] X.env = (false, eval e X.env) :: starEach [] X.env := by rfl) : PS X (.Raise (some (.Call (.Name x p) [e] [] pos)) none pos2) (fun _ σ H => te σ H fun v H1 => ∀ d, H1 d = none → E (.ref C) (some d) (upd H1 d (.xd [("value", v)]))) :=
  L2N.ps_raise hc to (pmk_err Z hr hg he h2 hdb hs)
/-- at a stands an exception that was caught, of the class at C; its one field is v -/
def CauAt (H : Hp) (a C : Addr) (v : V) : Prop := ∃ d, H a = some (L2N.CauO (.ref C) (some d) a) ∧ H d = some (.xd [("value", v)])
theorem CauAt.mono {H H' : Hp} {a C : Addr} {v : V} (s : L2.Same H H') (h : CauAt H a C v) : CauAt H' a C v := by
  obtain ⟨d, h1, h2⟩ := h
  exact ⟨d, s _ _ h1, s _ _ h2⟩
theorem cau_at {P : Program} {w : World} {H : Hp} {h : Heap} {a : Addr} {cls : Value} {d : Option Addr} (hok : HOk P w H h) (ha : H a = some (L2N.CauO cls d a)) : ∃ (oe : Obj) (vs : Array Value), h.get? a = some oe ∧ oe.cls = cls ∧ oe.dict = d ∧ oe.data = .fields vs := by
  have x : ObjOk P w H h a (.ext fun h => ∃ (oe : Obj) (vs : Array Value), h.get? a = some oe ∧ oe.cls = cls ∧ oe.dict = d ∧ oe.data = .fields vs) := hok a _ ha
  exact x.1
theorem cau_inst {P : Program} {w : World} {H : Hp} {h : Heap} {a C d : Addr} {v : V} (hok : HOk P w H h) (ha : H a = some (L2N.CauO (.ref C) (some d) a)) (hd : H d = some (.xd [("value", v)])) :
    ∃ (oe od : Obj), PySem.W.InstAt h a oe C (some od) ∧ ∃ u, PySem.W.lookIn "value" od = some (some u) ∧ L2.RelV v u := by
  obtain ⟨oe, vs, h1, h2, h3, h4⟩ := cau_at hok ha
  have hx : ObjOk P w H h d (.xd [("value", v)]) := hok d _ hd
  obtain ⟨mA, hns, hr⟩ := hx
  obtain ⟨od, ho, hl⟩ := lookIn_ns hns
  obtain ⟨u, hu, ru⟩ := RelO.some_of (v := v) (o := mA "value") (hr "value")
  exact ⟨oe, od, ⟨h1, h2, by unfold PySem.W.notCls; rw [h4] <;> rfl, by rw [h3]; exact ho⟩, u, by rw [hl, hu], ru⟩
section
variable {X : Cx} {C : Addr} {e : Expr} {te : TE} {pos : Pos}
/-- err.value -/
def tCV (K : PySem.W.Frag) (te : TE) : TE := fun σ H Q => te σ H fun x H1 => ∃ (a C : Addr) (v : V), x = .ref a ∧ CauAt H1 a C v ∧ PySem.W.findIn K (.ref C) "value" = some none ∧ PySem.W.hasDictIn K C = true ∧ ErrI K C ∧ Q v H1
theorem pe_cv (he : PE X e te) (hb : attributeBase e "value" X.env (eval e X.env) = eval e X.env := by rfl) : PE X (.Attribute e "value" pos) (tCV X.K te) := by
  refine ⟨fun pins s σ H Q I h => ?_⟩
  refine attr_of hb (thn (he.run pins s σ H _ I h) fun u s1 hh => ?_)
  obtain ⟨x, H1, I1, rx, a, C, v, ex, ⟨d, ha, hdd⟩, no, hD, Z, q⟩ := hh
  subst ex
  obtain rfl : u = Value.ref a := rx
  obtain ⟨oe, od, J, u, hu, ru⟩ := cau_inst I1.hok ha hdd
  exact HandSPX.exc_get I1.kIn J Z.ga Z.gg Z.ex (PySem.W.findObj_own hD no rfl hu) (handed_of ru) ⟨v, H1, I1.tok _, ru, q⟩
/-- isinstance(err, c) -/
def rCI (K : PySem.W.Frag) : List V → Hp → VK → Prop := fun xs H Q => ∃ (a C : Addr) (w c : V) (cv : Value) (b : Bool), xs = [.ref a, c] ∧ ClsV c cv ∧ CauAt H a C w ∧ ErrI K C ∧ PySem.W.kitOne K (.ref C) cv = some b ∧ Q (.bl b) H
theorem call_isC : CallR X (.builtin "isinstance") (rCI X.K) := by
  intro pins s σ H xs us Q I r h
  obtain ⟨a, C, w, c, cv, b, rfl, hc, ⟨d, ha, hd⟩, Z, e, q⟩ := h
  obtain ⟨u1, u2, rfl, r1, r2⟩ := vals2 r
  have e2 := hc.eq r2
  subst e2
  obtain rfl : u1 = Value.ref a := r1
  obtain ⟨oe, od, J, _⟩ := cau_inst I.hok ha hd
  exact PySem.W.kia_one (PySem.W.kitx_exc Z.cl Z.ga Z.gg Z.ex Z.cc Z.sp Z.tk Z.ob) I.kIn J e (fun z => nomatch z) fun tk => ⟨.bl b, H, I.tok tk, rfl, q⟩
end
end KX
set_option Elab.async false
set_option linter.all false
set_option maxRecDepth 100000
set_option maxHeartbeats 4000000
set_option pp.maxSteps 900
namespace KT
open PySem L2 PyProof.Rows DTp TxS DKq KX
theorem own_of {P : Program} {w : World} {K : PySem.W.Frag} {mg : Str → Option Value} {base : Heap} {N : List Str} {qual : Str} {scope : Scope} {f : Addr} {cd : Value} {A : Around} {outer : List Env} {s : Shared} {H : Hp} {E : XK} :
    Own (cxOf (CXN P w) P w K mg base N qual scope f cd A outer s H E) E := L2N.takes_of rfl rfl rfl rfl
/-- not an instance of the class at C -/
def NotC (K : PySem.W.Frag) (H : Hp) (v : V) (C : Addr) : Prop := ∃ t, TyX K H v t ∧ PySem.W.kitOne K t (.ref C) = some false
/-- a value that no text equals, and not a text of ws -/
def OutOf (K : PySem.W.Frag) (H : Hp) (v : V) (ws : List Str) : Prop := (flatV v = true ∧ inV v (ws.map V.str) = false) ∨
  (∃ d, Dp K H v d ∧ SeqAt.shaped d = true ∧ ((ws.map PyData.str).any fun z => PyData.eqv z d) = false) ∨ ∃ (b : Addr) (kvs : List (Key × V)), v = .ref b ∧ H b = some (.dK kvs)
/-- a value that is no count -/
def NoCnt (K : PySem.W.Frag) (H : Hp) (v : V) : Prop := (∃ t, TyX K H v t ∧ PySem.W.kitOne K t (.type "int") = some false) ∨ (∃ b, v = .bl b) ∨ ∃ n : Int, v = .int n ∧ n < 0
/-- a value that is no kind of ws -/
def NoKnd (K : PySem.W.Frag) (H : Hp) (v : V) (ws : List Str) : Prop := (∃ t, TyX K H v t ∧ PySem.W.kitOne K t (.type "str") = some false) ∨ ∃ x, v = .str x ∧ x ∉ ws
section
variable {P : Program} {w : World} {K : PySem.W.Frag} {mg : Str → Option Value} {base : Heap} {C S G IS ID IC IK RF : Addr}
def spNoCnt (K : PySem.W.Frag) : Sp := fun vs H Q _ => ∃ v, vs = [v] ∧ NoCnt K H v ∧ Q (.bl false) H
theorem ok_noCnt {f : Addr} {fd : FuncData} (F : Fun K "is_count" "is_count" pIsCount f fd) (T : Blt mg) (Z : Blp mg) : FnOk P w K mg base CX0 1 f fd ["value"] (spNoCnt K) := by
  refine F.ok scIsCount (fun vs H Q E h => ?_) (fun cdv A outer s H vs Q E hr h => ?_)
  · obtain ⟨n, rfl, _⟩ := h
    rfl
  · obtain ⟨v, rfl, nc, k⟩ := h
    refine ⟨_, pss_one (ps_ret (pe_and (pe_callB call_isi (by rfl) Z.isi boot_isi (pa_cons (pv 0) (pa_cons (pe_bltn (v := .ty "int") (by rfl) T.int boot_int rfl) pa_nil)))
      (pe_and (pe_not (pe_callB call_isi (by rfl) Z.isi boot_isi (pa_cons (pv 0) (pa_cons (pe_bltn (v := .ty "bool") (by rfl) Z.bool (by decide +kernel) rfl) pa_nil))))
        (pe_one (pe_cmpR op_ge (pv 0) pe_int (nomark _)))))), ?_⟩
    rcases nc with ⟨t, ty, kt⟩ | ⟨b, rfl⟩ | ⟨n, rfl, n0⟩
    · exact ⟨_, rfl, _, _, _, _, false, rfl, .ty _, ty, kt, _, rfl, iteF k⟩
    · refine ⟨_, rfl, _, _, _, _, true, rfl, .ty _, .base (.bl _), kit_ty (by decide +kernel), _, rfl, iteT ?_⟩
      exact ⟨_, rfl, _, _, _, _, true, rfl, .ty _, .base (.bl _), kit_ty (by decide +kernel), _, rfl, _, rfl, iteF k⟩
    · refine ⟨_, rfl, _, _, _, _, true, rfl, .ty _, .base (.int _), kit_ty (by decide +kernel), _, rfl, iteT ?_⟩
      refine ⟨_, rfl, _, _, _, _, false, rfl, .ty _, .base (.int _), kit_ty (by decide +kernel), _, rfl, _, rfl, iteT ?_⟩
      refine ⟨_, rfl, _, _, rfl, rfl, ?_⟩
      show Q (.bl (decide ((0 : Int) ≤ n))) H
      rw [decide_eq_false (by omega)]
      exact k
def spNoKnd (K : PySem.W.Frag) (C : Addr) : Sp := fun vs H Q _ => ∃ (p : Addr) (ws : List Str) (f : Str → Str → Str) (v : V), vs = [.ref p, v] ∧ KdAt C H p ws f ∧ NoKnd K H v ws ∧ ∀ H', L2.Same H H' → Q (.bl false) H'
theorem ok_noKnd {g : Addr} {fd : FuncData} (F : Fun K "is_kind" "is_kind" pIsKind g fd) (T : KTx K mg C) (Z : Blp mg) (M : Mee P w K mg base C 1 "words" ["self"] (spKWords C)) : FnOk P w K mg base CX0 2 g fd ["kinds", "value"] (spNoKnd K C) := by
  refine F.ok scIsKind (fun vs H Q E h => ?_) (fun cdv A outer s H vs Q E hr h => ?_)
  · obtain ⟨p, ws, f, x, rfl, _⟩ := h
    rfl
  · obtain ⟨p, ws, f, v, rfl, kd, nk, k⟩ := h
    refine ⟨_, pss_one (ps_ret (pe_and (pe_callB call_isi (by rfl) Z.isi boot_isi (pa_cons (pv 1) (pa_cons (pe_bltn (v := .ty "str") (by rfl) Z.str (by decide +kernel) rfl) pa_nil)))
      (pe_one (pe_cmpR op_in_seq (pv 1) (pe_m0 M T.cl hr (pv 0)) (by rfl))))), ?_⟩
    rcases nk with ⟨t, ty, kt⟩ | ⟨x, rfl, mx⟩
    · exact ⟨_, rfl, _, _, _, _, false, rfl, .ty _, ty, kt, _, rfl, iteF (k _ fun _ _ e => e)⟩
    · refine ⟨_, rfl, _, _, _, _, true, rfl, .ty _, .base (.str _), kit_ty (by decide +kernel), _, rfl, iteT ?_⟩
      obtain ⟨dx, d, l, kd'⟩ := id kd
      refine ⟨_, rfl, _, rfl, p, dx, _, rfl, kd'.ob, flds_no _ _ (by decide +kernel) (by decide +kernel), p, ws, f, rfl, kd, fun q H1 s1 hq0 hq => ?_⟩
      refine ⟨q, _, rfl, .inl (SqL.of hq), rfl, flat_strs ws, ?_⟩
      rw [if_neg Bool.false_ne_true, inV_strs, decide_eq_false mx]
      exact k _ s1
def spXSet (K : PySem.W.Frag) (S IS : Addr) : Sp := fun vs H _ E => ∃ v, vs = [v] ∧ NotC K H v S ∧ Rz IS v H E
theorem ok_xSet {g : Addr} {fd : FuncData} (F : Fun K "check_setting" "check_setting" pCheckSetting g fd) (T : STx K mg S) (Z : Blp mg) (Er : ErrX P w K mg base "InvalidSetting" IS) : FnOk P w K mg base (CXN P w) 3 g fd ["setting"] (spXSet K S IS) := by
  refine funN F scCheckSet (fun vs H Q E h => ?_) (fun cdv A outer s H vs Q E hr h => ?_)
  · obtain ⟨v, rfl, _⟩ := h
    rfl
  · obtain ⟨v, rfl, ⟨t, ty, kt⟩, k⟩ := h
    refine ⟨_, pss_one (ps_if (pt_not (pt_val (pe_callB call_isi (by rfl) Z.isi boot_isi (pa_cons (pv 0) (pa_cons (pe_glob (v := .ref S) rfl T.mgS rfl) pa_nil))))) (pss_one (ps_err Er own_of rfl hr rfl (pv 0))) pss_nil), ?_⟩
    exact ⟨_, rfl, _, _, _, _, false, rfl, .own _, ty, kt, _, rfl, iteT ⟨_, rfl, fun d hd => k.at hd⟩⟩
def spXCnt (K : PySem.W.Frag) (IC : Addr) : Sp := fun vs H _ E => ∃ (v : V) (m : Int), vs = [v, .int m] ∧ NoCnt K H v ∧ Rz IC v H E
theorem ok_xCnt {g : Addr} {fd : FuncData} (F : Fun K "check_count" "check_count" pCheckCnt g fd) (M : Cee P w K mg base 1 "is_count" ["value"] (spNoCnt K)) (Er : ErrX P w K mg base "InvalidCount" IC) : FnOk P w K mg base (CXN P w) 3 g fd ["number", "least"] (spXCnt K IC) := by
  refine funN F scCheckCnt (fun vs H Q E h => ?_) (fun cdv A outer s H vs Q E hr h => ?_)
  · obtain ⟨v, m, rfl, _⟩ := h
    rfl
  · obtain ⟨v, m, rfl, nc, k⟩ := h
    refine ⟨_, pss_one (ps_if (pt_cut <| PW.pt (pw_or (pt_not (pt_val (pe_c M hr rfl (pa_cons (pv 0) pa_nil)))) (pw_or1 (pt_cmpR op_lt (pv 0) (pv 1) (nomark _))))) (pss_one (ps_err Er own_of rfl hr rfl (pv 0))) pss_nil), ?_⟩
    refine ⟨fun b H' => b = true ∧ H' = H, ⟨_, rfl, _, rfl, nc, _, rfl, iteT ⟨rfl, rfl⟩⟩, ?_⟩
    rintro b H' ⟨rfl, rfl⟩
    exact iteT ⟨_, rfl, fun d hd => k.at hd⟩
def spXKnd (K : PySem.W.Frag) (C IK : Addr) : Sp := fun vs H _ E => ∃ (p : Addr) (ws : List Str) (f : Str → Str → Str) (v : V), vs = [.ref p, v] ∧ KdAt C H p ws f ∧ NoKnd K H v ws ∧ Rz IK v H E
theorem ok_xKnd {g : Addr} {fd : FuncData} (F : Fun K "check_kind" "check_kind" pCheckKind g fd) (M : Cee P w K mg base 2 "is_kind" ["kinds", "value"] (spNoKnd K C)) (Er : ErrX P w K mg base "InvalidKind" IK) : FnOk P w K mg base (CXN P w) 3 g fd ["kinds", "kind"] (spXKnd K C IK) := by
  refine funN F scCheckKind (fun vs H Q E h => ?_) (fun cdv A outer s H vs Q E hr h => ?_)
  · obtain ⟨p, ws, f, v, rfl, _⟩ := h
    rfl
  · obtain ⟨p, ws, f, v, rfl, kd, nk, k⟩ := h
    refine ⟨_, pss_one (ps_if (pt_not (pt_val (pe_c M hr rfl (pa_cons (pv 0) (pa_cons (pv 1) pa_nil))))) (pss_one (ps_err Er own_of rfl hr rfl (pv 1))) pss_nil), ?_⟩
    exact ⟨_, rfl, _, rfl, p, ws, f, v, rfl, kd, nk, fun H1 s1 => ⟨_, rfl, iteT ⟨_, rfl, fun d hd => (k.mono s1).at hd⟩⟩⟩
theorem ok_xOpenK {g : Addr} {fd : FuncData} (F : Fun K "open_kinds" "open_kinds" pOpenK g fd) (M : Ree P w K mg base 3 "check_setting" ["setting"] (spXSet K S IS)) : FnOk P w K mg base (CXN P w) 4 g fd ["setting"] (spXSet K S IS) := by
  refine funN F scOpenK (fun vs H Q E h => ?_) (fun cdv A outer s H vs Q E hr h => ?_)
  · obtain ⟨v, rfl, _⟩ := h
    rfl
  · obtain ⟨v, rfl, nc, k⟩ := h
    exact ⟨_, pss_cons (ps_expr (pe_r M own_of hr rfl (pa_cons (pv 0) pa_nil))) pss_any, _, rfl, v, rfl, nc, k⟩
theorem ok_xEndless {g : Addr} {fd : FuncData} (F : Fun K "is_endless" "is_endless" pEndless g fd) (B0 : Blt mg) (M : Ree P w K mg base 4 "open_kinds" ["setting"] (spXSet K S IS)) : FnOk P w K mg base (CXN P w) 5 g fd ["setting"] (spXSet K S IS) := by
  refine funN F scEndless (fun vs H Q E h => ?_) (fun cdv A outer s H vs Q E hr h => ?_)
  · obtain ⟨v, rfl, _⟩ := h
    rfl
  · obtain ⟨v, rfl, nc, k⟩ := h
    exact ⟨_, pss_one (ps_ret (pe_cmpR op_gt (pe_callB call_len_seq (by rfl) B0.len PySem.boot_len (pa_cons (pe_r M own_of hr rfl (pa_cons (pv 0) pa_nil)) pa_nil)) pe_int (nomark _))), _, rfl, v, rfl, nc, k⟩
theorem ok_xCntD {g : Addr} {fd : FuncData} (F : Fun K "counting_deeds" "counting_deeds" pCntDeeds g fd) (M : Ree P w K mg base 4 "open_kinds" ["setting"] (spXSet K S IS)) : FnOk P w K mg base (CXN P w) 5 g fd ["setting"] (spXSet K S IS) := by
  refine funN F scCntD (fun vs H Q E h => ?_) (fun cdv A outer s H vs Q E hr h => ?_)
  · obtain ⟨v, rfl, _⟩ := h
    rfl
  · obtain ⟨v, rfl, nc, k⟩ := h
    have nd := scCntD.nd
    exact ⟨_, pss_cons (ps_set (i := 1) nd rfl (Or.inr rfl) (pe_r M own_of hr rfl (pa_cons (pv 0) pa_nil))) pss_any, _, rfl, v, rfl, nc, k⟩
theorem ok_xClosed {g : Addr} {fd : FuncData} (F : Fun K "closed" "closed" pClosed g fd) (M : Ree P w K mg base 3 "check_setting" ["setting"] (spXSet K S IS)) : FnOk P w K mg base (CXN P w) 4 g fd ["setting"] (spXSet K S IS) := by
  refine funN F scClosedS (fun vs H Q E h => ?_) (fun cdv A outer s H vs Q E hr h => ?_)
  · obtain ⟨v, rfl, _⟩ := h
    rfl
  · obtain ⟨v, rfl, nc, k⟩ := h
    exact ⟨_, pss_cons (ps_expr (pe_r M own_of hr rfl (pa_cons (pv 0) pa_nil))) pss_any, _, rfl, v, rfl, nc, k⟩
def spXOp1 (K : PySem.W.Frag) (S IS : Addr) : Sp := fun vs H _ E => ∃ v u, vs = [v, u] ∧ NotC K H v S ∧ Rz IS v H E
theorem ok_xOp1 {g : Addr} {fd : FuncData} (F : Fun K "opened" "opened" pOpened g fd) (M : Ree P w K mg base 3 "check_setting" ["setting"] (spXSet K S IS)) : FnOk P w K mg base (CXN P w) 4 g fd ["setting", "kind"] (spXOp1 K S IS) := by
  refine funN F scOpened (fun vs H Q E h => ?_) (fun cdv A outer s H vs Q E hr h => ?_)
  · obtain ⟨v, u, rfl, _⟩ := h
    rfl
  · obtain ⟨v, u, rfl, nc, k⟩ := h
    exact ⟨_, pss_cons (ps_expr (pe_r M own_of hr rfl (pa_cons (pv 0) pa_nil))) pss_any, _, rfl, v, rfl, nc, k⟩
def spXOp2 (K : PySem.W.Frag) (S C IK : Addr) : Sp := fun vs H _ E => ∃ (A : SA) (ws : List Str) (f : Str → Str → Str) (dl : List (Str × Str)) (tw : List Str) (v : V), vs = [.ref A.q, v] ∧ StIn S C H A ws f dl tw ∧ NoKnd K H v ws ∧ Rz IK v H E
theorem ok_xOp2 {g : Addr} {fd : FuncData} (F : Fun K "opened" "opened" pOpened g fd) (TS : STx K mg S) (M : EndC P w K mg base S C) (N : Ree P w K mg base 3 "check_kind" ["kinds", "kind"] (spXKnd K C IK)) : FnOk P w K mg base (CXN P w) 4 g fd ["setting", "kind"] (spXOp2 K S C IK) := by
  refine funN F scOpened (fun vs H Q E h => ?_) (fun cdv A outer s H vs Q E hr h => ?_)
  · obtain ⟨A, ws, f, dl, tw, v, rfl, _⟩ := h
    rfl
  · obtain ⟨A0, ws, f, dl, tw, v, rfl, st, nk, k⟩ := h
    refine ⟨_, pss_cons (ps_expr (pe_c M.cs hr rfl (pa_cons (pv 0) pa_nil)))
      (pss_cons (ps_expr (pe_r N own_of hr rfl (pa_cons (pe_m0 M.knd TS.cl hr (pv 0)) (pa_cons (pv 1) pa_nil)))) pss_any), ?_⟩
    refine ⟨_, rfl, A0, ws, f, dl, tw, rfl, st, ?_⟩
    exact ⟨_, rfl, A0.q, A0.dx, _, rfl, st.ob, sflds_no _ _ _ (by decide +kernel) (by decide +kernel) (by decide +kernel), A0, ws, f, dl, tw, rfl, st, _, rfl, A0.p, ws, f, v, rfl, st.kdAt, nk, k⟩
def spXOp3 (S C RF : Addr) : Sp := fun vs H _ E => ∃ (A : SA) (ws : List Str) (f : Str → Str → Str) (dl : List (Str × Str)) (tw : List Str) (x : Str), vs = [.ref A.q, .str x] ∧ StIn S C H A ws f dl tw ∧ x ∈ ws ∧ x ∉ tw ∧ Rz RF (.str x) H E
theorem ok_xOp3 {g : Addr} {fd : FuncData} (F : Fun K "opened" "opened" pOpened g fd) (TS : STx K mg S) (M : EndC P w K mg base S C) (N : Cee P w K mg base 3 "check_kind" ["kinds", "kind"] (spCheckKind C)) (Er : ErrX P w K mg base "Refused" RF) : FnOk P w K mg base (CXN P w) 4 g fd ["setting", "kind"] (spXOp3 S C RF) := by
  refine funN F scOpened (fun vs H Q E h => ?_) (fun cdv A outer s H vs Q E hr h => ?_)
  · obtain ⟨A, ws, f, dl, tw, x, rfl, _⟩ := h
    rfl
  · obtain ⟨A0, ws, f, dl, tw, x, rfl, st, mw, mt, k⟩ := h
    have nd := scOpened.nd
    refine ⟨_, pss_cons (ps_expr (pe_c M.cs hr rfl (pa_cons (pv 0) pa_nil)))
      (pss_cons (ps_expr (pe_c N hr rfl (pa_cons (pe_m0 M.knd TS.cl hr (pv 0)) (pa_cons (pv 1) pa_nil))))
      (pss_cons (ps_set (i := 2) nd rfl (Or.inl rfl) (pe_m0 M.twi TS.cl hr (pv 0)))
      (pss_cons (ps_if (pt_cmpR op_notIn_seq (pv 1) (pv 2) (by rfl)) (pss_one (ps_err Er own_of rfl hr rfl (pv 1))) pss_nil) pss_any))), ?_⟩
    refine ⟨_, rfl, A0, ws, f, dl, tw, rfl, st, ?_⟩
    refine ⟨_, rfl, A0.q, A0.dx, _, rfl, st.ob, sflds_no _ _ _ (by decide +kernel) (by decide +kernel) (by decide +kernel), A0, ws, f, dl, tw, rfl, st, _, rfl, A0.p, ws, f, x, rfl, st.kdAt, mw, fun H1 s1 => ?_⟩
    have st1 := st.mono s1
    refine ⟨_, rfl, A0.q, A0.dx, _, rfl, st1.ob, sflds_no _ _ _ (by decide +kernel) (by decide +kernel) (by decide +kernel), A0, ws, f, dl, tw, rfl, st1, fun t H2 s2 ht0 ht => ?_⟩
    refine at_name (σ' := [some (.ref A0.q), some (.str x), some (.ref t), none]) rfl ?_
    refine ⟨_, rfl, _, rfl, t, _, rfl, .inl (SqL.of ht), rfl, flat_strs _, _, rfl, ?_⟩
    rw [inV_strs, decide_eq_false mt]
    exact iteT ⟨_, rfl, fun d hd => (k.mono (s1.trans s2)).at hd⟩
def spXCs1 (K : PySem.W.Frag) (S IS : Addr) : Sp := fun vs H _ E => ∃ v u x, vs = [v, u, x] ∧ NotC K H v S ∧ Rz IS v H E
theorem ok_xCs1 {g : Addr} {fd : FuncData} (F : Fun K "counting_store" "counting_store" pCntStore g fd) (M : Ree P w K mg base 3 "check_setting" ["setting"] (spXSet K S IS)) : FnOk P w K mg base (CXN P w) 9 g fd ["setting", "deed", "number"] (spXCs1 K S IS) := by
  refine FnOk.mono (j := 4) (funN F scCS (fun vs H Q E h => ?_) (fun cdv A outer s H vs Q E hr h => ?_)) (by decide)
  · obtain ⟨v, u, x, rfl, _⟩ := h
    rfl
  · obtain ⟨v, u, x, rfl, nc, k⟩ := h
    exact ⟨_, pss_cons (ps_expr (pe_r M own_of hr rfl (pa_cons (pv 0) pa_nil))) pss_any, _, rfl, v, rfl, nc, k⟩
theorem opOder {X : Cx} {g : Value → Value → Sem Value} {r1 r2 : R2} (a : OpR X g r1) (b : OpR X g r2) : OpR X g (fun x y H Q => r1 x y H Q ∨ r2 x y H Q) :=
  fun pins s σ H x y v u Q I rx ry h => h.elim (a pins s σ H x y v u Q I rx ry) (b pins s σ H x y v u Q I rx ry)
theorem dp_texts {H : Hp} : ∀ (ws : List Str), DpAll K H (ws.map V.str) (ws.map PyData.str)
  | [] => .nil
  | x :: ws => .cons (.str x) (dp_texts ws)
theorem texts_lay : ∀ {ws : List Str}, (∀ x ∈ ws, PyData.strOk x = true) → PyData.canLayAll0 (ws.map PyData.str) = true
  | [], _ => rfl
  | x :: ws, h => by
    rw [List.map_cons, PyData.canLayAll0, PyData.canLay0, h x List.mem_cons_self, texts_lay fun y hy => h y (List.mem_cons_of_mem _ hy)]
    rfl
theorem texts_depth : ∀ (ws : List Str), PyData.depthAll (ws.map PyData.str) ≤ 1
  | [] => by simp [PyData.depthAll]
  | x :: ws => by
    have := texts_depth ws
    rw [List.map_cons, PyData.depthAll]
    simp only [PyData.depth]
    omega
theorem texts_shaped {ws : List Str} (h : ∀ x ∈ ws, PyData.strOk x = true) : SeqAt.shaped (.list (ws.map PyData.str)) = true := by
  show (PyData.canLay0 (.list (ws.map PyData.str)) && decide (PyData.depth (.list (ws.map PyData.str)) ≤ 64)) = true
  have h3 := texts_depth ws
  have h4 : PyData.depth (.list (ws.map PyData.str)) ≤ 64 := by
    simp only [PyData.depth]
    omega
  rw [Bool.and_eq_true]
  exact ⟨by simp only [PyData.canLay0]; exact texts_lay h, decide_eq_true h4⟩
/-- such a value is not in the list of texts -/
theorem OutOf.read {H : Hp} {v : V} {ws : List Str} {q : Addr} {Q : VK} (o : OutOf K H v ws) (hq : SqL K H q (ws.map V.str)) (ok : ∀ x ∈ ws, PyData.strOk x = true) (k : Q (.bl true) H) : rIn K true v (.ref q) H Q ∨ rNotInD K v (.ref q) H Q ∨ rDictOut K v (.ref q) H Q := by
  rcases o with ⟨f, e⟩ | ⟨d, hd, sd, e⟩ | ⟨b, kvs, rfl, hb⟩
  · refine .inl ⟨q, _, rfl, .inl hq, f, flat_strs _, ?_⟩
    rw [e]
    exact k
  · refine .inr (.inl ⟨d, _, hd, .lst hq (dp_texts ws), sd, texts_shaped ok, ?_⟩)
    rw [e]
    exact k
  · exact .inr (.inr ⟨b, q, kvs, ws, rfl, rfl, hb, hq, k⟩)
theorem tyx_mono {H H' : Hp} {v : V} {t : Value} (s : L2.Same H H') (h : TyX K H v t) : TyX K H' v t := by
  cases h with
  | base b =>
    cases b with
    | non => exact .base .non
    | bl y => exact .base (.bl y)
    | int i => exact .base (.int i)
    | str y => exact .base (.str y)
    | flt y => exact .base (.flt y)
    | lst e => exact .base (.lst (s _ _ e))
    | frz e => exact .base (.frz (s _ _ e))
    | tup e => exact .base (.tup (s _ _ e))
    | dK e => exact .base (.dK (s _ _ e))
    | dT e => exact .base (.dT (s _ _ e))
    | ins e cl ha hn htk hm => exact .base (.ins (s _ _ e) cl ha hn htk hm)
  | byt b => exact .byt b
  | set e => exact .set (s _ _ e)
  | kList e c => exact .kList e c
  | kTuple e c => exact .kTuple e c
  | kDict e c => exact .kDict e c
  | fTuple e => exact .fTuple (s _ _ e)
  | fDict e => exact .fDict (s _ _ e)
theorem NotC.mono {H H' : Hp} {v : V} {C : Addr} (s : L2.Same H H') (h : NotC K H v C) : NotC K H' v C := by
  obtain ⟨t, ty, e⟩ := h
  exact ⟨t, tyx_mono s ty, e⟩
theorem NoCnt.mono {H H' : Hp} {v : V} (s : L2.Same H H') (h : NoCnt K H v) : NoCnt K H' v := by
  rcases h with ⟨t, ty, e⟩ | h
  · exact .inl ⟨t, tyx_mono s ty, e⟩
  · exact .inr h
theorem NoKnd.mono {H H' : Hp} {v : V} {ws : List Str} (s : L2.Same H H') (h : NoKnd K H v ws) : NoKnd K H' v ws := by
  rcases h with ⟨t, ty, e⟩ | h
  · exact .inl ⟨t, tyx_mono s ty, e⟩
  · exact .inr h
mutual
theorem dp_mono {H H' : Hp} (s : L2.Same H H') : ∀ {v : V} {d : PyData}, Dp K H v d → Dp K H' v d
  | _, _, .non => .non
  | _, _, .bl b => .bl b
  | _, _, .int i => .int i
  | _, _, .str x => .str x
  | _, _, .lst h p => .lst (s.seq h) (dps_mono s p)
  | _, _, .tup h p => .tup (h.elim (fun h => .inl (h.elim (fun h => .inl (s _ _ h)) fun ⟨o, h⟩ => .inr ⟨o, s _ _ h⟩)) fun h => .inr h) (dps_mono s p)
theorem dps_mono {H H' : Hp} (s : L2.Same H H') : ∀ {vs : List V} {ds : List PyData}, DpAll K H vs ds → DpAll K H' vs ds
  | _, _, .nil => .nil
  | _, _, .cons h p => .cons (dp_mono s h) (dps_mono s p)
end
theorem OutOf.mono {H H' : Hp} {v : V} {ws : List Str} (s : L2.Same H H') (h : OutOf K H v ws) : OutOf K H' v ws := by
  rcases h with h | ⟨d, hd, r⟩ | ⟨b, kvs, e, h⟩
  · exact .inl h
  · exact .inr (.inl ⟨d, dp_mono s hd, r⟩)
  · exact .inr (.inr ⟨b, kvs, e, s _ _ h⟩)
theorem wd_strOk {x : Str} (h : Wd x) : PyData.strOk x = true := by
  unfold PyData.strOk
  rw [Array.all_eq_true_iff_forall_mem]
  intro c hc
  have := h.2.2 c (Array.mem_toList_iff.mpr hc)
  exact decide_eq_true (by omega)
theorem hu65 {k : Nat} {A : Around} (r : Room k A) : A.units + 65 < cLine := by have := r.un; omega
def spXCs2 (K : PySem.W.Frag) (S C ID : Addr) : Sp := fun vs H _ E => ∃ (A : SA) (ws : List Str) (f : Str → Str → Str) (dl : List (Str × Str)) (tw : List Str) (v u : V), vs = [.ref A.q, v, u] ∧ StIn S C H A ws f dl tw ∧ OutOf K H v (keysD dl) ∧ Rz ID v H E
theorem ok_xCs2 {g : Addr} {fd : FuncData} (F : Fun K "counting_store" "counting_store" pCntStore g fd) (TS : STx K mg S) (Z : Blp mg) (M : EndC P w K mg base S C) (Er : ErrX P w K mg base "InvalidDeed" ID) : FnOk P w K mg base (CXN P w) 4 g fd ["setting", "deed", "number"] (spXCs2 K S C ID) := by
  refine funN F scCS (fun vs H Q E h => ?_) (fun cdv A outer s H vs Q E hr h => ?_)
  · obtain ⟨A, ws, f, dl, tw, v, u, rfl, _⟩ := h
    rfl
  · obtain ⟨A0, ws, f, dl, tw, v, u, rfl, st, out, k⟩ := h
    have nd := scCS.nd
    refine ⟨_, pss_cons (ps_expr (pe_c M.cs hr rfl (pa_cons (pv 0) pa_nil)))
      (pss_cons (ps_set (i := 3) nd rfl (Or.inr rfl) (pe_callTy (call_listD rfl) (by rfl) Z.list (by decide +kernel) (pa_cons (pe_m0 M.ded TS.cl hr (pv 0)) pa_nil)))
      (pss_cons (ps_if (pt_cmpR (opOder op_notIn_seq (opOder (op_notInD (hu65 hr)) (op_dictOut (hu_of hr)))) (pv 1) (pv 3) (by rfl)) (pss_one (ps_err Er own_of rfl hr rfl (pv 1))) pss_nil) pss_any)), ?_⟩
    refine ⟨_, rfl, A0, ws, f, dl, tw, rfl, st, ?_⟩
    refine ⟨_, rfl, A0.q, A0.dx, _, rfl, st.ob, sflds_no _ _ _ (by decide +kernel) (by decide +kernel) (by decide +kernel), A0, ws, f, dl, tw, rfl, st, fun d H1 s1 hd0 hd => ?_⟩
    refine ⟨d, dkv dl, rfl, .inl hd, fun dq hdq0 => ?_⟩
    have ek : (dkv dl).map (fun kv => kV kv.1) = (keysD dl).map V.str := by
      unfold dkv keysD
      rw [List.map_map, List.map_map]; rfl
    rw [ek]
    have s2 := Same.new (H := H1) (o := .lst ((keysD dl).map V.str)) hdq0
    have hdq : upd H1 dq (.lst ((keysD dl).map V.str)) dq = _ := upd_same
    generalize upd H1 dq (.lst ((keysD dl).map V.str)) = H2 at s2 hdq ⊢
    have s02 := s1.trans s2
    refine at_name (σ' := [some (.ref A0.q), some v, some u, some (.ref dq), none, none, none, none, none, none]) rfl ?_
    refine ⟨_, rfl, _, rfl, (out.mono s02).read (SqL.of hdq) (fun x hx => wd_strOk (st.ok.wd x hx)) ⟨_, rfl, iteT ⟨_, rfl, fun e he => (k.mono s02).at he⟩⟩⟩
/-- the way up to the number -/
def spXCs3 (K : PySem.W.Frag) (S C IC : Addr) : Sp := fun vs H _ E => ∃ (A : SA) (ws : List Str) (f : Str → Str → Str) (dl : List (Str × Str)) (tw : List Str) (dd : Str) (u : V), vs = [.ref A.q, .str dd, u] ∧ StIn S C H A ws f dl tw ∧ dd ∈ keysD dl ∧ NoCnt K H u ∧ Rz IC u H E
theorem ok_xCs3 {g : Addr} {fd : FuncData} (F : Fun K "counting_store" "counting_store" pCntStore g fd) (TS : STx K mg S) (Z : Blp mg) (M : EndC P w K mg base S C) (N : Ree P w K mg base 3 "check_count" ["number", "least"] (spXCnt K IC)) : FnOk P w K mg base (CXN P w) 4 g fd ["setting", "deed", "number"] (spXCs3 K S C IC) := by
  refine funN F scCS (fun vs H Q E h => ?_) (fun cdv A outer s H vs Q E hr h => ?_)
  · obtain ⟨A, ws, f, dl, tw, v, u, rfl, _⟩ := h
    rfl
  · obtain ⟨A0, ws, f, dl, tw, dd, u, rfl, st, mds, nc, k⟩ := h
    have nd := scCS.nd
    refine ⟨_, pss_cons (ps_expr (pe_c M.cs hr rfl (pa_cons (pv 0) pa_nil)))
      (pss_cons (ps_set (i := 3) nd rfl (Or.inr rfl) (pe_callTy (call_listD rfl) (by rfl) Z.list (by decide +kernel) (pa_cons (pe_m0 M.ded TS.cl hr (pv 0)) pa_nil)))
      (pss_cons (ps_if (pt_cmpR op_notIn_seq (pv 1) (pv 3) (by rfl)) (pss_one ps_never) pss_nil)
      (pss_cons (ps_expr (pe_r N own_of hr rfl (pa_cons (pv 2) (pa_cons pe_int pa_nil)))) pss_any))), ?_⟩
    refine ⟨_, rfl, A0, ws, f, dl, tw, rfl, st, ?_⟩
    refine ⟨_, rfl, A0.q, A0.dx, _, rfl, st.ob, sflds_no _ _ _ (by decide +kernel) (by decide +kernel) (by decide +kernel), A0, ws, f, dl, tw, rfl, st, fun d H1 s1 hd0 hd => ?_⟩
    refine ⟨d, dkv dl, rfl, .inl hd, fun dq hdq0 => ?_⟩
    have ek : (dkv dl).map (fun kv => kV kv.1) = (keysD dl).map V.str := by
      unfold dkv keysD
      rw [List.map_map, List.map_map]; rfl
    rw [ek]
    have s2 := Same.new (H := H1) (o := .lst ((keysD dl).map V.str)) hdq0
    have hdq : upd H1 dq (.lst ((keysD dl).map V.str)) dq = _ := upd_same
    generalize upd H1 dq (.lst ((keysD dl).map V.str)) = H2 at s2 hdq ⊢
    have s02 := s1.trans s2
    refine at_name (σ' := [some (.ref A0.q), some (.str dd), some u, some (.ref dq), none, none, none, none, none, none]) rfl ?_
    refine ⟨_, rfl, _, rfl, dq, _, rfl, .inl (SqL.of hdq), rfl, flat_strs _, _, rfl, ?_⟩
    rw [inV_strs, decide_eq_true mds]
    exact iteF ⟨_, rfl, u, 0, rfl, nc.mono s02, k.mono s02⟩
def spXCs4 (S C RF : Addr) : Sp := fun vs H _ E => ∃ (A : SA) (ws : List Str) (f : Str → Str → Str) (dl : List (Str × Str)) (tw : List Str) (dd : Str) (n : Nat), vs = [.ref A.q, .str dd, .int (n : Nat)] ∧ StIn S C H A ws f dl tw ∧ dd ∈ keysD dl ∧ dd ∉ cntD ws f dl tw ∧ Rz RF (.str dd) H E
theorem ok_xCs4 {g : Addr} {fd : FuncData} (F : Fun K "counting_store" "counting_store" pCntStore g fd) (TS : STx K mg S) (Z : Blp mg) (M : EndC P w K mg base S C) (cnt : Cee P w K mg base 2 "check_count" ["number", "least"] spCheckCnt) (cdd : Cee P w K mg base 7 "counting_deeds" ["setting"] (spCntD S C)) (Er : ErrX P w K mg base "Refused" RF) : FnOk P w K mg base (CXN P w) 8 g fd ["setting", "deed", "number"] (spXCs4 S C RF) := by
  refine funN F scCS (fun vs H Q E h => ?_) (fun cdv A outer s H vs Q E hr h => ?_)
  · obtain ⟨A, ws, f, dl, tw, v, u, rfl, _⟩ := h
    rfl
  · obtain ⟨A0, ws, f, dl, tw, dd, n, rfl, st, mds, mdd, k⟩ := h
    have nd := scCS.nd
    refine ⟨_, pss_cons (ps_expr (pe_c M.cs hr rfl (pa_cons (pv 0) pa_nil)))
      (pss_cons (ps_set (i := 3) nd rfl (Or.inr rfl) (pe_callTy (call_listD rfl) (by rfl) Z.list (by decide +kernel) (pa_cons (pe_m0 M.ded TS.cl hr (pv 0)) pa_nil)))
      (pss_cons (ps_if (pt_cmpR op_notIn_seq (pv 1) (pv 3) (by rfl)) (pss_one ps_never) pss_nil)
      (pss_cons (ps_expr (pe_c cnt hr rfl (pa_cons (pv 2) (pa_cons pe_int pa_nil))))
      (pss_cons (ps_if (pt_cmpR op_notIn_seq (pv 1) (pe_c cdd hr rfl (pa_cons (pv 0) pa_nil)) (by rfl)) (pss_one (ps_err Er own_of rfl hr rfl (pv 1))) pss_nil) pss_any)))), ?_⟩
    refine ⟨_, rfl, A0, ws, f, dl, tw, rfl, st, ?_⟩
    refine ⟨_, rfl, A0.q, A0.dx, _, rfl, st.ob, sflds_no _ _ _ (by decide +kernel) (by decide +kernel) (by decide +kernel), A0, ws, f, dl, tw, rfl, st, fun d H1 s1 hd0 hd => ?_⟩
    refine ⟨d, dkv dl, rfl, .inl hd, fun dq hdq0 => ?_⟩
    have ek : (dkv dl).map (fun kv => kV kv.1) = (keysD dl).map V.str := by
      unfold dkv keysD
      rw [List.map_map, List.map_map]; rfl
    rw [ek]
    have s2 := Same.new (H := H1) (o := .lst ((keysD dl).map V.str)) hdq0
    have hdq : upd H1 dq (.lst ((keysD dl).map V.str)) dq = _ := upd_same
    generalize upd H1 dq (.lst ((keysD dl).map V.str)) = H2 at s2 hdq ⊢
    have s02 := s1.trans s2
    have st2 := st.mono s02
    refine at_name (σ' := [some (.ref A0.q), some (.str dd), some (.int (n : Nat)), some (.ref dq), none, none, none, none, none, none]) rfl ?_
    refine ⟨_, rfl, _, rfl, dq, _, rfl, .inl (SqL.of hdq), rfl, flat_strs _, _, rfl, ?_⟩
    rw [inV_strs, decide_eq_true mds]
    refine iteF ?_
    refine ⟨_, rfl, n, rfl, ?_⟩
    refine ⟨_, rfl, _, rfl, A0, ws, f, dl, tw, rfl, st2, fun cq H3 s3 hcq0 hcq => ?_⟩
    refine ⟨cq, _, rfl, .inl (SqL.of hcq), rfl, flat_strs _, _, rfl, ?_⟩
    rw [inV_strs, decide_eq_false mdd]
    exact iteT ⟨_, rfl, fun e he => (k.mono (s02.trans s3)).at he⟩
end
end KT
set_option Elab.async false
set_option linter.all false
set_option maxRecDepth 100000
set_option maxHeartbeats 4000000
set_option pp.maxSteps 900
namespace KT
open PySem L2 PyProof.Rows DTp TxS DKq KX
section
variable {P : Program} {w : World} {K : PySem.W.Frag} {mg : Str → Option Value} {base : Heap} {C S G IS ID IC IK RF : Addr}
def spEnlA (K : PySem.W.Frag) (S C IS : Addr) : Sp := fun vs H Q E => spEndless S C vs H Q E0 ∨ spXSet K S IS vs H Q E
def spOpkA (K : PySem.W.Frag) (S C IS : Addr) : Sp := fun vs H Q E => spOpenK S C vs H Q E0 ∨ spXSet K S IS vs H Q E
def spCddA (K : PySem.W.Frag) (S C IS : Addr) : Sp := fun vs H Q E => spCntD S C vs H Q E0 ∨ spXSet K S IS vs H Q E
def spCloA (K : PySem.W.Frag) (S C IS : Addr) : Sp := fun vs H Q E => spClosedS S C vs H Q E0 ∨ spXSet K S IS vs H Q E
def spCstA (K : PySem.W.Frag) (S C G IS ID IC RF : Addr) : Sp := fun vs H Q E => spCntStore S C G vs H Q E0 ∨ spXCs1 K S IS vs H Q E ∨ spXCs2 K S C ID vs H Q E ∨ spXCs3 K S C IC vs H Q E ∨ spXCs4 S C RF vs H Q E
def spOpeA (K : PySem.W.Frag) (S C IS IK RF : Addr) : Sp := fun vs H Q E => spOpened S C vs H Q E0 ∨ spXOp1 K S IS vs H Q E ∨ spXOp2 K S C IK vs H Q E ∨ spXOp3 S C RF vs H Q E
structure AskC (P : Program) (w : World) (K : PySem.W.Frag) (mg : Str → Option Value) (base : Heap) (S C G IS ID IC IK RF : Addr) : Prop where
  enl : ReK P w K mg base 7 "is_endless" ["setting"] (spEnlA K S C IS) ["setting"] revG
  opk : ReK P w K mg base 6 "open_kinds" ["setting"] (spOpkA K S C IS) ["setting"] revG
  cdd : ReK P w K mg base 7 "counting_deeds" ["setting"] (spCddA K S C IS) ["setting"] revG
  clo : ReK P w K mg base 10 "closed" ["setting"] (spCloA K S C IS) ["setting"] revG
  cst : ReK P w K mg base 9 "counting_store" ["setting", "deed", "number"] (spCstA K S C G IS ID IC RF) ["number", "deed", "setting"] revG
  ope : ReK P w K mg base 10 "opened" ["setting", "kind"] (spOpeA K S C IS IK RF) ["kind", "setting"] revG
/-- what each way calls -/
inductive WayOf (K : PySem.W.Frag) (S C G IS ID IC IK RF : Addr) : Str → Nat → Sp → Prop
  | is : WayOf K S C G IS ID IC IK RF "is" 1 (spEnlA K S C IS)
  | opn : WayOf K S C G IS ID IC IK RF "open" 1 (spOpkA K S C IS)
  | deeds : WayOf K S C G IS ID IC IK RF "deeds" 1 (spCddA K S C IS)
  | closed : WayOf K S C G IS ID IC IK RF "closed" 1 (spCloA K S C IS)
  | store : WayOf K S C G IS ID IC IK RF "store" 3 (spCstA K S C G IS ID IC RF)
  | opened : WayOf K S C G IS ID IC IK RF "opened" 2 (spOpeA K S C IS IK RF)
def spAsked (K : PySem.W.Frag) (S C G IS ID IC IK RF : Addr) : Sp := fun vs H Q E => ∃ (way : Str) (l : Addr) (n : Nat) (things : List V) (sp : Sp), vs = [.str way, .ref l] ∧ H l = some (.lst things) ∧ WayOf K S C G IS ID IC IK RF way n sp ∧ things.length = n ∧
  ∀ H1, L2.Same H H1 → sp things H1 Q E
theorem scAsked : FnScope ["_law_way", "_law_things"] ["_law_way", "_law_things"] (defScope sAsked) := ⟨rfl, rfl, rfl, by decide +kernel, rfl, by decide +kernel, by decide +kernel⟩
theorem ite_yes {c : Prop} [Decidable c] {a b : Prop} (h : c) (k : a) : if c then a else b := by
  rw [if_pos h]
  exact k
theorem ite_no {c : Prop} [Decidable c] {a b : Prop} (h : ¬c) (k : b) : if c then a else b := by
  rw [if_neg h]
  exact k
theorem ok_asked {g : Addr} {fd : FuncData} (F : Fun K "_law_asked" "_law_asked" sAsked g fd) (N : AskC P w K mg base S C G IS ID IC IK RF) : FnOk P w K mg base (CXN P w) 12 g fd ["_law_way", "_law_things"] (spAsked K S C G IS ID IC IK RF) := by
  refine funN F scAsked (fun vs H Q E h => ?_) (fun cdv A outer s H vs Q E hr h => ?_)
  · obtain ⟨way, l, n, things, sp, rfl, _⟩ := h
    rfl
  · obtain ⟨way, l, n, things, sp, rfl, hl, wo, ln, k⟩ := h
    refine ⟨_, pss_cons (ps_if (pt_cmpR op_in_seq (pv 0) (pe_tup (pa_cons pe_str (pa_cons pe_str pa_nil))) (by rfl)) (pss_one (ps_ret (pe_ifExp (pt_cmpR op_eq (pv 0) pe_str (nomark _))
        (pe_rk N.enl own_of hr rfl (pk_cons (pe_ix ix_list (pv 1) pe_int (fun _ _ => rfl)) pk_nil)) (pe_rk N.opk own_of hr rfl (pk_cons (pe_ix ix_list (pv 1) pe_int (fun _ _ => rfl)) pk_nil))))) pss_nil)
      (pss_cons (ps_if (pt_cmpR op_in_seq (pv 0) (pe_tup (pa_cons pe_str (pa_cons pe_str pa_nil))) (by rfl)) (pss_one (ps_ret (pe_ifExp (pt_cmpR op_eq (pv 0) pe_str (nomark _))
        (pe_rk N.cdd own_of hr rfl (pk_cons (pe_ix ix_list (pv 1) pe_int (fun _ _ => rfl)) pk_nil)) (pe_rk N.clo own_of hr rfl (pk_cons (pe_ix ix_list (pv 1) pe_int (fun _ _ => rfl)) pk_nil))))) pss_nil)
      (pss_one (ps_ret (pe_ifExp (pt_cmpR op_eq (pv 0) pe_str (nomark _))
        (pe_rk N.cst own_of hr rfl (pk_cons (pe_ix ix_list (pv 1) pe_int (fun _ _ => rfl)) (pk_cons (pe_ix ix_list (pv 1) pe_int (fun _ _ => rfl)) (pk_cons (pe_ix ix_list (pv 1) pe_int (fun _ _ => rfl)) pk_nil))))
        (pe_rk N.ope own_of hr rfl (pk_cons (pe_ix ix_list (pv 1) pe_int (fun _ _ => rfl)) (pk_cons (pe_ix ix_list (pv 1) pe_int (fun _ _ => rfl)) pk_nil))))))), ?_⟩
    have l2 : 2 ≤ sizeLine := by decide
    cases wo with
    | is =>
      match things, ln with
      | [v0], _ =>
        refine ⟨_, rfl, l2, fun tp htp => ⟨tp, _, rfl, .inr (SqT.of upd_same), rfl, rfl, _, rfl, ite_yes (by decide +kernel) ?_⟩⟩
        have s1 := Same.new (H := H) (o := .tup [.str "is", .str "open"]) htp
        have hl1 := s1 _ _ hl
        refine ⟨_, rfl, rfl, _, rfl, ite_yes (by decide +kernel) ?_⟩
        exact ⟨_, rfl, l, _, _, _, rfl, rfl, SqL.of hl1, atI_nat (j := 0) rfl, rfl, rfl, k _ s1⟩
    | opn =>
      match things, ln with
      | [v0], _ =>
        refine ⟨_, rfl, l2, fun tp htp => ⟨tp, _, rfl, .inr (SqT.of upd_same), rfl, rfl, _, rfl, ite_yes (by decide +kernel) ?_⟩⟩
        have s1 := Same.new (H := H) (o := .tup [.str "is", .str "open"]) htp
        have hl1 := s1 _ _ hl
        refine ⟨_, rfl, rfl, _, rfl, ite_no (by decide +kernel) ?_⟩
        exact ⟨_, rfl, l, _, _, _, rfl, rfl, SqL.of hl1, atI_nat (j := 0) rfl, rfl, rfl, k _ s1⟩
    | deeds =>
      match things, ln with
      | [v0], _ =>
        refine ⟨_, rfl, l2, fun tp htp => ⟨tp, _, rfl, .inr (SqT.of upd_same), rfl, rfl, _, rfl, ite_no (by decide +kernel) ?_⟩⟩
        have s0 := Same.new (H := H) (o := .tup [.str "is", .str "open"]) htp
        generalize upd H tp (.tup [.str "is", .str "open"]) = H0 at s0 ⊢
        refine ⟨_, rfl, l2, fun tq htq => ⟨tq, _, rfl, .inr (SqT.of upd_same), rfl, rfl, _, rfl, ite_yes (by decide +kernel) ?_⟩⟩
        have s1 := s0.trans (Same.new (H := H0) (o := .tup [.str "deeds", .str "closed"]) htq)
        have hl1 := s1 _ _ hl
        refine ⟨_, rfl, rfl, _, rfl, ite_yes (by decide +kernel) ?_⟩
        exact ⟨_, rfl, l, _, _, _, rfl, rfl, SqL.of hl1, atI_nat (j := 0) rfl, rfl, rfl, k _ s1⟩
    | closed =>
      match things, ln with
      | [v0], _ =>
        refine ⟨_, rfl, l2, fun tp htp => ⟨tp, _, rfl, .inr (SqT.of upd_same), rfl, rfl, _, rfl, ite_no (by decide +kernel) ?_⟩⟩
        have s0 := Same.new (H := H) (o := .tup [.str "is", .str "open"]) htp
        generalize upd H tp (.tup [.str "is", .str "open"]) = H0 at s0 ⊢
        refine ⟨_, rfl, l2, fun tq htq => ⟨tq, _, rfl, .inr (SqT.of upd_same), rfl, rfl, _, rfl, ite_yes (by decide +kernel) ?_⟩⟩
        have s1 := s0.trans (Same.new (H := H0) (o := .tup [.str "deeds", .str "closed"]) htq)
        have hl1 := s1 _ _ hl
        refine ⟨_, rfl, rfl, _, rfl, ite_no (by decide +kernel) ?_⟩
        exact ⟨_, rfl, l, _, _, _, rfl, rfl, SqL.of hl1, atI_nat (j := 0) rfl, rfl, rfl, k _ s1⟩
    | store =>
      match things, ln with
      | [v0, v1, v2], _ =>
        refine ⟨_, rfl, l2, fun tp htp => ⟨tp, _, rfl, .inr (SqT.of upd_same), rfl, rfl, _, rfl, ite_no (by decide +kernel) ?_⟩⟩
        have s0 := Same.new (H := H) (o := .tup [.str "is", .str "open"]) htp
        generalize upd H tp (.tup [.str "is", .str "open"]) = H0 at s0 ⊢
        refine ⟨_, rfl, l2, fun tq htq => ⟨tq, _, rfl, .inr (SqT.of upd_same), rfl, rfl, _, rfl, ite_no (by decide +kernel) ?_⟩⟩
        have s1 := s0.trans (Same.new (H := H0) (o := .tup [.str "deeds", .str "closed"]) htq)
        have hl1 := s1 _ _ hl
        refine ⟨_, rfl, rfl, _, rfl, ite_yes (by decide +kernel) ?_⟩
        exact ⟨_, rfl, l, _, _, _, rfl, rfl, SqL.of hl1, atI_nat (j := 2) rfl, _, rfl, l, _, _, _, rfl, rfl, SqL.of hl1, atI_nat (j := 1) rfl, _, rfl, l, _, _, _, rfl, rfl, SqL.of hl1, atI_nat (j := 0) rfl, rfl, rfl, k _ s1⟩
    | opened =>
      match things, ln with
      | [v0, v1], _ =>
        refine ⟨_, rfl, l2, fun tp htp => ⟨tp, _, rfl, .inr (SqT.of upd_same), rfl, rfl, _, rfl, ite_no (by decide +kernel) ?_⟩⟩
        have s0 := Same.new (H := H) (o := .tup [.str "is", .str "open"]) htp
        generalize upd H tp (.tup [.str "is", .str "open"]) = H0 at s0 ⊢
        refine ⟨_, rfl, l2, fun tq htq => ⟨tq, _, rfl, .inr (SqT.of upd_same), rfl, rfl, _, rfl, ite_no (by decide +kernel) ?_⟩⟩
        have s1 := s0.trans (Same.new (H := H0) (o := .tup [.str "deeds", .str "closed"]) htq)
        have hl1 := s1 _ _ hl
        refine ⟨_, rfl, rfl, _, rfl, ite_no (by decide +kernel) ?_⟩
        exact ⟨_, rfl, l, _, _, _, rfl, rfl, SqL.of hl1, atI_nat (j := 1) rfl, _, rfl, l, _, _, _, rfl, rfl, SqL.of hl1, atI_nat (j := 0) rfl, rfl, rfl, k _ s1⟩
end
end KT
set_option Elab.async false
set_option linter.all false
set_option maxRecDepth 100000
set_option maxHeartbeats 4000000
set_option pp.maxSteps 900
namespace KT
open PySem L2 PyProof.Rows DTp TxS DKq KX
section
variable {P : Program} {w : World} {K : PySem.W.Frag} {mg : Str → Option Value} {base : Heap} {C S G IS ID IC IK RF TW : Addr}
inductive KindOf (IS ID IC IK RF : Addr) : Addr → Str → Prop
  | set : KindOf IS ID IC IK RF IS "setting"
  | deed : KindOf IS ID IC IK RF ID "deed"
  | cnt : KindOf IS ID IC IK RF IC "count"
  | knd : KindOf IS ID IC IK RF IK "kind"
  | ref : KindOf IS ID IC IK RF RF "refused"
structure TolC (P : Program) (w : World) (K : PySem.W.Frag) (mg : Str → Option Value) (base : Heap) (IS ID IC IK RF TW : Addr) : Prop where
  eS : ErrX P w K mg base "InvalidSetting" IS
  eD : ErrX P w K mg base "InvalidDeed" ID
  eC : ErrX P w K mg base "InvalidCount" IC
  eK : ErrX P w K mg base "InvalidKind" IK
  eR : ErrX P w K mg base "Refused" RF
  tw : mg "TwiceError" = some (.ref TW)
  ve : mg "ValueError" = none
  isT : ∀ C ∈ [IS, ID, IC, IK, RF], PySem.W.kitOne K (.ref C) (.ref TW) = some true ∧ PySem.W.kitOne K (.ref C) (.type "ValueError") = some true
  mSS : PySem.W.exmOne K (.ref IS) (.ref IS) = some true
  mDS : PySem.W.exmOne K (.ref ID) (.ref IS) = some false
  mDD : PySem.W.exmOne K (.ref ID) (.ref ID) = some true
  mCS : PySem.W.exmOne K (.ref IC) (.ref IS) = some false
  mCD : PySem.W.exmOne K (.ref IC) (.ref ID) = some false
  mCC : PySem.W.exmOne K (.ref IC) (.ref IC) = some true
  mKS : PySem.W.exmOne K (.ref IK) (.ref IS) = some false
  mKD : PySem.W.exmOne K (.ref IK) (.ref ID) = some false
  mKC : PySem.W.exmOne K (.ref IK) (.ref IC) = some false
  mKK : PySem.W.exmOne K (.ref IK) (.ref IK) = some true
  mRS : PySem.W.exmOne K (.ref RF) (.ref IS) = some false
  mRD : PySem.W.exmOne K (.ref RF) (.ref ID) = some false
  mRC : PySem.W.exmOne K (.ref RF) (.ref IC) = some false
  mRK : PySem.W.exmOne K (.ref RF) (.ref IK) = some false
  mRR : PySem.W.exmOne K (.ref RF) (.ref RF) = some true
/-- what a way is asked is let -/
def IsLet (H : Hp) (things : List V) (sp : Sp) : Prop := ∀ H1 Q E, L2.Same H H1 → (∀ v H2, L2.Same H1 H2 → Q v H2) → sp things H1 Q E
/-- .. lets an exception out -/
def IsBad (H : Hp) (things : List V) (sp : Sp) (Ce : Addr) (v : V) : Prop := ∀ H1 Q E, L2.Same H H1 → Rz Ce v H1 E → sp things H1 Q E
def spTel (K : PySem.W.Frag) (S C G IS ID IC IK RF : Addr) : Sp := fun vs H Q _ => ∃ (way : Str) (l : Addr) (n : Nat) (things : List V) (sp : Sp), vs = [.str way, .ref l] ∧ H l = some (.lst things) ∧ WayOf K S C G IS ID IC IK RF way n sp ∧ things.length = n ∧
  ((IsLet H things sp ∧ ∀ t H', L2.Same H H' → H t = none → H' t = some (.tup [.str "let", .non, .bl false, .bl true]) → Q (.ref t) H') ∨
   ∃ (Ce : Addr) (kd : Str) (v : V), KindOf IS ID IC IK RF Ce kd ∧ IsBad H things sp Ce v ∧ ∀ t H', L2.Same H H' → H t = none → H' t = some (.tup [.str kd, v, .bl false, .bl true]) → Q (.ref t) H')
abbrev nTel : List Str := ["_law_way", "_law_things", "_law_caught", "_law_kind", "error"]
theorem scTel : FnScope nTel ["_law_way", "_law_things"] (defScope sTel) := ⟨rfl, rfl, rfl, by decide +kernel, rfl, by decide +kernel, by decide +kernel⟩
theorem hot_suite {X : Cx} {a : Addr} {oe : Obj} {cls : Value} {d : Option Addr} {pn : List (Addr × Obj)} (hz : L2N.Zn cls d oe) (hv : ∃ vs, oe.data = .fields vs) : L2H.HotC (X.suite a ((a, oe) :: pn)) := by
  obtain ⟨vs, e⟩ := hv
  exact ⟨(a, oe), ⟨rfl, vs, e, hz.2.2 vs e⟩, List.mem_cons_self⟩
theorem takesN0 {X : Cx} : L2N.Takes X (fun _ _ _ _ => False) := fun _ _ x => by
  obtain ⟨_, _, _, _, _, _, _, _, _, _, _, _, _, _, _, _, z⟩ := x
  exact z.elim
theorem ok_tel {g : Addr} {fd : FuncData} (F : Fun K "_law_told" "_law_told" sTel g fd) (Z : Blp mg) (M : Ree P w K mg base 12 "_law_asked" ["_law_way", "_law_things"] (spAsked K S C G IS ID IC IK RF)) (T : TolC P w K mg base IS ID IC IK RF TW) : FnOk P w K mg base CX0 13 g fd ["_law_way", "_law_things"] (spTel K S C G IS ID IC IK RF) := by
  refine F.ok scTel (fun vs H Q E h => ?_) (fun cdv A outer s H vs Q E hr h => ?_)
  · obtain ⟨way, l, n, things, sp, rfl, _⟩ := h
    rfl
  · obtain ⟨way, l, n, things, sp, rfl, hl, wo, ln, k⟩ := h
    have nd := scTel.nd
    refine ⟨_, pss_cons (ps_asg (pe_tup (pa_cons pe_non (pa_cons pe_str pa_nil))) (pg_tup rfl (pgs_cons (pg_name (i := 2) nd rfl (Or.inl rfl)) (pgs_cons (pg_name (i := 3) nd rfl (Or.inl rfl)) pgs_nil))))
      (pss_cons (ps_cut (L2N.ps_try_manyN (i := 4) (tb := fun W => tDrop (tCallS (spAsked K S C G IS ID IC IK RF) (WE W) (tCons (tVar 0) (tCons (tVar 1) tNil)))) (l := [(.ref IS, fun _ _ _ => tPar 2 3 (tCons (tVar 4) (tCons (tC (.str "setting")) tNil))), (.ref ID, fun _ _ _ => tPar 2 3 (tCons (tVar 4) (tCons (tC (.str "deed")) tNil))),
            (.ref IC, fun _ _ _ => tPar 2 3 (tCons (tVar 4) (tCons (tC (.str "count")) tNil))), (.ref IK, fun _ _ _ => tPar 2 3 (tCons (tVar 4) (tCons (tC (.str "kind")) tNil))), (.ref RF, fun _ _ _ => tPar 2 3 (tCons (tVar 4) (tCons (tC (.str "refused")) tNil)))]) rfl rfl nd rfl rfl rfl takesN0
          (fun W pn xe tk po => pss_one (ps_expr (pe_rW M tk hr rfl (pa_cons (pv 0) (pa_cons (pv 1) pa_nil)))))
          (.cons ⟨rfl, by decide, .inl T.eS.m⟩ (fun a oe cls d pn hz hv => pss_one (L2N.ps_parH (i := 2) (j := 3) (hot_suite hz hv) nd rfl rfl (by decide) rfl rfl (pa_cons (pv 4) (pa_cons pe_str pa_nil)) (by rfl)))
          (.cons ⟨rfl, by decide, .inl T.eD.m⟩ (fun a oe cls d pn hz hv => pss_one (L2N.ps_parH (i := 2) (j := 3) (hot_suite hz hv) nd rfl rfl (by decide) rfl rfl (pa_cons (pv 4) (pa_cons pe_str pa_nil)) (by rfl)))
          (.cons ⟨rfl, by decide, .inl T.eC.m⟩ (fun a oe cls d pn hz hv => pss_one (L2N.ps_parH (i := 2) (j := 3) (hot_suite hz hv) nd rfl rfl (by decide) rfl rfl (pa_cons (pv 4) (pa_cons pe_str pa_nil)) (by rfl)))
          (.cons ⟨rfl, by decide, .inl T.eK.m⟩ (fun a oe cls d pn hz hv => pss_one (L2N.ps_parH (i := 2) (j := 3) (hot_suite hz hv) nd rfl rfl (by decide) rfl rfl (pa_cons (pv 4) (pa_cons pe_str pa_nil)) (by rfl)))
          (.cons ⟨rfl, by decide, .inl T.eR.m⟩ (fun a oe cls d pn hz hv => pss_one (L2N.ps_parH (i := 2) (j := 3) (hot_suite hz hv) nd rfl rfl (by decide) rfl rfl (pa_cons (pv 4) (pa_cons pe_str pa_nil)) (by rfl))) .nil)))))))
      (pss_cons (ps_if (pt_cmp (pc_isN (pv 2))) (pss_one (ps_ret (pe_tup (pa_cons pe_str (pa_cons pe_non (pa_cons pe_bl (pa_cons pe_bl pa_nil))))))) pss_nil)
      (pss_one (ps_ret (pe_tup (pa_cons (pv 3) (pa_cons (pe_cv (pv 2)) (pa_cons pe_bl (pa_cons (pe_and (pe_callB call_isC (by rfl) Z.isi boot_isi (pa_cons (pv 2) (pa_cons (pe_glob (v := .ref TW) rfl T.tw rfl) pa_nil)))
        (pe_one (pe_callB call_isC (by rfl) Z.isi boot_isi (pa_cons (pv 2) (pa_cons (pe_bltn (v := .ty "ValueError") (by rfl) T.ve (by decide +kernel) rfl) pa_nil))))) pa_nil))))))))), ?_⟩
    have l2 : 2 ≤ sizeLine := by decide
    have l4 : 4 ≤ sizeLine := by decide
    refine ⟨l2, fun tp htp => ⟨tp, _, rfl, SqT.of upd_same, rfl, ?_⟩⟩
    have s1 := Same.new (H := H) (o := .tup [.non, .str ""]) htp
    generalize upd H tp (.tup [.non, .str ""]) = H1 at s1 ⊢
    refine ⟨_, _, rfl, at_name (σ' := [some (.str way), some (.ref l), some .non, none, none]) rfl ⟨_, _, rfl, at_name (σ' := [some (.str way), some (.ref l), some .non, some (.str ""), none]) rfl ⟨rfl, ?_⟩⟩⟩
    refine ⟨fun σ' H' => L2.Same H H' ∧ ((σ' = [some (.str way), some (.ref l), some .non, some (.str ""), none] ∧ ∀ t H2, L2.Same H H2 → H t = none → H2 t = some (.tup [.str "let", .non, .bl false, .bl true]) → Q (.ref t) H2) ∨
      ∃ (a Ce : Addr) (kd : Str) (v : V), σ' = [some (.str way), some (.ref l), some (.ref a), some (.str kd), none] ∧ CauAt H' a Ce v ∧ KindOf IS ID IC IK RF Ce kd ∧
        ∀ t H2, L2.Same H H2 → H t = none → H2 t = some (.tup [.str kd, v, .bl false, .bl true]) → Q (.ref t) H2), ?_, ?_⟩
    · refine ⟨_, rfl, _, rfl, way, l, n, things, sp, rfl, s1 _ _ hl, wo, ln, fun H2 s2 => ?_⟩
      have s12 := s1.trans s2
      rcases k with ⟨le, k⟩ | ⟨Ce, kd, v, ko, bad, k⟩
      · exact le H2 _ _ s12 fun v H3 s3 => ⟨s12.trans s3, .inl ⟨rfl, k⟩⟩
      · refine bad H2 _ _ s12 fun d H3 s3 hd0 hd => ?_
        have s13 := s12.trans s3
        have fin : ∀ (kd : Str) (a : Addr), H3 a = none → KindOf IS ID IC IK RF Ce kd → (∀ t H2, L2.Same H H2 → H t = none → H2 t = some (.tup [.str kd, v, .bl false, .bl true]) → Q (.ref t) H2) →
            (L2.Same H (upd H3 a (L2N.CauO (.ref Ce) (some d) a)) ∧ ((([some (.str way), some (.ref l), some (.ref a), some (.str kd), none] : List (Option V)) = [some (.str way), some (.ref l), some .non, some (.str ""), none] ∧ ∀ t H2, L2.Same H H2 → H t = none → H2 t = some (.tup [.str "let", .non, .bl false, .bl true]) → Q (.ref t) H2) ∨
              ∃ (a' Cf : Addr) (kd' : Str) (v : V), ([some (.str way), some (.ref l), some (.ref a), some (.str kd), none] : List (Option V)) = [some (.str way), some (.ref l), some (.ref a'), some (.str kd'), none] ∧ CauAt (upd H3 a (L2N.CauO (.ref Ce) (some d) a)) a' Cf v ∧ KindOf IS ID IC IK RF Cf kd' ∧
                ∀ t H2, L2.Same H H2 → H t = none → H2 t = some (.tup [.str kd', v, .bl false, .bl true]) → Q (.ref t) H2)) := fun kd a ha ko k => ⟨s13.trans (Same.new ha), .inr ⟨a, Ce, kd, v, rfl, ⟨d, upd_same, (upd_ne (ne_of_none hd ha)).trans hd⟩, ko, k⟩⟩
        cases ko with
        | set => exact ⟨true, T.mSS, fun _ a ha => ⟨_, rfl, _, _, rfl, fin _ a ha .set k⟩, fun z => nomatch z⟩
        | deed => exact ⟨false, T.mDS, (fun z => nomatch z), fun _ => ⟨true, T.mDD, fun _ a ha => ⟨_, rfl, _, _, rfl, fin _ a ha .deed k⟩, fun z => nomatch z⟩⟩
        | cnt => exact ⟨false, T.mCS, (fun z => nomatch z), fun _ => ⟨false, T.mCD, (fun z => nomatch z), fun _ => ⟨true, T.mCC, fun _ a ha => ⟨_, rfl, _, _, rfl, fin _ a ha .cnt k⟩, fun z => nomatch z⟩⟩⟩
        | knd => exact ⟨false, T.mKS, (fun z => nomatch z), fun _ => ⟨false, T.mKD, (fun z => nomatch z), fun _ => ⟨false, T.mKC, (fun z => nomatch z), fun _ => ⟨true, T.mKK, fun _ a ha => ⟨_, rfl, _, _, rfl, fin _ a ha .knd k⟩, fun z => nomatch z⟩⟩⟩⟩
        | ref => exact ⟨false, T.mRS, (fun z => nomatch z), fun _ => ⟨false, T.mRD, (fun z => nomatch z), fun _ => ⟨false, T.mRC, (fun z => nomatch z), fun _ => ⟨false, T.mRK, (fun z => nomatch z), fun _ => ⟨true, T.mRR, fun _ a ha => ⟨_, rfl, _, _, rfl, fin _ a ha .ref k⟩, fun z => nomatch z⟩⟩⟩⟩⟩
    · rintro σ' H' ⟨s2, ⟨rfl, k⟩ | ⟨a, Ce, kd, v, rfl, ca, ko, k⟩⟩
      · refine ⟨_, rfl, _, rfl, ite_yes (by decide) ?_⟩
        exact ⟨l4, fun t ht => k t _ (s2.trans (Same.new ht)) (s2.free ht) upd_same⟩
      · have fx : PySem.W.findIn K (.ref Ce) "value" = some none ∧ PySem.W.hasDictIn K Ce = true ∧ ErrI K Ce ∧ PySem.W.kitOne K (.ref Ce) (.ref TW) = some true ∧ PySem.W.kitOne K (.ref Ce) (.type "ValueError") = some true := by
          cases ko with
          | set => exact ⟨T.eS.no, T.eS.hd, T.eS.is, T.isT _ (by simp)⟩
          | deed => exact ⟨T.eD.no, T.eD.hd, T.eD.is, T.isT _ (by simp)⟩
          | cnt => exact ⟨T.eC.no, T.eC.hd, T.eC.is, T.isT _ (by simp)⟩
          | knd => exact ⟨T.eK.no, T.eK.hd, T.eK.is, T.isT _ (by simp)⟩
          | ref => exact ⟨T.eR.no, T.eR.hd, T.eR.is, T.isT _ (by simp)⟩
        obtain ⟨no, hD, is, kT, kV⟩ := fx
        refine ⟨_, rfl, _, rfl, ite_no (by rw [decide_eq_false (by intro z; cases z)]; exact Bool.false_ne_true) ?_⟩
        refine ⟨_, rfl, _, rfl, a, Ce, v, rfl, ca, no, hD, is, ?_⟩
        refine ⟨_, rfl, a, Ce, v, _, _, true, rfl, .own _, ca, is, kT, _, rfl, iteT ?_⟩
        refine ⟨_, rfl, a, Ce, v, _, _, true, rfl, .ty _, ca, is, kV, ?_⟩
        exact ⟨l4, fun t ht => k t _ (s2.trans (Same.new ht)) (s2.free ht) upd_same⟩
end
end KT
set_option Elab.async false
set_option linter.all false
set_option maxRecDepth 100000
set_option maxHeartbeats 4000000
set_option pp.maxSteps 900
namespace KT
open PySem L2 PyProof.Rows DTp TxS DKq KX
/-- Kinds or a Setting stands at p -/
def OddObj (S C : Addr) (H : Hp) (p : Addr) : Prop := (∃ (ws : List Str) (f : Str → Str → Str), KdAt C H p ws f) ∨ ∃ (A : SA) (ws : List Str) (f : Str → Str → Str) (dl : List (Str × Str)) (tw : List Str), p = A.q ∧ StIn S C H A ws f dl tw
theorem OddObj.mono {S C : Addr} {H H' : Hp} {p : Addr} (s : L2.Same H H') (h : OddObj S C H p) : OddObj S C H' p := by
  rcases h with ⟨ws, f, kd⟩ | ⟨A, ws, f, dl, tw, e, st⟩
  · exact .inl ⟨ws, f, kd.mono s⟩
  · exact .inr ⟨A, ws, f, dl, tw, e, st.mono s⟩
/-- it stands also where a dict that holds it is changed -/
theorem OddObj.off {S C : Addr} {H H' : Hp} {p a : Addr} {kvs : List (Key × V)} {kk : Key} (h : OddObj S C H p) (ha : H a = some (.dK kvs)) (m : (kk, V.ref p) ∈ kvs) (s : ∀ b o, b ≠ a → H b = some o → H' b = some o) : OddObj S C H' p := by
  have kn : ∀ {p d l dx : Addr} {ws : List Str} {f : Str → Str → Str}, KdIn C H p dx d l ws f → KdIn C H' p dx d l ws f := fun kd =>
    ⟨s _ _ (ne_of kd.ob ha (by intro z; cases z)) kd.ob, s _ _ (ne_of kd.dc ha (by intro z; cases z)) kd.dc, s _ _ (ne_of kd.ls ha (by intro z; cases z)) kd.ls, kd.kw⟩
  rcases h with ⟨ws, f, dx, d, l, kd⟩ | ⟨A, ws, f, dl, tw, e, st⟩
  · exact .inl ⟨ws, f, dx, d, l, kn kd⟩
  · have nd : A.d ≠ a := fun z => by
      have e1 := st.dc
      rw [z, ha] at e1
      have e2 : kvs = dkv dl := HO.dK.inj (Option.some.inj e1)
      rw [e2] at m
      obtain ⟨q, _, e3⟩ := List.mem_map.mp m
      have e4 := congrArg Prod.snd e3
      cases e4
    exact .inr ⟨A, ws, f, dl, tw, e, s _ _ (ne_of st.ob ha (by intro z; cases z)) st.ob, kn st.kin, s _ _ nd st.dc, s _ _ (ne_of st.ls ha (by intro z; cases z)) st.ls, st.ok, st.asc, st.tok⟩
/-- no instance of the class at C is of a built-in class that is asked for -/
structure NoB (K : PySem.W.Frag) (C : Addr) : Prop where
  nl : PySem.W.kitOne K (.ref C) (.type "list") = some false
  nt : PySem.W.kitOne K (.ref C) (.type "tuple") = some false
  nd : PySem.W.kitOne K (.ref C) (.type "dict") = some false
  ni : PySem.W.kitOne K (.ref C) (.type "int") = some false
  nb : PySem.W.kitOne K (.ref C) (.type "bool") = some false
  nf : PySem.W.notFirst K C (.ref C) = true
theorem NoB.two {K : PySem.W.Frag} {C : Addr} (h : NoB K C) : PySem.W.kitAny K (.ref C) [.type "list", .type "tuple"] = some false :=
  kitAny_cons h.nl (fun _ => kitAny_cons h.nt (fun _ => kitAny_nil) fun e => by cases e) fun e => by cases e
structure OddC (K : PySem.W.Frag) (S C : Addr) : Prop where
  nC : NoB K C
  nS : NoB K S
theorem OddObj.ty {K : PySem.W.Frag} {mg : Str → Option Value} {S C : Addr} {H : Hp} {p : Addr} (h : OddObj S C H p) (T : KTx K mg C) (TS : STx K mg S) (X : OddC K S C) : ∃ Co, TyX K H (.ref p) (.ref Co) ∧ NoB K Co := by
  rcases h with ⟨ws, f, dx, d, l, kd⟩ | ⟨A, ws, f, dl, tw, e, st⟩
  · exact ⟨C, T.ty kd.ob, X.nC⟩
  · subst e
    exact ⟨S, TS.ty st.ob, X.nS⟩
theorem OddObj.eq {K : PySem.W.Frag} {mg : Str → Option Value} {S C : Addr} {H : Hp} {p : Addr} {Q : VK} (h : OddObj S C H p) (T : KTx K mg C) (TS : STx K mg S) (X : OddC K S C) (k : Q (.bl true) H) :
    OwQ.rOwn K C (spKEq K C) false (.ref p) (.ref p) H Q ∨ OwQ.rOwn K S (spSEqA K S C) false (.ref p) (.ref p) H Q := by
  rcases h with ⟨ws, f, dx, d, l, kd⟩ | ⟨A, ws, f, dl, tw, e, st⟩
  · refine .inl ⟨p, dx, _, _, rfl, kd.ob, T.ty kd.ob, X.nC.nf, p, _, ws, f, rfl, ⟨dx, d, l, kd⟩, .inl ⟨p, ws, f, rfl, ⟨dx, d, l, kd⟩, _, rfl, ?_⟩⟩
    rw [if_neg Bool.false_ne_true, sameT_self kd.kw.asc.nodup]
    exact k
  · subst e
    refine .inr ⟨A.q, A.dx, _, _, rfl, st.ob, TS.ty st.ob, X.nS.nf, A, _, ws, f, dl, tw, rfl, st, .inl ⟨A, ws, f, dl, tw, rfl, st, _, rfl, ?_⟩⟩
    have e : sameS ws f dl tw ws f dl tw = true := by
      unfold sameS
      rw [sameT_self st.kin.kw.asc.nodup, sameK_self st.ok.nd, decide_eq_true rfl]
      rfl
    rw [if_neg Bool.false_ne_true, e]
    exact k
def AlO (S C : Addr) : Nat → Hp → V → V → Prop
  | 0, _, _, _ => False
  | n + 1, H, v, w => Alike (n + 1) H v w ∨ (∃ p, v = .ref p ∧ w = .ref p ∧ OddObj S C H p) ∨
    (∃ (a b : Addr) (xs ys : List V), v = .ref a ∧ w = .ref b ∧ H a = some (.lst xs) ∧ H b = some (.lst ys) ∧ xs.length ≤ 100 ∧ Paired (AlO S C n H) xs ys) ∨
    (∃ (a b : Addr) (xs ys : List V), v = .ref a ∧ w = .ref b ∧ H a = some (.tup xs) ∧ H b = some (.tup ys) ∧ xs.length ≤ 100 ∧ Paired (AlO S C n H) xs ys) ∨
    ∃ (a : Addr) (kvs : List (Key × V)), 2 ≤ n ∧ v = .ref a ∧ w = .ref a ∧ H a = some (.dK kvs) ∧ (kvs.map (·.1)).Nodup ∧ kvs.length ≤ 100 ∧ ∀ p ∈ kvs, Flat2 p.2 p.2 ∨ ∃ q, p.2 = .ref q ∧ OddObj S C H q
theorem AlO.mono {S C : Addr} {H H' : Hp} (s : L2.Same H H') : ∀ {n : Nat} {v w : V}, AlO S C n H v w → AlO S C n H' v w
  | 0, _, _, h => h
  | n + 1, _, _, h => by
    rcases h with h | ⟨p, e1, e2, ob⟩ | ⟨a, b, xs, ys, e1, e2, h1, h2, l, p⟩ | ⟨a, b, xs, ys, e1, e2, h1, h2, l, p⟩ | ⟨a, kvs, n2, e1, e2, h1, nd, l, fl⟩
    · exact .inl (h.mono s)
    · exact .inr (.inl ⟨p, e1, e2, ob.mono s⟩)
    · exact .inr (.inr (.inl ⟨a, b, xs, ys, e1, e2, s _ _ h1, s _ _ h2, l, Paired.mapP p fun _ _ q => AlO.mono s q⟩))
    · exact .inr (.inr (.inr (.inl ⟨a, b, xs, ys, e1, e2, s _ _ h1, s _ _ h2, l, Paired.mapP p fun _ _ q => AlO.mono s q⟩)))
    · exact .inr (.inr (.inr (.inr ⟨a, kvs, n2, e1, e2, s _ _ h1, nd, l, fun p hp => (fl p hp).imp id fun ⟨q, e, o⟩ => ⟨q, e, o.mono s⟩⟩)))
def spExO (S C : Addr) (n : Nat) : Sp := fun vs H Q _ => ∃ v w : V, vs = [v, w] ∧ AlO S C n H v w ∧ ∀ H', L2.Same H H' → Q (.bl true) H'
section
variable {P : Program} {w : World} {K : PySem.W.Frag} {mg : Str → Option Value} {base : Heap} {C S : Addr}
theorem step_exO {f : Addr} {fd : FuncData} (F : Fun K "_law_exact" "_law_exact" sExact f fd) (B : Blt mg) (Z : Blp mg) (hz : mg "zip" = none) (T : KTx K mg C) (TS : STx K mg S) (X : OddC K S C) (DC : OwQ.EqC P w K mg base 1 C (spKEq K C)) (DS : OwQ.EqC P w K mg base 2 S (spSEqA K S C)) {n : Nat}
    (E1 : FnOk P w K mg base CX0 (n + 4) f fd ["_law_mine", "_law_theirs"] (spExact (n + 1))) (Ce : Cee P w K mg base (n + 3) "_law_exact" ["_law_mine", "_law_theirs"] (spExO S C n)) : FnOk P w K mg base CX0 (n + 4) f fd ["_law_mine", "_law_theirs"] (spExO S C (n + 1)) := by
  refine FnOk.imp (sp := fun vs H Q E => spExact (n + 1) vs H Q E ∨ (∃ v w : V, vs = [v, w] ∧ ((∃ p, v = .ref p ∧ w = .ref p ∧ OddObj S C H p) ∨
    (∃ (a b : Addr) (xs ys : List V), v = .ref a ∧ w = .ref b ∧ H a = some (.lst xs) ∧ H b = some (.lst ys) ∧ xs.length ≤ 100 ∧ Paired (AlO S C n H) xs ys) ∨
    (∃ (a b : Addr) (xs ys : List V), v = .ref a ∧ w = .ref b ∧ H a = some (.tup xs) ∧ H b = some (.tup ys) ∧ xs.length ≤ 100 ∧ Paired (AlO S C n H) xs ys) ∨
    ∃ (a : Addr) (kvs : List (Key × V)), 2 ≤ n ∧ v = .ref a ∧ w = .ref a ∧ H a = some (.dK kvs) ∧ (kvs.map (·.1)).Nodup ∧ kvs.length ≤ 100 ∧ ∀ p ∈ kvs, Flat2 p.2 p.2 ∨ ∃ q, p.2 = .ref q ∧ OddObj S C H q) ∧ ∀ H', L2.Same H H' → Q (.bl true) H')) (fnOr E1 ?_) ?_
  rotate_left
  · rintro vs H Q E ⟨v, w2, rfl, al | al, k⟩
    · exact .inl ⟨v, w2, rfl, al, k⟩
    · exact .inr ⟨v, w2, rfl, al, k⟩
  refine F.ok scExact (fun vs H Q E h => ?_) (fun cdv A outer s H vs Q E hr h => ?_)
  · obtain ⟨v, w2, rfl, _⟩ := h
    rfl
  · obtain ⟨v, w2, rfl, al, k⟩ := h
    have nd := scExact.nd
    refine ⟨_, pss_cons (ps_if (pt_val (pe_callB call_isiT (by rfl) Z.isi boot_isi (pa_cons (pv 0) (pa_cons (pe_tup (pa_cons (pe_bltn (v := .ty "list") (by rfl) Z.list (by decide +kernel) rfl) (pa_cons (pe_bltn (v := .ty "tuple") (by rfl) Z.tuple (by decide +kernel) rfl) pa_nil))) pa_nil))))
        (pss_cons (ps_set (i := 2) nd rfl (Or.inl rfl) (pe_and (pe_cmpR op_eq (pe_callB call_isi (by rfl) Z.isi boot_isi (pa_cons (pv 1) (pa_cons (pe_bltn (v := .ty "list") (by rfl) Z.list (by decide +kernel) rfl) pa_nil))) (pe_callB call_isi (by rfl) Z.isi boot_isi (pa_cons (pv 0) (pa_cons (pe_bltn (v := .ty "list") (by rfl) Z.list (by decide +kernel) rfl) pa_nil))) (nomark _)) (pe_one (pe_cmpR op_eq (pe_callB call_isi (by rfl) Z.isi boot_isi (pa_cons (pv 1) (pa_cons (pe_bltn (v := .ty "tuple") (by rfl) Z.tuple (by decide +kernel) rfl) pa_nil))) (pe_callB call_isi (by rfl) Z.isi boot_isi (pa_cons (pv 0) (pa_cons (pe_bltn (v := .ty "tuple") (by rfl) Z.tuple (by decide +kernel) rfl) pa_nil))) (nomark _)))))
        (pss_one (ps_ret (pe_and (pv 2) (pe_and (pe_cmpR op_eq (pe_callB call_len_seq (by rfl) B.len PySem.boot_len (pa_cons (pv 0) pa_nil)) (pe_callB call_len_seq (by rfl) B.len PySem.boot_len (pa_cons (pv 1) pa_nil)) (nomark _)) (pe_one (pe_callB (cr_all rfl) (by rfl) Z.all (by decide +kernel) (pa_cons
          (pe_lc (own := [("_law_a", 3), ("_law_b", 4)]) (g := gXY K 3 4) (tt := tYes) (te := tCall (spExO S C n) [] E0 (tCons (tVar 3) (tCons (tVar 4) tNil))) rfl nd (RZ.pi_zipA (by rfl) hz (pa_cons (pv 0) (pa_cons (pv 1) pa_nil))) (blkOk_by (own := [("_law_a", 3), ("_law_b", 4)]) (N := nExact) (sc := defScope sExact) (by decide +kernel))
            (fun _ _ _ _ _ => pg_tup rfl (pgs_cons (pg_name (i := 3) nd rfl (Or.inl rfl)) (pgs_cons (pg_name (i := 4) nd rfl (Or.inl rfl)) pgs_nil))) (fun _ _ _ _ _ => pts_nil) (fun _ _ _ _ _ => pe_c Ce hr rfl (pa_cons (pv 3) (pa_cons (pv 4) pa_nil)) (Nat.le_refl _))) pa_nil)))))))) pss_nil)
      (pss_cons (ps_if (pt_val (pe_callB call_isi (by rfl) Z.isi boot_isi (pa_cons (pv 0) (pa_cons (pe_bltn (v := .ty "dict") (by rfl) Z.dict (by decide +kernel) rfl) pa_nil))))
        (pss_cons (ps_set (i := 2) nd rfl (Or.inl rfl) (pe_and (pe_callB call_isi (by rfl) Z.isi boot_isi (pa_cons (pv 1) (pa_cons (pe_bltn (v := .ty "dict") (by rfl) Z.dict (by decide +kernel) rfl) pa_nil))) (pe_one (pe_c Ce hr rfl (pa_cons (PE.oder (pe_callTy (call_list_dT rfl) (by rfl) Z.list (by decide +kernel) (pa_cons (pv 0) pa_nil)) (pe_callTy (call_list_dK rfl) (by rfl) Z.list (by decide +kernel) (pa_cons (pv 0) pa_nil))) (pa_cons (PE.oder (pe_callTy (call_list_dT rfl) (by rfl) Z.list (by decide +kernel) (pa_cons (pv 1) pa_nil)) (pe_callTy (call_list_dK rfl) (by rfl) Z.list (by decide +kernel) (pa_cons (pv 1) pa_nil))) pa_nil)) (Nat.le_refl _)))))
        (pss_one (ps_ret (pe_and (pv 2) (pe_one (pe_callB (cr_all rfl) (by rfl) Z.all (by decide +kernel) (pa_cons (pe_lock
          (pe_lc (own := [("_law_key", 5)]) (g := gName 5) (tt := tYes) (te := tCall (spExO S C n) [] E0 (tCons (tDGet (tVar 0) (tVar 5)) (tCons (tDGet (tVar 1) (tVar 5)) tNil))) rfl nd (pi_keys (pv 0)) (blkOk_by (own := [("_law_key", 5)]) (N := nExact) (sc := defScope sExact) (by decide +kernel))
            (fun _ _ _ _ _ => pg_name (i := 5) nd rfl (Or.inl rfl)) (fun _ _ _ _ _ => pts_nil) (fun _ _ _ _ _ => pe_c Ce hr rfl (pa_cons (pe_dget (hu_of hr) (pv 0) (pv 5) (fun _ _ => rfl)) (pa_cons (pe_dget (hu_of hr) (pv 1) (pv 5) (fun _ _ => rfl)) pa_nil)) (Nat.le_refl _)))) pa_nil))))))) pss_nil)
      (pss_cons (ps_set (i := 2) nd rfl (Or.inl rfl) (pe_cmpR op_eq (pe_callB call_isi (by rfl) Z.isi boot_isi (pa_cons (pv 0) (pa_cons (pe_bltn (v := .ty "int") (by rfl) B.int boot_int rfl) pa_nil))) (pe_callB call_isi (by rfl) Z.isi boot_isi (pa_cons (pv 1) (pa_cons (pe_bltn (v := .ty "int") (by rfl) B.int boot_int rfl) pa_nil))) (nomark _)))
      (pss_one (ps_ret (pe_and (pv 2) (pe_and (pe_cmpR op_eq (pe_callB call_isi (by rfl) Z.isi boot_isi (pa_cons (pv 0) (pa_cons (pe_bltn (v := .ty "bool") (by rfl) Z.bool (by decide +kernel) rfl) pa_nil))) (pe_callB call_isi (by rfl) Z.isi boot_isi (pa_cons (pv 1) (pa_cons (pe_bltn (v := .ty "bool") (by rfl) Z.bool (by decide +kernel) rfl) pa_nil))) (nomark _)) (pe_one (pe_cmpR (opOder op_eq (opOder (OwQ.op_eqOwn DC (hr.mono (by omega))) (OwQ.op_eqOwn DS (hr.mono (by omega))))) (pv 0) (pv 1) (nomark _))))))))), ?_⟩
    rcases al with ⟨p, rfl, rfl, ob⟩ | ⟨a, b, xs, ys, rfl, rfl, ha, hb, hl, pr⟩ | ⟨a, b, xs, ys, rfl, rfl, ha, hb, hl, pr⟩ | ⟨a, kvs, n2, rfl, rfl, ha, ndk, hl, fl⟩
    · skip
      refine ⟨_, rfl, (by show 2 ≤ sizeLine; decide), fun tp htp => ?_⟩
      have s1 := Same.new (H := H) (o := .tup [.ty "list", .ty "tuple"]) htp
      have etp : upd H tp (.tup [.ty "list", .ty "tuple"]) tp = _ := upd_same
      generalize upd H tp (.tup [.ty "list", .ty "tuple"]) = G at s1 etp ⊢
      have ob1 := ob.mono s1
      obtain ⟨Co, ty, nb⟩ := ob1.ty T TS X
      refine ⟨_, tp, _, _, _, false, rfl, etp, two_cls, ty, nb.two, _, rfl, iteF ?_⟩
      refine ⟨_, rfl, _, _, _, _, false, rfl, .ty _, ty, nb.nd, _, rfl, iteF ?_⟩
      refine ⟨_, rfl, _, _, _, _, false, rfl, .ty _, ty, nb.ni, _, rfl, _, _, _, _, false, rfl, .ty _, ty, nb.ni, rfl, ?_⟩
      rw [bl_eq]
      refine at_name (σ' := [some (.ref p), some (.ref p), some (.bl true), none, none, none]) rfl ?_
      refine ⟨_, rfl, _, rfl, iteT ?_⟩
      refine ⟨_, rfl, _, _, _, _, false, rfl, .ty _, ty, nb.nb, _, rfl, _, _, _, _, false, rfl, .ty _, ty, nb.nb, rfl, ?_⟩
      rw [bl_eq]
      refine ⟨_, rfl, iteT ⟨_, rfl, _, rfl, .inr (ob1.eq T TS X (k _ s1))⟩⟩
    · skip
      refine ⟨_, rfl, (by show 2 ≤ sizeLine; decide), fun tp htp => ?_⟩
      have s1 := Same.new (H := H) (o := .tup [.ty "list", .ty "tuple"]) htp
      have etp : upd H tp (.tup [.ty "list", .ty "tuple"]) tp = _ := upd_same
      generalize upd H tp (.tup [.ty "list", .ty "tuple"]) = G at s1 etp ⊢
      refine ⟨_, tp, _, _, _, true, rfl, etp, two_cls, .base (.lst (s1 _ _ ha)), kit2L, _, rfl, iteT ?_⟩
      refine ⟨_, rfl, _, _, _, _, true, rfl, .ty _, .base (.lst (s1 _ _ hb)), kit_ty (by decide +kernel), _, rfl, _, _, _, _, true, rfl, .ty _, .base (.lst (s1 _ _ ha)), kit_ty (by decide +kernel), rfl, ?_⟩
      rw [bl_eq]
      refine ⟨_, rfl, iteT ?_⟩
      refine ⟨_, rfl, _, _, _, _, false, rfl, .ty _, .base (.lst (s1 _ _ hb)), kit_ty (by decide +kernel), _, rfl, _, _, _, _, false, rfl, .ty _, .base (.lst (s1 _ _ ha)), kit_ty (by decide +kernel), rfl, ?_⟩
      rw [bl_eq]
      refine at_name (σ' := [some (.ref a), some (.ref b), some (.bl true), none, none, none]) rfl ?_
      refine ⟨_, rfl, _, rfl, iteT ?_⟩
      refine ⟨_, rfl, a, _, rfl, .inl (SqL.of (s1 _ _ ha)), _, rfl, b, _, rfl, .inl (SqL.of (s1 _ _ hb)), rfl, ?_⟩
      have hlen := Paired.length pr
      rw [hlen, decide_eq_true rfl]
      refine ⟨_, rfl, iteT ?_⟩
      refine ⟨_, rfl, _, rfl, a, b, xs, ys, rfl, .inl ⟨SqL.of (s1 _ _ ha), SqL.of (s1 _ _ hb), fun D hD => ?_⟩⟩
      refine lc_true (walk_zip (K := K) (a := a) (b := b) (xs := xs) (ys := ys) rfl) (by omega) hD (fun H' s => ⟨SqL.of (s _ _ (s1 _ _ ha)), SqL.of (s _ _ (s1 _ _ hb))⟩) ?_ ?_
      · rintro i v H1 H2 R hi s2 ⟨T, x, y, rfl, hT, rfl, hx, hy⟩ kR
        have s3 := Same.new (H := H1) (o := .tup [x, y]) hT
        have alk : AlO S C n (upd H1 T (.tup [x, y])) x y := AlO.mono s3 (AlO.mono s2 (AlO.mono s1 (paired_nth pr i x y hx hy)))
        refine ⟨T, _, rfl, SqT.of upd_same, rfl, _, _, rfl, at_name (σ' := [some (.ref a), some (.ref b), some (.bl true), some x, none, none]) rfl ⟨_, _, rfl, at_name (σ' := [some (.ref a), some (.ref b), some (.bl true), some x, some y, none]) rfl ⟨rfl, rfl, ?_⟩⟩⟩
        exact ⟨_, rfl, _, rfl, x, y, rfl, alk, fun H3 s4 => kR _ fun c o e => s4 _ _ (s3 _ _ e)⟩
      · intro H1 s2 hD1
        refine ⟨D, _, rfl, SqL.of hD1, ?_⟩
        rw [all_true]
        exact k _ fun c o e => s2 _ _ (s1 _ _ e)
    · skip
      refine ⟨_, rfl, (by show 2 ≤ sizeLine; decide), fun tp htp => ?_⟩
      have s1 := Same.new (H := H) (o := .tup [.ty "list", .ty "tuple"]) htp
      have etp : upd H tp (.tup [.ty "list", .ty "tuple"]) tp = _ := upd_same
      generalize upd H tp (.tup [.ty "list", .ty "tuple"]) = G at s1 etp ⊢
      refine ⟨_, tp, _, _, _, true, rfl, etp, two_cls, .base (.tup (s1 _ _ ha)), kit2T, _, rfl, iteT ?_⟩
      refine ⟨_, rfl, _, _, _, _, false, rfl, .ty _, .base (.tup (s1 _ _ hb)), kit_ty (by decide +kernel), _, rfl, _, _, _, _, false, rfl, .ty _, .base (.tup (s1 _ _ ha)), kit_ty (by decide +kernel), rfl, ?_⟩
      rw [bl_eq]
      refine ⟨_, rfl, iteT ?_⟩
      refine ⟨_, rfl, _, _, _, _, true, rfl, .ty _, .base (.tup (s1 _ _ hb)), kit_ty (by decide +kernel), _, rfl, _, _, _, _, true, rfl, .ty _, .base (.tup (s1 _ _ ha)), kit_ty (by decide +kernel), rfl, ?_⟩
      rw [bl_eq]
      refine at_name (σ' := [some (.ref a), some (.ref b), some (.bl true), none, none, none]) rfl ?_
      refine ⟨_, rfl, _, rfl, iteT ?_⟩
      refine ⟨_, rfl, a, _, rfl, .inr (SqT.of (s1 _ _ ha)), _, rfl, b, _, rfl, .inr (SqT.of (s1 _ _ hb)), rfl, ?_⟩
      have hlen := Paired.length pr
      rw [hlen, decide_eq_true rfl]
      refine ⟨_, rfl, iteT ?_⟩
      refine ⟨_, rfl, _, rfl, a, b, xs, ys, rfl, .inr ⟨SqT.of (s1 _ _ ha), SqT.of (s1 _ _ hb), fun D hD => ?_⟩⟩
      refine lc_true (walk_zipT (K := K) (a := a) (b := b) (xs := xs) (ys := ys) rfl) (by omega) hD (fun H' s => ⟨SqT.of (s _ _ (s1 _ _ ha)), SqT.of (s _ _ (s1 _ _ hb))⟩) ?_ ?_
      · rintro i v H1 H2 R hi s2 ⟨T, x, y, rfl, hT, rfl, hx, hy⟩ kR
        have s3 := Same.new (H := H1) (o := .tup [x, y]) hT
        have alk : AlO S C n (upd H1 T (.tup [x, y])) x y := AlO.mono s3 (AlO.mono s2 (AlO.mono s1 (paired_nth pr i x y hx hy)))
        refine ⟨T, _, rfl, SqT.of upd_same, rfl, _, _, rfl, at_name (σ' := [some (.ref a), some (.ref b), some (.bl true), some x, none, none]) rfl ⟨_, _, rfl, at_name (σ' := [some (.ref a), some (.ref b), some (.bl true), some x, some y, none]) rfl ⟨rfl, rfl, ?_⟩⟩⟩
        exact ⟨_, rfl, _, rfl, x, y, rfl, alk, fun H3 s4 => kR _ fun c o e => s4 _ _ (s3 _ _ e)⟩
      · intro H1 s2 hD1
        refine ⟨D, _, rfl, SqL.of hD1, ?_⟩
        rw [all_true]
        exact k _ fun c o e => s2 _ _ (s1 _ _ e)
    · skip
      refine ⟨_, rfl, (by show 2 ≤ sizeLine; decide), fun tp htp => ?_⟩
      have s1 := Same.new (H := H) (o := .tup [.ty "list", .ty "tuple"]) htp
      have etp : upd H tp (.tup [.ty "list", .ty "tuple"]) tp = _ := upd_same
      generalize upd H tp (.tup [.ty "list", .ty "tuple"]) = G at s1 etp ⊢
      refine ⟨_, tp, _, _, _, false, rfl, etp, two_cls, .base (.dK (s1 _ _ ha)), kit2F (by decide +kernel) (by decide +kernel), _, rfl, iteF ?_⟩
      refine ⟨_, rfl, _, _, _, _, true, rfl, .ty _, .base (.dK (s1 _ _ ha)), kit_ty (by decide +kernel), _, rfl, iteT ?_⟩
      refine ⟨_, rfl, _, _, _, _, true, rfl, .ty _, .base (.dK (s1 _ _ ha)), kit_ty (by decide +kernel), _, rfl, iteT ?_⟩
      refine .inr ⟨_, rfl, a, kvs, rfl, s1 _ _ ha, fun l1 hl1 => ?_⟩
      have c1 := Same.new (H := G) (o := .lst (kvs.map fun kv => kV kv.1)) hl1
      have c2 : upd G l1 (.lst (kvs.map fun kv => kV kv.1)) l1 = _ := upd_same
      generalize upd G l1 (.lst (kvs.map fun kv => kV kv.1)) = G1 at c1 c2 ⊢
      refine .inr ⟨_, rfl, a, kvs, rfl, c1 _ _ (s1 _ _ ha), fun l2 hl2 => ?_⟩
      have d1 := Same.new (H := G1) (o := .lst (kvs.map fun kv => kV kv.1)) hl2
      have d2 : upd G1 l2 (.lst (kvs.map fun kv => kV kv.1)) l2 = _ := upd_same
      generalize upd G1 l2 (.lst (kvs.map fun kv => kV kv.1)) = G2 at d1 d2 ⊢
      obtain ⟨m, rfl⟩ : ∃ m, n = m + 2 := ⟨n - 2, by omega⟩
      have alk : AlO S C (m + 2) G2 (.ref l1) (.ref l2) := by
        refine .inl (.inr (.inl ⟨l1, l2, _, _, rfl, rfl, d1 _ _ c2, d2, by rw [List.length_map]; exact hl, ?_⟩))
        refine paired_of rfl fun i x y hx hy => ?_
        rw [hx] at hy
        obtain rfl := Option.some.inj hy
        obtain ⟨z, _, rfl⟩ := List.mem_map.mp (List.mem_of_getElem? hx)
        cases z.1 with
        | inl i => exact .inl (.inr (.inl ⟨i, rfl, rfl⟩))
        | inr x => exact .inl (.inl ⟨x, rfl, rfl⟩)
      refine ⟨.ref l1, .ref l2, rfl, alk, fun H2 s2 => ?_⟩
      refine at_name (σ' := [some (.ref a), some (.ref a), some (.bl true), none, none, none]) rfl ?_
      refine ⟨_, rfl, _, rfl, iteT ?_⟩
      have s02 : L2.Same H H2 := fun c o e => s2 _ _ (d1 _ _ (c1 _ _ (s1 _ _ e)))
      have ha2 : H2 a = some (.dK kvs) := s02 _ _ ha
      refine ⟨a, .dK kvs, ha2, trivial, fun od => ?_⟩
      refine ⟨_, rfl, a, od, rfl, .inl ⟨kvs, upd_same, fun D hD => ?_⟩⟩
      have nDa : D ≠ a := fun e => by rw [e, upd_same] at hD; cases hD
      refine lc_true walk_keys (by omega) hD (fun H' s => s _ _ upd_same) ?_ ?_
      · rintro j x H0 H1 R hj s3 ⟨rfl, kk, v, hk, rfl⟩ kR
        have mk := List.mem_of_getElem? hk
        have hv : valV kvs kk = some v := valV_mem ndk mk
        have ga : DGet H1 a (kV kk) (some v) := .inl ⟨kvs, kk, .inr ⟨od, s3 _ _ upd_same⟩, rfl, hv.symm⟩
        have alv : AlO S C (m + 2) H1 v v := by
          rcases fl _ mk with f | ⟨q, rfl, ob⟩
          · exact .inl (.inl f)
          · exact .inr (.inl ⟨q, rfl, rfl, ob.off ha mk (fun b o nb e => s3 _ _ ((upd_ne nb).trans (s02 _ _ e)))⟩)
        refine at_name (σ' := [some (.ref a), some (.ref a), some (.bl true), none, none, some (kV kk)]) rfl ⟨rfl, ?_⟩
        exact ⟨_, rfl, _, rfl, a, _, rfl, ga, _, rfl, _, rfl, a, _, rfl, ga, v, v, rfl, alv, kR⟩
      · intro H1 s3 hD1
        refine ⟨s3 _ _ upd_same, D, _, rfl, SqL.of ((upd_ne nDa).trans hD1), ?_⟩
        rw [all_true]
        refine k _ fun c o e => ?_
        by_cases hc : c = a
        · rw [hc] at e ⊢
          have := s02 _ _ e
          rw [ha2] at this
          rw [upd_same]; exact this
        · rw [upd_ne hc]
          exact s3 _ _ ((upd_ne hc).trans (s02 _ _ e))
theorem ok_exO {f : Addr} {fd : FuncData} (F : Fun K "_law_exact" "_law_exact" sExact f fd) (B : Blt mg) (Z : Blp mg) (hz : mg "zip" = none) (T : KTx K mg C) (TS : STx K mg S) (X : OddC K S C) (DC : OwQ.EqC P w K mg base 1 C (spKEq K C)) (DS : OwQ.EqC P w K mg base 2 S (spSEqA K S C))
    (me : mg "_law_exact" = some (.ref f)) (kp : PySem.W.keepIn K (.ref f) = true) (hb : Binds K fd ["_law_mine", "_law_theirs"] []) : ∀ n : Nat, FnOk P w K mg base CX0 (n + 3) f fd ["_law_mine", "_law_theirs"] (spExO S C n)
  | 0 => by
    refine FnOk.mono (j := 1) (F.ok scExact (fun vs H Q E h => ?_) (fun cdv A outer s H vs Q E hr h => ?_)) (by decide)
    · obtain ⟨v, w2, rfl, _⟩ := h
      rfl
    · obtain ⟨v, w2, rfl, al, k⟩ := h
      exact al.elim
  | n + 1 => step_exO F B Z hz T TS X DC DS ((ok_exact F B Z hz me kp hb (n + 1)).mono (by omega)) ⟨f, fd, ok_exO F B Z hz T TS X DC DS me kp hb n, me, kp, hb⟩
end
end KT
set_option Elab.async false
set_option linter.all false
set_option maxRecDepth 100000
set_option maxHeartbeats 4000000
set_option pp.maxSteps 900
namespace KT
open PySem L2 PyProof.Rows DTp TxS DKq KX
section
variable {P : Program} {w : World} {K : PySem.W.Frag} {mg : Str → Option Value} {base : Heap} {C S : Addr}
theorem scSpare : FnScope nSpare ["_law_words_here"] (defScope sSpare) := ⟨rfl, rfl, rfl, by decide +kernel, rfl, by decide +kernel, by decide +kernel⟩
theorem ok_spare {g : Addr} {fd : FuncData} (F : Fun K "_law_spare_words" "_law_spare_words" sSpare g fd) (Z : Blp mg) : FnOk P w K mg base CX0 1 g fd ["_law_words_here"] spSpare := by
  refine F.ok scSpare (fun vs H Q E h => ?_) (fun cdv A outer s H vs Q E hr h => ?_)
  · obtain ⟨l, ws, rfl, _⟩ := h
    rfl
  · obtain ⟨l, ws, rfl, hl, k⟩ := h
    have nd := scSpare.nd
    refine ⟨_, pss_one (ps_ret (pe_lc (own := [("_law_letter", 1)]) (g := gName 1) (tt := tTest (tOp (rIn K true) (tOp (fun x y H Q => ∃ (z : Str) (n : Int), x = .str z ∧ y = .int n ∧ MulOk z n ∧ Q (.str (Txt.mul z n)) H) (tVar 1) (tC (.int 8))) (tVar 0)))
        (te := tOp (fun x y H Q => ∃ (z : Str) (n : Int), x = .str z ∧ y = .int n ∧ MulOk z n ∧ Q (.str (Txt.mul z n)) H) (tVar 1) (tC (.int 8))) rfl nd (pi_list (pe_callTy (SmR.cr_listStr rfl) (by rfl) Z.list (by decide +kernel) (pa_cons pe_str pa_nil)))
        (blkOk_by (own := [("_law_letter", 1)]) (N := nSpare) (sc := defScope sSpare) (by decide +kernel)) (fun _ _ _ _ _ => pg_name (i := 1) nd rfl (Or.inl rfl))
        (fun _ _ _ _ _ => pts_one (pt_cmpR op_notIn_seq (pe_op SmR.op_mulSI (pv 1) pe_int) (pv 0) (by rfl))) (fun _ _ _ _ _ => pe_op SmR.op_mulSI (pv 1) pe_int))), ?_⟩
    refine ⟨"abcdefghijklmnopqrstuvwxyz", rfl, by decide +kernel, fun L hL => ?_⟩
    have s1 := Same.new (H := H) (o := .lst ((SmR.signs "abcdefghijklmnopqrstuvwxyz").map V.str)) hL
    have hL1 : upd H L (.lst ((SmR.signs "abcdefghijklmnopqrstuvwxyz").map V.str)) L = _ := upd_same
    generalize upd H L (.lst ((SmR.signs "abcdefghijklmnopqrstuvwxyz").map V.str)) = H1 at s1 hL1 ⊢
    refine ⟨L, rfl, ⟨_, SqL.of hL1⟩, fun D hD => ?_⟩
    refine lc_it (walk_list (K := K) (a := L) (xs := (SmR.signs "abcdefghijklmnopqrstuvwxyz").map V.str)) (fun n H' => L2.Same H1 H' ∧ H' D = some (.lst (((octs.take n).filter fun x => decide (x ∉ ws)).map V.str))) ?_ ?_ ?_ ?_
    · exact ⟨Same.new hD, upd_same⟩
    · rintro n H' _ ⟨sm, _⟩
      exact SqL.of (sm _ _ hL1)
    · rintro n v H0 H2 hn ⟨s2, hD2⟩ ⟨rfl, hv⟩
      obtain ⟨x, ex, rfl⟩ := str_get hv
      have eo : octs[n]? = some (Txt.mul x 8) := by
        unfold octs
        rw [List.getElem?_map, ex]
        rfl
      have xs1 : ∃ c, x = ⟨#[c]⟩ := by
        have m := List.mem_of_getElem? ex
        unfold SmR.signs at m
        obtain ⟨c, _, rfl⟩ := List.mem_map.mp m
        exact ⟨c, rfl⟩
      obtain ⟨c, rfl⟩ := xs1
      refine at_name (σ' := [some (.ref l), some (.str ⟨#[c]⟩)]) rfl ⟨rfl, ?_⟩
      refine ⟨_, rfl, _, 8, rfl, rfl, mul_ok8, _, rfl, l, _, rfl, .inl (SqL.of (s2 _ _ (s1 _ _ hl))), rfl, flat_strs ws, _, rfl, ?_⟩
      rw [if_pos rfl, inV_strs, take_next' eo, List.filter_append]
      have lenb : ((octs.take n).filter fun x => decide (x ∉ ws)).length ≤ 26 := Nat.le_trans (List.length_filter_le _ _) (by rw [List.length_take, octs_len]; omega)
      obtain ⟨z, ez⟩ : ∃ z, z = Txt.mul (⟨#[c]⟩ : Str) 8 := ⟨_, rfl⟩
      rw [← ez] at eo ⊢
      refine ite2 (fun hz => ?_) (fun hz => ?_)
      · have hz' : z ∉ ws := by simpa using hz
        refine ⟨_, rfl, _, 8, rfl, rfl, mul_ok8, _, hD2, by rw [List.length_map]; exact small1000 (by omega), fun b o e => ?_, ?_⟩
        · rw [upd_ne (ne_of_none e hD)]
          exact s2 _ _ e
        · have e1 : List.filter (fun x => decide (x ∉ ws)) [z] = [z] := List.filter_cons_of_pos (p := fun x => decide (x ∉ ws)) (l := []) (decide_eq_true hz')
          rw [e1, List.map_append, ez]
          exact upd_same
      · have hz' : z ∈ ws := by simpa using hz
        have e1 : List.filter (fun x => decide (x ∉ ws)) [z] = [] := List.filter_cons_of_neg (p := fun x => decide (x ∉ ws)) (l := []) (by simp [hz'])
        rw [e1, List.append_nil]
        exact ⟨s2, hD2⟩
    · rintro H2 ⟨s2, hD2⟩
      have e26 : octs.take ((SmR.signs "abcdefghijklmnopqrstuvwxyz").map V.str).length = octs := by rw [List.length_map, abc_len, ← octs_len, List.take_length]
      rw [e26] at hD2
      exact k D H2 (s1.trans s2) (s1.free hD) hD2
def OddV (S C : Addr) (H0 H : Hp) (v : V) : Prop := Flat2 v v ∨ (∃ p, v = .ref p ∧ OddObj S C H p) ∨
  (∃ (a : Addr) (xs : List V), v = .ref a ∧ H a = some (.lst xs) ∧ H0 a = none ∧ xs.length ≤ 90 ∧ ∀ x ∈ xs, Flat2 x x ∨ ∃ q, x = .ref q ∧ OddObj S C H0 q) ∨
  (∃ (a : Addr) (xs : List V), v = .ref a ∧ H a = some (.tup xs) ∧ xs.length ≤ 90 ∧ ∀ x ∈ xs, AlO S C 4 H x x) ∨
  ∃ (a : Addr) (kvs : List (Key × V)), v = .ref a ∧ H a = some (.dK kvs) ∧ H0 a = none ∧ (kvs.map (·.1)).Nodup ∧ kvs.length ≤ 90 ∧ (Sum.inr "LATER" : Key) ∉ kvs.map (·.1) ∧ ∀ p ∈ kvs, Flat2 p.2 p.2 ∨ ∃ q, p.2 = .ref q ∧ OddObj S C H0 q
theorem OddV.mono {H0 H H' : Hp} {v : V} (s : L2.Same H H') (h : OddV S C H0 H v) : OddV S C H0 H' v := by
  rcases h with h | ⟨p, e, o⟩ | ⟨a, xs, e, h, n, l, i⟩ | ⟨a, xs, e, h, l, i⟩ | ⟨a, kvs, e, h, n, nd, l, la, i⟩
  · exact .inl h
  · exact .inr (.inl ⟨p, e, o.mono s⟩)
  · exact .inr (.inr (.inl ⟨a, xs, e, s _ _ h, n, l, i⟩))
  · exact .inr (.inr (.inr (.inl ⟨a, xs, e, s _ _ h, l, fun x hx => AlO.mono s (i x hx)⟩)))
  · exact .inr (.inr (.inr (.inr ⟨a, kvs, e, s _ _ h, n, nd, l, la, i⟩)))
theorem paired_self {R : V → V → Prop} : ∀ {xs : List V}, (∀ x ∈ xs, R x x) → Paired R xs xs
  | [], _ => .nil
  | x :: xs, h => .cons (h x List.mem_cons_self) (paired_self fun y hy => h y (List.mem_cons_of_mem _ hy))
theorem itm_alO {n : Nat} {H0 H : Hp} {x : V} (s : L2.Same H0 H) (h : Flat2 x x ∨ ∃ q, x = .ref q ∧ OddObj S C H0 q) : AlO S C (n + 1) H x x := by
  rcases h with f | ⟨q, rfl, o⟩
  · exact .inl (.inl f)
  · exact .inr (.inl ⟨q, rfl, rfl, o.mono s⟩)
theorem OddV.alO {H0 H : Hp} {v : V} (s : L2.Same H0 H) (h : OddV S C H0 H v) : AlO S C 5 H v v := by
  rcases h with h | ⟨p, e, o⟩ | ⟨a, xs, e, h, n, l, i⟩ | ⟨a, xs, e, h, l, i⟩ | ⟨a, kvs, e, h, n, nd, l, la, i⟩
  · exact .inl (.inl h)
  · exact .inr (.inl ⟨p, e, e, o⟩)
  · exact .inr (.inr (.inl ⟨a, a, xs, xs, e, e, h, h, by omega, paired_self fun x hx => itm_alO s (i x hx)⟩))
  · exact .inr (.inr (.inr (.inl ⟨a, a, xs, xs, e, e, h, h, by omega, paired_self i⟩)))
  · exact .inr (.inr (.inr (.inr ⟨a, kvs, by decide, e, e, h, nd, by omega, fun p hp => (i p hp).imp id fun ⟨q, e, o⟩ => ⟨q, e, o.mono s⟩⟩)))
def spVery (S C : Addr) : Sp := fun vs H Q _ => ∃ (t : Addr) (wd : Str) (v : V) (H0 : Hp), vs = [.ref t, .str wd, v] ∧ H t = some (.tup [.str wd, v, .bl false, .bl true]) ∧ L2.Same H0 H ∧ OddV S C H0 H v ∧ ∀ H', L2.Same H H' → Q (.bl true) H'
abbrev nVery : List Str := ["_law_told_here", "_law_word_here", "_law_thing", "_law_same"]
theorem scVery : FnScope nVery ["_law_told_here", "_law_word_here", "_law_thing"] (defScope sVery) := ⟨rfl, rfl, rfl, by decide +kernel, rfl, by decide +kernel, by decide +kernel⟩
theorem four_alO {n : Nat} {H : Hp} {wd : Str} {v : V} (h : AlO S C (n + 1) H v v) {t t2 : Addr} (h1 : H t = some (.tup [.str wd, v, .bl false, .bl true])) (h2 : H t2 = some (.tup [.str wd, v, .bl false, .bl true])) : AlO S C (n + 2) H (.ref t) (.ref t2) :=
  .inr (.inr (.inr (.inl ⟨t, t2, _, _, rfl, rfl, h1, h2, by show 4 ≤ 100; decide, .cons (.inl (.inl (.inl ⟨_, rfl, rfl⟩))) (.cons h (.cons (.inl (.inl (.inr (.inr (.inl ⟨_, rfl, rfl⟩))))) (.cons (.inl (.inl (.inr (.inr (.inl ⟨_, rfl, rfl⟩))))) .nil)))⟩)))
theorem dropK_put {kvs : List (Key × V)} {k : Key} {v : V} (h : k ∉ kvs.map (·.1)) : putK kvs k v = kvs ++ [(k, v)] ∧ dropK (kvs ++ [(k, v)]) k = kvs := by
  have ne : ∀ p ∈ kvs, p.1 ≠ k := fun p hp e => h (List.mem_map.mpr ⟨p, hp, e⟩)
  constructor
  · unfold putK
    rw [if_neg]
    intro z
    obtain ⟨p, hp, e⟩ := List.any_eq_true.mp z
    exact ne p hp (of_decide_eq_true e)
  · unfold dropK
    rw [List.filter_append, List.filter_eq_self.mpr fun p hp => decide_eq_true (ne p hp)]
    simp
theorem ok_very {g : Addr} {fd : FuncData} (F : Fun K "_law_very" "_law_very" sVery g fd) (Z : Blp mg) (Ce : Cee P w K mg base 9 "_law_exact" ["_law_mine", "_law_theirs"] (spExO S C 6)) (T : KTx K mg C) (TS : STx K mg S) (X : OddC K S C) : FnOk P w K mg base CX0 10 g fd ["_law_told_here", "_law_word_here", "_law_thing"] (spVery S C) := by
  refine F.ok scVery (fun vs H Q E h => ?_) (fun cdv A outer s H vs Q E hr h => ?_)
  · obtain ⟨t, wd, v, H0, rfl, _⟩ := h
    rfl
  · obtain ⟨t, wd, v, H0, rfl, ht, s0, od, k⟩ := h
    have nd := scVery.nd
    refine ⟨_, pss_cons (ps_if (pt_not (pt_val (pe_c Ce hr rfl (pa_cons (pv 0) (pa_cons (pe_tup (pa_cons (pv 1) (pa_cons (pv 2) (pa_cons pe_bl (pa_cons pe_bl pa_nil))))) pa_nil))))) (pss_one ps_never) pss_nil)
      (pss_cons (ps_if (pt_val (pe_callB call_isi (by rfl) Z.isi boot_isi (pa_cons (pv 2) (pa_cons (pe_bltn (v := .ty "list") (by rfl) Z.list (by decide +kernel) rfl) pa_nil))))
        (pss_cons (ps_expr (pe_bm PySem.F.plainAttrs_list PySem.F.slot_list_append PySem.F.type_list_append mt_append (pv 2) (pa_cons pe_str pa_nil)))
        (pss_cons (ps_set (i := 3) nd rfl (Or.inl rfl) (pe_c Ce hr rfl (pa_cons (pe_ix ix_tup (pv 0) pe_int (fun _ _ => rfl)) (pa_cons (pv 2) pa_nil))))
        (pss_cons (ps_expr (pe_bm0 PySem.F.plainAttrs_list PySem.F.slot_list_pop PySem.F.type_list_pop mt_pop (pv 2)))
        (pss_one (ps_ret (pv 3)))))) pss_nil)
      (pss_cons (ps_if (pt_val (pe_callB call_isi (by rfl) Z.isi boot_isi (pa_cons (pv 2) (pa_cons (pe_bltn (v := .ty "dict") (by rfl) Z.dict (by decide +kernel) rfl) pa_nil))))
        (pss_cons (ps_dput (hu_of hr) (pv 2) pe_str pe_int rfl)
        (pss_cons (ps_set (i := 3) nd rfl (Or.inl rfl) (pe_c Ce hr rfl (pa_cons (pe_ix ix_tup (pv 0) pe_int (fun _ _ => rfl)) (pa_cons (pv 2) pa_nil))))
        (pss_cons (ps_expr (pe_dpop1 (pv 2) pe_str ⟨rfl, rfl, rfl, rfl⟩))
        (pss_one (ps_ret (pv 3)))))) pss_nil)
      (pss_one (ps_ret pe_bl)))), ?_⟩
    refine ⟨_, rfl, _, rfl, _, rfl, (by show 4 ≤ sizeLine; decide), fun t2 ht20 => ?_⟩
    have s1 := Same.new (H := H) (o := .tup [.str wd, v, .bl false, .bl true]) ht20
    have ht2 : upd H t2 (.tup [.str wd, v, .bl false, .bl true]) t2 = _ := upd_same
    generalize upd H t2 (.tup [.str wd, v, .bl false, .bl true]) = H1 at s1 ht2 ⊢
    refine ⟨.ref t, .ref t2, rfl, four_alO (AlO.mono s1 (od.alO s0)) (s1 _ _ ht) ht2, fun H2 s2 => ⟨_, rfl, iteF ?_⟩⟩
    have s12 := s1.trans s2
    have od2 := od.mono s12
    have s02 := s0.trans s12
    have ht3 := s12 _ _ ht
    rcases od2 with (⟨x, rfl, _⟩ | ⟨i, rfl, _⟩ | ⟨b, rfl, _⟩ | ⟨rfl, _⟩) | ⟨p, rfl, ob⟩ | ⟨a, xs, rfl, ha, n0, l, it⟩ | ⟨a, xs, rfl, ha, l, it⟩ | ⟨a, kvs, rfl, ha, n0, ndk, l, la, it⟩
    · exact ⟨_, rfl, _, _, _, _, false, rfl, .ty _, .base (.str _), kit_ty (by decide +kernel), _, rfl, iteF ⟨_, rfl, _, _, _, _, false, rfl, .ty _, .base (.str _), kit_ty (by decide +kernel), _, rfl, iteF (k _ s12)⟩⟩
    · exact ⟨_, rfl, _, _, _, _, false, rfl, .ty _, .base (.int _), kit_ty (by decide +kernel), _, rfl, iteF ⟨_, rfl, _, _, _, _, false, rfl, .ty _, .base (.int _), kit_ty (by decide +kernel), _, rfl, iteF (k _ s12)⟩⟩
    · exact ⟨_, rfl, _, _, _, _, false, rfl, .ty _, .base (.bl _), kit_ty (by decide +kernel), _, rfl, iteF ⟨_, rfl, _, _, _, _, false, rfl, .ty _, .base (.bl _), kit_ty (by decide +kernel), _, rfl, iteF (k _ s12)⟩⟩
    · exact ⟨_, rfl, _, _, _, _, false, rfl, .ty _, .base .non, kit_ty (by decide +kernel), _, rfl, iteF ⟨_, rfl, _, _, _, _, false, rfl, .ty _, .base .non, kit_ty (by decide +kernel), _, rfl, iteF (k _ s12)⟩⟩
    · obtain ⟨Co, ty, nb⟩ := ob.ty T TS X
      exact ⟨_, rfl, _, _, _, _, false, rfl, .ty _, ty, nb.nl, _, rfl, iteF ⟨_, rfl, _, _, _, _, false, rfl, .ty _, ty, nb.nd, _, rfl, iteF (k _ s12)⟩⟩
    · refine ⟨_, rfl, _, _, _, _, true, rfl, .ty _, .base (.lst ha), kit_ty (by decide +kernel), _, rfl, iteT ?_⟩
      refine ⟨_, rfl, .inl ⟨rfl, _, SqL.of ha⟩, a, xs, _, rfl, rfl, ha, by rw [sizeLine_eq]; omega, ?_⟩
      have o1 : ∀ b o, H0 b = some o → upd H2 a (.lst (xs ++ [.str "LATER"])) b = some o := fun b o e => (upd_ne (ne_of_none e n0)).trans (s02 _ _ e)
      have o2 : ∀ b o, b ≠ a → H2 b = some o → upd H2 a (.lst (xs ++ [.str "LATER"])) b = some o := fun b o ne e => (upd_ne ne).trans e
      have ha3 : upd H2 a (.lst (xs ++ [.str "LATER"])) a = _ := upd_same
      have ht4 := o2 t _ (ne_of ht3 ha (by intro z; cases z)) ht3
      generalize upd H2 a (.lst (xs ++ [.str "LATER"])) = H3 at o1 o2 ha3 ht4 ⊢
      have al : AlO S C 6 H3 (.ref a) (.ref a) := .inr (.inr (.inl ⟨a, a, _, _, rfl, rfl, ha3, ha3, by rw [List.length_append, List.length_singleton]; omega, paired_self fun x hx => by
        rcases List.mem_append.mp hx with m | m
        · exact itm_alO (n := 4) o1 (it x m)
        · rw [List.mem_singleton.mp m]
          exact .inl (.inl (.inl ⟨_, rfl, rfl⟩))⟩))
      refine ⟨_, rfl, t, _, _, _, rfl, rfl, SqT.of ht4, atI_nat (j := 1) rfl, _, rfl, .ref a, .ref a, rfl, al, fun H4 s4 => ?_⟩
      refine at_name (σ' := [some (.ref t), some (.str wd), some (.ref a), some (.bl true)]) rfl ?_
      have ha4 := s4 _ _ ha3
      refine ⟨_, rfl, .inl ⟨rfl, _, SqL.of ha4⟩, a, _, .str "LATER", rfl, rfl, ha4, by rw [List.length_append, List.length_singleton, Nat.add_sub_cancel, List.getElem?_append_right (Nat.le_refl _), Nat.sub_self]; rfl, ?_⟩
      rw [List.dropLast_concat]
      refine ⟨_, rfl, k _ fun b o e => ?_⟩
      by_cases hb : b = a
      · rw [hb] at e ⊢
        have e1 := s12 _ _ e
        rw [ha] at e1
        rw [upd_same, ← e1]
      · rw [upd_ne hb]
        exact s4 _ _ (o2 b o hb (s12 _ _ e))
    · exact ⟨_, rfl, _, _, _, _, false, rfl, .ty _, .base (.tup ha), kit_ty (by decide +kernel), _, rfl, iteF ⟨_, rfl, _, _, _, _, false, rfl, .ty _, .base (.tup ha), kit_ty (by decide +kernel), _, rfl, iteF (k _ s12)⟩⟩
    · refine ⟨_, rfl, _, _, _, _, false, rfl, .ty _, .base (.dK ha), kit_ty (by decide +kernel), _, rfl, iteF ?_⟩
      refine ⟨_, rfl, _, _, _, _, true, rfl, .ty _, .base (.dK ha), kit_ty (by decide +kernel), _, rfl, iteT ?_⟩
      obtain ⟨e1, e2⟩ := dropK_put (v := V.int 1) la
      refine ⟨_, rfl, a, _, rfl, DPut.k (k := Sum.inr "LATER") ha (by rw [sizeLine_eq]; omega), ?_⟩
      rw [e1]
      have o1 : ∀ b o, H0 b = some o → upd H2 a (.dK (kvs ++ [((Sum.inr "LATER" : Key), V.int 1)])) b = some o := fun b o e => (upd_ne (ne_of_none e n0)).trans (s02 _ _ e)
      have o2 : ∀ b o, b ≠ a → H2 b = some o → upd H2 a (.dK (kvs ++ [((Sum.inr "LATER" : Key), V.int 1)])) b = some o := fun b o ne e => (upd_ne ne).trans e
      have ha3 : upd H2 a (.dK (kvs ++ [((Sum.inr "LATER" : Key), V.int 1)])) a = _ := upd_same
      have ht4 := o2 t _ (ne_of ht3 ha (by intro z; cases z)) ht3
      generalize upd H2 a (.dK (kvs ++ [((Sum.inr "LATER" : Key), V.int 1)])) = H3 at o1 o2 ha3 ht4 ⊢
      have nd3 : ((kvs ++ [((Sum.inr "LATER" : Key), V.int 1)]).map (·.1)).Nodup := by
        rw [List.map_append]
        exact List.nodup_append.mpr ⟨ndk, by simp, fun x hx y hy e => la (by
          have e9 : y = (Sum.inr "LATER" : Key) := List.mem_singleton.mp hy
          rw [← e9, ← e]
          exact hx)⟩
      have al : AlO S C 6 H3 (.ref a) (.ref a) := .inr (.inr (.inr (.inr ⟨a, _, by decide, rfl, rfl, ha3, nd3, by rw [List.length_append, List.length_singleton]; omega, fun p hp => by
        rcases List.mem_append.mp hp with m | m
        · exact (it p m).imp id fun ⟨q, e, o⟩ => ⟨q, e, o.mono o1⟩
        · rw [List.mem_singleton.mp m]
          exact .inl (.inr (.inl ⟨_, rfl, rfl⟩))⟩)))
      refine ⟨_, rfl, t, _, _, _, rfl, rfl, SqT.of ht4, atI_nat (j := 1) rfl, _, rfl, .ref a, .ref a, rfl, al, fun H4 s4 => ?_⟩
      refine at_name (σ' := [some (.ref t), some (.str wd), some (.ref a), some (.bl true)]) rfl ?_
      have ha4 := s4 _ _ ha3
      have hv : valV (kvs ++ [((Sum.inr "LATER" : Key), V.int 1)]) (Sum.inr "LATER") = some (.int 1) := valV_mem nd3 (List.mem_append_right _ List.mem_cons_self)
      refine ⟨_, rfl, a, rfl, .inl ⟨_, .inl ha4⟩, _, Sum.inr "LATER", _, ha4, rfl, hv, ?_⟩
      rw [e2]
      refine ⟨_, rfl, k _ fun b o e => ?_⟩
      by_cases hb : b = a
      · rw [hb] at e ⊢
        have e1 := s12 _ _ e
        rw [ha] at e1
        rw [upd_same, ← e1]
      · rw [upd_ne hb]
        exact s4 _ _ (o2 b o hb (s12 _ _ e))
end
end KT
set_option Elab.async false
set_option linter.all false
set_option maxRecDepth 100000
set_option maxHeartbeats 4000000
set_option pp.maxSteps 900
namespace KT
open PySem L2 PyProof.Rows DTp TxS DKq KX
section
variable {P : Program} {w : World} {K : PySem.W.Frag} {mg : Str → Option Value} {base : Heap} {C S : Addr}
structure NsC (K : PySem.W.Frag) (S C : Addr) : Prop where
  bt : ∀ t ∈ ["NoneType", "bool", "int", "str", "list", "tuple", "dict"], PySem.W.kitOne K (.type t) (.ref S) = some false
  kC : PySem.W.kitOne K (.ref C) (.ref S) = some false
def spOddS (K : PySem.W.Frag) (S C : Addr) : Sp := fun vs H Q _ => ∃ (A : SA) (ws : List Str) (f : Str → Str → Str) (dl : List (Str × Str)) (tw : List Str), vs = [.ref A.q] ∧ StIn S C H A ws f dl tw ∧
  ∀ (l : Addr) (things : List V) (H' : Hp), L2.Same H H' → H l = none → H' l = some (.lst things) → things.length = 15 → (∀ v ∈ things, OddV S C H H' v ∧ NotC K H' v S) → Q (.ref l) H'
abbrev nOddS : List Str := ["_law_made_here", "_law_found"]
theorem scOddS : FnScope nOddS ["_law_made_here"] (defScope sOddS) := ⟨rfl, rfl, rfl, by decide +kernel, rfl, by decide +kernel, by decide +kernel⟩
structure MadC (P : Program) (w : World) (K : PySem.W.Frag) (mg : Str → Option Value) (base : Heap) (S C : Addr) : Prop where
  knd : Mee P w K mg base S 1 "kinds" ["self"] (spSKinds S C)
  ded : Mee P w K mg base S 1 "deeds" ["self"] (spSDeeds S C)
  twi : Mee P w K mg base S 1 "twice" ["self"] (spSTwice S C)
theorem wd_later {x : Str} (h : Wd x) : x ≠ "LATER" := fun e => by
  have := (h.2.2 76 (by rw [e]; decide)).1
  omega
theorem later_dl {ws : List Str} {dl : List (Str × Str)} (ok : DlOk ws dl) : (Sum.inr "LATER" : Key) ∉ (dkv dl).map (·.1) := fun h => by
  obtain ⟨q, hq, e⟩ := List.mem_map.mp h
  obtain ⟨p, hp, rfl⟩ := List.mem_map.mp hq
  exact wd_later (ok.wd p.1 (List.mem_map.mpr ⟨p, hp, rfl⟩)) (Sum.inr.inj (α := Int) (β := Str) e)
theorem dkv_nd {ws : List Str} {dl : List (Str × Str)} (ok : DlOk ws dl) : ((dkv dl).map (·.1)).Nodup := by
  have e : (dkv dl).map (·.1) = (keysD dl).map (Sum.inr : Str → Key) := by
    unfold dkv keysD
    rw [List.map_map, List.map_map]; rfl
  rw [e]
  exact List.pairwise_map.mpr (List.Pairwise.imp (fun {a b} (ne : a ≠ b) e => ne (Sum.inr.inj e)) ok.nd)
theorem odd_strs {H0 H : Hp} {a : Addr} {xs : List Str} (h : H a = some (.lst (xs.map V.str))) (n : H0 a = none) (l : xs.length ≤ 90) : OddV S C H0 H (.ref a) :=
  .inr (.inr (.inl ⟨a, _, rfl, h, n, by rw [List.length_map]; exact l, fun x hx => by
    obtain ⟨z, _, rfl⟩ := List.mem_map.mp hx
    exact .inl (.inl ⟨z, rfl, rfl⟩)⟩))
theorem odd_deeds {ws : List Str} {dl : List (Str × Str)} (ok : DlOk ws dl) {H0 H : Hp} {a : Addr} (h : H a = some (.dK (dkv dl))) (n : H0 a = none) : OddV S C H0 H (.ref a) :=
  .inr (.inr (.inr (.inr ⟨a, _, rfl, h, n, dkv_nd ok, by unfold dkv; rw [List.length_map]; have := ok.few; omega, later_dl ok, fun p hp => by
    obtain ⟨z, _, rfl⟩ := List.mem_map.mp hp
    exact .inl (.inl ⟨_, rfl, rfl⟩)⟩)))
theorem ok_oddS {g : Addr} {fd : FuncData} (F : Fun K "_law_odd_settings" "_law_odd_settings" sOddS g fd) (TS : STx K mg S) (T : KTx K mg C) (N : NsC K S C) (M : MadC P w K mg base S C) : FnOk P w K mg base CX0 2 g fd ["_law_made_here"] (spOddS K S C) := by
  refine F.ok scOddS (fun vs H Q E h => ?_) (fun cdv A outer s H vs Q E hr h => ?_)
  · obtain ⟨A, ws, f, dl, tw, rfl, _⟩ := h
    rfl
  · obtain ⟨A0, ws, f, dl, tw, rfl, st, k⟩ := h
    have nd := scOddS.nd
    have z0 : 0 ≤ sizeLine := Nat.zero_le _
    have z1 : 1 ≤ sizeLine := by decide
    refine ⟨_, pss_cons (ps_set (i := 1) nd rfl (Or.inl rfl) (pe_lst (pa_cons pe_non (pa_cons pe_bl (pa_cons pe_int (pa_cons pe_str (pa_cons pe_str (pa_cons (pe_lst pa_nil) (pa_cons pe_dnewK (pa_cons (pe_tup pa_nil)
        (pa_cons (pe_m0 M.knd TS.cl hr (pv 0)) (pa_cons (pe_m0 M.ded TS.cl hr (pv 0)) (pa_cons (pe_m0 M.twi TS.cl hr (pv 0)) (pa_cons (pe_lst (pa_cons (pv 0) pa_nil)) (pa_cons (pe_tup (pa_cons (pv 0) pa_nil)) (pa_cons (pe_disp (pps_cons pe_int (pv 0) pps_nil) rfl rfl (by decide) (by decide)) pa_nil))))))))))))))))
      (pss_one (ps_ret (pe_op op_cat (pv 1) (pe_lst (pa_cons (pe_tup (pa_cons (pe_m0 M.knd TS.cl hr (pv 0)) (pa_cons (pe_m0 M.ded TS.cl hr (pv 0)) (pa_cons (pe_m0 M.twi TS.cl hr (pv 0)) pa_nil)))) pa_nil))))), ?_⟩
    refine ⟨z0, fun p1 n1 p2 n2 => ⟨z0, fun p3 n3 => ?_⟩⟩
    have s1 := Same.new (H := H) (o := .lst []) n1
    have h1 : upd H p1 (.lst []) p1 = _ := upd_same
    generalize upd H p1 (.lst []) = H1 at s1 h1 n2 n3 ⊢
    have s2 := Same.new (H := H1) (o := .dK []) n2
    have h2 : upd H1 p2 (.dK []) p2 = _ := upd_same
    generalize upd H1 p2 (.dK []) = H2 at s2 h2 n3 ⊢
    have s3 := Same.new (H := H2) (o := .tup []) n3
    have h3 : upd H2 p3 (.tup []) p3 = _ := upd_same
    generalize upd H2 p3 (.tup []) = H3 at s3 h3 ⊢
    have s02 := s1.trans s2
    have s03 := s02.trans s3
    have st3 := st.mono s03
    refine ⟨_, rfl, A0.q, A0.dx, _, rfl, st3.ob, sflds_no _ _ _ (by decide +kernel) (by decide +kernel) (by decide +kernel), A0, ws, f, dl, tw, rfl, st3, ?_⟩
    refine ⟨_, rfl, A0.q, A0.dx, _, rfl, st3.ob, sflds_no _ _ _ (by decide +kernel) (by decide +kernel) (by decide +kernel), A0, ws, f, dl, tw, rfl, st3, fun q1 H4 s4 m1 g1 => ?_⟩
    have st4 := st3.mono s4
    have s04 := s03.trans s4
    refine ⟨_, rfl, A0.q, A0.dx, _, rfl, st4.ob, sflds_no _ _ _ (by decide +kernel) (by decide +kernel) (by decide +kernel), A0, ws, f, dl, tw, rfl, st4, fun q2 H5 s5 m2 g2 => ?_⟩
    have st5 := st4.mono s5
    have s05 := s04.trans s5
    refine ⟨_, rfl, z1, fun p4 n4 => ⟨_, rfl, z1, fun p5 n5 p6 n6 => ⟨_, rfl, ?_⟩⟩⟩
    have s6 := Same.new (H := H5) (o := .lst [.ref A0.q]) n4
    have h4 : upd H5 p4 (.lst [.ref A0.q]) p4 = _ := upd_same
    generalize upd H5 p4 (.lst [.ref A0.q]) = H6 at s6 h4 n5 n6 ⊢
    have s7 := Same.new (H := H6) (o := .tup [.ref A0.q]) n5
    have h5 : upd H6 p5 (.tup [.ref A0.q]) p5 = _ := upd_same
    generalize upd H6 p5 (.tup [.ref A0.q]) = H7 at s7 h5 n6 ⊢
    refine ⟨upd_same, [((Sum.inl 0 : Key), V.ref A0.q)], rfl, (by show 1 ≤ 15; decide), ?_⟩
    rw [upd_upd]
    have s8 := Same.new (H := H7) (o := .dK (mergeK [] [((Sum.inl 0 : Key), V.ref A0.q)])) n6
    have h6 : upd H7 p6 (.dK (mergeK [] [((Sum.inl 0 : Key), V.ref A0.q)])) p6 = some (.dK [((Sum.inl 0 : Key), V.ref A0.q)]) := upd_same
    generalize upd H7 p6 (.dK (mergeK [] [((Sum.inl 0 : Key), V.ref A0.q)])) = H8 at s8 h6 ⊢
    have s08 := ((s05.trans s6).trans s7).trans s8
    refine ⟨(by show 14 ≤ sizeLine; decide), fun L nL => ?_⟩
    obtain ⟨ts, ets⟩ : ∃ ts : List V, ts = [V.non, V.bl true, V.int 0, V.str (""), V.str ("setting"), V.ref p1, V.ref p2, V.ref p3, V.ref A0.p, V.ref q1, V.ref q2, V.ref p4, V.ref p5, V.ref p6] := ⟨_, rfl⟩
    rw [← ets]
    have s9 := Same.new (H := H8) (o := .lst ts) nL
    have hL : upd H8 L (.lst ts) L = _ := upd_same
    generalize upd H8 L (.lst ts) = H9 at s9 hL ⊢
    have s09 := s08.trans s9
    have st9 := st.mono s09
    refine at_name (σ' := [some (.ref A0.q), some (.ref L)]) rfl ?_
    refine ⟨_, rfl, _, rfl, A0.q, A0.dx, _, rfl, st9.ob, sflds_no _ _ _ (by decide +kernel) (by decide +kernel) (by decide +kernel), A0, ws, f, dl, tw, rfl, st9, ?_⟩
    refine ⟨_, rfl, A0.q, A0.dx, _, rfl, st9.ob, sflds_no _ _ _ (by decide +kernel) (by decide +kernel) (by decide +kernel), A0, ws, f, dl, tw, rfl, st9, fun r1 H10 s10 m3 g3 => ?_⟩
    have st10 := st9.mono s10
    have s010 := s09.trans s10
    refine ⟨_, rfl, A0.q, A0.dx, _, rfl, st10.ob, sflds_no _ _ _ (by decide +kernel) (by decide +kernel) (by decide +kernel), A0, ws, f, dl, tw, rfl, st10, fun r2 H11 s11 m4 g4 => ?_⟩
    have st11 := st10.mono s11
    have s011 := s010.trans s11
    refine ⟨(by show 3 ≤ sizeLine; decide), fun p7 n7 => ⟨(by show 1 ≤ sizeLine; decide), fun p8 n8 => ?_⟩⟩
    have s12 := Same.new (H := H11) (o := .tup [.ref A0.p, .ref r1, .ref r2]) n7
    have h7 : upd H11 p7 (.tup [.ref A0.p, .ref r1, .ref r2]) p7 = _ := upd_same
    generalize upd H11 p7 (.tup [.ref A0.p, .ref r1, .ref r2]) = H12 at s12 h7 n8 ⊢
    have s13 := Same.new (H := H12) (o := .lst [.ref p7]) n8
    have h8 : upd H12 p8 (.lst [.ref p7]) p8 = _ := upd_same
    generalize upd H12 p8 (.lst [.ref p7]) = H13 at s13 h8 ⊢
    have s9e := ((s10.trans s11).trans s12).trans s13
    have s013 := s09.trans s9e
    have st13 := st.mono s013
    have lt : ts.length = 14 := by rw [ets]; rfl
    refine ⟨L, p8, ts, _, rfl, rfl, s9e _ _ hL, h8, by rw [lt]; show 15 ≤ sizeLine; decide, fun l nl => ?_⟩
    have s14 := Same.new (H := H13) (o := .lst (ts ++ [.ref p7])) nl
    have hl : upd H13 l (.lst (ts ++ [.ref p7])) l = _ := upd_same
    generalize upd H13 l (.lst (ts ++ [.ref p7])) = HE at s14 hl ⊢
    have s0e := s013.trans s14
    have ste := st.mono s0e
    refine k l (ts ++ [.ref p7]) HE s0e (s013.free nl) hl (by rw [List.length_append, lt]; rfl) fun v hv => ?_
    have kd : OddObj S C H A0.p := .inl ⟨ws, f, st.kdAt⟩
    have so : OddObj S C H A0.q := .inr ⟨A0, ws, f, dl, tw, rfl, st⟩
    have ltw : tw.length ≤ 90 := Nat.le_trans (st.tok.len st.kin.kw) (by decide)
    have e9 := s9e.trans s14
    have no : ∀ {v : V} {T : String}, T ∈ ["NoneType", "bool", "int", "str", "list", "tuple", "dict"] → TyX K HE v (.type T) → NotC K HE v S := fun {v T} m ty => ⟨_, ty, N.bt T m⟩
    have f1 : HE p1 = some (.lst []) := e9 _ _ (s9 _ _ (s8 _ _ (s7 _ _ (s6 _ _ (s5 _ _ (s4 _ _ (s3 _ _ (s2 _ _ h1))))))))
    have f2 : HE p2 = some (.dK []) := e9 _ _ (s9 _ _ (s8 _ _ (s7 _ _ (s6 _ _ (s5 _ _ (s4 _ _ (s3 _ _ h2)))))))
    have f3 : HE p3 = some (.tup []) := e9 _ _ (s9 _ _ (s8 _ _ (s7 _ _ (s6 _ _ (s5 _ _ (s4 _ _ h3))))))
    have f4 : HE q1 = some (.dK (dkv dl)) := e9 _ _ (s9 _ _ (s8 _ _ (s7 _ _ (s6 _ _ (s5 _ _ g1)))))
    have f5 : HE q2 = some (.lst (tw.map V.str)) := e9 _ _ (s9 _ _ (s8 _ _ (s7 _ _ (s6 _ _ g2))))
    have f6 : HE p4 = some (.lst [.ref A0.q]) := e9 _ _ (s9 _ _ (s8 _ _ (s7 _ _ h4)))
    have f7 : HE p5 = some (.tup [.ref A0.q]) := e9 _ _ (s9 _ _ (s8 _ _ h5))
    have f8 : HE p6 = some (.dK [((Sum.inl 0 : Key), V.ref A0.q)]) := e9 _ _ (s9 _ _ h6)
    have f9 : HE p7 = some (.tup [.ref A0.p, .ref r1, .ref r2]) := s14 _ _ (s13 _ _ h7)
    have f10 : HE r1 = some (.dK (dkv dl)) := s14 _ _ (s13 _ _ (s12 _ _ (s11 _ _ g3)))
    have f11 : HE r2 = some (.lst (tw.map V.str)) := s14 _ _ (s13 _ _ (s12 _ _ g4))
    have o1 : OddV S C H HE (.ref r1) := odd_deeds st.ok f10 (s09.free m3)
    have o2 : OddV S C H HE (.ref r2) := odd_strs f11 (s010.free m4) ltw
    rw [ets] at hv
    simp only [List.cons_append, List.nil_append, List.mem_cons, List.not_mem_nil, or_false] at hv
    rcases hv with rfl | rfl | rfl | rfl | rfl | rfl | rfl | rfl | rfl | rfl | rfl | rfl | rfl | rfl | rfl
    · exact ⟨.inl (.inr (.inr (.inr ⟨rfl, rfl⟩))), no (by simp) (.base .non)⟩
    · exact ⟨.inl (.inr (.inr (.inl ⟨_, rfl, rfl⟩))), no (by simp) (.base (.bl _))⟩
    · exact ⟨.inl (.inr (.inl ⟨_, rfl, rfl⟩)), no (by simp) (.base (.int _))⟩
    · exact ⟨.inl (.inl ⟨_, rfl, rfl⟩), no (by simp) (.base (.str _))⟩
    · exact ⟨.inl (.inl ⟨_, rfl, rfl⟩), no (by simp) (.base (.str _))⟩
    · exact ⟨odd_strs (xs := []) f1 n1 (by decide), no (by simp) (.base (.lst f1))⟩
    · exact ⟨.inr (.inr (.inr (.inr ⟨p2, [], rfl, f2, s1.free n2, by simp, by decide, by simp, fun p hp => nomatch hp⟩))), no (by simp) (.base (.dK f2))⟩
    · exact ⟨.inr (.inr (.inr (.inl ⟨p3, [], rfl, f3, by decide, fun p hp => nomatch hp⟩))), no (by simp) (.base (.tup f3))⟩
    · exact ⟨.inr (.inl ⟨_, rfl, kd.mono s0e⟩), _, T.ty ste.kin.ob, N.kC⟩
    · exact ⟨odd_deeds st.ok f4 (s03.free m1), no (by simp) (.base (.dK f4))⟩
    · exact ⟨odd_strs f5 (s04.free m2) ltw, no (by simp) (.base (.lst f5))⟩
    · exact ⟨.inr (.inr (.inl ⟨p4, _, rfl, f6, s05.free n4, by show 1 ≤ 90; decide, fun x hx => .inr ⟨A0.q, List.mem_singleton.mp hx, so⟩⟩)), no (by simp) (.base (.lst f6))⟩
    · exact ⟨.inr (.inr (.inr (.inl ⟨p5, _, rfl, f7, by show 1 ≤ 90; decide, fun x hx => by
        rw [List.mem_singleton.mp hx]
        exact .inr (.inl ⟨_, rfl, rfl, so.mono s0e⟩)⟩))), no (by simp) (.base (.tup f7))⟩
    · exact ⟨.inr (.inr (.inr (.inr ⟨p6, _, rfl, f8, ((s05.trans s6).trans s7).free n6, by simp, by show 1 ≤ 90; decide, by simp, fun p hp => by
        rw [List.mem_singleton.mp hp]
        exact .inr ⟨A0.q, rfl, so⟩⟩))), no (by simp) (.base (.dK f8))⟩
    · exact ⟨.inr (.inr (.inr (.inl ⟨p7, _, rfl, f9, by show 3 ≤ 90; decide, fun x hx => by
        simp only [List.mem_cons, List.not_mem_nil, or_false] at hx
        rcases hx with rfl | rfl | rfl
        · exact .inr (.inl ⟨_, rfl, rfl, kd.mono s0e⟩)
        · exact .inr (.inr (.inr (.inr ⟨r1, _, by decide, rfl, rfl, f10, dkv_nd st.ok, by unfold dkv; rw [List.length_map]; have := st.ok.few; omega, fun p hp => by
            obtain ⟨z, _, rfl⟩ := List.mem_map.mp hp
            exact .inl (.inl ⟨_, rfl, rfl⟩)⟩)))
        · exact .inr (.inr (.inl ⟨r2, r2, _, _, rfl, rfl, f11, f11, by rw [List.length_map]; omega, paired_self fun x hx => by
            obtain ⟨z, _, rfl⟩ := List.mem_map.mp hx
            exact .inl (.inl (.inl ⟨z, rfl, rfl⟩))⟩))⟩))), no (by simp) (.base (.tup f9))⟩
end
end KT
set_option Elab.async false
set_option linter.all false
set_option maxRecDepth 100000
set_option maxHeartbeats 4000000
set_option pp.maxSteps 900
namespace KT
open PySem L2 PyProof.Rows DTp TxS DKq KX
section
variable {P : Program} {w : World} {K : PySem.W.Frag} {mg : Str → Option Value} {base : Heap} {C S G IS ID IC IK RF : Addr}
section
variable {H : Hp} {A : SA} {ws : List Str} {f : Str → Str → Str} {dl : List (Str × Str)} {tw : List Str}
theorem let_is (st : StIn S C H A ws f dl tw) : IsLet H [.ref A.q] (spEnlA K S C IS) := fun H1 Q E s q => .inl ⟨A, ws, f, dl, tw, rfl, st.mono s, fun H' s' => q _ H' s'⟩
theorem let_opn (st : StIn S C H A ws f dl tw) : IsLet H [.ref A.q] (spOpkA K S C IS) := fun H1 Q E s q => .inl ⟨A, ws, f, dl, tw, rfl, st.mono s, fun _ H' s' _ _ => q _ H' s'⟩
theorem let_deeds (st : StIn S C H A ws f dl tw) : IsLet H [.ref A.q] (spCddA K S C IS) := fun H1 Q E s q => .inl ⟨A, ws, f, dl, tw, rfl, st.mono s, fun _ H' s' _ _ => q _ H' s'⟩
theorem let_closed (st : StIn S C H A ws f dl tw) : IsLet H [.ref A.q] (spCloA K S C IS) := fun H1 Q E s q => .inl ⟨A, ws, f, dl, tw, rfl, st.mono s, fun _ H' _ s' => q _ H' s'⟩
theorem let_store {dd : Str} {n : Nat} (st : StIn S C H A ws f dl tw) (m : dd ∈ cntD ws f dl tw) (n64 : n + 2 < 64) : IsLet H [.ref A.q, .str dd, .int (n : Nat)] (spCstA K S C G IS ID IC RF) := fun H1 Q E s q =>
  .inl ⟨A, ws, f, dl, tw, dd, n, rfl, st.mono s, m, n64, fun _ _ _ _ H' _ s' => q _ H' s'⟩
theorem let_opened {x : Str} (st : StIn S C H A ws f dl tw) (m : x ∈ tw) : IsLet H [.ref A.q, .str x] (spOpeA K S C IS IK RF) := fun H1 Q E s q => .inl ⟨A, ws, f, dl, tw, x, rfl, st.mono s, m, fun _ H' _ s' => q _ H' s'⟩
theorem bad_set {way : Str} {n : Nat} {sp : Sp} {v : V} {rest : List V} (wo : WayOf K S C G IS ID IC IK RF way n sp) (l : (v :: rest).length = n) (nc : NotC K H v S) : IsBad H (v :: rest) sp IS v := fun H1 Q E s rz => by
  have nc1 := nc.mono s
  cases wo with
  | is =>
    match rest, l with
    | [], _ => exact .inr ⟨v, rfl, nc1, rz⟩
  | opn =>
    match rest, l with
    | [], _ => exact .inr ⟨v, rfl, nc1, rz⟩
  | deeds =>
    match rest, l with
    | [], _ => exact .inr ⟨v, rfl, nc1, rz⟩
  | closed =>
    match rest, l with
    | [], _ => exact .inr ⟨v, rfl, nc1, rz⟩
  | store =>
    match rest, l with
    | [u, x], _ => exact .inr (.inl ⟨v, u, x, rfl, nc1, rz⟩)
  | opened =>
    match rest, l with
    | [u], _ => exact .inr (.inl ⟨v, u, rfl, nc1, rz⟩)
theorem bad_deed {v u : V} (st : StIn S C H A ws f dl tw) (o : OutOf K H v (keysD dl)) : IsBad H [.ref A.q, v, u] (spCstA K S C G IS ID IC RF) ID v := fun H1 Q E s rz =>
  .inr (.inr (.inl ⟨A, ws, f, dl, tw, v, u, rfl, st.mono s, o.mono s, rz⟩))
theorem bad_cnt {dd : Str} {u : V} (st : StIn S C H A ws f dl tw) (m : dd ∈ keysD dl) (o : NoCnt K H u) : IsBad H [.ref A.q, .str dd, u] (spCstA K S C G IS ID IC RF) IC u := fun H1 Q E s rz =>
  .inr (.inr (.inr (.inl ⟨A, ws, f, dl, tw, dd, u, rfl, st.mono s, m, o.mono s, rz⟩)))
theorem bad_store {dd : Str} {n : Nat} (st : StIn S C H A ws f dl tw) (m : dd ∈ keysD dl) (o : dd ∉ cntD ws f dl tw) : IsBad H [.ref A.q, .str dd, .int (n : Nat)] (spCstA K S C G IS ID IC RF) RF (.str dd) := fun H1 Q E s rz =>
  .inr (.inr (.inr (.inr ⟨A, ws, f, dl, tw, dd, n, rfl, st.mono s, m, o, rz⟩)))
theorem bad_kind {v : V} (st : StIn S C H A ws f dl tw) (o : NoKnd K H v ws) : IsBad H [.ref A.q, v] (spOpeA K S C IS IK RF) IK v := fun H1 Q E s rz =>
  .inr (.inr (.inl ⟨A, ws, f, dl, tw, v, rfl, st.mono s, o.mono s, rz⟩))
theorem bad_opened {x : Str} (st : StIn S C H A ws f dl tw) (m : x ∈ ws) (o : x ∉ tw) : IsBad H [.ref A.q, .str x] (spOpeA K S C IS IK RF) RF (.str x) := fun H1 Q E s rz =>
  .inr (.inr (.inr ⟨A, ws, f, dl, tw, x, rfl, st.mono s, m, o, rz⟩))
end
theorem strs_any {ws : List Str} {d : PyData} (h : ∀ x ∈ ws, PyData.eqv (.str x) d = false) : ((ws.map PyData.str).any fun z => PyData.eqv z d) = false := by
  rw [List.any_eq_false]
  intro z hz
  obtain ⟨x, hx, rfl⟩ := List.mem_map.mp hz
  rw [h x hx]
  exact Bool.false_ne_true
theorem inV_no {ws : List Str} {v : V} (h : ∀ x : Str, eqV (.str x) v = false) : inV v (ws.map V.str) = false := by
  unfold inV
  rw [List.any_eq_false]
  intro z hz
  obtain ⟨x, hx, rfl⟩ := List.mem_map.mp hz
  rw [h x]
  exact Bool.false_ne_true
theorem out_str {H : Hp} {ws : List Str} {x : Str} (h : x ∉ ws) : OutOf K H (.str x) ws := .inl ⟨rfl, by rw [inV_strs, decide_eq_false h]⟩
theorem out_non {H : Hp} {ws : List Str} : OutOf K H .non ws := .inl ⟨rfl, inV_no fun _ => rfl⟩
theorem out_bl {H : Hp} {ws : List Str} {b : Bool} : OutOf K H (.bl b) ws := .inl ⟨rfl, inV_no fun _ => rfl⟩
theorem out_int {H : Hp} {ws : List Str} {i : Int} : OutOf K H (.int i) ws := .inl ⟨rfl, inV_no fun _ => rfl⟩
theorem texts_shapedT {ws : List Str} (h : ∀ x ∈ ws, PyData.strOk x = true) : SeqAt.shaped (.tuple (ws.map PyData.str)) = true := by
  show (PyData.canLay0 (.tuple (ws.map PyData.str)) && decide (PyData.depth (.tuple (ws.map PyData.str)) ≤ 64)) = true
  have h3 := texts_depth ws
  have h4 : PyData.depth (.tuple (ws.map PyData.str)) ≤ 64 := by
    simp only [PyData.depth]
    omega
  rw [Bool.and_eq_true]
  exact ⟨by simp only [PyData.canLay0]; exact texts_lay h, decide_eq_true h4⟩
theorem out_lst {H : Hp} {ws xs : List Str} {a : Addr} (h : H a = some (.lst (xs.map V.str))) (ok : ∀ x ∈ xs, PyData.strOk x = true) : OutOf K H (.ref a) ws :=
  .inr (.inl ⟨_, .lst (SqL.of h) (dp_texts xs), texts_shaped ok, strs_any fun _ _ => rfl⟩)
theorem out_tup {H : Hp} {ws xs : List Str} {a : Addr} (h : H a = some (.tup (xs.map V.str))) (ok : ∀ x ∈ xs, PyData.strOk x = true) : OutOf K H (.ref a) ws :=
  .inr (.inl ⟨_, .tup (SqT.of h) (dp_texts xs), texts_shapedT ok, strs_any fun _ _ => rfl⟩)
theorem out_dct {H : Hp} {ws : List Str} {a : Addr} {kvs : List (Key × V)} (h : H a = some (.dK kvs)) : OutOf K H (.ref a) ws := .inr (.inr ⟨a, kvs, rfl, h⟩)
theorem odd_tupS {H0 H : Hp} {a : Addr} {xs : List V} (h : H a = some (.tup xs)) (l : xs.length ≤ 90) (fl : ∀ x ∈ xs, Flat2 x x) : OddV S C H0 H (.ref a) :=
  .inr (.inr (.inr (.inl ⟨a, xs, rfl, h, l, fun x hx => .inl (.inl (fl x hx))⟩)))
theorem odd_lstF {H0 H : Hp} {a : Addr} {xs : List V} (h : H a = some (.lst xs)) (n : H0 a = none) (l : xs.length ≤ 90) (fl : ∀ x ∈ xs, Flat2 x x) : OddV S C H0 H (.ref a) :=
  .inr (.inr (.inl ⟨a, xs, rfl, h, n, l, fun x hx => .inl (fl x hx)⟩))
theorem odd_dct0 {H0 H : Hp} {a : Addr} (h : H a = some (.dK [])) (n : H0 a = none) : OddV S C H0 H (.ref a) :=
  .inr (.inr (.inr (.inr ⟨a, [], rfl, h, n, by simp, by decide, by simp, fun p hp => nomatch hp⟩)))
theorem fl_str (x : Str) : Flat2 (.str x) (.str x) := .inl ⟨x, rfl, rfl⟩
theorem fl_int (i : Int) : Flat2 (.int i) (.int i) := .inr (.inl ⟨i, rfl, rfl⟩)
theorem fl_bl (b : Bool) : Flat2 (.bl b) (.bl b) := .inr (.inr (.inl ⟨b, rfl, rfl⟩))
theorem fl_non : Flat2 .non .non := .inr (.inr (.inr ⟨rfl, rfl⟩))
theorem wd_ne_nil {x : Str} (h : Wd x) : x ≠ "" := fun e => by
  have := h.1
  rw [e] at this
  exact absurd this (by decide)
theorem wd_ne_A {x : Str} (h : Wd x) : x ≠ "A" := fun e => by
  have := (h.2.2 65 (by rw [e]; decide)).1
  omega
theorem wd_ne_sp {x y : Str} (h : Wd x) : x ≠ y ++ " " := fun e => by
  have := (h.2.2 32 (by
    rw [e]
    show 32 ∈ (y.cps ++ (" " : Str).cps).toList
    rw [Array.toList_append]
    exact List.mem_append_right _ (by decide))).1
  omega
theorem spare_some {ws : List Str} (h : ws.length ≤ 20) : ∃ x r, spareW ws = x :: r := by
  have e1 : octs.length = (spareW ws).length + (octs.filter fun x => !decide (x ∉ ws)).length := by
    unfold spareW
    exact filter_split _ _
  have e2 : (octs.filter fun x => !decide (x ∉ ws)).length ≤ ws.length := List.Nodup.length_le_of_subset (octs_nodup.filter _) fun x hx => by
    have := (List.mem_filter.mp hx).2
    simpa using this
  rw [octs_len] at e1
  cases e : spareW ws with
  | nil =>
    have e3 : (spareW ws).length = 0 := by rw [e]; rfl
    omega
  | cons x r => exact ⟨x, r, rfl⟩
end
end KT
set_option Elab.async false
set_option linter.all false
set_option maxRecDepth 100000
set_option maxHeartbeats 4000000
set_option pp.maxSteps 900
namespace KT
open PySem L2 PyProof.Rows DTp TxS DKq KX
section
variable {P : Program} {w : World} {K : PySem.W.Frag} {mg : Str → Option Value} {base : Heap} {C S G IS ID IC IK RF : Addr}
def spFalls (S C : Addr) : Sp := fun vs H Q _ => ∃ (s td dd tl : Addr) (ws : List Str) (f : Str → Str → Str) (dl : List (Str × Str)) (tw : List Str) (A : SA), vs = [.ref s, .ref A.q] ∧ SetAt H s td dd tl ws f dl tw ∧ StIn S C H A ws f dl tw ∧ ∀ H', L2.Same H H' → Q (.bl true) H'
abbrev nFalls : List Str := ["_law_setting_here", "_law_made_here", "_law_words_here", "_law_kinds", "_law_odd", "_law_way", "_law_rest", "_law_far", "_law_word_here"]
theorem scFalls : FnScope nFalls ["_law_setting_here", "_law_made_here"] (defScope sFalls) := ⟨rfl, rfl, rfl, by decide +kernel, rfl, by decide +kernel, by decide +kernel⟩
structure FalC (P : Program) (w : World) (K : PySem.W.Frag) (mg : Str → Option Value) (base : Heap) (S C G IS ID IC IK RF : Addr) : Prop where
  odd : Cee P w K mg base 2 "_law_odd_settings" ["_law_made_here"] (spOddS K S C)
  vry : Cee P w K mg base 10 "_law_very" ["_law_told_here", "_law_word_here", "_law_thing"] (spVery S C)
  tol : Cee P w K mg base 13 "_law_told" ["_law_way", "_law_things"] (spTel K S C G IS ID IC IK RF)
  spa : Cee P w K mg base 1 "_law_spare_words" ["_law_words_here"] spSpare
  kof : Cee P w K mg base 1 "_law_kinds_of" ["_law_table_here"] spKindsOf
/-- at t: the pair of a way and a list -/
def WayAt (H : Hp) (t : Addr) (way : Str) (rest : List V) : Prop := ∃ l, H t = some (.tup [.str way, .ref l]) ∧ H l = some (.lst rest)
theorem WayAt.mono {H H' : Hp} {t : Addr} {way : Str} {rest : List V} (s : L2.Same H H') (h : WayAt H t way rest) : WayAt H' t way rest := by
  obtain ⟨l, h1, h2⟩ := h
  exact ⟨l, s _ _ h1, s _ _ h2⟩
/-- `not _law_very(_law_told(way, things), word, thing)` -/
theorem rd_vt {σ : L2.St} {H H0 : Hp} {Qb : Bool → Hp → Prop} {tw tl tv : TE} {way kd : Str} {things : List V} {n : Nat} {sp : Sp} {Ce : Addr} {v : V} (hw : ∀ Q : VK, Q (.str way) H → tw σ H Q)
    (hl : ∀ Q : VK, (∀ q H1, L2.Same H H1 → H1 q = some (.lst things) → Q (.ref q) H1) → tl σ H Q) (hv : ∀ (Hx : Hp) (Q : VK), Q v Hx → tv σ Hx Q) (wo : WayOf K S C G IS ID IC IK RF way n sp) (ln : things.length = n) (ko : KindOf IS ID IC IK RF Ce kd)
    (bad : IsBad H things sp Ce v) (s0 : L2.Same H0 H) (od : OddV S C H0 H v) (k : ∀ H', L2.Same H H' → Qb false H') :
    tNot (tB (tCall (spVery S C) [] E0 (tCons (tCall (spTel K S C G IS ID IC IK RF) [] E0 (tCons tw (tCons tl tNil))) (tCons (tC (.str kd)) (tCons tv tNil))))) σ H Qb := by
  refine hw _ (hl _ fun q H1 s1 hq => ⟨way, q, n, things, sp, rfl, hq, wo, ln, .inr ⟨Ce, kd, v, ko, fun H2 Q E s => bad H2 Q E (s1.trans s), fun t H2 s2 _ ht => ?_⟩⟩)
  have s12 := s1.trans s2
  exact hv _ _ ⟨t, kd, v, H0, rfl, ht, s0.trans s12, od.mono s12, fun H3 s3 => ⟨_, rfl, k H3 (s12.trans s3)⟩⟩
abbrev rAddS : R2 := fun x y H Q => ∃ i j, x = V.str i ∧ y = V.str j ∧ i.length + j.length ≤ sizeLine ∧ Q (.str (i ++ j)) H
abbrev tC0 (K : PySem.W.Frag) (cv : Nat) : TE := tOp (rIxL K) (tVar cv) (tC (.int 0))
/-- the list of odd deeds, of odd kinds -/
theorem rd_odd13 {cv : Nat} {a : Addr} {xs : List Str} {c0 far : Str} {σ : L2.St} {H : Hp} {Q : VK} (h2 : σ[cv]? = some (some (.ref a))) (h7 : σ[7]? = some (some (.str far))) (ha : H a = some (.lst (xs.map V.str))) (hx : (xs.map V.str)[0]? = some (.str c0)) (lc : c0.length ≤ 8)
    (k : ∀ L l1 p2 p3 l4 p5 H', L2.Same H H' → H' L = some (.lst [.non, .bl true, .int 0, .str "", .str far, .str "A", .ref l1, .ref p2, .ref p3, .ref l4, .ref p5, .ref a, .str (c0 ++ " ")]) → H' l1 = some (.lst []) → H l1 = none → H' p2 = some (.dK []) → H p2 = none → H' p3 = some (.tup []) →
      H' l4 = some (.lst [.str c0]) → H l4 = none → H' p5 = some (.tup [.str c0]) → Q (.ref L) H') :
    tLst (tCons (tC .non) (tCons (tC (.bl true)) (tCons (tC (.int 0)) (tCons (tC (.str "")) (tCons (tVar 7) (tCons (tC (.str "A")) (tCons (tLst tNil) (tCons tDNewK (tCons (tTup tNil) (tCons (tLst (tCons (tC0 K cv) tNil)) (tCons (tTup (tCons (tC0 K cv) tNil)) (tCons (tVar cv) (tCons (tOp rAddS (tC0 K cv) (tC (.str " "))) tNil))))))))))))) σ H Q := by
  have z0 : 0 ≤ sizeLine := Nat.zero_le _
  have z1 : 1 ≤ sizeLine := by decide
  refine ⟨_, h7, z0, fun l1 n1 p2 n2 => ⟨z0, fun p3 n3 => ?_⟩⟩
  have s1 := Same.new (H := H) (o := .lst []) n1
  have h1 : upd H l1 (.lst []) l1 = _ := upd_same
  generalize upd H l1 (.lst []) = H1 at s1 h1 n2 n3 ⊢
  have s2 := Same.new (H := H1) (o := .dK []) n2
  have g2 : upd H1 p2 (.dK []) p2 = _ := upd_same
  generalize upd H1 p2 (.dK []) = H2 at s2 g2 n3 ⊢
  have s3 := Same.new (H := H2) (o := .tup []) n3
  have g3 : upd H2 p3 (.tup []) p3 = _ := upd_same
  generalize upd H2 p3 (.tup []) = H3 at s3 g3 ⊢
  have s03 := (s1.trans s2).trans s3
  refine ⟨_, h2, a, _, _, _, rfl, rfl, SqL.of (s03 _ _ ha), atI_nat (j := 0) hx, z1, fun l4 n4 => ?_⟩
  have s4 := Same.new (H := H3) (o := .lst [.str c0]) n4
  have g4 : upd H3 l4 (.lst [.str c0]) l4 = _ := upd_same
  generalize upd H3 l4 (.lst [.str c0]) = H4 at s4 g4 ⊢
  have s04 := s03.trans s4
  refine ⟨_, h2, a, _, _, _, rfl, rfl, SqL.of (s04 _ _ ha), atI_nat (j := 0) hx, z1, fun p5 n5 => ?_⟩
  have s5 := Same.new (H := H4) (o := .tup [.str c0]) n5
  have g5 : upd H4 p5 (.tup [.str c0]) p5 = _ := upd_same
  generalize upd H4 p5 (.tup [.str c0]) = H5 at s5 g5 ⊢
  have s05 := s04.trans s5
  refine ⟨_, h2, _, h2, a, _, _, _, rfl, rfl, SqL.of (s05 _ _ ha), atI_nat (j := 0) hx, c0, " ", rfl, rfl, ?_, (by show 13 ≤ sizeLine; decide), fun L nL => ?_⟩
  · have e1 : (" " : Str).length = 1 := rfl
    rw [e1, sizeLine_eq]
    omega
  · have s6 := Same.new (H := H5) (o := .lst [.non, .bl true, .int 0, .str "", .str far, .str "A", .ref l1, .ref p2, .ref p3, .ref l4, .ref p5, .ref a, .str (c0 ++ " ")]) nL
    exact k L l1 p2 p3 l4 p5 _ (s05.trans s6) upd_same (s6 _ _ (s5 _ _ (s4 _ _ (s3 _ _ (s2 _ _ h1))))) n1 (s6 _ _ (s5 _ _ (s4 _ _ (s3 _ _ g2)))) (s1.free n2) (s6 _ _ (s5 _ _ (s4 _ _ g3))) (s6 _ _ (s5 _ _ g4)) (s03.free n4) (s6 _ _ g5)
abbrev tOdd13 (K : PySem.W.Frag) (cv : Nat) : TE := tLst (tCons (tC .non) (tCons (tC (.bl true)) (tCons (tC (.int 0)) (tCons (tC (.str "")) (tCons (tVar 7) (tCons (tC (.str "A")) (tCons (tLst tNil) (tCons tDNewK (tCons (tTup tNil) (tCons (tLst (tCons (tC0 K cv) tNil)) (tCons (tTup (tCons (tC0 K cv) tNil)) (tCons (tVar cv) (tCons (tOp rAddS (tC0 K cv) (tC (.str " "))) tNil)))))))))))))
theorem rd_odd13F {cv : Nat} {a : Addr} {xs : List Str} {c0 far : Str} {σ : L2.St} {H : Hp} {g : TG} {tb : TS} {D : Ends} (h2 : σ[cv]? = some (some (.ref a))) (h7 : σ[7]? = some (some (.str far))) (ha : H a = some (.lst (xs.map V.str))) (hx : (xs.map V.str)[0]? = some (.str c0)) (lc : c0.length ≤ 8)
    (k : ∀ L l1 p2 p3 l4 p5 H', L2.Same H H' → H' L = some (.lst [.non, .bl true, .int 0, .str "", .str far, .str "A", .ref l1, .ref p2, .ref p3, .ref l4, .ref p5, .ref a, .str (c0 ++ " ")]) → H' l1 = some (.lst []) → H l1 = none → H' p2 = some (.dK []) → H p2 = none → H' p3 = some (.tup []) →
      H' l4 = some (.lst [.str c0]) → H l4 = none → H' p5 = some (.tup [.str c0]) → tFor (fun _ H R => R (Itl K L) H) g tb D σ H') :
    tFor (iList K (tOdd13 K cv)) g tb D σ H := by
  unfold tFor iList
  refine rd_odd13 (K := K) h2 h7 ha hx lc ?_
  intro L l1 p2 p3 l4 p5 H' s hL a1 a2 a3 a4 a5 a6 a7 a8
  have z := k L l1 p2 p3 l4 p5 H' s hL a1 a2 a3 a4 a5 a6 a7 a8
  unfold tFor at z
  exact ⟨L, rfl, ⟨_, SqL.of hL⟩, z⟩
end
end KT
set_option Elab.async false
set_option linter.all false
set_option maxRecDepth 100000
set_option maxHeartbeats 4000000
set_option pp.maxSteps 900
namespace KT
open PySem L2 PyProof.Rows DTp TxS DKq KX
section
variable {P : Program} {w : World} {K : PySem.W.Frag} {mg : Str → Option Value} {base : Heap} {C S G IS ID IC IK RF : Addr}
set_option maxHeartbeats 400000 in
theorem ok_falls {g : Addr} {fd : FuncData} (F : Fun K "_law_falls" "_law_falls" sFalls g fd) (B0 : Blt mg) (Z : Blp mg) (M : FalC P w K mg base S C G IS ID IC IK RF) : FnOk P w K mg base CX0 14 g fd ["_law_setting_here", "_law_made_here"] (spFalls S C) := by
  refine F.ok scFalls (fun vs H Q E h => ?_) (fun cdv A outer s H vs Q E hr h => ?_)
  · obtain ⟨s, td, dd, tl, ws, f, dl, tw, A, rfl, _⟩ := h
    rfl
  · obtain ⟨s0, td, da, tl, ws, f, dl, tw, A0, rfl, se, st, k⟩ := h
    have nd := scFalls.nd
    refine ⟨_, pss_cons (ps_par (i := 2) (j := 3) rfl nd rfl rfl (by decide) rfl rfl (pa_cons (pe_callB (call_sortedD rfl) (by rfl) Z.sorted (by decide +kernel) (pa_cons (pe_ix ix_list (pv 0) pe_int (fun _ _ => rfl)) pa_nil)) (pa_cons (pe_c M.kof hr rfl (pa_cons (pe_ix ix_list (pv 0) pe_int (fun _ _ => rfl)) pa_nil)) pa_nil)) (by rfl))
      (pss_cons (ps_for PassesOwn.never rfl (pi_list (pe_c M.odd hr rfl (pa_cons (pv 1) pa_nil))) (pg_name (i := 4) nd rfl (Or.inl rfl)) (pss_one (ps_for PassesOwn.never rfl (pi_tup (pe_tup (pa_cons (pe_tup (pa_cons pe_str (pa_cons (pe_lst pa_nil) pa_nil))) (pa_cons (pe_tup (pa_cons pe_str (pa_cons (pe_lst pa_nil) pa_nil))) (pa_cons (pe_tup (pa_cons pe_str (pa_cons (pe_lst pa_nil) pa_nil))) (pa_cons (pe_tup (pa_cons pe_str (pa_cons (pe_lst pa_nil) pa_nil))) (pa_cons (pe_tup (pa_cons pe_str (pa_cons (pe_lst (pa_cons (pe_ix ix_list (pv 2) pe_int (fun _ _ => rfl)) (pa_cons pe_int pa_nil))) pa_nil))) (pa_cons (pe_tup (pa_cons pe_str (pa_cons (pe_lst (pa_cons (pe_ix ix_list (pv 3) pe_int (fun _ _ => rfl)) pa_nil)) pa_nil))) pa_nil)))))))) (pg_tup rfl (pgs_cons (pg_name (i := 5) nd rfl (Or.inl rfl)) (pgs_cons (pg_name (i := 6) nd rfl (Or.inl rfl)) pgs_nil))) (pss_cons (ps_if (pt_not (pt_val (pe_c M.vry hr rfl (pa_cons (pe_c M.tol hr rfl (pa_cons (pv 5) (pa_cons (pe_op op_cat (pe_lst (pa_cons (pv 4) pa_nil)) (pv 6)) pa_nil))) (pa_cons pe_str (pa_cons (pv 4) pa_nil)))))) (pss_one ps_never) pss_nil) (pss_one (ps_if (pt_not (pt_val (pe_c M.vry hr rfl (pa_cons (pe_c M.tol hr rfl (pa_cons (pv 5) (pa_cons (pe_op op_cat (pe_lst (pa_cons (pv 4) pa_nil)) (pe_op SmR.op_mulLI (pe_lst (pa_cons pe_non pa_nil)) (pe_callB call_len_seq (by rfl) B0.len PySem.boot_len (pa_cons (pv 6) pa_nil)))) pa_nil))) (pa_cons pe_str (pa_cons (pv 4) pa_nil)))))) (pss_one ps_never) pss_nil))))))
      (pss_cons (ps_set (i := 7) nd rfl (Or.inl rfl) (pe_ix ix_list (pe_c M.spa hr rfl (pa_cons (pe_op op_cat (pv 2) (pv 3)) pa_nil)) pe_int (fun _ _ => rfl)))
      (pss_cons (ps_for PassesOwn.never rfl (pi_list (pe_lst (pa_cons pe_non (pa_cons pe_bl (pa_cons pe_int (pa_cons pe_str (pa_cons (pv 7) (pa_cons pe_str (pa_cons (pe_lst pa_nil) (pa_cons pe_dnewK (pa_cons (pe_tup pa_nil) (pa_cons (pe_lst (pa_cons (pe_ix ix_list (pv 2) pe_int (fun _ _ => rfl)) pa_nil)) (pa_cons (pe_tup (pa_cons (pe_ix ix_list (pv 2) pe_int (fun _ _ => rfl)) pa_nil)) (pa_cons (pv 2) (pa_cons (pe_op op_add_str (pe_ix ix_list (pv 2) pe_int (fun _ _ => rfl)) pe_str) pa_nil))))))))))))))) (pg_name (i := 4) nd rfl (Or.inl rfl)) (pss_one (ps_if (pt_cut <| PW.pt (pw_or (pt_not (pt_val (pe_c M.vry hr rfl (pa_cons (pe_c M.tol hr rfl (pa_cons pe_str (pa_cons (pe_lst (pa_cons (pv 1) (pa_cons (pv 4) (pa_cons pe_int pa_nil)))) pa_nil))) (pa_cons pe_str (pa_cons (pv 4) pa_nil)))))) (pw_or1 (pt_not (pt_val (pe_c M.vry hr rfl (pa_cons (pe_c M.tol hr rfl (pa_cons pe_str (pa_cons (pe_lst (pa_cons (pv 1) (pa_cons (pv 4) (pa_cons pe_non pa_nil)))) pa_nil))) (pa_cons pe_str (pa_cons (pv 4) pa_nil))))))))) (pss_one ps_never) pss_nil)))
      (pss_cons (ps_for PassesOwn.never rfl (pi_list (pe_lst (pa_cons pe_non (pa_cons pe_bl (pa_cons pe_int (pa_cons pe_str (pa_cons (pv 7) (pa_cons pe_str (pa_cons (pe_lst pa_nil) (pa_cons pe_dnewK (pa_cons (pe_tup pa_nil) (pa_cons (pe_lst (pa_cons (pe_ix ix_list (pv 3) pe_int (fun _ _ => rfl)) pa_nil)) (pa_cons (pe_tup (pa_cons (pe_ix ix_list (pv 3) pe_int (fun _ _ => rfl)) pa_nil)) (pa_cons (pv 3) (pa_cons (pe_op op_add_str (pe_ix ix_list (pv 3) pe_int (fun _ _ => rfl)) pe_str) pa_nil))))))))))))))) (pg_name (i := 4) nd rfl (Or.inl rfl)) (pss_one (ps_if (pt_not (pt_val (pe_c M.vry hr rfl (pa_cons (pe_c M.tol hr rfl (pa_cons pe_str (pa_cons (pe_lst (pa_cons (pv 1) (pa_cons (pv 4) pa_nil))) pa_nil))) (pa_cons pe_str (pa_cons (pv 4) pa_nil)))))) (pss_one ps_never) pss_nil)))
      (pss_cons (ps_for PassesOwn.never rfl (pi_list (pv 2)) (pg_name (i := 8) nd rfl (Or.inl rfl)) (pss_one (ps_for PassesOwn.never rfl (pi_list (pe_lst (pa_cons pe_non (pa_cons pe_bl (pa_cons pe_bl (pa_cons (pe_un un_neg pe_int) (pa_cons pe_str (pa_cons pe_str (pa_cons (pe_lst (pa_cons pe_int pa_nil)) (pa_cons (pe_tup (pa_cons pe_int pa_nil)) (pa_cons pe_dnewK (pa_cons (pe_lst pa_nil) pa_nil)))))))))))) (pg_name (i := 4) nd rfl (Or.inl rfl)) (pss_one (ps_if (pt_not (pt_val (pe_c M.vry hr rfl (pa_cons (pe_c M.tol hr rfl (pa_cons pe_str (pa_cons (pe_lst (pa_cons (pv 1) (pa_cons (pv 8) (pa_cons (pv 4) pa_nil)))) pa_nil))) (pa_cons pe_str (pa_cons (pv 4) pa_nil)))))) (pss_one ps_never) pss_nil)))))
      (pss_one (ps_ret pe_bl))))))), ?_⟩
    have z1 : 1 ≤ sizeLine := by decide
    have z2 : 2 ≤ sizeLine := by decide
    have z3 : 3 ≤ sizeLine := by decide
    have ldl : (keysD dl).length ≤ 8 := by rw [keysD_len]; exact st.ok.few
    refine ⟨_, rfl, s0, _, _, _, rfl, rfl, SqL.of se.hs, atI_nat (j := 1) rfl, da, dkv dl, keysD dl, rfl, .inl se.hd, dkv_keys dl, by omega, fun ys wl perm _ hwl0 => ?_⟩
    have s1 := Same.new (H := H) (o := .lst (ys.map V.str)) hwl0
    have hwl : upd H wl (.lst (ys.map V.str)) wl = _ := upd_same
    generalize upd H wl (.lst (ys.map V.str)) = H1 at s1 hwl ⊢
    refine ⟨_, rfl, s0, _, _, _, rfl, rfl, SqL.of (s1 _ _ se.hs), atI_nat (j := 0) rfl, td, ws, f, rfl, s1 _ _ se.ht, se.kw, fun kl H2 s2 hkl0 hkl => ?_⟩
    refine ⟨_, _, rfl, ?_⟩
    have s02 := s1.trans s2
    have hwl2 := s2 _ _ hwl
    have hkl0' : H kl = none := s1.free hkl0
    -- a deed, a kind
    obtain ⟨y0, yr, eys⟩ : ∃ y0 yr, ys = y0 :: yr := by
      cases e : ys with
      | cons a b => exact ⟨a, b, rfl⟩
      | nil =>
        have lp := perm.length_eq
        rw [e] at lp
        obtain ⟨x, hx⟩ := List.exists_mem_of_length_pos st.kin.kw.pos
        obtain ⟨p, hp, _⟩ := st.ok.all x hx
        have h0 : (keysD dl).length = 0 := lp.symm
        rw [keysD_len] at h0
        have := List.length_pos_of_mem hp
        omega
    obtain ⟨x0, xr, ews⟩ : ∃ x0 xr, ws = x0 :: xr := by
      cases e : ws with
      | cons a b => exact ⟨a, b, rfl⟩
      | nil =>
        have := st.kin.kw.pos
        rw [e] at this
        exact absurd this (by decide)
    have ymem : ∀ y ∈ ys, y ∈ keysD dl := fun y hy => perm.mem_iff.mp hy
    have ywd : ∀ y ∈ ys, Wd y := fun y hy => st.ok.wd y (ymem y hy)
    have ylen : ys.length ≤ 8 := by rw [perm.length_eq]; exact ldl
    have y0m : y0 ∈ ys := by rw [eys]; exact List.mem_cons_self
    have x0m : x0 ∈ ws := by rw [ews]; exact List.mem_cons_self
    have wAt : (ys.map V.str)[0]? = some (.str y0) := by rw [eys]; rfl
    have kAt : (ws.map V.str)[0]? = some (.str x0) := by rw [ews]; rfl
    have len4 := st.kin.kw.few
    -- the odd settings
    refine ⟨_, rfl, A0, ws, f, dl, tw, rfl, st.mono s02, fun ol things H3 s3 hol0 hol l15 good => ⟨ol, rfl, ⟨_, SqL.of hol⟩, ?_⟩⟩
    refine for_list (K := K) (a := ol) (xs := things) (fun i σ H' => ∃ x4 x5 x6 : Option V, σ = [some (.ref s0), some (.ref A0.q), some (.ref wl), some (.ref kl), x4, x5, x6, none, none] ∧ L2.Same H3 H') ?_ ?_ ?_ ?_
    · exact ⟨_, _, _, rfl, fun _ _ e => e⟩
    · rintro i σ H' _ ⟨x4, x5, x6, rfl, s4⟩
      exact SqL.of (s4 _ _ hol)
    · rintro i v σ H4 hv ⟨x4, x5, x6, rfl, s4⟩
      refine at_name (σ' := [some (.ref s0), some (.ref A0.q), some (.ref wl), some (.ref kl), some v, x5, x6, none, none]) rfl ?_
      obtain ⟨od, nc⟩ := good v (List.mem_of_getElem? hv)
      have s24 := s3.trans s4
      have od4 := od.mono s4
      have nc4 := nc.mono s4
      have hwl4 := s24 _ _ hwl2
      have hkl4 := s24 _ _ hkl
      refine ⟨Nat.zero_le _, fun l1 n1 => ⟨z2, fun t1 m1 => ?_⟩⟩
      have r1 : L2.Same H4 (upd (upd H4 l1 (.lst [])) t1 (.tup [.str "is", .ref l1])) := (Same.new n1).trans (Same.new m1)
      have w1 : WayAt (upd (upd H4 l1 (.lst [])) t1 (.tup [.str "is", .ref l1])) t1 "is" [] := ⟨l1, upd_same, Same.new m1 _ _ upd_same⟩
      generalize (upd (upd H4 l1 (.lst [])) t1 (.tup [.str "is", .ref l1])) = G1 at r1 w1 ⊢
      refine ⟨Nat.zero_le _, fun l2 n2 => ⟨z2, fun t2 m2 => ?_⟩⟩
      have r2 : L2.Same G1 (upd (upd G1 l2 (.lst [])) t2 (.tup [.str "open", .ref l2])) := (Same.new n2).trans (Same.new m2)
      have w2 : WayAt (upd (upd G1 l2 (.lst [])) t2 (.tup [.str "open", .ref l2])) t2 "open" [] := ⟨l2, upd_same, Same.new m2 _ _ upd_same⟩
      generalize (upd (upd G1 l2 (.lst [])) t2 (.tup [.str "open", .ref l2])) = G2 at r2 w2 ⊢
      refine ⟨Nat.zero_le _, fun l3 n3 => ⟨z2, fun t3 m3 => ?_⟩⟩
      have r3 : L2.Same G2 (upd (upd G2 l3 (.lst [])) t3 (.tup [.str "deeds", .ref l3])) := (Same.new n3).trans (Same.new m3)
      have w3 : WayAt (upd (upd G2 l3 (.lst [])) t3 (.tup [.str "deeds", .ref l3])) t3 "deeds" [] := ⟨l3, upd_same, Same.new m3 _ _ upd_same⟩
      generalize (upd (upd G2 l3 (.lst [])) t3 (.tup [.str "deeds", .ref l3])) = G3 at r3 w3 ⊢
      refine ⟨Nat.zero_le _, fun l4 n4 => ⟨z2, fun t4 m4 => ?_⟩⟩
      have r4 : L2.Same G3 (upd (upd G3 l4 (.lst [])) t4 (.tup [.str "closed", .ref l4])) := (Same.new n4).trans (Same.new m4)
      have w4 : WayAt (upd (upd G3 l4 (.lst [])) t4 (.tup [.str "closed", .ref l4])) t4 "closed" [] := ⟨l4, upd_same, Same.new m4 _ _ upd_same⟩
      generalize (upd (upd G3 l4 (.lst [])) t4 (.tup [.str "closed", .ref l4])) = G4 at r4 w4 ⊢
      have r04 := ((r1.trans r2).trans r3).trans r4
      refine ⟨_, rfl, wl, _, _, _, rfl, rfl, SqL.of (r04 _ _ hwl4), atI_nat (j := 0) wAt, z2, fun l5 n5 => ⟨z2, fun t5 m5 => ?_⟩⟩
      have r5 : L2.Same G4 (upd (upd G4 l5 (.lst [.str y0, .int 1])) t5 (.tup [.str "store", .ref l5])) := (Same.new n5).trans (Same.new m5)
      have w5 : WayAt (upd (upd G4 l5 (.lst [.str y0, .int 1])) t5 (.tup [.str "store", .ref l5])) t5 "store" [.str y0, .int 1] := ⟨l5, upd_same, Same.new m5 _ _ upd_same⟩
      generalize (upd (upd G4 l5 (.lst [.str y0, .int 1])) t5 (.tup [.str "store", .ref l5])) = G5 at r5 w5 ⊢
      have r05 := r04.trans r5
      refine ⟨_, rfl, kl, _, _, _, rfl, rfl, SqL.of (r05 _ _ hkl4), atI_nat (j := 0) kAt, z1, fun l6 n6 => ⟨z2, fun t6 m6 => ?_⟩⟩
      have r6 : L2.Same G5 (upd (upd G5 l6 (.lst [.str x0])) t6 (.tup [.str "opened", .ref l6])) := (Same.new n6).trans (Same.new m6)
      have w6 : WayAt (upd (upd G5 l6 (.lst [.str x0])) t6 (.tup [.str "opened", .ref l6])) t6 "opened" [.str x0] := ⟨l6, upd_same, Same.new m6 _ _ upd_same⟩
      generalize (upd (upd G5 l6 (.lst [.str x0])) t6 (.tup [.str "opened", .ref l6])) = G6 at r6 w6 ⊢
      refine ⟨(by show 6 ≤ sizeLine; decide), fun tt ntt => ⟨tt, rfl, ⟨_, SqT.of upd_same⟩, ?_⟩⟩
      have r7 := Same.new (H := G6) (o := .tup [.ref t1, .ref t2, .ref t3, .ref t4, .ref t5, .ref t6]) ntt
      have htt : upd G6 tt (.tup [.ref t1, .ref t2, .ref t3, .ref t4, .ref t5, .ref t6]) tt = _ := upd_same
      generalize upd G6 tt (.tup [.ref t1, .ref t2, .ref t3, .ref t4, .ref t5, .ref t6]) = G7 at r7 htt ⊢
      have r07 := (r05.trans r6).trans r7
      have all : ∀ x ∈ [V.ref t1, .ref t2, .ref t3, .ref t4, .ref t5, .ref t6], ∃ (t : Addr) (way : Str) (rest : List V) (n : Nat) (sp : Sp), x = .ref t ∧ WayAt G7 t way rest ∧ WayOf K S C G IS ID IC IK RF way n sp ∧ rest.length + 1 = n := by
        intro x hx
        simp only [List.mem_cons, List.not_mem_nil, or_false] at hx
        rcases hx with rfl | rfl | rfl | rfl | rfl | rfl
        · exact ⟨t1, _, _, _, _, rfl, w1.mono (((((r2.trans r3).trans r4).trans r5).trans r6).trans r7), .is, rfl⟩
        · exact ⟨t2, _, _, _, _, rfl, w2.mono ((((r3.trans r4).trans r5).trans r6).trans r7), .opn, rfl⟩
        · exact ⟨t3, _, _, _, _, rfl, w3.mono (((r4.trans r5).trans r6).trans r7), .deeds, rfl⟩
        · exact ⟨t4, _, _, _, _, rfl, w4.mono ((r5.trans r6).trans r7), .closed, rfl⟩
        · exact ⟨t5, _, _, _, _, rfl, w5.mono (r6.trans r7), .store, rfl⟩
        · exact ⟨t6, _, _, _, _, rfl, w6.mono r7, .opened, rfl⟩
      refine for_it (walk_tup (K := K) (a := tt) (xs := [.ref t1, .ref t2, .ref t3, .ref t4, .ref t5, .ref t6])) (fun j σ H' => ∃ x5 x6 : Option V, σ = [some (.ref s0), some (.ref A0.q), some (.ref wl), some (.ref kl), some v, x5, x6, none, none] ∧ L2.Same G7 H') ?_ ?_ ?_ ?_
      · exact ⟨_, _, rfl, fun _ _ e => e⟩
      · rintro j σ H' _ ⟨x5, x6, rfl, r8⟩
        exact SqT.of (r8 _ _ htt)
      · rintro j x σ G8 H' hj ⟨x5, x6, rfl, r8⟩ ⟨rfl, hx⟩
        obtain ⟨t, way, rest, n, sp, rfl, wa, wo, ln⟩ := all x (List.mem_of_getElem? hx)
        obtain ⟨l, ht, hl⟩ := wa.mono r8
        have r08 := r07.trans r8
        have od8 := od4.mono r08
        have nc8 := nc4.mono r08
        refine ⟨t, _, rfl, SqT.of ht, rfl, _, _, rfl, at_name (σ' := [some (.ref s0), some (.ref A0.q), some (.ref wl), some (.ref kl), some v, some (.str way), x6, none, none]) rfl ⟨_, _, rfl, at_name (σ' := [some (.ref s0), some (.ref A0.q), some (.ref wl), some (.ref kl), some v, some (.str way), some (.ref l), none, none]) rfl ⟨rfl, ?_⟩⟩⟩
        have len3 : rest.length ≤ 10 := by cases wo <;> omega
        dsimp only [tSeq, tIfS, tNext]
        refine rd_vt (way := way) (things := v :: rest) (v := v) ?_ ?_ ?_ wo (by rw [List.length_cons]; exact ln) .set (bad_set wo (by rw [List.length_cons]; exact ln) nc8) (s24.trans r08) od8 ?_
        · exact fun Q q => ⟨_, rfl, q⟩
        · exact fun Q q => ⟨_, rfl, z1, fun p hp => ⟨_, rfl, p, l, [v], rest, rfl, rfl, upd_same, Same.new hp _ _ hl, by rw [sizeLine_eq]; show 1 + rest.length ≤ _; omega, fun r hr => q r _ ((Same.new hp).trans (Same.new hr)) upd_same⟩⟩
        · exact fun Hx Q q => ⟨_, rfl, q⟩
        intro G9 r9
        refine iteF ?_
        have od9 := od8.mono r9
        have nc9 := nc8.mono r9
        have hl9 := r9 _ _ hl
        have r09 := r08.trans r9
        refine rd_vt (way := way) (things := v :: List.replicate rest.length .non) (v := v) ?_ ?_ ?_ wo (by rw [List.length_cons, List.length_replicate]; exact ln) .set (bad_set wo (by rw [List.length_cons, List.length_replicate]; exact ln) nc9) (s24.trans r09) od9 ?_
        · exact fun Q q => ⟨_, rfl, q⟩
        · intro Q q
          refine ⟨_, rfl, z1, fun p hp => ⟨z1, fun p2 hp2 => ?_⟩⟩
          have e := ((Same.new (o := .lst [v]) hp).trans (Same.new (o := .lst [.non]) hp2))
          refine ⟨_, rfl, l, rest, rfl, .inl (SqL.of (e _ _ hl9)), p2, [.non], _, rfl, rfl, SqL.of upd_same, by omega, by omega, by show 1 * _ ≤ 256; omega, fun p3 hp3 => ?_⟩
          have e3 := Same.new (o := .lst (List.replicate ((rest.length : Nat) : Int).toNat [V.non]).flatten) hp3
          refine ⟨p, p3, [v], _, rfl, rfl, e3 _ _ (Same.new hp2 _ _ upd_same), upd_same, ?_, fun r hr => ?_⟩
          · rw [Int.toNat_natCast, List.flatten_replicate_singleton, List.length_replicate, sizeLine_eq]
            show 1 + rest.length ≤ _
            omega
          · rw [Int.toNat_natCast, List.flatten_replicate_singleton] at *
            exact q r _ (e.trans (e3.trans (Same.new hr))) upd_same
        · exact fun Hx Q q => ⟨_, rfl, q⟩
        intro G10 r10
        exact iteF ⟨_, _, rfl, r8.trans (r9.trans r10)⟩
      · rintro σ H' ⟨x5, x6, rfl, r8⟩
        exact ⟨_, _, _, rfl, s4.trans (r07.trans r8)⟩
    rintro σ H4 ⟨x4, x5, x6, rfl, s4⟩
    have s24 := s3.trans s4
    have s04 := s02.trans s24
    have hwl4 := s24 _ _ hwl2
    have hkl4 := s24 _ _ hkl
    refine ⟨_, rfl, _, rfl, wl, kl, _, _, rfl, rfl, hwl4, hkl4, by rw [List.length_map, List.length_map, sizeLine_eq]; omega, fun wk hwk0 => ?_⟩
    have s5 := Same.new (H := H4) (o := .lst (ys.map V.str ++ ws.map V.str)) hwk0
    have hwk : upd H4 wk (.lst (ys.map V.str ++ ws.map V.str)) wk = some (.lst ((ys ++ ws).map V.str)) := by rw [List.map_append]; exact upd_same
    generalize upd H4 wk (.lst (ys.map V.str ++ ws.map V.str)) = H5 at s5 hwk ⊢
    obtain ⟨far, sr, esp⟩ := spare_some (ws := ys ++ ws) (by rw [List.length_append]; omega)
    have fm : far ∈ spareW (ys ++ ws) := by rw [esp]; exact List.mem_cons_self
    obtain ⟨fwd, fno⟩ := spare_mem fm
    refine ⟨wk, ys ++ ws, rfl, hwk, fun sq H6 s6 hsq0 hsq => ?_⟩
    refine ⟨sq, _, _, .str far, rfl, rfl, SqL.of hsq, atI_nat (j := 0) (by rw [esp]; rfl), ?_⟩
    refine at_name (σ' := [some (.ref s0), some (.ref A0.q), some (.ref wl), some (.ref kl), x4, x5, x6, some (.str far), none]) rfl ?_
    have s46 := s5.trans s6
    have s06 := s04.trans s46
    have hwl6 := s46 _ _ hwl4
    have hkl6 := s46 _ _ hkl4
    have st6 := st.mono s06
    dsimp only [tSeq]
    refine rd_odd13F (K := K) (cv := 2) (a := wl) (xs := ys) (c0 := y0) (far := far) rfl rfl hwl6 wAt (ywd y0 y0m).2.1 fun LA l1 p2 p3 l4 p5 H7 s7 hL g1 n1 g2 n2 g3 g4 n4 g5 => ?_
    have s0n := s06.trans s7
    have hc := s7 _ _ hwl6
    have good : ∀ v ∈ [V.non, .bl true, .int 0, .str "", .str far, .str "A", .ref l1, .ref p2, .ref p3, .ref l4, .ref p5, .ref wl, .str (y0 ++ " ")], OddV S C H H7 v ∧ OutOf K H7 v (keysD dl) := by
      intro v hv
      simp only [List.mem_cons, List.not_mem_nil, or_false] at hv
      rcases hv with rfl | rfl | rfl | rfl | rfl | rfl | rfl | rfl | rfl | rfl | rfl | rfl | rfl
      · exact ⟨.inl fl_non, out_non⟩
      · exact ⟨.inl (fl_bl _), out_bl⟩
      · exact ⟨.inl (fl_int _), out_int⟩
      · exact ⟨.inl (fl_str _), out_str fun m => wd_ne_nil (st.ok.wd _ m) rfl⟩
      · exact ⟨.inl (fl_str _), out_str fun m => fno (List.mem_append_left _ (perm.mem_iff.mpr m))⟩
      · exact ⟨.inl (fl_str _), out_str fun m => wd_ne_A (st.ok.wd _ m) rfl⟩
      · exact ⟨odd_strs (xs := []) g1 (s06.free n1) (by decide), out_lst (xs := []) g1 (fun x hx => nomatch hx)⟩
      · exact ⟨odd_dct0 g2 (s06.free n2), out_dct g2⟩
      · exact ⟨odd_tupS g3 (by decide) (fun x hx => nomatch hx), out_tup (xs := []) g3 (fun x hx => nomatch hx)⟩
      · exact ⟨odd_lstF g4 (s06.free n4) (by show 1 ≤ 90; decide) (fun x hx => by rw [List.mem_singleton.mp hx]; exact fl_str _), out_lst (xs := [y0]) g4 (fun x hx => by rw [List.mem_singleton.mp hx]; exact wd_strOk (ywd y0 y0m))⟩
      · exact ⟨odd_tupS g5 (by show 1 ≤ 90; decide) (fun x hx => by rw [List.mem_singleton.mp hx]; exact fl_str _), out_tup (xs := [y0]) g5 (fun x hx => by rw [List.mem_singleton.mp hx]; exact wd_strOk (ywd y0 y0m))⟩
      · exact ⟨odd_strs hc hwl0 (by omega), out_lst hc (fun x hx => wd_strOk (ywd x hx))⟩
      · exact ⟨.inl (fl_str _), out_str fun m => wd_ne_sp (st.ok.wd _ m) rfl⟩
    clear g1 n1 g2 n2 g3 g4 n4 g5 hc
    refine for_list (K := K) (a := LA) (xs := [V.non, .bl true, .int 0, .str "", .str far, .str "A", .ref l1, .ref p2, .ref p3, .ref l4, .ref p5, .ref wl, .str (y0 ++ " ")]) (fun i σ H' => ∃ y4 : Option V, σ = [some (.ref s0), some (.ref A0.q), some (.ref wl), some (.ref kl), y4, x5, x6, some (.str far), none] ∧ L2.Same H7 H') ⟨_, rfl, fun _ _ e => e⟩ ?_ ?_ ?_
    · rintro i σ H' _ ⟨y4, rfl, s8⟩
      exact SqL.of (s8 _ _ hL)
    · rintro i v σ H8 hv ⟨y4, rfl, s8⟩
      refine at_name (σ' := [some (.ref s0), some (.ref A0.q), some (.ref wl), some (.ref kl), some v, x5, x6, some (.str far), none]) rfl ?_
      obtain ⟨od, oc⟩ := good v (List.mem_of_getElem? hv)
      have od8 := od.mono s8
      have oc8 := oc.mono s8
      have s08 := s0n.trans s8
      have st8 := st.mono s08
      dsimp only [tSeq, tIfS, tNext]
      refine ⟨fun b H' => b = false ∧ L2.Same H8 H', ?_, ?_⟩
      · refine rd_vt (way := "store") (things := [.ref A0.q, v, .int 1]) (v := v) ?_ ?_ ?_ .store rfl .deed (bad_deed st8 oc8) s08 od8 ?_
        · exact fun Q q => q
        · exact fun Q q => ⟨_, rfl, _, rfl, z3, fun p hp => q p _ (Same.new hp) upd_same⟩
        · exact fun Hx Q q => ⟨_, rfl, q⟩
        intro G9 r9
        refine iteF ?_
        refine rd_vt (way := "store") (things := [.ref A0.q, v, .non]) (v := v) ?_ ?_ ?_ .store rfl .deed (bad_deed (st8.mono r9) (oc8.mono r9)) (s08.trans r9) (od8.mono r9) ?_
        · exact fun Q q => q
        · exact fun Q q => ⟨_, rfl, _, rfl, z3, fun p hp => q p _ (Same.new hp) upd_same⟩
        · exact fun Hx Q q => ⟨_, rfl, q⟩
        intro G10 r10
        exact ⟨rfl, r9.trans r10⟩
      · rintro b H' ⟨rfl, s9⟩
        exact iteF ⟨_, rfl, s8.trans s9⟩
    clear good hL
    rintro σ H7' ⟨y4, rfl, s8⟩
    have s16 := s06.trans (s7.trans s8)
    have hkl7 := (s7.trans s8) _ _ hkl6
    have hwl7 := (s7.trans s8) _ _ hwl6
    clear s0n
    dsimp only [tSeq]
    refine rd_odd13F (K := K) (cv := 3) (a := kl) (xs := ws) (c0 := x0) (far := far) rfl rfl hkl7 kAt (st.kin.kw.wd x0 x0m).2.1 fun LB l1 p2 p3 l4 p5 H9 s9 hL g1 n1 g2 n2 g3 g4 n4 g5 => ?_
    have s0n := s16.trans s9
    have hc := s9 _ _ hkl7
    have good : ∀ v ∈ [V.non, .bl true, .int 0, .str "", .str far, .str "A", .ref l1, .ref p2, .ref p3, .ref l4, .ref p5, .ref kl, .str (x0 ++ " ")], OddV S C H H9 v ∧ NoKnd K H9 v ws := by
      intro v hv
      simp only [List.mem_cons, List.not_mem_nil, or_false] at hv
      rcases hv with rfl | rfl | rfl | rfl | rfl | rfl | rfl | rfl | rfl | rfl | rfl | rfl | rfl
      · exact ⟨.inl fl_non, .inl ⟨_, .base .non, kit_ty (by decide +kernel)⟩⟩
      · exact ⟨.inl (fl_bl _), .inl ⟨_, .base (.bl _), kit_ty (by decide +kernel)⟩⟩
      · exact ⟨.inl (fl_int _), .inl ⟨_, .base (.int _), kit_ty (by decide +kernel)⟩⟩
      · exact ⟨.inl (fl_str _), .inr ⟨_, rfl, fun m => wd_ne_nil (st.kin.kw.wd _ m) rfl⟩⟩
      · exact ⟨.inl (fl_str _), .inr ⟨_, rfl, fun m => fno (List.mem_append_right _ m)⟩⟩
      · exact ⟨.inl (fl_str _), .inr ⟨_, rfl, fun m => wd_ne_A (st.kin.kw.wd _ m) rfl⟩⟩
      · exact ⟨odd_strs (xs := []) g1 (s16.free n1) (by decide), .inl ⟨_, .base (.lst g1), kit_ty (by decide +kernel)⟩⟩
      · exact ⟨odd_dct0 g2 (s16.free n2), .inl ⟨_, .base (.dK g2), kit_ty (by decide +kernel)⟩⟩
      · exact ⟨odd_tupS g3 (by decide) (fun x hx => nomatch hx), .inl ⟨_, .base (.tup g3), kit_ty (by decide +kernel)⟩⟩
      · exact ⟨odd_lstF g4 (s16.free n4) (by show 1 ≤ 90; decide) (fun x hx => by rw [List.mem_singleton.mp hx]; exact fl_str _), .inl ⟨_, .base (.lst g4), kit_ty (by decide +kernel)⟩⟩
      · exact ⟨odd_tupS g5 (by show 1 ≤ 90; decide) (fun x hx => by rw [List.mem_singleton.mp hx]; exact fl_str _), .inl ⟨_, .base (.tup g5), kit_ty (by decide +kernel)⟩⟩
      · exact ⟨odd_strs hc hkl0' (by omega), .inl ⟨_, .base (.lst hc), kit_ty (by decide +kernel)⟩⟩
      · exact ⟨.inl (fl_str _), .inr ⟨_, rfl, fun m => wd_ne_sp (st.kin.kw.wd _ m) rfl⟩⟩
    clear g1 n1 g2 n2 g3 g4 n4 g5 hc
    refine for_list (K := K) (a := LB) (xs := [V.non, .bl true, .int 0, .str "", .str far, .str "A", .ref l1, .ref p2, .ref p3, .ref l4, .ref p5, .ref kl, .str (x0 ++ " ")]) (fun i σ H' => ∃ y4 : Option V, σ = [some (.ref s0), some (.ref A0.q), some (.ref wl), some (.ref kl), y4, x5, x6, some (.str far), none] ∧ L2.Same H9 H') ⟨_, rfl, fun _ _ e => e⟩ ?_ ?_ ?_
    · rintro i σ H' _ ⟨y4, rfl, s8⟩
      exact SqL.of (s8 _ _ hL)
    · rintro i v σ H8 hv ⟨y4, rfl, s8⟩
      refine at_name (σ' := [some (.ref s0), some (.ref A0.q), some (.ref wl), some (.ref kl), some v, x5, x6, some (.str far), none]) rfl ?_
      obtain ⟨od, oc⟩ := good v (List.mem_of_getElem? hv)
      have od8 := od.mono s8
      have oc8 := oc.mono s8
      have s08 := s0n.trans s8
      have st8 := st.mono s08
      dsimp only [tSeq, tIfS, tNext]
      refine rd_vt (way := "opened") (things := [.ref A0.q, v]) (v := v) ?_ ?_ ?_ .opened rfl .knd (bad_kind st8 oc8) s08 od8 ?_
      · exact fun Q q => q
      · exact fun Q q => ⟨_, rfl, _, rfl, z2, fun p hp => q p _ (Same.new hp) upd_same⟩
      · exact fun Hx Q q => ⟨_, rfl, q⟩
      intro G9 r9
      exact iteF ⟨_, rfl, s8.trans r9⟩
    clear good hL
    rintro σ H9' ⟨y4, rfl, s8⟩
    have s26 := s16.trans (s9.trans s8)
    have hwl9 := (s9.trans s8) _ _ hwl7
    clear s0n
    -- the numbers
    refine ⟨_, rfl, wl, rfl, ⟨_, SqL.of hwl9⟩, ?_⟩
    refine for_list (K := K) (a := wl) (xs := ys.map V.str) (fun i σ H' => ∃ y4 y8 : Option V, σ = [some (.ref s0), some (.ref A0.q), some (.ref wl), some (.ref kl), y4, x5, x6, some (.str far), y8] ∧ L2.Same H9' H') ⟨_, _, rfl, fun _ _ e => e⟩ ?_ ?_ ?_
    · rintro i σ H' _ ⟨y4, y8, rfl, q1⟩
      exact SqL.of (q1 _ _ hwl9)
    · rintro i x σ H10 hx ⟨y4, y8, rfl, q1⟩
      obtain ⟨y, ey, rfl⟩ := str_get hx
      have ym : y ∈ ys := List.mem_of_getElem? ey
      refine at_name (σ' := [some (.ref s0), some (.ref A0.q), some (.ref wl), some (.ref kl), y4, x5, x6, some (.str far), some (.str y)]) rfl ?_
      have q01 := s26.trans q1
      refine ⟨1, rfl, z1, fun l1 n1 => ⟨z1, fun p2 n2 p3 n3 => ⟨Nat.zero_le _, fun l4 n4 => ⟨(by show 10 ≤ sizeLine; decide), fun L nL => ?_⟩⟩⟩⟩
      have a1 := Same.new (H := H10) (o := .lst [.int 1]) n1
      have g1 : upd H10 l1 (.lst [.int 1]) l1 = _ := upd_same
      generalize upd H10 l1 (.lst [.int 1]) = J1 at a1 g1 n2 n3 n4 nL ⊢
      have a2 := Same.new (H := J1) (o := .tup [.int 1]) n2
      have g2 : upd J1 p2 (.tup [.int 1]) p2 = _ := upd_same
      generalize upd J1 p2 (.tup [.int 1]) = J2 at a2 g2 n3 n4 nL ⊢
      have a3 := Same.new (H := J2) (o := .dK []) n3
      have g3 : upd J2 p3 (.dK []) p3 = _ := upd_same
      generalize upd J2 p3 (.dK []) = J3 at a3 g3 n4 nL ⊢
      have a4 := Same.new (H := J3) (o := .lst []) n4
      have g4 : upd J3 l4 (.lst []) l4 = _ := upd_same
      generalize upd J3 l4 (.lst []) = J4 at a4 g4 nL ⊢
      have a5 := Same.new (H := J4) (o := .lst [.non, .bl true, .bl false, .int (-1), .str "1", .str "", .ref l1, .ref p2, .ref p3, .ref l4]) nL
      have hL : upd J4 L (.lst [.non, .bl true, .bl false, .int (-1), .str "1", .str "", .ref l1, .ref p2, .ref p3, .ref l4]) L = _ := upd_same
      generalize upd J4 L (.lst [.non, .bl true, .bl false, .int (-1), .str "1", .str "", .ref l1, .ref p2, .ref p3, .ref l4]) = J5 at a5 hL ⊢
      have a05 := (((a1.trans a2).trans a3).trans a4).trans a5
      have f1 := a5 _ _ (a4 _ _ (a3 _ _ (a2 _ _ g1)))
      have f2 := a5 _ _ (a4 _ _ (a3 _ _ g2))
      have f3 := a5 _ _ (a4 _ _ g3)
      have f4 := a5 _ _ g4
      have good : ∀ v ∈ [V.non, .bl true, .bl false, .int (-1), .str "1", .str "", .ref l1, .ref p2, .ref p3, .ref l4], OddV S C H J5 v ∧ NoCnt K J5 v := by
        intro v hv
        simp only [List.mem_cons, List.not_mem_nil, or_false] at hv
        rcases hv with rfl | rfl | rfl | rfl | rfl | rfl | rfl | rfl | rfl | rfl
        · exact ⟨.inl fl_non, .inl ⟨_, .base .non, kit_ty (by decide +kernel)⟩⟩
        · exact ⟨.inl (fl_bl _), .inr (.inl ⟨_, rfl⟩)⟩
        · exact ⟨.inl (fl_bl _), .inr (.inl ⟨_, rfl⟩)⟩
        · exact ⟨.inl (fl_int _), .inr (.inr ⟨_, rfl, by decide⟩)⟩
        · exact ⟨.inl (fl_str _), .inl ⟨_, .base (.str _), kit_ty (by decide +kernel)⟩⟩
        · exact ⟨.inl (fl_str _), .inl ⟨_, .base (.str _), kit_ty (by decide +kernel)⟩⟩
        · exact ⟨odd_lstF f1 (q01.free n1) (by show 1 ≤ 90; decide) (fun x hx => by rw [List.mem_singleton.mp hx]; exact fl_int _), .inl ⟨_, .base (.lst f1), kit_ty (by decide +kernel)⟩⟩
        · exact ⟨odd_tupS f2 (by show 1 ≤ 90; decide) (fun x hx => by rw [List.mem_singleton.mp hx]; exact fl_int _), .inl ⟨_, .base (.tup f2), kit_ty (by decide +kernel)⟩⟩
        · exact ⟨odd_dct0 f3 (q01.free ((a1.trans a2).free n3)), .inl ⟨_, .base (.dK f3), kit_ty (by decide +kernel)⟩⟩
        · exact ⟨odd_strs (xs := []) f4 (q01.free (((a1.trans a2).trans a3).free n4)) (by decide), .inl ⟨_, .base (.lst f4), kit_ty (by decide +kernel)⟩⟩
      refine ⟨L, rfl, ⟨_, SqL.of hL⟩, ?_⟩
      refine for_list (K := K) (a := L) (xs := [V.non, .bl true, .bl false, .int (-1), .str "1", .str "", .ref l1, .ref p2, .ref p3, .ref l4]) (fun j σ H' => ∃ y4 : Option V, σ = [some (.ref s0), some (.ref A0.q), some (.ref wl), some (.ref kl), y4, x5, x6, some (.str far), some (.str y)] ∧ L2.Same J5 H') ⟨_, rfl, fun _ _ e => e⟩ ?_ ?_ ?_
      · rintro j σ H' _ ⟨y4, rfl, q2⟩
        exact SqL.of (q2 _ _ hL)
      · rintro j v σ J6 hv ⟨y4, rfl, q2⟩
        refine at_name (σ' := [some (.ref s0), some (.ref A0.q), some (.ref wl), some (.ref kl), some v, x5, x6, some (.str far), some (.str y)]) rfl ?_
        obtain ⟨od, oc⟩ := good v (List.mem_of_getElem? hv)
        have q02 := (q01.trans a05).trans q2
        dsimp only [tSeq, tIfS, tNext]
        refine rd_vt (way := "store") (things := [.ref A0.q, .str y, v]) (v := v) ?_ ?_ ?_ .store rfl .cnt (bad_cnt (st.mono q02) (ymem y ym) (oc.mono q2)) q02 (od.mono q2) ?_
        · exact fun Q q => q
        · exact fun Q q => ⟨_, rfl, _, rfl, _, rfl, z3, fun p hp => q p _ (Same.new hp) upd_same⟩
        · exact fun Hx Q q => ⟨_, rfl, q⟩
        intro G9 r9
        exact iteF ⟨_, rfl, q2.trans r9⟩
      · rintro σ J6 ⟨y4, rfl, q2⟩
        exact ⟨_, _, rfl, q1.trans (a05.trans q2)⟩
    · rintro σ J6 ⟨y4, y8, rfl, q1⟩
      exact k _ (s26.trans q1)
end
end KT
set_option Elab.async false
set_option linter.all false
set_option maxRecDepth 100000
set_option maxHeartbeats 4000000
set_option pp.maxSteps 900
namespace KT
open PySem L2 PyProof.Rows DTp TxS DKq KX
section
variable {P : Program} {w : World} {K : PySem.W.Frag} {mg : Str → Option Value} {base : Heap} {C S G IS ID IC IK RF : Addr}
def spRef (S C : Addr) : Sp := fun vs H Q _ => ∃ (s td dd tl : Addr) (ws : List Str) (f : Str → Str → Str) (dl : List (Str × Str)) (tw : List Str) (A : SA), vs = [.ref s, .ref A.q] ∧ SetAt H s td dd tl ws f dl tw ∧ StIn S C H A ws f dl tw ∧ dd ∉ A.all ∧ ∀ H', L2.Same H H' → Q (.bl true) H'
abbrev nRef : List Str := ["_law_setting_here", "_law_made_here", "_law_kind", "_law_kinds", "_law_deed", "_law_due", "_law_many"]
theorem scRef : FnScope nRef ["_law_setting_here", "_law_made_here"] (defScope sRef) := ⟨rfl, rfl, rfl, by decide +kernel, rfl, by decide +kernel, by decide +kernel⟩
structure RefC (P : Program) (w : World) (K : PySem.W.Frag) (mg : Str → Option Value) (base : Heap) (S C G IS ID IC IK RF : Addr) : Prop where
  tol : Cee P w K mg base 13 "_law_told" ["_law_way", "_law_things"] (spTel K S C G IS ID IC IK RF)
  exa : Cee P w K mg base 7 "_law_exact" ["_law_mine", "_law_theirs"] (spExact 6)
  sqr : Cee P w K mg base 2 "_law_squares" ["_law_table_here"] spSquares
  kof : Cee P w K mg base 1 "_law_kinds_of" ["_law_table_here"] spKindsOf
theorem ok_ref {g : Addr} {fd : FuncData} (F : Fun K "_law_refused_right" "_law_refused_right" sRef g fd) (B0 : Blt mg) (Z : Blp mg) (M : RefC P w K mg base S C G IS ID IC IK RF) : FnOk P w K mg base CX0 14 g fd ["_law_setting_here", "_law_made_here"] (spRef S C) := by
  refine F.ok scRef (fun vs H Q E h => ?_) (fun cdv A outer s H vs Q E hr h => ?_)
  · obtain ⟨s, td, dd, tl, ws, f, dl, tw, A, rfl, _⟩ := h
    rfl
  · obtain ⟨s0, td, da, tl, ws, f, dl, tw, A0, rfl, se, st, na, k⟩ := h
    have nd := scRef.nd
    refine ⟨_, pss_cons (ps_setLc (i := 3) (own := [("_law_kind", 2)]) (g := gName 2) (tt := tTest (tOp (rIn K true) (tVar 2) (tOp (rIxL K) (tVar 0) (tC (.int 2))))) (te := tVar 2) rfl nd rfl rfl (sw_true rfl rfl rfl (by decide +kernel)) (pi_list (pe_c M.sqr hr rfl (pa_cons (pe_ix ix_list (pv 0) pe_int (fun _ _ => rfl)) pa_nil)))
        (blkOk_by (own := [("_law_kind", 2)]) (N := nRef) (sc := defScope sRef) (by decide +kernel)) (fun _ _ _ _ _ => pg_name (i := 2) nd rfl (Or.inl rfl)) (fun _ _ _ _ _ => pts_one (pt_cmpR op_notIn_seq (pv 2) (pe_ix ix_list (pv 0) pe_int (fun _ _ => rfl)) (by rfl))) (fun _ _ _ _ _ => pv 2))
      (pss_cons (ps_lock (ps_for PassesOwn.never rfl (pi_keys (pe_ix ix_list (pv 0) pe_int (fun _ _ => rfl))) (pg_name (i := 4) nd rfl (Or.inr rfl)) (pss_cons (ps_set (i := 5) nd rfl (Or.inl rfl) (pe_ifExp (pt_cmpR op_in_seq (pe_dget (hu_of hr) (pe_ix ix_list (pv 0) pe_int (fun _ _ => rfl)) (pv 4) (fun _ _ => rfl)) (pv 3) (by rfl)) (pe_tup (pa_cons pe_str (pa_cons pe_non (pa_cons pe_bl (pa_cons pe_bl pa_nil))))) (pe_tup (pa_cons pe_str (pa_cons (pv 4) (pa_cons pe_bl (pa_cons pe_bl pa_nil))))))) (pss_one (ps_if (pt_not (pt_val (pe_c M.exa hr rfl (pa_cons (pe_lc (own := [("_law_many", 6)]) (g := gName 6) (tt := tYes) (te := tCall (spTel K S C G IS ID IC IK RF) [] E0 (tCons (tC (.str "store")) (tCons (tLst (tCons (tVar 1) (tCons (tVar 4) (tCons (tVar 6) tNil)))) tNil))) rfl nd (pi_tup (pe_tup (pa_cons pe_int (pa_cons pe_int (pa_cons pe_int pa_nil)))))
        (blkOk_by (own := [("_law_many", 6)]) (N := nRef) (sc := defScope sRef) (by decide +kernel)) (fun _ _ _ _ _ => pg_name (i := 6) nd rfl (Or.inl rfl)) (fun _ _ _ _ _ => pts_nil) (fun _ _ _ _ _ => pe_c M.tol hr rfl (pa_cons pe_str (pa_cons (pe_lst (pa_cons (pv 1) (pa_cons (pv 4) (pa_cons (pv 6) pa_nil)))) pa_nil)))) (pa_cons (pe_op SmR.op_mulLI (pe_lst (pa_cons (pv 5) pa_nil)) pe_int) pa_nil))))) (pss_one ps_never) pss_nil)))))
      (pss_cons (ps_for PassesOwn.never rfl (pi_list (pe_c M.kof hr rfl (pa_cons (pe_ix ix_list (pv 0) pe_int (fun _ _ => rfl)) pa_nil))) (pg_name (i := 2) nd rfl (Or.inl rfl)) (pss_cons (ps_set (i := 5) nd rfl (Or.inl rfl) (pe_ifExp (pt_cmpR op_in_seq (pv 2) (pe_ix ix_list (pv 0) pe_int (fun _ _ => rfl)) (by rfl)) (pe_tup (pa_cons pe_str (pa_cons pe_non (pa_cons pe_bl (pa_cons pe_bl pa_nil))))) (pe_tup (pa_cons pe_str (pa_cons (pv 2) (pa_cons pe_bl (pa_cons pe_bl pa_nil))))))) (pss_one (ps_if (pt_not (pt_val (pe_c M.exa hr rfl (pa_cons (pe_c M.tol hr rfl (pa_cons pe_str (pa_cons (pe_lst (pa_cons (pv 1) (pa_cons (pv 2) pa_nil))) pa_nil))) (pa_cons (pv 5) pa_nil))))) (pss_one ps_never) pss_nil))))
      (pss_one (ps_ret pe_bl)))), ?_⟩
    have z1 : 1 ≤ sizeLine := by decide
    have z2 : 2 ≤ sizeLine := by decide
    have z3 : 3 ≤ sizeLine := by decide
    have kw := st.kin.kw
    have lsq : (sqs ws f).length ≤ 1000 := Nat.le_trans (List.length_filter_le _ _) (by have := kw.few; omega)
    dsimp only [tSeq, tAsg]
    refine lcF_list (K := K) (xs := sqs ws f) (fun x => decide (x ∉ tw)) lsq ?_ ?_ ?_
    · intro R hR
      exact ⟨_, rfl, s0, _, _, _, rfl, rfl, SqL.of se.hs, atI_nat (j := 0) rfl, td, ws, f, rfl, se.ht, se.kw, fun q H2 s2 hq0 hq => hR q H2 s2 hq⟩
    · intro x H2 Y N hx s2 hY hN
      refine at_name (σ' := [some (.ref s0), some (.ref A0.q), some (.str x), none, none, none, none]) rfl ⟨rfl, ?_⟩
      refine ⟨_, rfl, _, rfl, s0, _, _, _, rfl, rfl, SqL.of (s2 _ _ se.hs), atI_nat (j := 2) rfl, tl, _, rfl, .inl (SqL.of (s2 _ _ se.hl)), rfl, flat_strs _, _, rfl, ?_⟩
      rw [inV_strs]
      by_cases e : x ∈ tw
      · rw [decide_eq_true e]
        exact hN (decide_eq_false fun h => h e) _ (fun _ _ e => e)
      · rw [decide_eq_false e]
        exact ⟨_, rfl, hY (decide_eq_true e) _ (fun _ _ e => e)⟩
    intro kq H1 s1 hkq0 hkq
    have hkq : H1 kq = some (.lst ((opK ws f tw).map V.str)) := hkq
    refine at_name (σ' := [some (.ref s0), some (.ref A0.q), none, some (.ref kq), none, none, none]) rfl ?_
    have se1 := se.mono s1
    have st1 := st.mono s1
    refine ⟨da, .dK (dkv dl), se1.hd, trivial, fun od => ?_⟩
    have hG : upd H1 da (.frz od (.dK (dkv dl))) da = _ := upd_same
    have oG : ∀ b o, b ≠ da → H1 b = some o → upd H1 da (.frz od (.dK (dkv dl))) b = some o := fun b o n e => (upd_ne n).trans e
    have backG : ∀ H', L2.Same (upd H1 da (.frz od (.dK (dkv dl)))) H' → L2.Same H1 (upd H' da (.dK (dkv dl))) := fun H' s b o e => by
      by_cases hb : b = da
      · rw [hb] at e ⊢
        rw [se1.hd] at e
        rw [upd_same, ← e]
      · rw [upd_ne hb]
        exact s _ _ (oG b o hb e)
    have stG : StIn S C (upd H1 da (.frz od (.dK (dkv dl)))) A0 ws f dl tw := st1.but (fun b o n e => oG b o n e) na
    generalize upd H1 da (.frz od (.dK (dkv dl))) = G at hG oG backG stG ⊢
    have hsG := oG s0 _ (ne_of se1.hs se1.hd (by intro z; cases z)) se1.hs
    have hkG := oG kq _ (ne_of hkq se1.hd (by intro z; cases z)) hkq
    refine ⟨_, rfl, s0, _, _, _, rfl, rfl, SqL.of hsG, atI_nat (j := 1) rfl, da, od, rfl, .inl ⟨_, hG, ?_⟩⟩
    refine for_it walk_keys (fun i σ H' => ∃ x4 x5 : Option V, σ = [some (.ref s0), some (.ref A0.q), none, some (.ref kq), x4, x5, none] ∧ L2.Same G H') ?_ ?_ ?_ ?_
    · exact ⟨_, _, rfl, fun _ _ e => e⟩
    · rintro i σ H' _ ⟨x4, x5, rfl, s5⟩
      exact s5 _ _ hG
    · rintro i v σ G0 G1 hi ⟨x4, x5, rfl, s5⟩ ⟨rfl, key, vv, hkk, rfl⟩
      obtain ⟨pr, hpr, epr⟩ := List.mem_map.mp (List.mem_of_getElem? hkk)
      obtain ⟨x, y⟩ := pr
      obtain rfl : (Sum.inr x : Key) = key := congrArg Prod.fst epr
      have mx : x ∈ keysD dl := List.mem_map.mpr ⟨_, hpr, rfl⟩
      refine at_name (σ' := [some (.ref s0), some (.ref A0.q), none, some (.ref kq), some (.str x), x5, none]) rfl ?_
      have st5 := stG.mono s5
      have dg : DGet G1 da (.str x) (valV (dkv dl) (Sum.inr x)) := .inl ⟨_, Sum.inr x, .inr ⟨od, s5 _ _ hG⟩, rfl, rfl⟩
      rw [valV_dkv st.ok.nd mx] at dg
      refine ⟨_, rfl, s0, _, _, _, rfl, rfl, SqL.of (s5 _ _ hsG), atI_nat (j := 1) rfl, _, rfl, da, _, rfl, dg, _, rfl, kq, _, rfl, .inl (SqL.of (s5 _ _ hkG)), rfl, flat_strs _, _, rfl, ?_⟩
      rw [if_neg Bool.false_ne_true, inV_strs]
      by_cases mk : kof dl x ∈ opK ws f tw
      · rw [decide_eq_true mk]
        refine iteT ?_
        have mc : x ∈ cntD ws f dl tw := List.mem_filter.mpr ⟨mx, decide_eq_true mk⟩
        refine ⟨(by show 4 ≤ sizeLine; decide), fun t5 h50 => ?_⟩
        have s6 := Same.new (H := G1) (o := .tup [V.str "let", .non, .bl false, .bl true]) h50
        have h5 : upd G1 t5 (.tup [V.str "let", .non, .bl false, .bl true]) t5 = _ := upd_same
        generalize upd G1 t5 (.tup [V.str "let", .non, .bl false, .bl true]) = G2 at s6 h5 ⊢
        have st6 := st5.mono s6
        refine at_name (σ' := [some (.ref s0), some (.ref A0.q), none, some (.ref kq), some (.str x), some (.ref t5), none]) rfl ?_
        refine ⟨z3, fun tt htt => ⟨tt, rfl, ⟨_, SqT.of upd_same⟩, fun D hD => ?_⟩⟩
        have s7 := Same.new (H := G2) (o := .tup [.int 0, .int 3, .int 61]) htt
        have h7 : upd G2 tt (.tup [.int 0, .int 3, .int 61]) tt = _ := upd_same
        generalize upd G2 tt (.tup [.int 0, .int 3, .int 61]) = G3 at s7 h7 hD ⊢
        have st7 := st6.mono s7
        refine lc_it (walk_tup (K := K) (a := tt) (xs := [.int 0, .int 3, .int 61])) (fun i H' => L2.Same G3 H' ∧ ∃ rs : List Addr, rs.length = i ∧ H' D = some (.lst (rs.map V.ref)) ∧ ∀ r ∈ rs, H' r = some (.tup [V.str "let", .non, .bl false, .bl true])) ?_ ?_ ?_ ?_
        · exact ⟨Same.new hD, [], rfl, upd_same, fun r hr => nomatch hr⟩
        · rintro i H' _ ⟨s8, _⟩
          exact SqT.of (s8 _ _ h7)
        · rintro i v H0' G4 hi ⟨s8, rs, lr, hD4, hrs⟩ ⟨rfl, hv⟩
          obtain ⟨n, rfl, n64⟩ : ∃ n : Nat, v = .int (n : Nat) ∧ n + 2 < 64 := by
            have m := List.mem_of_getElem? hv
            simp only [List.mem_cons, List.not_mem_nil, or_false] at m
            rcases m with rfl | rfl | rfl
            · exact ⟨0, rfl, by decide⟩
            · exact ⟨3, rfl, by decide⟩
            · exact ⟨61, rfl, by decide⟩
          refine at_name (σ' := [some (.ref s0), some (.ref A0.q), none, some (.ref kq), some (.str x), some (.ref t5), some (.int (n : Nat))]) rfl ⟨rfl, yes_if ?_⟩
          refine ⟨_, rfl, _, rfl, _, rfl, z3, fun p hp => ?_⟩
          have s9 := Same.new (H := G4) (o := .lst [.ref A0.q, .str x, .int (n : Nat)]) hp
          have h9 : upd G4 p (.lst [.ref A0.q, .str x, .int (n : Nat)]) p = _ := upd_same
          generalize upd G4 p (.lst [.ref A0.q, .str x, .int (n : Nat)]) = G5 at s9 h9 ⊢
          have st9 := (st7.mono s8).mono s9
          refine ⟨"store", p, 3, [.ref A0.q, .str x, .int (n : Nat)], _, rfl, h9, .store, rfl, .inl ⟨let_store st9 mc n64, fun t G6 s10 _ ht => ?_⟩⟩
          have s8t := s8.trans (s9.trans s10)
          have hD5 := s10 _ _ (s9 _ _ hD4)
          refine ⟨_, hD5, by rw [List.length_map]; exact small1000 (by simp at hi; omega), fun b o e => ?_, rs ++ [t], by rw [List.length_append, lr]; rfl, ?_, fun r hr => ?_⟩
          · rw [upd_ne (ne_of_none e hD)]
            exact s8t _ _ e
          · rw [List.map_append]
            exact upd_same
          · have e : G6 r = some (.tup [V.str "let", .non, .bl false, .bl true]) := by
              rcases List.mem_append.mp hr with m | m
              · exact s10 _ _ (s9 _ _ (hrs r m))
              · rw [List.mem_singleton.mp m]
                exact ht
            rw [upd_ne (ne_of e hD5 (by intro z; cases z))]
            exact e
        · rintro G4 ⟨s8, rs, lr, hD4, hrs⟩
          refine ⟨_, rfl, z1, fun p hp => ⟨p, [.ref t5], 3, rfl, rfl, SqL.of upd_same, by decide, by decide, by show 1 * 3 ≤ 256; decide, fun p3 hp3 => ?_⟩⟩
          have s9 := (Same.new (o := .lst [.ref t5]) hp).trans (Same.new (o := .lst (List.replicate (Int.toNat 3) [V.ref t5]).flatten) hp3)
          have h9 : upd (upd G4 p (.lst [.ref t5])) p3 (.lst (List.replicate (Int.toNat 3) [V.ref t5]).flatten) p3 = some (.lst [.ref t5, .ref t5, .ref t5]) := upd_same
          generalize upd (upd G4 p (.lst [.ref t5])) p3 (.lst (List.replicate (Int.toNat 3) [V.ref t5]).flatten) = G5 at s9 h9 ⊢
          have h55 := s9 _ _ (s8 _ _ (s7 _ _ h5))
          have one : ∀ r ∈ rs, Alike 5 G5 (.ref r) (.ref t5) := fun r hr => .inr (.inr (.inl ⟨r, t5, _, _, rfl, rfl, s9 _ _ (hrs r hr), h55, by show 4 ≤ 100; decide, paired_self fun z hz => by
            simp only [List.mem_cons, List.not_mem_nil, or_false] at hz
            rcases hz with rfl | rfl | rfl | rfl
            · exact .inl (fl_str _)
            · exact .inl fl_non
            · exact .inl (fl_bl _)
            · exact .inl (fl_bl _)⟩))
          have al : Alike 6 G5 (.ref D) (.ref p3) := by
            match rs, lr with
            | [r1, r2, r3], _ => exact .inr (.inl ⟨D, p3, _, _, rfl, rfl, s9 _ _ hD4, h9, by show 3 ≤ 100; decide, .cons (one r1 (by simp)) (.cons (one r2 (by simp)) (.cons (one r3 (by simp)) .nil))⟩)
          exact ⟨.ref D, .ref p3, rfl, al, fun G6 s10 => ⟨_, rfl, iteF ⟨_, _, rfl, s5.trans (s6.trans (s7.trans (s8.trans (s9.trans s10))))⟩⟩⟩
      · rw [decide_eq_false mk]
        refine iteF ?_
        have mc : x ∉ cntD ws f dl tw := fun m => mk (of_decide_eq_true (List.mem_filter.mp m).2)
        refine ⟨_, rfl, ?_⟩
        refine ⟨(by show 4 ≤ sizeLine; decide), fun t5 h50 => ?_⟩
        have s6 := Same.new (H := G1) (o := .tup [V.str "refused", .str x, .bl false, .bl true]) h50
        have h5 : upd G1 t5 (.tup [V.str "refused", .str x, .bl false, .bl true]) t5 = _ := upd_same
        generalize upd G1 t5 (.tup [V.str "refused", .str x, .bl false, .bl true]) = G2 at s6 h5 ⊢
        have st6 := st5.mono s6
        refine at_name (σ' := [some (.ref s0), some (.ref A0.q), none, some (.ref kq), some (.str x), some (.ref t5), none]) rfl ?_
        refine ⟨z3, fun tt htt => ⟨tt, rfl, ⟨_, SqT.of upd_same⟩, fun D hD => ?_⟩⟩
        have s7 := Same.new (H := G2) (o := .tup [.int 0, .int 3, .int 61]) htt
        have h7 : upd G2 tt (.tup [.int 0, .int 3, .int 61]) tt = _ := upd_same
        generalize upd G2 tt (.tup [.int 0, .int 3, .int 61]) = G3 at s7 h7 hD ⊢
        have st7 := st6.mono s7
        refine lc_it (walk_tup (K := K) (a := tt) (xs := [.int 0, .int 3, .int 61])) (fun i H' => L2.Same G3 H' ∧ ∃ rs : List Addr, rs.length = i ∧ H' D = some (.lst (rs.map V.ref)) ∧ ∀ r ∈ rs, H' r = some (.tup [V.str "refused", .str x, .bl false, .bl true])) ?_ ?_ ?_ ?_
        · exact ⟨Same.new hD, [], rfl, upd_same, fun r hr => nomatch hr⟩
        · rintro i H' _ ⟨s8, _⟩
          exact SqT.of (s8 _ _ h7)
        · rintro i v H0' G4 hi ⟨s8, rs, lr, hD4, hrs⟩ ⟨rfl, hv⟩
          obtain ⟨n, rfl, n64⟩ : ∃ n : Nat, v = .int (n : Nat) ∧ n + 2 < 64 := by
            have m := List.mem_of_getElem? hv
            simp only [List.mem_cons, List.not_mem_nil, or_false] at m
            rcases m with rfl | rfl | rfl
            · exact ⟨0, rfl, by decide⟩
            · exact ⟨3, rfl, by decide⟩
            · exact ⟨61, rfl, by decide⟩
          refine at_name (σ' := [some (.ref s0), some (.ref A0.q), none, some (.ref kq), some (.str x), some (.ref t5), some (.int (n : Nat))]) rfl ⟨rfl, yes_if ?_⟩
          refine ⟨_, rfl, _, rfl, _, rfl, z3, fun p hp => ?_⟩
          have s9 := Same.new (H := G4) (o := .lst [.ref A0.q, .str x, .int (n : Nat)]) hp
          have h9 : upd G4 p (.lst [.ref A0.q, .str x, .int (n : Nat)]) p = _ := upd_same
          generalize upd G4 p (.lst [.ref A0.q, .str x, .int (n : Nat)]) = G5 at s9 h9 ⊢
          have st9 := (st7.mono s8).mono s9
          refine ⟨"store", p, 3, [.ref A0.q, .str x, .int (n : Nat)], _, rfl, h9, .store, rfl, .inr ⟨RF, "refused", .str x, .ref, bad_store st9 mx mc, fun t G6 s10 _ ht => ?_⟩⟩
          have s8t := s8.trans (s9.trans s10)
          have hD5 := s10 _ _ (s9 _ _ hD4)
          refine ⟨_, hD5, by rw [List.length_map]; exact small1000 (by simp at hi; omega), fun b o e => ?_, rs ++ [t], by rw [List.length_append, lr]; rfl, ?_, fun r hr => ?_⟩
          · rw [upd_ne (ne_of_none e hD)]
            exact s8t _ _ e
          · rw [List.map_append]
            exact upd_same
          · have e : G6 r = some (.tup [V.str "refused", .str x, .bl false, .bl true]) := by
              rcases List.mem_append.mp hr with m | m
              · exact s10 _ _ (s9 _ _ (hrs r m))
              · rw [List.mem_singleton.mp m]
                exact ht
            rw [upd_ne (ne_of e hD5 (by intro z; cases z))]
            exact e
        · rintro G4 ⟨s8, rs, lr, hD4, hrs⟩
          refine ⟨_, rfl, z1, fun p hp => ⟨p, [.ref t5], 3, rfl, rfl, SqL.of upd_same, by decide, by decide, by show 1 * 3 ≤ 256; decide, fun p3 hp3 => ?_⟩⟩
          have s9 := (Same.new (o := .lst [.ref t5]) hp).trans (Same.new (o := .lst (List.replicate (Int.toNat 3) [V.ref t5]).flatten) hp3)
          have h9 : upd (upd G4 p (.lst [.ref t5])) p3 (.lst (List.replicate (Int.toNat 3) [V.ref t5]).flatten) p3 = some (.lst [.ref t5, .ref t5, .ref t5]) := upd_same
          generalize upd (upd G4 p (.lst [.ref t5])) p3 (.lst (List.replicate (Int.toNat 3) [V.ref t5]).flatten) = G5 at s9 h9 ⊢
          have h55 := s9 _ _ (s8 _ _ (s7 _ _ h5))
          have one : ∀ r ∈ rs, Alike 5 G5 (.ref r) (.ref t5) := fun r hr => .inr (.inr (.inl ⟨r, t5, _, _, rfl, rfl, s9 _ _ (hrs r hr), h55, by show 4 ≤ 100; decide, paired_self fun z hz => by
            simp only [List.mem_cons, List.not_mem_nil, or_false] at hz
            rcases hz with rfl | rfl | rfl | rfl
            · exact .inl (fl_str _)
            · exact .inl (fl_str _)
            · exact .inl (fl_bl _)
            · exact .inl (fl_bl _)⟩))
          have al : Alike 6 G5 (.ref D) (.ref p3) := by
            match rs, lr with
            | [r1, r2, r3], _ => exact .inr (.inl ⟨D, p3, _, _, rfl, rfl, s9 _ _ hD4, h9, by show 3 ≤ 100; decide, .cons (one r1 (by simp)) (.cons (one r2 (by simp)) (.cons (one r3 (by simp)) .nil))⟩)
          exact ⟨.ref D, .ref p3, rfl, al, fun G6 s10 => ⟨_, rfl, iteF ⟨_, _, rfl, s5.trans (s6.trans (s7.trans (s8.trans (s9.trans s10))))⟩⟩⟩
    rintro σ H2 ⟨x4, x5, rfl, s5⟩
    refine ⟨s5 _ _ hG, ?_⟩
    have s12 := backG H2 s5
    generalize upd H2 da (.dK (dkv dl)) = H3 at s12 ⊢
    have s03 := s1.trans s12
    have se3 := se.mono s03
    clear backG stG oG hG
    refine ⟨_, rfl, s0, _, _, _, rfl, rfl, SqL.of se3.hs, atI_nat (j := 0) rfl, td, ws, f, rfl, se3.ht, se3.kw, fun q H4 s4 hq0 hq => ⟨q, rfl, ⟨_, SqL.of hq⟩, ?_⟩⟩
    refine for_list (K := K) (a := q) (xs := ws.map V.str) (fun i σ H' => ∃ x2 x4 x5 : Option V, σ = [some (.ref s0), some (.ref A0.q), x2, some (.ref kq), x4, x5, none] ∧ L2.Same H4 H') ?_ ?_ ?_ ?_
    · exact ⟨_, _, _, rfl, fun _ _ e => e⟩
    · rintro i σ H' _ ⟨x2, x4, x5, rfl, q5⟩
      exact SqL.of (q5 _ _ hq)
    · rintro i v σ J1 hv ⟨x2, x4, x5, rfl, q5⟩
      obtain ⟨x, ex, rfl⟩ := str_get hv
      have mx : x ∈ ws := List.mem_of_getElem? ex
      refine at_name (σ' := [some (.ref s0), some (.ref A0.q), some (.str x), some (.ref kq), x4, x5, none]) rfl ?_
      have s05 := s03.trans (s4.trans q5)
      have se5 := se.mono s05
      have st5 := st.mono s05
      refine ⟨_, rfl, _, rfl, s0, _, _, _, rfl, rfl, SqL.of se5.hs, atI_nat (j := 2) rfl, tl, _, rfl, .inl (SqL.of se5.hl), rfl, flat_strs _, _, rfl, ?_⟩
      rw [if_neg Bool.false_ne_true, inV_strs]
      by_cases mc : x ∈ tw
      · rw [decide_eq_true mc]
        refine iteT ?_
        refine ⟨(by show 4 ≤ sizeLine; decide), fun t5 h50 => ?_⟩
        have s6 := Same.new (H := J1) (o := .tup [V.str "let", .non, .bl false, .bl true]) h50
        have h5 : upd J1 t5 (.tup [V.str "let", .non, .bl false, .bl true]) t5 = _ := upd_same
        generalize upd J1 t5 (.tup [V.str "let", .non, .bl false, .bl true]) = J2 at s6 h5 ⊢
        have st6 := st5.mono s6
        refine at_name (σ' := [some (.ref s0), some (.ref A0.q), some (.str x), some (.ref kq), x4, some (.ref t5), none]) rfl ?_
        refine ⟨_, rfl, _, rfl, z2, fun p hp => ?_⟩
        have s9 := Same.new (H := J2) (o := .lst [.ref A0.q, .str x]) hp
        have h9 : upd J2 p (.lst [.ref A0.q, .str x]) p = _ := upd_same
        generalize upd J2 p (.lst [.ref A0.q, .str x]) = J3 at s9 h9 ⊢
        have st9 := st6.mono s9
        refine ⟨"opened", p, 2, [.ref A0.q, .str x], _, rfl, h9, .opened, rfl, .inl ⟨let_opened st9 mc, fun t J4 s10 _ ht => ?_⟩⟩
        refine ⟨_, rfl, .ref t, .ref t5, rfl, .inr (.inr (.inl ⟨t, t5, _, _, rfl, rfl, ht, s10 _ _ (s9 _ _ h5), by show 4 ≤ 100; decide, paired_self fun z hz => by
            simp only [List.mem_cons, List.not_mem_nil, or_false] at hz
            rcases hz with rfl | rfl | rfl | rfl
            · exact .inl (fl_str _)
            · exact .inl fl_non
            · exact .inl (fl_bl _)
            · exact .inl (fl_bl _)⟩)), fun J5 s11 => ⟨_, rfl, iteF ⟨_, _, _, rfl, q5.trans (s6.trans (s9.trans (s10.trans s11)))⟩⟩⟩
      · rw [decide_eq_false mc]
        refine iteF ?_
        refine ⟨_, rfl, ?_⟩
        refine ⟨(by show 4 ≤ sizeLine; decide), fun t5 h50 => ?_⟩
        have s6 := Same.new (H := J1) (o := .tup [V.str "refused", .str x, .bl false, .bl true]) h50
        have h5 : upd J1 t5 (.tup [V.str "refused", .str x, .bl false, .bl true]) t5 = _ := upd_same
        generalize upd J1 t5 (.tup [V.str "refused", .str x, .bl false, .bl true]) = J2 at s6 h5 ⊢
        have st6 := st5.mono s6
        refine at_name (σ' := [some (.ref s0), some (.ref A0.q), some (.str x), some (.ref kq), x4, some (.ref t5), none]) rfl ?_
        refine ⟨_, rfl, _, rfl, z2, fun p hp => ?_⟩
        have s9 := Same.new (H := J2) (o := .lst [.ref A0.q, .str x]) hp
        have h9 : upd J2 p (.lst [.ref A0.q, .str x]) p = _ := upd_same
        generalize upd J2 p (.lst [.ref A0.q, .str x]) = J3 at s9 h9 ⊢
        have st9 := st6.mono s9
        refine ⟨"opened", p, 2, [.ref A0.q, .str x], _, rfl, h9, .opened, rfl, .inr ⟨RF, "refused", .str x, .ref, bad_opened st9 mx mc, fun t J4 s10 _ ht => ?_⟩⟩
        refine ⟨_, rfl, .ref t, .ref t5, rfl, .inr (.inr (.inl ⟨t, t5, _, _, rfl, rfl, ht, s10 _ _ (s9 _ _ h5), by show 4 ≤ 100; decide, paired_self fun z hz => by
            simp only [List.mem_cons, List.not_mem_nil, or_false] at hz
            rcases hz with rfl | rfl | rfl | rfl
            · exact .inl (fl_str _)
            · exact .inl (fl_str _)
            · exact .inl (fl_bl _)
            · exact .inl (fl_bl _)⟩)), fun J5 s11 => ⟨_, rfl, iteF ⟨_, _, _, rfl, q5.trans (s6.trans (s9.trans (s10.trans s11)))⟩⟩⟩
    · rintro σ J1 ⟨x2, x4, x5, rfl, q5⟩
      exact k _ (s03.trans (s4.trans q5))
end
end KT
set_option Elab.async false
set_option linter.all false
set_option maxRecDepth 100000
set_option maxHeartbeats 4000000
set_option pp.maxSteps 900
namespace KT
open PySem L2 PyProof.Rows DTp TxS DKq KX
section
variable {P : Program} {w : World} {K : PySem.W.Frag} {mg : Str → Option Value} {base : Heap} {C S G IS ID IC IK RF : Addr}
theorem hu64 {k : Nat} {A : Around} (r : Room k A) : A.units + 64 < cLine := by have := r.un; omega
def spLaw (K : PySem.W.Frag) : Sp := fun vs H Q _ => ∃ (a : Addr) (ns : List Int), vs = [.ref a] ∧ SqL K H a (ns.map V.int) ∧ ns.length ≤ 63 ∧ ∀ H', Q (.bl true) H'
abbrev nLaw : List Str := ["_law_script", "_law_purse_here", "_law_setting_here", "_law_some", "_law_made_here", "_law_spin", "_law_way"]
theorem scLaw : FnScope nLaw ["_law_script"] (defScope sLaw) := ⟨rfl, rfl, rfl, by decide +kernel, rfl, by decide +kernel, by decide +kernel⟩
structure LawC (P : Program) (w : World) (K : PySem.W.Frag) (mg : Str → Option Value) (base : Heap) (S C G IS ID IC IK RF : Addr) : Prop where
  pur : Cee P w K mg base 2 "_law_purses" ["_law_script", "_law_few"] (spPurses K)
  sett : Cee P w K mg base 6 "_law_setting" ["_law_purse_here", "_law_most"] spSetting
  clo : Cee P w K mg base 3 "_law_closed" ["_law_setting_here"] spClosed
  mad : Cee P w K mg base 9 "_law_made" ["_law_setting_here"] (spMade S C)
  tol : Cee P w K mg base 13 "_law_told" ["_law_way", "_law_things"] (spTel K S C G IS ID IC IK RF)
  ref : Cee P w K mg base 14 "_law_refused_right" ["_law_setting_here", "_law_made_here"] (spRef S C)
  fal : Cee P w K mg base 14 "_law_falls" ["_law_setting_here", "_law_made_here"] (spFalls S C)
  exa : Cee P w K mg base 7 "_law_exact" ["_law_mine", "_law_theirs"] (spExact 6)
  ded : Mee P w K mg base S 1 "deeds" ["self"] (spSDeeds S C)
  twi : Mee P w K mg base S 1 "twice" ["self"] (spSTwice S C)
theorem ok_law {g : Addr} {fd : FuncData} (F : Fun K "law" "law" sLaw g fd) (B0 : Blt mg) (TS : STx K mg S) (M : LawC P w K mg base S C G IS ID IC IK RF) : FnOk P w K mg base CX0 15 g fd ["_law_script"] (spLaw K) := by
  refine F.ok scLaw (fun vs H Q E h => ?_) (fun cdv A outer s H vs Q E hr h => ?_)
  · obtain ⟨a, ns, rfl, _⟩ := h
    rfl
  · obtain ⟨a, ns, rfl, hS, hl, k⟩ := h
    have nd := scLaw.nd
    refine ⟨_, pss_cons (ps_for PassesOwn.never rfl (pi_list (pe_c M.pur hr rfl (pa_cons (pv 0) (pa_cons pe_int pa_nil)))) (pg_name (i := 1) nd rfl (Or.inl rfl))
        (pss_cons (ps_set (i := 2) nd rfl (Or.inl rfl) (pe_c M.sett hr rfl (pa_cons (pv 1) (pa_cons pe_int pa_nil))))
        (pss_one (ps_for PassesOwn.never rfl (pi_tup (pe_tup (pa_cons (pv 2) (pa_cons (pe_c M.clo hr rfl (pa_cons (pv 2) pa_nil)) (pa_cons (pe_lst (pa_cons (pe_ix ix_list (pv 2) pe_int (fun _ _ => rfl)) (pa_cons (pe_ix ix_list (pv 2) pe_int (fun _ _ => rfl)) (pa_cons (pe_lst pa_nil) pa_nil)))) pa_nil))))) (pg_name (i := 3) nd rfl (Or.inl rfl)) (pss_cons (ps_set (i := 4) nd rfl (Or.inr rfl) (pe_c M.mad hr rfl (pa_cons (pv 3) pa_nil))) (pss_cons (ps_for PassesOwn.never rfl (pi_range1 rfl B0.range (pa_cons pe_int pa_nil)) (pg_name (i := 5) nd rfl (Or.inl rfl)) (pss_cons (ps_if (pt_cmpR (op_neD (hu64 hr)) (pe_lc (own := [("_law_way", 6)]) (g := gName 6) (tt := tTest (tOp rNe (tOp (rIxT K) (tCall (spTel K S C G IS ID IC IK RF) [] E0 (tCons (tVar 6) (tCons (tLst (tCons (tVar 4) tNil)) tNil))) (tC (.int 0))) (tC (.str "let")))) (te := tVar 6) rfl nd (pi_tup (pe_tup (pa_cons pe_str (pa_cons pe_str (pa_cons pe_str (pa_cons pe_str pa_nil))))))
        (blkOk_by (own := [("_law_way", 6)]) (N := nLaw) (sc := defScope sLaw) (by decide +kernel)) (fun _ _ _ _ _ => pg_name (i := 6) nd rfl (Or.inl rfl)) (fun _ _ _ _ _ => pts_one (pt_cmpR op_ne (pe_ix ix_tup (pe_c M.tol hr rfl (pa_cons (pv 6) (pa_cons (pe_lst (pa_cons (pv 4) pa_nil)) pa_nil))) pe_int (fun _ _ => rfl)) pe_str (nomark _))) (fun _ _ _ _ _ => pv 6)) (pe_lst pa_nil) (by rfl)) (pss_one ps_never) pss_nil) (pss_one (ps_if (pt_cut <| PW.pt (pw_or (pt_not (pt_val (pe_c M.ref hr rfl (pa_cons (pv 3) (pa_cons (pv 4) pa_nil))))) (pw_or1 (PW.pt (pw_and (pt_cmpR op_eq (pv 5) pe_int (nomark _)) (pw_and1 (pt_not (pt_val (pe_c M.fal hr rfl (pa_cons (pv 3) (pa_cons (pv 4) pa_nil))))))))))) (pss_one ps_never) pss_nil)))) (pss_one (ps_if (pt_not (pt_val (pe_c M.exa hr rfl (pa_cons (pe_lst (pa_cons (pe_m0 M.ded TS.cl hr (pv 4)) (pa_cons (pe_m0 M.twi TS.cl hr (pv 4)) pa_nil))) (pa_cons (pe_slice sl_list (pv 3) (po_some pe_int) po_none) pa_nil))))) (pss_one ps_never) pss_nil))))))))
      (pss_one (ps_ret pe_bl)), ?_⟩
    have z1 : 1 ≤ sizeLine := by decide
    have z2 : 2 ≤ sizeLine := by decide
    refine ⟨_, rfl, a, ns, 1, rfl, hS, hl, by decide, by decide, fun l ps G0 s1 hlG hps ndp ne lps => ?_⟩
    refine ⟨l, rfl, ⟨_, SqL.of hlG⟩, ?_⟩
    refine for_list (K := K) (a := l) (xs := ps.map V.ref) (fun i σ H' => ∃ x1 x2 x3 x4 x5, σ = [some (.ref a), x1, x2, x3, x4, x5, none] ∧ H' l = some (.lst (ps.map V.ref)) ∧ ∀ (j : Nat) (p : Addr), i ≤ j → ps[j]? = some p → PurseAt H' p 0) ?_ ?_ ?_ ?_
    · exact ⟨_, _, _, _, _, rfl, hlG, fun j p _ hj => (hps p (List.mem_of_getElem? hj)).1⟩
    · rintro i σ H' _ ⟨x1, x2, x3, x4, x5, rfl, hl', _⟩
      exact SqL.of hl'
    · rintro i x σ H1 hx ⟨x1, x2, x3, x4, x5, rfl, hl1, pu⟩
      rw [List.getElem?_map] at hx
      cases ep : ps[i]? with
      | none => rw [ep] at hx; cases hx
      | some p =>
        rw [ep] at hx
        obtain rfl : V.ref p = x := Option.some.inj hx
        have hP := pu i p (Nat.le_refl _) ep
        have npl : l ≠ p := (hps p (List.mem_of_getElem? ep)).2.2.symm
        refine at_name (σ' := [some (.ref a), some (.ref p), x2, x3, x4, x5, none]) rfl ?_
        refine ⟨_, rfl, p, _, 4, rfl, by decide, by decide, hP, by omega, by omega, fun s0 td da tl ws f dl tw H2 bt2 hP2 se => ?_⟩
        refine at_name (σ' := [some (.ref a), some (.ref p), some (.ref s0), x3, x4, x5, none]) rfl ?_
        refine ⟨_, rfl, _, rfl, s0, td, da, tl, ws, f, dl, tw, rfl, se, fun z2 t2 H3 s3 hz20 se2 => ?_⟩
        have se3 := se.mono s3
        refine ⟨_, rfl, s0, _, 0, _, rfl, rfl, SqL.of se3.hs, atI_nat (j := 0) rfl, _, rfl, s0, _, 1, _, rfl, rfl, SqL.of se3.hs, atI_nat (j := 1) rfl, (by show 0 ≤ sizeLine; decide), fun e he0 => ?_⟩
        have s4 := Same.new (H := H3) (o := .lst []) he0
        have he : upd H3 e (.lst []) e = some (.lst (([] : List Str).map V.str)) := upd_same
        generalize upd H3 e (.lst []) = H4 at s4 he ⊢
        refine ⟨(by show 3 ≤ sizeLine; decide), fun z3 hz30 => ?_⟩
        have s5 := Same.new (H := H4) (o := .lst [.ref td, .ref da, .ref e]) hz30
        have hz3 : upd H4 z3 (.lst [.ref td, .ref da, .ref e]) z3 = _ := upd_same
        generalize upd H4 z3 (.lst [.ref td, .ref da, .ref e]) = H5 at s5 hz3 ⊢
        have se5 := (se3.mono s4).mono s5
        have se25 := (se2.mono s4).mono s5
        have se35 : SetAt H5 z3 td da e ws f dl [] := ⟨hz3, se5.ht, se5.hd, s5 _ _ he, se5.kw, se5.ok, se5.asc, ⟨.nil, fun x hx => by cases hx⟩⟩
        refine ⟨(by show 3 ≤ sizeLine; decide), fun t ht0 => ?_⟩
        have s6 := Same.new (H := H5) (o := .tup [.ref s0, .ref z2, .ref z3]) ht0
        have ht : upd H5 t (.tup [.ref s0, .ref z2, .ref z3]) t = _ := upd_same
        generalize upd H5 t (.tup [.ref s0, .ref z2, .ref z3]) = H6 at s6 ht ⊢
        have s26 : L2.Same H2 H6 := s3.trans (s4.trans (s5.trans s6))
        have b16 : But p H1 H6 := bt2.same s26
        have hP6 := hP2.mono s26
        have npt : t ≠ p := by
          obtain ⟨u1, u2, u3, u4, h1, _⟩ := hP6
          exact ne_of ht h1 (by intro z; cases z)
        have all : ∀ v ∈ ([.ref s0, .ref z2, .ref z3] : List V), ∃ (z tc : Addr) (tv : List Str), v = .ref z ∧ SetAt H6 z td da tc ws f dl tv := by
          intro v hv
          simp only [List.mem_cons, List.not_mem_nil, or_false] at hv
          rcases hv with rfl | rfl | rfl
          · exact ⟨s0, tl, tw, rfl, se5.mono s6⟩
          · exact ⟨z2, t2, _, rfl, se25.mono s6⟩
          · exact ⟨z3, e, _, rfl, se35.mono s6⟩
        refine ⟨t, rfl, ⟨_, SqT.of ht⟩, ?_⟩
        refine for_tup (K := K) (a := t) (xs := [.ref s0, .ref z2, .ref z3]) (fun j σ H' => ∃ x3 x4 x5 : Option V, σ = [some (.ref a), some (.ref p), some (.ref s0), x3, x4, x5, none] ∧ L2.Same H6 H') ?_ ?_ ?_ ?_
        · exact ⟨_, _, _, rfl, fun _ _ e => e⟩
        · rintro j σ H' _ ⟨x3, x4, x5, rfl, s7⟩
          exact SqT.of (s7 _ _ ht)
        · rintro j v σ H7 hx ⟨x3, x4, x5, rfl, s7⟩
          obtain ⟨z, tc, tv, rfl, sz⟩ := all v (List.mem_of_getElem? hx)
          have sz7 := sz.mono s7
          refine at_name (σ' := [some (.ref a), some (.ref p), some (.ref s0), some (.ref z), x4, x5, none]) rfl ?_
          refine ⟨_, rfl, z, td, da, tc, ws, f, dl, tv, rfl, sz7, fun A0 H8 st s8 fr => ?_⟩
          refine at_name (σ' := [some (.ref a), some (.ref p), some (.ref s0), some (.ref z), some (.ref A0.q), x5, none]) rfl ?_
          have sz8 := sz7.mono s8
          have na : da ∉ A0.all := by
            have hd := sz8.hd
            simp only [SA.all, List.mem_cons, List.not_mem_nil, or_false, not_or]
            refine ⟨fun e => ?_, fun e => ?_, fun e => ?_, fun e => ?_, fun e => ?_, fun e => ?_⟩
            · exact ne_of st.ob hd (by intro z; cases z) e.symm
            · exact ne_of st.kin.ob hd (by intro z; cases z) e.symm
            · exact ne_of st.kin.dc hd (by intro z; cases z) e.symm
            · exact ne_of st.kin.ls hd (by intro z; cases z) e.symm
            · have h1 := sz7.hd
              rw [e, fr.2] at h1
              cases h1
            · have h1 := sz7.hd
              rw [e, fr.1] at h1
              cases h1
          refine ⟨2, rfl, by decide, by decide, ?_⟩
          refine for_range (lo := 0) (n := 2) (fun t σ H' => ∃ x5 : Option V, σ = [some (.ref a), some (.ref p), some (.ref s0), some (.ref z), some (.ref A0.q), x5, none] ∧ L2.Same H8 H') ?_ ?_ ?_
          · exact ⟨_, rfl, fun _ _ e => e⟩
          · rintro t σ H9 ht2 ⟨x5, rfl, s9⟩
            refine at_name (σ' := [some (.ref a), some (.ref p), some (.ref s0), some (.ref z), some (.ref A0.q), some (.int ((0 : Int) + (t : Nat))), none]) rfl ?_
            have sz9 := sz8.mono s9
            have st9 := st.mono s9
            dsimp only [tSeq, tIfS, tNext]
            refine ⟨(by show 4 ≤ sizeLine; decide), fun tt htt => ⟨tt, rfl, ⟨_, SqT.of upd_same⟩, fun D hD => ?_⟩⟩
            have r1 := Same.new (H := H9) (o := .tup [.str "is", .str "open", .str "deeds", .str "closed"]) htt
            have h1 : upd H9 tt (.tup [.str "is", .str "open", .str "deeds", .str "closed"]) tt = _ := upd_same
            generalize upd H9 tt (.tup [.str "is", .str "open", .str "deeds", .str "closed"]) = J1 at r1 h1 hD ⊢
            have ways : ∀ x ∈ [V.str "is", .str "open", .str "deeds", .str "closed"], ∃ (way : Str) (sp : Sp), x = .str way ∧ WayOf K S C G IS ID IC IK RF way 1 sp ∧ ∀ H', StIn S C H' A0 ws f dl tv → IsLet H' [.ref A0.q] sp := by
              intro x hx
              simp only [List.mem_cons, List.not_mem_nil, or_false] at hx
              rcases hx with rfl | rfl | rfl | rfl
              · exact ⟨_, _, rfl, .is, fun _ st => let_is st⟩
              · exact ⟨_, _, rfl, .opn, fun _ st => let_opn st⟩
              · exact ⟨_, _, rfl, .deeds, fun _ st => let_deeds st⟩
              · exact ⟨_, _, rfl, .closed, fun _ st => let_closed st⟩
            refine lc_it (walk_tup (K := K) (a := tt) (xs := [.str "is", .str "open", .str "deeds", .str "closed"])) (fun i H' => L2.Same J1 H' ∧ H' D = some (.lst [])) ?_ ?_ ?_ ?_
            · exact ⟨Same.new hD, upd_same⟩
            · rintro i H' _ ⟨r2, _⟩
              exact SqT.of (r2 _ _ h1)
            · rintro i v J0 J2 hi ⟨r2, hD2⟩ ⟨rfl, hv⟩
              obtain ⟨way, sp, rfl, wo, le⟩ := ways v (List.mem_of_getElem? hv)
              refine at_name (σ' := [some (.ref a), some (.ref p), some (.ref s0), some (.ref z), some (.ref A0.q), some (.int ((0 : Int) + (t : Nat))), some (.str way)]) rfl ⟨rfl, ?_⟩
              refine ⟨_, rfl, _, rfl, z1, fun q hq => ?_⟩
              have r3 := Same.new (H := J2) (o := .lst [.ref A0.q]) hq
              have h3 : upd J2 q (.lst [.ref A0.q]) q = _ := upd_same
              generalize upd J2 q (.lst [.ref A0.q]) = J3 at r3 h3 ⊢
              refine ⟨way, q, 1, [.ref A0.q], sp, rfl, h3, wo, rfl, .inl ⟨le _ (((st9.mono r1).mono r2).mono r3), fun t' J4 r4 _ ht => ?_⟩⟩
              refine ⟨t', _, _, _, rfl, rfl, SqT.of ht, atI_nat (j := 0) rfl, rfl, _, rfl, ite_no (by decide) ?_⟩
              exact ⟨r2.trans (r3.trans r4), r4 _ _ (r3 _ _ hD2)⟩
            · rintro J2 ⟨r2, hD2⟩
              refine ⟨Nat.zero_le _, fun e he => ?_⟩
              have r3 := Same.new (H := J2) (o := .lst []) he
              have h3 : upd J2 e (.lst []) e = _ := upd_same
              generalize upd J2 e (.lst []) = J3 at r3 h3 ⊢
              refine ⟨.list [], .list [], .lst (SqL.of (r3 _ _ hD2)) .nil, .lst (SqL.of h3) .nil, by decide, by decide, _, rfl, ite_no (by decide) ?_⟩
              have r13 := r1.trans (r2.trans r3)
              have sz13 := sz9.mono r13
              have st13 := st9.mono r13
              refine ⟨fun b H' => b = false ∧ L2.Same J3 H', ?_, ?_⟩
              · refine ⟨_, rfl, _, rfl, z, td, da, tc, ws, f, dl, tv, A0, rfl, sz13, st13, na, fun J4 r4 => ⟨_, rfl, iteF ?_⟩⟩
                refine ⟨_, rfl, rfl, _, rfl, ?_⟩
                have fin : tNot (tB (tCall (spFalls S C) [] E0 (tCons (tVar 3) (tCons (tVar 4) tNil)))) [some (.ref a), some (.ref p), some (.ref s0), some (.ref z), some (.ref A0.q), some (.int ((0 : Int) + (t : Nat))), none] J4 (fun b H' => b = false ∧ L2.Same J3 H') :=
                  ⟨_, rfl, _, rfl, z, td, da, tc, ws, f, dl, tv, A0, rfl, sz13.mono r4, st13.mono r4, fun J5 r5 => ⟨_, rfl, rfl, r4.trans r5⟩⟩
                by_cases e : V.int ((0 : Int) + (t : Nat)) = V.int 0
                · rw [decide_eq_true e]
                  exact iteT fin
                · rw [decide_eq_false e]
                  exact iteF ⟨rfl, r4⟩
              · rintro b H' ⟨rfl, r4⟩
                exact iteF ⟨_, rfl, s9.trans (r13.trans r4)⟩
          · rintro σ H9 ⟨x5, rfl, s9⟩
            have sz9 := sz8.mono s9
            have st9 := st.mono s9
            refine ⟨_, rfl, A0.q, A0.dx, _, rfl, st9.ob, sflds_no _ _ _ (by decide +kernel) (by decide +kernel) (by decide +kernel), A0, ws, f, dl, tv, rfl, st9, fun q1 J1 r1 _ g1 => ?_⟩
            have st10 := st9.mono r1
            refine ⟨_, rfl, A0.q, A0.dx, _, rfl, st10.ob, sflds_no _ _ _ (by decide +kernel) (by decide +kernel) (by decide +kernel), A0, ws, f, dl, tv, rfl, st10, fun q2 J2 r2 _ g2 => ⟨(by show 2 ≤ sizeLine; decide), fun q hq => ?_⟩⟩
            have r3 := Same.new (H := J2) (o := .lst [.ref q1, .ref q2]) hq
            have h3 : upd J2 q (.lst [.ref q1, .ref q2]) q = _ := upd_same
            generalize upd J2 q (.lst [.ref q1, .ref q2]) = J3 at r3 h3 ⊢
            have r13 := r1.trans (r2.trans r3)
            have sz13 := sz9.mono r13
            refine ⟨_, rfl, 1, rfl, z, _, rfl, SqL.of sz13.hs, fun l1 hl1 => ?_⟩
            have r4 := Same.new (H := J3) (o := .lst (cutV [.ref td, .ref da, .ref tc] (some 1) none)) hl1
            have h4 : upd J3 l1 (.lst (cutV [.ref td, .ref da, .ref tc] (some 1) none)) l1 = some (.lst [.ref da, .ref tc]) := by
              rw [upd_same]
              rfl
            generalize upd J3 l1 (.lst (cutV [.ref td, .ref da, .ref tc] (some 1) none)) = J4 at r4 h4 ⊢
            have al : Alike 6 J4 (.ref q) (.ref l1) := by
              refine .inr (.inl ⟨q, l1, _, _, rfl, rfl, r4 _ _ h3, h4, by show 2 ≤ 100; decide, .cons ?_ (.cons ?_ .nil)⟩)
              · exact .inr (.inr (.inr (.inr ⟨q1, da, dkv dl, keysD dl, by decide, rfl, rfl, r4 _ _ (r3 _ _ (r2 _ _ g1)), r4 _ _ sz13.hd, dkv_keys dl, sz9.ok.nd, fun p hp => by
                  obtain ⟨y, _, rfl⟩ := List.mem_map.mp hp
                  exact fl_str _, by rw [keysD_len]; have := sz9.ok.few; omega⟩)))
              · exact .inr (.inl ⟨q2, tc, _, _, rfl, rfl, r4 _ _ (r3 _ _ g2), r4 _ _ sz13.hl, by rw [List.length_map]; have := sz9.tok.len sz9.kw; omega, paired_self fun y hy => by
                  obtain ⟨x, _, rfl⟩ := List.mem_map.mp hy
                  exact .inl (fl_str _)⟩)
            exact ⟨.ref q, .ref l1, rfl, al, fun J5 r5 => ⟨_, rfl, iteF ⟨_, _, _, rfl, s7.trans (s8.trans (s9.trans (r13.trans (r4.trans r5))))⟩⟩⟩
        · rintro σ H7 ⟨x3, x4, x5, rfl, s7⟩
          have bt : But p H1 H7 := b16.same s7
          refine ⟨_, _, _, _, _, rfl, bt _ _ npl hl1, fun j p' hj hp' => ?_⟩
          have npp : p' ≠ p := fun e => by
            rw [e] at hp'
            have h1 : i < ps.length := (List.getElem?_eq_some_iff.mp ep).1
            have := (List.getElem?_inj h1 ndp).mp (ep.trans hp'.symm)
            omega
          obtain ⟨u1, u2, u3, u4, h1, h2⟩ := pu j p' (by omega) hp'
          exact ⟨u1, u2, u3, u4, bt _ _ npp h1, h2⟩
    · rintro σ H' ⟨x1, x2, x3, x4, x5, rfl, _, _⟩
      exact k _
end
end KT
set_option Elab.async false
set_option linter.all false
set_option maxRecDepth 100000
set_option maxHeartbeats 0
namespace KT
open PySem PySem.Spec PyProof.Rows L2 KX
theorem errIB_ok {K : PySem.W.Frag} {C : Addr} (h : errIB K C = true) : ErrI K C ∧ PySem.W.hasDictIn K C = true := by
  unfold errIB at h
  simp only [Bool.and_eq_true, decide_eq_true_eq] at h
  obtain ⟨h1, h2, h3, h4, h5, h6, h7, h8, h9⟩ := h
  exact ⟨⟨He.eqO_ok h1, He.eqO_ok h2, h3, h4, He.eqO_ok h5, He.eqO_ok h6, h7, h8⟩, h9⟩
section
variable {K : PySem.W.Frag}
/-- a def of no defaults of the text, as Fun -/
theorem fun_of {x qual : Str} {st : Stmt} {f : Addr} {fd : FuncData} (F : FunD K x qual (defArgs st) (defBody st) (defScope st) [] [] f fd) : Fun K x qual st f fd := by
  obtain ⟨oc, od, dV, kV, doc, pm, an, cdv, ct, osl, e, lk, hcd, hD, _⟩ := F.ex
  rcases hD with ⟨_, rfl⟩ | ⟨z, _⟩
  · exact ⟨⟨oc, od, kV, doc, pm, an, cdv, ct, osl, e, lk, hcd⟩, F.kp⟩
  · exact absurd rfl z
/-- keywords alone (behind the first n), no defaults -/
theorem kbindsN {x qual : Str} {params : Arguments} {body : List Stmt} {scope : Scope} {kws : List (Str × V)} {f : Addr} {fd : FuncData} {ps : List Str} (F : FunD K x qual params body scope [] kws f fd) (n : Nat) (ks : List Str) (g : List Value → List Value → List Value) (gV : List V → List V → List V)
    (rel : ∀ {vs : List V} {us : List Value} {zs : List V} {ws : List Value}, Vals vs us → Vals zs ws → Vals (gV vs zs) (g us ws))
    (h : ∀ (kV doc pm : Value) (an : Option Addr) (cdv ct : Value) (us ws : List Value), us.length = n → ws.length = ks.length → bindArgs (PySem.W.fnOf x qual params body scope .none kV doc pm an cdv ct) ⟨us, ks.zip ws⟩ = pure (ps.zip (g us ws))) : KBn K fd ps n ks g gV := by
  obtain ⟨oc, od, dV, kV, doc, pm, an, cdv, ct, osl, rfl, lk, hcd, hD, hK⟩ := F.ex
  rcases hD with ⟨_, rfl⟩ | ⟨e, _⟩
  · exact ⟨fun s us ws X l1 l2 => .of_eq (h kV doc pm an cdv ct us ws l1 l2), rel⟩
  · exact absurd rfl e
end
theorem facts {P : Program} {w : World} {K : PySem.W.Frag} {h : Heap} {mg : Str → Option Value} {f : Addr} (X : K.In h) (G : h.Ns mainGlobals mg) (hfa : mg ("law" : Str) = some (.ref f)) (c : He.SaysD fa fn K) (m : myB K = true) :
    ∃ fd : FuncData, (∀ (s : Shared) (v : Value), BindsTo s fd ⟨[v], []⟩ [("_law_script", v)]) ∧ ∀ base : Heap, K.In base → base.Ns mainGlobals mg → FnOk P w K mg base CX0 15 f fd ["_law_script"] (spLaw K) := by
  unfold myB at m
  unfold oneB at m
  simp only [Bool.and_eq_true, decide_eq_true_eq] at m
  obtain ⟨m2, m3, mkit, ⟨m1, m4, m5, m6, m7, m8, m9⟩, ⟨n1, n4, n5, n6, n7, n8, n9⟩, mexc⟩ := m
  have fr : ∀ (i : Nat) (x : Str), fa[i]? = some (.free x) → mg x = none := fun i x e => He.free_ok X G (c.fact i e)
  have gl : ∀ (i : Nat) (x : Str), fa[i]? = some (.glo x) → mg x = some (.ref (He.ga K x)) := fun i x e => He.glo_ok X G (c.fact i e)
  have B : Blt mg := ⟨fr 74 _ rfl, fr 75 _ rfl, fr 76 _ rfl, fr 77 _ rfl, fr 78 _ rfl, fr 79 _ rfl⟩
  have Z : Blp mg := ⟨fr 80 _ rfl, fr 81 _ rfl, fr 82 _ rfl, fr 83 _ rfl, fr 84 _ rfl, fr 85 _ rfl, fr 86 _ rfl, fr 87 _ rfl, He.str_ok X G (c.fact 72 (f := .str "LETTERS" "abcdefghijklmnopqrstuvwxyz") rfl), He.int_ok X G (c.fact 73 (f := .int "LONGEST_WORD" 8) rfl)⟩
  have hz : mg "zip" = none := fr 88 _ rfl
  have han : mg "any" = none := fr 89 _ rfl
  have gC : mg "Kinds" = some (.ref (kC K)) := gl 55 "Kinds" rfl
  have T : KTx K mg (kC K) := ⟨He.cls_ok (c.fact 56 (f := .cls "Kinds") rfl), He.noat_ok (c.fact 57 (f := .noat "Kinds" "_table") rfl), He.noat_ok (c.fact 58 (f := .noat "Kinds" "_words") rfl), gC, He.eqO_ok m1, He.eqO_ok m2, m3, m4, m5⟩
  have nkC : PySem.W.notFirst K (kC K) (.ref (kC K)) = true := m9
  have nfS : PySem.W.notFirst K (sC K) (.ref (sC K)) = true := n9
  have hset : mg "set" = none := fr 90 _ rfl
  have hrev : mg "reversed" = none := fr 91 _ rfl
  have hen : mg "enumerate" = none := fr 92 _ rfl
  have gS : mg "Setting" = some (.ref (sC K)) := gl 63 "Setting" rfl
  have TS : STx K mg (sC K) := ⟨He.cls_ok (c.fact 64 (f := .cls "Setting") rfl), He.noat_ok (c.fact 65 (f := .noat "Setting" "_kinds") rfl), He.noat_ok (c.fact 66 (f := .noat "Setting" "_deeds") rfl), He.noat_ok (c.fact 67 (f := .noat "Setting" "_twice") rfl), gS, He.eqO_ok n1, He.eqO_ok m2, m3, n4, n5⟩
  have MS : Mk K (sC K) (He.fAd K ("Setting", some "__init__")) := He.mkr_ok (c.fact 71 (f := .mkr "Setting") rfl)
  have MK : Mk K (kC K) (He.fAd K ("Kinds", some "__init__")) := He.mkr_ok (c.fact 62 (f := .mkr "Kinds") rfl)
  have TG : GTx K mg (goC K) := ⟨He.cls_ok (c.fact 101 (f := .cls "Store") rfl), He.noat_ok (c.fact 102 (f := .noat "Store" "_moves") rfl), gl 100 "Store" rfl⟩
  have MG : Mk K (goC K) (He.fAd K ("Store", some "__init__")) := He.mkr_ok (c.fact 103 (f := .mkr "Store") rfl)
  unfold excB at mexc
  simp only [Bool.and_eq_true, decide_eq_true_eq] at mexc
  obtain ⟨x1, x2, x3, x4, x5, x6⟩ := mexc
  have eOne : ∀ x ∈ excN, OexC K (He.ga K x) ∧ ErrI K (He.ga K x) ∧ PySem.W.hasDictIn K (He.ga K x) = true ∧ PySem.W.findIn K (.ref (He.ga K x)) "value" = some none ∧ (PySem.W.findIn K (.ref (He.ga K x)) "__init__" = some (some (.ref (He.fAd K (x, some "__init__")))) ∧ PySem.W.typeIn K (.ref (He.fAd K (x, some "__init__"))) = some (.type "function")) ∧
      PySem.W.kitOne K (.ref (He.ga K x)) (.ref (He.ga K "TwiceError")) = some true ∧ PySem.W.kitOne K (.ref (He.ga K x)) (.type "ValueError") = some true := fun x hx => by
    have q := List.all_eq_true.mp x1 x hx
    unfold excOne initB kB at q
    simp only [Bool.and_eq_true, decide_eq_true_eq] at q
    obtain ⟨q1, q2, q3, q4, q5, q6⟩ := q
    obtain ⟨r1, r2⟩ := errIB_ok q2
    exact ⟨oex2B_ok q1, r1, r2, He.eqO_ok q3, ⟨He.eqO_ok q4.1, q4.2⟩, q5, q6⟩
  have eX : ∀ i j : Nat, i < excN.length → j < i + 1 → PySem.W.exmOne K (.ref (He.ga K (excN.getD i ""))) (.ref (He.ga K (excN.getD j ""))) = some (decide (i = j)) := fun i j hi hj => by
    have q := List.all_eq_true.mp (List.all_eq_true.mp x2 i (List.mem_range.mpr hi)) j (List.mem_range.mpr hj)
    unfold exB at q
    exact of_decide_eq_true q
  have noB : ∀ C : Addr, noBB K C = true → NoB K C := fun C q => by
    unfold noBB at q
    simp only [List.all_cons, List.all_nil, Bool.and_eq_true, decide_eq_true_eq, Bool.and_true] at q
    obtain ⟨⟨a1, a2, a3, a4, a5⟩, a6⟩ := q
    exact ⟨a1, a2, a3, a4, a5, a6⟩
  have OC : OddC K (sC K) (kC K) := ⟨noB _ x3, noB _ x4⟩
  have NSC : NsC K (sC K) (kC K) := ⟨fun t ht => of_decide_eq_true (List.all_eq_true.mp x5 t ht), x6⟩
  obtain ⟨fdE0, DE0⟩ := c.def_ 67 (d := errD "InvalidSetting" "InvalidSetting.__init__" 8) rfl
  have aE0 : ∃ q1 q2 q3 p1 p2 p3 p4, defArgs (inClass (top 8) 0) = eArgs q1 q2 q3 ∧ defBody (inClass (top 8) 0) = eBody p1 p2 p3 p4 ∧ defScope (inClass (top 8) 0) = eSc := ⟨_, _, _, _, _, _, _, rfl, rfl, rfl⟩
  have EE0 : ∀ base : Heap, ErrX P w K mg base "InvalidSetting" (He.ga K "InvalidSetting") := fun base => by
    obtain ⟨q1, q2, q3, p1, p2, p3, p4, a1, a2, a3⟩ := aE0
    have F : FunD K "__init__" "InvalidSetting.__init__" (eArgs q1 q2 q3) (eBody p1 p2 p3 p4) eSc [.non] [] (He.fAd K ("InvalidSetting", some "__init__")) fdE0 := by
      rw [← a1, ← a2, ← a3]
      exact DE0
    obtain ⟨t1, t2, t3, t4, t5, t6, t7⟩ := eOne "InvalidSetting" (by decide)
    exact ⟨t1, t4, gl 93 "InvalidSetting" rfl, ⟨_, fdE0, t5.1, t5.2, ok_einit F, einit_binds F⟩, t3, t2⟩
  obtain ⟨fdE1, DE1⟩ := c.def_ 68 (d := errD "InvalidDeed" "InvalidDeed.__init__" 6) rfl
  have aE1 : ∃ q1 q2 q3 p1 p2 p3 p4, defArgs (inClass (top 6) 0) = eArgs q1 q2 q3 ∧ defBody (inClass (top 6) 0) = eBody p1 p2 p3 p4 ∧ defScope (inClass (top 6) 0) = eSc := ⟨_, _, _, _, _, _, _, rfl, rfl, rfl⟩
  have EE1 : ∀ base : Heap, ErrX P w K mg base "InvalidDeed" (He.ga K "InvalidDeed") := fun base => by
    obtain ⟨q1, q2, q3, p1, p2, p3, p4, a1, a2, a3⟩ := aE1
    have F : FunD K "__init__" "InvalidDeed.__init__" (eArgs q1 q2 q3) (eBody p1 p2 p3 p4) eSc [.non] [] (He.fAd K ("InvalidDeed", some "__init__")) fdE1 := by
      rw [← a1, ← a2, ← a3]
      exact DE1
    obtain ⟨t1, t2, t3, t4, t5, t6, t7⟩ := eOne "InvalidDeed" (by decide)
    exact ⟨t1, t4, gl 94 "InvalidDeed" rfl, ⟨_, fdE1, t5.1, t5.2, ok_einit F, einit_binds F⟩, t3, t2⟩
  obtain ⟨fdE2, DE2⟩ := c.def_ 69 (d := errD "InvalidCount" "InvalidCount.__init__" 9) rfl
  have aE2 : ∃ q1 q2 q3 p1 p2 p3 p4, defArgs (inClass (top 9) 0) = eArgs q1 q2 q3 ∧ defBody (inClass (top 9) 0) = eBody p1 p2 p3 p4 ∧ defScope (inClass (top 9) 0) = eSc := ⟨_, _, _, _, _, _, _, rfl, rfl, rfl⟩
  have EE2 : ∀ base : Heap, ErrX P w K mg base "InvalidCount" (He.ga K "InvalidCount") := fun base => by
    obtain ⟨q1, q2, q3, p1, p2, p3, p4, a1, a2, a3⟩ := aE2
    have F : FunD K "__init__" "InvalidCount.__init__" (eArgs q1 q2 q3) (eBody p1 p2 p3 p4) eSc [.non] [] (He.fAd K ("InvalidCount", some "__init__")) fdE2 := by
      rw [← a1, ← a2, ← a3]
      exact DE2
    obtain ⟨t1, t2, t3, t4, t5, t6, t7⟩ := eOne "InvalidCount" (by decide)
    exact ⟨t1, t4, gl 95 "InvalidCount" rfl, ⟨_, fdE2, t5.1, t5.2, ok_einit F, einit_binds F⟩, t3, t2⟩
  obtain ⟨fdE3, DE3⟩ := c.def_ 70 (d := errD "InvalidKind" "InvalidKind.__init__" 3) rfl
  have aE3 : ∃ q1 q2 q3 p1 p2 p3 p4, defArgs (inClass (top 3) 0) = eArgs q1 q2 q3 ∧ defBody (inClass (top 3) 0) = eBody p1 p2 p3 p4 ∧ defScope (inClass (top 3) 0) = eSc := ⟨_, _, _, _, _, _, _, rfl, rfl, rfl⟩
  have EE3 : ∀ base : Heap, ErrX P w K mg base "InvalidKind" (He.ga K "InvalidKind") := fun base => by
    obtain ⟨q1, q2, q3, p1, p2, p3, p4, a1, a2, a3⟩ := aE3
    have F : FunD K "__init__" "InvalidKind.__init__" (eArgs q1 q2 q3) (eBody p1 p2 p3 p4) eSc [.non] [] (He.fAd K ("InvalidKind", some "__init__")) fdE3 := by
      rw [← a1, ← a2, ← a3]
      exact DE3
    obtain ⟨t1, t2, t3, t4, t5, t6, t7⟩ := eOne "InvalidKind" (by decide)
    exact ⟨t1, t4, gl 96 "InvalidKind" rfl, ⟨_, fdE3, t5.1, t5.2, ok_einit F, einit_binds F⟩, t3, t2⟩
  obtain ⟨fdE4, DE4⟩ := c.def_ 71 (d := errD "Refused" "Refused.__init__" 11) rfl
  have aE4 : ∃ q1 q2 q3 p1 p2 p3 p4, defArgs (inClass (top 11) 0) = eArgs q1 q2 q3 ∧ defBody (inClass (top 11) 0) = eBody p1 p2 p3 p4 ∧ defScope (inClass (top 11) 0) = eSc := ⟨_, _, _, _, _, _, _, rfl, rfl, rfl⟩
  have EE4 : ∀ base : Heap, ErrX P w K mg base "Refused" (He.ga K "Refused") := fun base => by
    obtain ⟨q1, q2, q3, p1, p2, p3, p4, a1, a2, a3⟩ := aE4
    have F : FunD K "__init__" "Refused.__init__" (eArgs q1 q2 q3) (eBody p1 p2 p3 p4) eSc [.non] [] (He.fAd K ("Refused", some "__init__")) fdE4 := by
      rw [← a1, ← a2, ← a3]
      exact DE4
    obtain ⟨t1, t2, t3, t4, t5, t6, t7⟩ := eOne "Refused" (by decide)
    exact ⟨t1, t4, gl 97 "Refused" rfl, ⟨_, fdE4, t5.1, t5.2, ok_einit F, einit_binds F⟩, t3, t2⟩
  have gTW := gl 98 "TwiceError" rfl
  have fVE : mg "ValueError" = none := fr 99 _ rfl
  obtain ⟨fd0, D0⟩ := c.def_ 0 (d := lawD "is_word" pIsWord) rfl
  have b0 : Binds K fd0 ["value"] [] := FunD.bindsN D0 fun _ _ _ _ _ _ us hl => match us, hl with | [_], _ => rfl
  have g0 := gl 0 "is_word" rfl
  have k0 : PySem.W.keepIn K (.ref (He.fAd K ("is_word", none))) = true := D0.kp
  obtain ⟨fd1, D1⟩ := c.def_ 1 (d := lawD "is_ascending" pIsAsc) rfl
  have b1 : Binds K fd1 ["words"] [] := FunD.bindsN D1 fun _ _ _ _ _ _ us hl => match us, hl with | [_], _ => rfl
  have g1 := gl 1 "is_ascending" rfl
  have k1 : PySem.W.keepIn K (.ref (He.fAd K ("is_ascending", none))) = true := D1.kp
  obtain ⟨fd2, D2⟩ := c.def_ 2 (d := lawD "_is_pair" pIsPair) rfl
  have b2 : Binds K fd2 ["value"] [] := FunD.bindsN D2 fun _ _ _ _ _ _ us hl => match us, hl with | [_], _ => rfl
  have g2 := gl 2 "_is_pair" rfl
  have k2 : PySem.W.keepIn K (.ref (He.fAd K ("_is_pair", none))) = true := D2.kp
  obtain ⟨fd3, D3⟩ := c.def_ 3 (d := lawD "_is_full" pIsFull) rfl
  have b3 : Binds K fd3 ["table", "words"] [] := FunD.bindsN D3 fun _ _ _ _ _ _ us hl => match us, hl with | [_, _], _ => rfl
  have g3 := gl 3 "_is_full" rfl
  have k3 : PySem.W.keepIn K (.ref (He.fAd K ("_is_full", none))) = true := D3.kp
  obtain ⟨fd4, D4⟩ := c.def_ 4 (d := lawD "_is_free_of_brackets" pIsFree) rfl
  have b4 : Binds K fd4 ["table", "words"] [] := FunD.bindsN D4 fun _ _ _ _ _ _ us hl => match us, hl with | [_, _], _ => rfl
  have g4 := gl 4 "_is_free_of_brackets" rfl
  have k4 : PySem.W.keepIn K (.ref (He.fAd K ("_is_free_of_brackets", none))) = true := D4.kp
  obtain ⟨fd5, D5⟩ := c.def_ 5 (d := lawD "_is_table" pIsTable) rfl
  have b5 : Binds K fd5 ["table"] [] := FunD.bindsN D5 fun _ _ _ _ _ _ us hl => match us, hl with | [_], _ => rfl
  have g5 := gl 5 "_is_table" rfl
  have k5 : PySem.W.keepIn K (.ref (He.fAd K ("_is_table", none))) = true := D5.kp
  obtain ⟨fd6, D6⟩ := c.def_ 6 (d := mthD "Kinds" "__init__" "Kinds.__init__" kInit) rfl
  have b6 : Binds K fd6 ["self", "table"] [] := FunD.bindsN D6 fun _ _ _ _ _ _ us hl => match us, hl with | [_, _], _ => rfl
  obtain ⟨fd7, D7⟩ := c.def_ 7 (d := mthD "Kinds" "table" "Kinds.table" kTable) rfl
  have b7 : Binds K fd7 ["self"] [] := FunD.bindsN D7 fun _ _ _ _ _ _ us hl => match us, hl with | [_], _ => rfl
  obtain ⟨fd8, D8⟩ := c.def_ 8 (d := mthD "Kinds" "words" "Kinds.words" kWords) rfl
  have b8 : Binds K fd8 ["self"] [] := FunD.bindsN D8 fun _ _ _ _ _ _ us hl => match us, hl with | [_], _ => rfl
  obtain ⟨fd9, D9⟩ := c.def_ 9 (d := lawD "is_kind" pIsKind) rfl
  have b9 : Binds K fd9 ["kinds", "value"] [] := FunD.bindsN D9 fun _ _ _ _ _ _ us hl => match us, hl with | [_, _], _ => rfl
  have g9 := gl 6 "is_kind" rfl
  have k9 : PySem.W.keepIn K (.ref (He.fAd K ("is_kind", none))) = true := D9.kp
  obtain ⟨fd10, D10⟩ := c.def_ 10 (d := lawD "check_kind" pCheckKind) rfl
  have b10 : Binds K fd10 ["kinds", "kind"] [] := FunD.bindsN D10 fun _ _ _ _ _ _ us hl => match us, hl with | [_, _], _ => rfl
  have g10 := gl 7 "check_kind" rfl
  have k10 : PySem.W.keepIn K (.ref (He.fAd K ("check_kind", none))) = true := D10.kp
  obtain ⟨fd11, D11⟩ := c.def_ 11 (d := lawD "check_kinds" pCheckKinds) rfl
  have b11 : Binds K fd11 ["kinds"] [] := FunD.bindsN D11 fun _ _ _ _ _ _ us hl => match us, hl with | [_], _ => rfl
  have g11 := gl 8 "check_kinds" rfl
  have k11 : PySem.W.keepIn K (.ref (He.fAd K ("check_kinds", none))) = true := D11.kp
  obtain ⟨fd12, D12⟩ := c.def_ 12 (d := mthD "Kinds" "put" "Kinds.put" kPut) rfl
  have b12 : Binds K fd12 ["self", "one", "other"] [] := FunD.bindsN D12 fun _ _ _ _ _ _ us hl => match us, hl with | [_, _, _], _ => rfl
  obtain ⟨fd13, D13⟩ := c.def_ 13 (d := mthD "Kinds" "__eq__" "Kinds.__eq__" kEq) rfl
  have b13 : Binds K fd13 ["self", "other"] [] := FunD.bindsN D13 fun _ _ _ _ _ _ us hl => match us, hl with | [_, _], _ => rfl
  obtain ⟨fd14, D14⟩ := c.def_ 14 (d := lawD "is_list_of_kinds" pIsKinds) rfl
  have b14 : Binds K fd14 ["kinds", "value"] [] := FunD.bindsN D14 fun _ _ _ _ _ _ us hl => match us, hl with | [_, _], _ => rfl
  have g14 := gl 9 "is_list_of_kinds" rfl
  have k14 : PySem.W.keepIn K (.ref (He.fAd K ("is_list_of_kinds", none))) = true := D14.kp
  obtain ⟨fd15, D15⟩ := c.def_ 15 (d := lawD "own_squares" pOwnSquares) rfl
  have b15 : Binds K fd15 ["kinds"] [] := FunD.bindsN D15 fun _ _ _ _ _ _ us hl => match us, hl with | [_], _ => rfl
  have g15 := gl 10 "own_squares" rfl
  have k15 : PySem.W.keepIn K (.ref (He.fAd K ("own_squares", none))) = true := D15.kp
  obtain ⟨fd16, D16⟩ := c.def_ 16 (d := lawD "_are_deeds" pAreDeeds) rfl
  have b16 : Binds K fd16 ["kinds", "deeds"] [] := FunD.bindsN D16 fun _ _ _ _ _ _ us hl => match us, hl with | [_, _], _ => rfl
  have g16 := gl 11 "_are_deeds" rfl
  have k16 : PySem.W.keepIn K (.ref (He.fAd K ("_are_deeds", none))) = true := D16.kp
  obtain ⟨fd17, D17⟩ := c.def_ 17 (d := lawD "_is_twice" pIsTwice) rfl
  have b17 : Binds K fd17 ["kinds", "twice"] [] := FunD.bindsN D17 fun _ _ _ _ _ _ us hl => match us, hl with | [_, _], _ => rfl
  have g17 := gl 12 "_is_twice" rfl
  have k17 : PySem.W.keepIn K (.ref (He.fAd K ("_is_twice", none))) = true := D17.kp
  obtain ⟨fd18, D18⟩ := c.def_ 18 (d := mthD "Setting" "__init__" "Setting.__init__" sInit) rfl
  have b18 : Binds K fd18 ["self", "kinds", "deeds", "twice"] [] := FunD.bindsN D18 fun _ _ _ _ _ _ us hl => match us, hl with | [_, _, _, _], _ => rfl
  obtain ⟨fd19, D19⟩ := c.def_ 19 (d := mthD "Setting" "kinds" "Setting.kinds" sKinds) rfl
  have b19 : Binds K fd19 ["self"] [] := FunD.bindsN D19 fun _ _ _ _ _ _ us hl => match us, hl with | [_], _ => rfl
  obtain ⟨fd20, D20⟩ := c.def_ 20 (d := mthD "Setting" "deeds" "Setting.deeds" sDeeds) rfl
  have b20 : Binds K fd20 ["self"] [] := FunD.bindsN D20 fun _ _ _ _ _ _ us hl => match us, hl with | [_], _ => rfl
  obtain ⟨fd21, D21⟩ := c.def_ 21 (d := mthD "Setting" "twice" "Setting.twice" sTwice) rfl
  have b21 : Binds K fd21 ["self"] [] := FunD.bindsN D21 fun _ _ _ _ _ _ us hl => match us, hl with | [_], _ => rfl
  obtain ⟨fd22, D22⟩ := c.def_ 22 (d := mthD "Setting" "__eq__" "Setting.__eq__" sEq) rfl
  have b22 : Binds K fd22 ["self", "other"] [] := FunD.bindsN D22 fun _ _ _ _ _ _ us hl => match us, hl with | [_, _], _ => rfl
  obtain ⟨fd23, D23⟩ := c.def_ 23 (d := lawD "check_setting" pCheckSetting) rfl
  have b23 : Binds K fd23 ["setting"] [] := FunD.bindsN D23 fun _ _ _ _ _ _ us hl => match us, hl with | [_], _ => rfl
  have g23 := gl 13 "check_setting" rfl
  have k23 : PySem.W.keepIn K (.ref (He.fAd K ("check_setting", none))) = true := D23.kp
  obtain ⟨fd24, D24⟩ := c.def_ 24 (d := lawD "is_count" pIsCount) rfl
  have b24 : Binds K fd24 ["value"] [] := FunD.bindsN D24 fun _ _ _ _ _ _ us hl => match us, hl with | [_], _ => rfl
  have g24 := gl 14 "is_count" rfl
  have k24 : PySem.W.keepIn K (.ref (He.fAd K ("is_count", none))) = true := D24.kp
  obtain ⟨fd25, D25⟩ := c.def_ 25 (d := lawD "check_count" pCheckCnt) rfl
  have b25 : Binds K fd25 ["number", "least"] [] := FunD.bindsN D25 fun _ _ _ _ _ _ us hl => match us, hl with | [_, _], _ => rfl
  have g25 := gl 15 "check_count" rfl
  have k25 : PySem.W.keepIn K (.ref (He.fAd K ("check_count", none))) = true := D25.kp
  obtain ⟨fd26, D26⟩ := c.def_ 26 (d := lawD "counting_words" pCntWords) rfl
  have b26 : Binds K fd26 ["many"] [] := FunD.bindsN D26 fun _ _ _ _ _ _ us hl => match us, hl with | [_], _ => rfl
  have g26 := gl 16 "counting_words" rfl
  have k26 : PySem.W.keepIn K (.ref (He.fAd K ("counting_words", none))) = true := D26.kp
  obtain ⟨fd27, D27⟩ := c.def_ 27 (d := lawD "with_twice" pWithTwice) rfl
  have b27 : Binds K fd27 ["setting", "twice"] [] := FunD.bindsN D27 fun _ _ _ _ _ _ us hl => match us, hl with | [_, _], _ => rfl
  have g27 := gl 17 "with_twice" rfl
  have k27 : PySem.W.keepIn K (.ref (He.fAd K ("with_twice", none))) = true := D27.kp
  obtain ⟨fd28, D28⟩ := c.def_ 28 (d := lawD "_leads_from_words" pLeads) rfl
  have b28 : Binds K fd28 ["value"] [] := FunD.bindsN D28 fun _ _ _ _ _ _ us hl => match us, hl with | [_], _ => rfl
  have g28 := gl 18 "_leads_from_words" rfl
  have k28 : PySem.W.keepIn K (.ref (He.fAd K ("_leads_from_words", none))) = true := D28.kp
  obtain ⟨fd29, D29⟩ := c.def_ 29 (d := lawD "_are_moves" pAreMoves) rfl
  have b29 : Binds K fd29 ["moves"] [] := FunD.bindsN D29 fun _ _ _ _ _ _ us hl => match us, hl with | [_], _ => rfl
  have g29 := gl 19 "_are_moves" rfl
  have k29 : PySem.W.keepIn K (.ref (He.fAd K ("_are_moves", none))) = true := D29.kp
  obtain ⟨fd30, D30⟩ := c.def_ 30 (d := mthD "Store" "__init__" "Store.__init__" gInit) rfl
  have b30 : Binds K fd30 ["self", "moves"] [] := FunD.bindsN D30 fun _ _ _ _ _ _ us hl => match us, hl with | [_, _], _ => rfl
  obtain ⟨fd31, D31⟩ := c.def_ 31 (d := mthD "Store" "moves" "Store.moves" gMoves) rfl
  have b31 : Binds K fd31 ["self"] [] := FunD.bindsN D31 fun _ _ _ _ _ _ us hl => match us, hl with | [_], _ => rfl
  obtain ⟨fd32, D32⟩ := c.def_ 32 (d := lawD "open_kinds" pOpenK) rfl
  have b32 : Binds K fd32 ["setting"] [] := FunD.bindsN D32 fun _ _ _ _ _ _ us hl => match us, hl with | [_], _ => rfl
  have g32 := gl 20 "open_kinds" rfl
  have k32 : PySem.W.keepIn K (.ref (He.fAd K ("open_kinds", none))) = true := D32.kp
  obtain ⟨fd33, D33⟩ := c.def_ 33 (d := lawD "is_endless" pEndless) rfl
  have b33 : Binds K fd33 ["setting"] [] := FunD.bindsN D33 fun _ _ _ _ _ _ us hl => match us, hl with | [_], _ => rfl
  have g33 := gl 21 "is_endless" rfl
  have k33 : PySem.W.keepIn K (.ref (He.fAd K ("is_endless", none))) = true := D33.kp
  obtain ⟨fd34, D34⟩ := c.def_ 34 (d := lawD "counting_deeds" pCntDeeds) rfl
  have b34 : Binds K fd34 ["setting"] [] := FunD.bindsN D34 fun _ _ _ _ _ _ us hl => match us, hl with | [_], _ => rfl
  have g34 := gl 22 "counting_deeds" rfl
  have k34 : PySem.W.keepIn K (.ref (He.fAd K ("counting_deeds", none))) = true := D34.kp
  obtain ⟨fd35, D35⟩ := c.def_ 35 (d := lawD "counting_store" pCntStore) rfl
  have b35 : Binds K fd35 ["setting", "deed", "number"] [] := FunD.bindsN D35 fun _ _ _ _ _ _ us hl => match us, hl with | [_, _, _], _ => rfl
  have g35 := gl 23 "counting_store" rfl
  have k35 : PySem.W.keepIn K (.ref (He.fAd K ("counting_store", none))) = true := D35.kp
  obtain ⟨fd36, D36⟩ := c.def_ 36 (d := lawD "closed" pClosed) rfl
  have b36 : Binds K fd36 ["setting"] [] := FunD.bindsN D36 fun _ _ _ _ _ _ us hl => match us, hl with | [_], _ => rfl
  have g36 := gl 24 "closed" rfl
  have k36 : PySem.W.keepIn K (.ref (He.fAd K ("closed", none))) = true := D36.kp
  obtain ⟨fd37, D37⟩ := c.def_ 37 (d := lawD "opened" pOpened) rfl
  have b37 : Binds K fd37 ["setting", "kind"] [] := FunD.bindsN D37 fun _ _ _ _ _ _ us hl => match us, hl with | [_, _], _ => rfl
  have g37 := gl 25 "opened" rfl
  have k37 : PySem.W.keepIn K (.ref (He.fAd K ("opened", none))) = true := D37.kp
  obtain ⟨fd38, D38⟩ := c.def_ 38 (d := lawD "_law_purse" sPurse) rfl
  have b38 : Binds K fd38 ["_law_script", "_law_at"] [] := FunD.bindsN D38 fun _ _ _ _ _ _ us hl => match us, hl with | [_, _], _ => rfl
  have g38 := gl 26 "_law_purse" rfl
  have k38 : PySem.W.keepIn K (.ref (He.fAd K ("_law_purse", none))) = true := D38.kp
  obtain ⟨fd39, D39⟩ := c.def_ 39 (d := lawD "_law_mixed" sMixed) rfl
  have b39 : Binds K fd39 ["_law_seed", "_law_spin", "_law_at"] [] := FunD.bindsN D39 fun _ _ _ _ _ _ us hl => match us, hl with | [_, _, _], _ => rfl
  have g39 := gl 27 "_law_mixed" rfl
  have k39 : PySem.W.keepIn K (.ref (He.fAd K ("_law_mixed", none))) = true := D39.kp
  obtain ⟨fd40, D40⟩ := c.def_ 40 (d := lawD "_law_draw" sDraw) rfl
  have b40 : Binds K fd40 ["_law_purse_here", "_law_many"] [] := FunD.bindsN D40 fun _ _ _ _ _ _ us hl => match us, hl with | [_, _], _ => rfl
  have g40 := gl 28 "_law_draw" rfl
  have k40 : PySem.W.keepIn K (.ref (He.fAd K ("_law_draw", none))) = true := D40.kp
  obtain ⟨fd41, D41⟩ := c.def_ 41 (d := lawD "_law_purses" sPurses) rfl
  have b41 : Binds K fd41 ["_law_script", "_law_few"] [] := FunD.bindsN D41 fun _ _ _ _ _ _ us hl => match us, hl with | [_, _], _ => rfl
  have g41 := gl 29 "_law_purses" rfl
  have k41 : PySem.W.keepIn K (.ref (He.fAd K ("_law_purses", none))) = true := D41.kp
  obtain ⟨fd42, D42⟩ := c.def_ 42 (d := lawD "_law_one_of" sOneOf) rfl
  have b42 : Binds K fd42 ["_law_purse_here", "_law_some"] [] := FunD.bindsN D42 fun _ _ _ _ _ _ us hl => match us, hl with | [_, _], _ => rfl
  have g42 := gl 30 "_law_one_of" rfl
  have k42 : PySem.W.keepIn K (.ref (He.fAd K ("_law_one_of", none))) = true := D42.kp
  obtain ⟨fd43, D43⟩ := c.def_ 43 (d := lawD "_law_exact" sExact) rfl
  have b43 : Binds K fd43 ["_law_mine", "_law_theirs"] [] := FunD.bindsN D43 fun _ _ _ _ _ _ us hl => match us, hl with | [_, _], _ => rfl
  have g43 := gl 31 "_law_exact" rfl
  have k43 : PySem.W.keepIn K (.ref (He.fAd K ("_law_exact", none))) = true := D43.kp
  obtain ⟨fd44, D44⟩ := c.def_ 44 (d := lawD "_law_word" sWord) rfl
  have b44 : Binds K fd44 ["_law_purse_here"] [] := FunD.bindsN D44 fun _ _ _ _ _ _ us hl => match us, hl with | [_], _ => rfl
  have g44 := gl 32 "_law_word" rfl
  have k44 : PySem.W.keepIn K (.ref (He.fAd K ("_law_word", none))) = true := D44.kp
  obtain ⟨fd45, D45⟩ := c.def_ 45 (d := lawD "_law_words" sWords) rfl
  have b45 : Binds K fd45 ["_law_purse_here", "_law_many"] [] := FunD.bindsN D45 fun _ _ _ _ _ _ us hl => match us, hl with | [_, _], _ => rfl
  have g45 := gl 33 "_law_words" rfl
  have k45 : PySem.W.keepIn K (.ref (He.fAd K ("_law_words", none))) = true := D45.kp
  obtain ⟨fd46, D46⟩ := c.def_ 46 (d := lawD "_law_plain_table" sPlain) rfl
  have b46 : Binds K fd46 ["_law_way", "_law_many"] [] := FunD.bindsN D46 fun _ _ _ _ _ _ us hl => match us, hl with | [_, _], _ => rfl
  have g46 := gl 34 "_law_plain_table" rfl
  have k46 : PySem.W.keepIn K (.ref (He.fAd K ("_law_plain_table", none))) = true := D46.kp
  obtain ⟨fd47, D47⟩ := c.def_ 47 (d := lawD "_law_wide_table" sWide) rfl
  have b47 : Binds K fd47 ["_law_told_here", "_law_many", "_law_way"] [] := FunD.bindsN D47 fun _ _ _ _ _ _ us hl => match us, hl with | [_, _, _], _ => rfl
  have g47 := gl 35 "_law_wide_table" rfl
  have k47 : PySem.W.keepIn K (.ref (He.fAd K ("_law_wide_table", none))) = true := D47.kp
  obtain ⟨fd48, D48⟩ := c.def_ 48 (d := lawD "_law_twofold_table" sTwofold) rfl
  have b48 : Binds K fd48 ["_law_one", "_law_other"] [] := FunD.bindsN D48 fun _ _ _ _ _ _ us hl => match us, hl with | [_, _], _ => rfl
  have g48 := gl 36 "_law_twofold_table" rfl
  have k48 : PySem.W.keepIn K (.ref (He.fAd K ("_law_twofold_table", none))) = true := D48.kp
  obtain ⟨fd49, D49⟩ := c.def_ 49 (d := lawD "_law_twin_table" sTwin) rfl
  have b49 : Binds K fd49 ["_law_told_here", "_law_many", "_law_twin"] [] := FunD.bindsN D49 fun _ _ _ _ _ _ us hl => match us, hl with | [_, _, _], _ => rfl
  have g49 := gl 37 "_law_twin_table" rfl
  have k49 : PySem.W.keepIn K (.ref (He.fAd K ("_law_twin_table", none))) = true := D49.kp
  obtain ⟨fd50, D50⟩ := c.def_ 50 (d := lawD "_law_leading_table" sLeading) rfl
  have b50 : Binds K fd50 ["_law_told_here", "_law_many"] [] := FunD.bindsN D50 fun _ _ _ _ _ _ us hl => match us, hl with | [_, _], _ => rfl
  have g50 := gl 38 "_law_leading_table" rfl
  have k50 : PySem.W.keepIn K (.ref (He.fAd K ("_law_leading_table", none))) = true := D50.kp
  obtain ⟨fd51, D51⟩ := c.def_ 51 (d := lawD "_law_cyclic_table" sCyclic) rfl
  have b51 : Binds K fd51 ["_law_many", "_law_lead"] [] := FunD.bindsN D51 fun _ _ _ _ _ _ us hl => match us, hl with | [_, _], _ => rfl
  have g51 := gl 39 "_law_cyclic_table" rfl
  have k51 : PySem.W.keepIn K (.ref (He.fAd K ("_law_cyclic_table", none))) = true := D51.kp
  obtain ⟨fd52, D52⟩ := c.def_ 52 (d := lawD "_law_any_table" sAny) rfl
  have b52 : Binds K fd52 ["_law_purse_here", "_law_many"] [] := FunD.bindsN D52 fun _ _ _ _ _ _ us hl => match us, hl with | [_, _], _ => rfl
  have g52 := gl 40 "_law_any_table" rfl
  have k52 : PySem.W.keepIn K (.ref (He.fAd K ("_law_any_table", none))) = true := D52.kp
  obtain ⟨fd53, D53⟩ := c.def_ 53 (d := lawD "_law_table" sTable) rfl
  have b53 : Binds K fd53 ["_law_purse_here", "_law_most"] [] := FunD.bindsN D53 fun _ _ _ _ _ _ us hl => match us, hl with | [_, _], _ => rfl
  have g53 := gl 41 "_law_table" rfl
  have k53 : PySem.W.keepIn K (.ref (He.fAd K ("_law_table", none))) = true := D53.kp
  obtain ⟨fd54, D54⟩ := c.def_ 54 (d := lawD "_law_kinds_of" sKindsOf) rfl
  have b54 : Binds K fd54 ["_law_table_here"] [] := FunD.bindsN D54 fun _ _ _ _ _ _ us hl => match us, hl with | [_], _ => rfl
  have g54 := gl 42 "_law_kinds_of" rfl
  have k54 : PySem.W.keepIn K (.ref (He.fAd K ("_law_kinds_of", none))) = true := D54.kp
  obtain ⟨fd55, D55⟩ := c.def_ 55 (d := lawD "_law_squares" sSquares) rfl
  have b55 : Binds K fd55 ["_law_table_here"] [] := FunD.bindsN D55 fun _ _ _ _ _ _ us hl => match us, hl with | [_], _ => rfl
  have g55 := gl 43 "_law_squares" rfl
  have k55 : PySem.W.keepIn K (.ref (He.fAd K ("_law_squares", none))) = true := D55.kp
  obtain ⟨fd56, D56⟩ := c.def_ 56 (d := lawD "_law_setting" sSetting) rfl
  have b56 : Binds K fd56 ["_law_purse_here", "_law_most"] [] := FunD.bindsN D56 fun _ _ _ _ _ _ us hl => match us, hl with | [_, _], _ => rfl
  have g56 := gl 44 "_law_setting" rfl
  have k56 : PySem.W.keepIn K (.ref (He.fAd K ("_law_setting", none))) = true := D56.kp
  obtain ⟨fd57, D57⟩ := c.def_ 57 (d := lawD "_law_made" sMade) rfl
  have b57 : Binds K fd57 ["_law_setting_here"] [] := FunD.bindsN D57 fun _ _ _ _ _ _ us hl => match us, hl with | [_], _ => rfl
  have g57 := gl 45 "_law_made" rfl
  have k57 : PySem.W.keepIn K (.ref (He.fAd K ("_law_made", none))) = true := D57.kp
  obtain ⟨fd58, D58⟩ := c.def_ 58 (d := lawD "_law_closed" sClosed) rfl
  have b58 : Binds K fd58 ["_law_setting_here"] [] := FunD.bindsN D58 fun _ _ _ _ _ _ us hl => match us, hl with | [_], _ => rfl
  have g58 := gl 46 "_law_closed" rfl
  have k58 : PySem.W.keepIn K (.ref (He.fAd K ("_law_closed", none))) = true := D58.kp
  obtain ⟨fd59, D59⟩ := c.def_ 59 (d := lawD "_law_spare_words" sSpare) rfl
  have b59 : Binds K fd59 ["_law_words_here"] [] := FunD.bindsN D59 fun _ _ _ _ _ _ us hl => match us, hl with | [_], _ => rfl
  have g59 := gl 47 "_law_spare_words" rfl
  have k59 : PySem.W.keepIn K (.ref (He.fAd K ("_law_spare_words", none))) = true := D59.kp
  obtain ⟨fd60, D60⟩ := c.def_ 60 (d := lawD "_law_odd_settings" sOddS) rfl
  have b60 : Binds K fd60 ["_law_made_here"] [] := FunD.bindsN D60 fun _ _ _ _ _ _ us hl => match us, hl with | [_], _ => rfl
  have g60 := gl 48 "_law_odd_settings" rfl
  have k60 : PySem.W.keepIn K (.ref (He.fAd K ("_law_odd_settings", none))) = true := D60.kp
  obtain ⟨fd61, D61⟩ := c.def_ 61 (d := lawD "_law_asked" sAsked) rfl
  have b61 : Binds K fd61 ["_law_way", "_law_things"] [] := FunD.bindsN D61 fun _ _ _ _ _ _ us hl => match us, hl with | [_, _], _ => rfl
  have g61 := gl 49 "_law_asked" rfl
  have k61 : PySem.W.keepIn K (.ref (He.fAd K ("_law_asked", none))) = true := D61.kp
  obtain ⟨fd62, D62⟩ := c.def_ 62 (d := lawD "_law_told" sTel) rfl
  have b62 : Binds K fd62 ["_law_way", "_law_things"] [] := FunD.bindsN D62 fun _ _ _ _ _ _ us hl => match us, hl with | [_, _], _ => rfl
  have g62 := gl 50 "_law_told" rfl
  have k62 : PySem.W.keepIn K (.ref (He.fAd K ("_law_told", none))) = true := D62.kp
  obtain ⟨fd63, D63⟩ := c.def_ 63 (d := lawD "_law_very" sVery) rfl
  have b63 : Binds K fd63 ["_law_told_here", "_law_word_here", "_law_thing"] [] := FunD.bindsN D63 fun _ _ _ _ _ _ us hl => match us, hl with | [_, _, _], _ => rfl
  have g63 := gl 51 "_law_very" rfl
  have k63 : PySem.W.keepIn K (.ref (He.fAd K ("_law_very", none))) = true := D63.kp
  obtain ⟨fd64, D64⟩ := c.def_ 64 (d := lawD "_law_falls" sFalls) rfl
  have b64 : Binds K fd64 ["_law_setting_here", "_law_made_here"] [] := FunD.bindsN D64 fun _ _ _ _ _ _ us hl => match us, hl with | [_, _], _ => rfl
  have g64 := gl 52 "_law_falls" rfl
  have k64 : PySem.W.keepIn K (.ref (He.fAd K ("_law_falls", none))) = true := D64.kp
  obtain ⟨fd65, D65⟩ := c.def_ 65 (d := lawD "_law_refused_right" sRef) rfl
  have b65 : Binds K fd65 ["_law_setting_here", "_law_made_here"] [] := FunD.bindsN D65 fun _ _ _ _ _ _ us hl => match us, hl with | [_, _], _ => rfl
  have g65 := gl 53 "_law_refused_right" rfl
  have k65 : PySem.W.keepIn K (.ref (He.fAd K ("_law_refused_right", none))) = true := D65.kp
  obtain ⟨fd66, D66⟩ := c.def_ 66 (d := lawD "law" sLaw) rfl
  have bL := FunD.bindsA (ps := ["_law_script"]) D66 fun _ _ _ _ _ _ us hl => match us, hl with | [_], _ => rfl
  have e := hfa.symm.trans (gl 54 "law" rfl)
  cases e
  refine ⟨fd66, fun s v => bL s [v] rfl, fun base iB nB => ?_⟩
  have iw : Cee P w K mg base 1 "is_word" ["value"] spIsWord := ⟨_, fd0, ok_isWord (fun_of D0) B Z, g0, k0, b0⟩
  obtain ⟨IS, eIS⟩ : ∃ z, z = He.ga K "InvalidSetting" := ⟨_, rfl⟩
  have ErS : ErrX P w K mg base "InvalidSetting" IS := by rw [eIS]; exact EE0 base
  obtain ⟨ID, eID⟩ : ∃ z, z = He.ga K "InvalidDeed" := ⟨_, rfl⟩
  have ErD : ErrX P w K mg base "InvalidDeed" ID := by rw [eID]; exact EE1 base
  obtain ⟨IC, eIC⟩ : ∃ z, z = He.ga K "InvalidCount" := ⟨_, rfl⟩
  have ErC : ErrX P w K mg base "InvalidCount" IC := by rw [eIC]; exact EE2 base
  obtain ⟨IK, eIK⟩ : ∃ z, z = He.ga K "InvalidKind" := ⟨_, rfl⟩
  have ErK : ErrX P w K mg base "InvalidKind" IK := by rw [eIK]; exact EE3 base
  obtain ⟨RF, eRF⟩ : ∃ z, z = He.ga K "Refused" := ⟨_, rfl⟩
  have ErR : ErrX P w K mg base "Refused" RF := by rw [eRF]; exact EE4 base
  have m00 : PySem.W.exmOne K (.ref IS) (.ref IS) = some true := by rw [eIS]; exact eX 0 0 (by decide) (by decide)
  have m10 : PySem.W.exmOne K (.ref ID) (.ref IS) = some false := by rw [eID, eIS]; exact eX 1 0 (by decide) (by decide)
  have m11 : PySem.W.exmOne K (.ref ID) (.ref ID) = some true := by rw [eID]; exact eX 1 1 (by decide) (by decide)
  have m20 : PySem.W.exmOne K (.ref IC) (.ref IS) = some false := by rw [eIC, eIS]; exact eX 2 0 (by decide) (by decide)
  have m21 : PySem.W.exmOne K (.ref IC) (.ref ID) = some false := by rw [eIC, eID]; exact eX 2 1 (by decide) (by decide)
  have m22 : PySem.W.exmOne K (.ref IC) (.ref IC) = some true := by rw [eIC]; exact eX 2 2 (by decide) (by decide)
  have m30 : PySem.W.exmOne K (.ref IK) (.ref IS) = some false := by rw [eIK, eIS]; exact eX 3 0 (by decide) (by decide)
  have m31 : PySem.W.exmOne K (.ref IK) (.ref ID) = some false := by rw [eIK, eID]; exact eX 3 1 (by decide) (by decide)
  have m32 : PySem.W.exmOne K (.ref IK) (.ref IC) = some false := by rw [eIK, eIC]; exact eX 3 2 (by decide) (by decide)
  have m33 : PySem.W.exmOne K (.ref IK) (.ref IK) = some true := by rw [eIK]; exact eX 3 3 (by decide) (by decide)
  have m40 : PySem.W.exmOne K (.ref RF) (.ref IS) = some false := by rw [eRF, eIS]; exact eX 4 0 (by decide) (by decide)
  have m41 : PySem.W.exmOne K (.ref RF) (.ref ID) = some false := by rw [eRF, eID]; exact eX 4 1 (by decide) (by decide)
  have m42 : PySem.W.exmOne K (.ref RF) (.ref IC) = some false := by rw [eRF, eIC]; exact eX 4 2 (by decide) (by decide)
  have m43 : PySem.W.exmOne K (.ref RF) (.ref IK) = some false := by rw [eRF, eIK]; exact eX 4 3 (by decide) (by decide)
  have m44 : PySem.W.exmOne K (.ref RF) (.ref RF) = some true := by rw [eRF]; exact eX 4 4 (by decide) (by decide)
  have TOL : TolC P w K mg base IS ID IC IK RF (He.ga K "TwiceError") := ⟨ErS, ErD, ErC, ErK, ErR, gTW, fVE, fun z hz => by
    simp only [List.mem_cons, List.not_mem_nil, or_false] at hz
    rcases hz with rfl | rfl | rfl | rfl | rfl
    · rw [eIS]; exact (eOne "InvalidSetting" (by decide)).2.2.2.2.2
    · rw [eID]; exact (eOne "InvalidDeed" (by decide)).2.2.2.2.2
    · rw [eIC]; exact (eOne "InvalidCount" (by decide)).2.2.2.2.2
    · rw [eIK]; exact (eOne "InvalidKind" (by decide)).2.2.2.2.2
    · rw [eRF]; exact (eOne "Refused" (by decide)).2.2.2.2.2
    , m00, m10, m11, m20, m21, m22, m30, m31, m32, m33, m40, m41, m42, m43, m44⟩
  have ia : Cee P w K mg base 1 "is_ascending" ["words"] spIsAsc := ⟨_, fd1, ok_isAsc (fun_of D1) Z hz, g1, k1, b1⟩
  have ip : Cee P w K mg base 2 "_is_pair" ["value"] spIsPair := ⟨_, fd2, ok_isPair (fun_of D2) B Z iw, g2, k2, b2⟩
  have fu : Cee P w K mg base 1 "_is_full" ["table", "words"] spIsFull := ⟨_, fd3, ok_isFull (fun_of D3) B Z, g3, k3, b3⟩
  have fr_ : Cee P w K mg base 1 "_is_free_of_brackets" ["table", "words"] spIsFull := ⟨_, fd4, ok_isFree (fun_of D4) B Z, g4, k4, b4⟩
  have it : Cee P w K mg base 3 "_is_table" ["table"] spIsTable := ⟨_, fd5, ok_isTable (fun_of D5) B Z ⟨ip, fu, fr_⟩, g5, k5, b5⟩
  have NK0 : FnOk P w K mg base CX0 4 (He.fAd K ("Kinds", some "__init__")) fd6 ["self", "table"] (spKInit (kC K)) := ok_kinit (fun_of D6) T Z it
  have NK : KMk P w K mg base (kC K) := ⟨_, fd6, MK, NK0, b6⟩
  have kta : Mee P w K mg base (kC K) 1 "table" ["self"] (spKTable (kC K)) := ⟨_, fd7, He.meth_ok (c.fact 59 (f := .meth "Kinds" "table") rfl), ok_ktable (fun_of D7) T, b7⟩
  have kwo : Mee P w K mg base (kC K) 1 "words" ["self"] (spKWords (kC K)) := ⟨_, fd8, He.meth_ok (c.fact 60 (f := .meth "Kinds" "words") rfl), ok_kwords (fun_of D8) T Z, b8⟩
  have ik : Cee P w K mg base 2 "is_kind" ["kinds", "value"] (spIsKind (kC K)) := ⟨_, fd9, ok_isKind (fun_of D9) T Z kwo, g9, k9, b9⟩
  have chd : Cee P w K mg base 3 "check_kind" ["kinds", "kind"] (spCheckKind (kC K)) := ⟨_, fd10, ok_checkKind (fun_of D10) ik, g10, k10, b10⟩
  have chk : Cee P w K mg base 1 "check_kinds" ["kinds"] (spCheckKinds (kC K)) := ⟨_, fd11, ok_checkKinds (fun_of D11) T Z, g11, k11, b11⟩
  have kpu : Mee P w K mg base (kC K) 4 "put" ["self", "one", "other"] (spKPut (kC K)) := ⟨_, fd12, He.meth_ok (c.fact 61 (f := .meth "Kinds" "put") rfl), ok_kput (fun_of D12) T chd, b12⟩
  have EQ : OwQ.EqC P w K mg base 1 (kC K) (spKEq K (kC K)) := ⟨⟨_, fd13, _, ok_keq (fun_of D13) T Z, He.eqO_ok m6, m7, b13⟩, He.eqO_ok m8, m4⟩
  have iks : Cee P w K mg base 3 "is_list_of_kinds" ["kinds", "value"] (spIsKinds (kC K)) := ⟨_, fd14, ok_isKinds (fun_of D14) Z ik, g14, k14, b14⟩
  have PC : PutC P w K mg base (kC K) := ⟨iks, chk, chd, kta, kwo, kpu⟩
  have osq : Cee P w K mg base 5 "own_squares" ["kinds"] (spOwnSq (kC K)) := ⟨_, fd15, ok_ownSq (fun_of D15) T PC, g15, k15, b15⟩
  have DC : DeedsC P w K mg base (kC K) := ⟨iw, ik, iks, ia, osq, chk, kwo, hset⟩
  have ard : Cee P w K mg base 3 "_are_deeds" ["kinds", "deeds"] (spAreDeeds (kC K)) := ⟨_, fd16, ok_areDeeds (fun_of D16) T Z DC, g16, k16, b16⟩
  have itw : Cee P w K mg base 6 "_is_twice" ["kinds", "twice"] (spIsTwice (kC K)) := ⟨_, fd17, ok_isTwice (fun_of D17) T Z DC, g17, k17, b17⟩
  have NS0 : FnOk P w K mg base CX0 7 (He.fAd K ("Setting", some "__init__")) fd18 ["self", "kinds", "deeds", "twice"] (spSInit (sC K) (kC K)) := ok_sinit (fun_of D18) TS T Z ⟨chk, ard, itw⟩
  have NS : SMk P w K mg base (sC K) (kC K) := ⟨_, fd18, MS, NS0, b18⟩
  have skn : Mee P w K mg base (sC K) 1 "kinds" ["self"] (spSKinds (sC K) (kC K)) := ⟨_, fd19, He.meth_ok (c.fact 68 (f := .meth "Setting" "kinds") rfl), ok_skinds (fun_of D19) TS, b19⟩
  have sde : Mee P w K mg base (sC K) 1 "deeds" ["self"] (spSDeeds (sC K) (kC K)) := ⟨_, fd20, He.meth_ok (c.fact 69 (f := .meth "Setting" "deeds") rfl), ok_sdeeds (fun_of D20) TS Z, b20⟩
  have stw : Mee P w K mg base (sC K) 1 "twice" ["self"] (spSTwice (sC K) (kC K)) := ⟨_, fd21, He.meth_ok (c.fact 70 (f := .meth "Setting" "twice") rfl), ok_stwice (fun_of D21) TS Z, b21⟩
  have EQS : OwQ.EqC P w K mg base 2 (sC K) (spSEqA K (sC K) (kC K)) := ⟨⟨_, fd22, _, ok_seqA (fun_of D22) TS T Z EQ nkC, He.eqO_ok n6, n7, b22⟩, He.eqO_ok n8, n4⟩
  have cks : Cee P w K mg base 1 "check_setting" ["setting"] (spCheckSet (sC K) (kC K)) := ⟨_, fd23, ok_checkSet (fun_of D23) TS Z, g23, k23, b23⟩
  have LC : LogC P w K mg base (sC K) (kC K) := ⟨cks, skn, sde, stw, kwo, kpu⟩
  have icv : Cee P w K mg base 1 "is_count" ["value"] spIsCount := ⟨_, fd24, ok_isCount (fun_of D24) B Z, g24, k24, b24⟩
  have chc : Cee P w K mg base 2 "check_count" ["number", "least"] spCheckCnt := ⟨_, fd25, ok_checkCnt (fun_of D25) icv, g25, k25, b25⟩
  have cwo : Cee P w K mg base 1 "counting_words" ["many"] spCntWords := ⟨_, fd26, ok_cntWords (fun_of D26) B Z, g26, k26, b26⟩
  have wtw : Cee P w K mg base 9 "with_twice" ["setting", "twice"] (spWithTwice (sC K) (kC K)) := ⟨_, fd27, ok_withTwice (fun_of D27) TS LC NS, g27, k27, b27⟩
  have lds : Cee P w K mg base 2 "_leads_from_words" ["value"] spLeads := ⟨_, fd28, ok_leads (fun_of D28) B Z iw, g28, k28, b28⟩
  have arm : Cee P w K mg base 3 "_are_moves" ["moves"] spAreMoves := ⟨_, fd29, ok_areMoves (fun_of D29) B Z lds, g29, k29, b29⟩
  have NG0 : FnOk P w K mg base CX0 4 (He.fAd K ("Store", some "__init__")) fd30 ["self", "moves"] (spGInit (goC K)) := ok_ginit (fun_of D30) TG Z arm
  have NG : GMk P w K mg base (goC K) := ⟨_, fd30, MG, NG0, b30⟩
  have gmv : Mee P w K mg base (goC K) 1 "moves" ["self"] (spGMoves (goC K)) := ⟨_, fd31, He.meth_ok (c.fact 104 (f := .meth "Store" "moves") rfl), ok_gmoves (fun_of D31) TG Z, b31⟩
  have EC : EndC P w K mg base (sC K) (kC K) := ⟨cks, skn, sde, stw, osq⟩
  have opk : Cee P w K mg base 6 "open_kinds" ["setting"] (spOpenK (sC K) (kC K)) := ⟨_, fd32, ok_openK (fun_of D32) TS EC, g32, k32, b32⟩
  have enl : Cee P w K mg base 7 "is_endless" ["setting"] (spEndless (sC K) (kC K)) := ⟨_, fd33, ok_endless (fun_of D33) B opk, g33, k33, b33⟩
  have cdd : Cee P w K mg base 7 "counting_deeds" ["setting"] (spCntD (sC K) (kC K)) := ⟨_, fd34, ok_cntD (fun_of D34) TS EC opk, g34, k34, b34⟩
  have cst : Cee P w K mg base 8 "counting_store" ["setting", "deed", "number"] (spCntStore (sC K) (kC K) (goC K)) := ⟨_, fd35, ok_cntStore (fun_of D35) TS TG Z hz EC ⟨chc, cdd, cwo, NG⟩, g35, k35, b35⟩
  have cls_ : Cee P w K mg base 10 "closed" ["setting"] (spClosedS (sC K) (kC K)) := ⟨_, fd36, ok_closedS (fun_of D36) TS EC wtw, g36, k36, b36⟩
  have ope : Cee P w K mg base 10 "opened" ["setting", "kind"] (spOpened (sC K) (kC K)) := ⟨_, fd37, ok_opened (fun_of D37) TS EC chd wtw, g37, k37, b37⟩
  have nkn : Cee P w K mg base 2 "is_kind" ["kinds", "value"] (spNoKnd K (kC K)) := ⟨_, fd9, ok_noKnd (fun_of D9) T Z kwo, g9, k9, b9⟩
  have ncn : Cee P w K mg base 1 "is_count" ["value"] (spNoCnt K) := ⟨_, fd24, ok_noCnt (fun_of D24) B Z, g24, k24, b24⟩
  have xcs : Ree P w K mg base 3 "check_setting" ["setting"] (spXSet K (sC K) IS) := ⟨_, fd23, ok_xSet (fun_of D23) TS Z ErS, g23, k23, b23⟩
  have xcn : Ree P w K mg base 3 "check_count" ["number", "least"] (spXCnt K IC) := ⟨_, fd25, ok_xCnt (fun_of D25) ncn ErC, g25, k25, b25⟩
  have xkd : Ree P w K mg base 3 "check_kind" ["kinds", "kind"] (spXKnd K (kC K) IK) := ⟨_, fd10, ok_xKnd (fun_of D10) nkn ErK, g10, k10, b10⟩
  have xop : Ree P w K mg base 4 "open_kinds" ["setting"] (spXSet K (sC K) IS) := ⟨_, fd32, ok_xOpenK (fun_of D32) xcs, g32, k32, b32⟩
  have aenl : ReK P w K mg base 7 "is_endless" ["setting"] (spEnlA K (sC K) (kC K) IS) ["setting"] revG := ⟨_, fd33, _, fnOr (fnLift (ok_endless (fun_of D33) B opk)) (FnOk.mono (ok_xEndless (fun_of D33) B xop) (by decide)), g33, k33, (kbindsN (ps := ["setting"]) D33 0 ["setting"] (revG) (revG) (revG_rel) (fun _ _ _ _ _ _ us ws h1 h2 => match us, ws, h1, h2 with | [], [_], _, _ => rfl))⟩
  have aopk : ReK P w K mg base 6 "open_kinds" ["setting"] (spOpkA K (sC K) (kC K) IS) ["setting"] revG := ⟨_, fd32, _, fnOr (fnLift (ok_openK (fun_of D32) TS EC)) (FnOk.mono (ok_xOpenK (fun_of D32) xcs) (by decide)), g32, k32, (kbindsN (ps := ["setting"]) D32 0 ["setting"] (revG) (revG) (revG_rel) (fun _ _ _ _ _ _ us ws h1 h2 => match us, ws, h1, h2 with | [], [_], _, _ => rfl))⟩
  have acdd : ReK P w K mg base 7 "counting_deeds" ["setting"] (spCddA K (sC K) (kC K) IS) ["setting"] revG := ⟨_, fd34, _, fnOr (fnLift (ok_cntD (fun_of D34) TS EC opk)) (FnOk.mono (ok_xCntD (fun_of D34) xop) (by decide)), g34, k34, (kbindsN (ps := ["setting"]) D34 0 ["setting"] (revG) (revG) (revG_rel) (fun _ _ _ _ _ _ us ws h1 h2 => match us, ws, h1, h2 with | [], [_], _, _ => rfl))⟩
  have aclo : ReK P w K mg base 10 "closed" ["setting"] (spCloA K (sC K) (kC K) IS) ["setting"] revG := ⟨_, fd36, _, fnOr (fnLift (ok_closedS (fun_of D36) TS EC wtw)) (FnOk.mono (ok_xClosed (fun_of D36) xcs) (by decide)), g36, k36, (kbindsN (ps := ["setting"]) D36 0 ["setting"] (revG) (revG) (revG_rel) (fun _ _ _ _ _ _ us ws h1 h2 => match us, ws, h1, h2 with | [], [_], _, _ => rfl))⟩
  have acst : ReK P w K mg base 9 "counting_store" ["setting", "deed", "number"] (spCstA K (sC K) (kC K) (goC K) IS ID IC RF) ["number", "deed", "setting"] revG := ⟨_, fd35, _, fnOr (FnOk.mono (fnLift (ok_cntStore (fun_of D35) TS TG Z hz EC ⟨chc, cdd, cwo, NG⟩)) (by decide)) (fnOr (ok_xCs1 (fun_of D35) xcs) (fnOr (FnOk.mono (ok_xCs2 (fun_of D35) TS Z EC ErD) (by decide)) (fnOr (FnOk.mono (ok_xCs3 (fun_of D35) TS Z EC xcn) (by decide)) (FnOk.mono (ok_xCs4 (fun_of D35) TS Z EC chc cdd ErR) (by decide))))), g35, k35, (kbindsN (ps := ["setting", "deed", "number"]) D35 0 ["number", "deed", "setting"] (revG) (revG) (revG_rel) (fun _ _ _ _ _ _ us ws h1 h2 => match us, ws, h1, h2 with | [], [_, _, _], _, _ => rfl))⟩
  have aope : ReK P w K mg base 10 "opened" ["setting", "kind"] (spOpeA K (sC K) (kC K) IS IK RF) ["kind", "setting"] revG := ⟨_, fd37, _, fnOr (fnLift (ok_opened (fun_of D37) TS EC chd wtw)) (fnOr (FnOk.mono (ok_xOp1 (fun_of D37) xcs) (by decide)) (fnOr (FnOk.mono (ok_xOp2 (fun_of D37) TS EC xkd) (by decide)) (FnOk.mono (ok_xOp3 (fun_of D37) TS EC chd ErR) (by decide)))), g37, k37, (kbindsN (ps := ["setting", "kind"]) D37 0 ["kind", "setting"] (revG) (revG) (revG_rel) (fun _ _ _ _ _ _ us ws h1 h2 => match us, ws, h1, h2 with | [], [_, _], _, _ => rfl))⟩
  have AC : AskC P w K mg base (sC K) (kC K) (goC K) IS ID IC IK RF := ⟨aenl, aopk, acdd, aclo, acst, aope⟩
  have pu0 : Cee P w K mg base 1 "_law_purse" ["_law_script", "_law_at"] (spPurse K) := ⟨_, fd38, ok_purse (fun_of D38) B, g38, k38, b38⟩
  have mi : Cee P w K mg base 1 "_law_mixed" ["_law_seed", "_law_spin", "_law_at"] spMixed := ⟨_, fd39, ok_mixed (fun_of D39) B, g39, k39, b39⟩
  have dr : Cee P w K mg base 2 "_law_draw" ["_law_purse_here", "_law_many"] spDraw := ⟨_, fd40, ok_draw (fun_of D40) B mi, g40, k40, b40⟩
  have pus : Cee P w K mg base 2 "_law_purses" ["_law_script", "_law_few"] (spPurses K) := ⟨_, fd41, ok_purses (fun_of D41) B pu0, g41, k41, b41⟩
  have one : Cee P w K mg base 3 "_law_one_of" ["_law_purse_here", "_law_some"] spOneOf := ⟨_, fd42, ok_oneof (fun_of D42) B dr, g42, k42, b42⟩
  have exa : Cee P w K mg base 7 "_law_exact" ["_law_mine", "_law_theirs"] (spExact 6) := ⟨_, fd43, ok_exact (fun_of D43) B Z hz g43 k43 b43 6, g43, k43, b43⟩
  have exo : Cee P w K mg base 9 "_law_exact" ["_law_mine", "_law_theirs"] (spExO (sC K) (kC K) 6) := ⟨_, fd43, ok_exO (fun_of D43) B Z hz T TS OC EQ EQS g43 k43 b43 6, g43, k43, b43⟩
  have wo : Cee P w K mg base 3 "_law_word" ["_law_purse_here"] spWord := ⟨_, fd44, ok_word (fun_of D44) B dr, g44, k44, b44⟩
  have wos : Cee P w K mg base 4 "_law_words" ["_law_purse_here", "_law_many"] spWords := ⟨_, fd45, ok_words (fun_of D45) B Z.list dr wo, g45, k45, b45⟩
  have tpl : Cee P w K mg base 1 "_law_plain_table" ["_law_way", "_law_many"] spPlain := ⟨_, fd46, ok_plain (fun_of D46) B, g46, k46, b46⟩
  have twi : Cee P w K mg base 1 "_law_wide_table" ["_law_told_here", "_law_many", "_law_way"] spWide := ⟨_, fd47, ok_wide (fun_of D47) B Z.dict, g47, k47, b47⟩
  have ttw : Cee P w K mg base 1 "_law_twofold_table" ["_law_one", "_law_other"] spTwo := ⟨_, fd48, ok_two (fun_of D48) B, g48, k48, b48⟩
  have ttn : Cee P w K mg base 1 "_law_twin_table" ["_law_told_here", "_law_many", "_law_twin"] spTwin := ⟨_, fd49, ok_twin (fun_of D49) B Z.list, g49, k49, b49⟩
  have tle : Cee P w K mg base 1 "_law_leading_table" ["_law_told_here", "_law_many"] spLead := ⟨_, fd50, ok_lead (fun_of D50) B Z.dict, g50, k50, b50⟩
  have tcy : Cee P w K mg base 1 "_law_cyclic_table" ["_law_many", "_law_lead"] spCyc := ⟨_, fd51, ok_cyc (fun_of D51) B, g51, k51, b51⟩
  have tan : Cee P w K mg base 3 "_law_any_table" ["_law_purse_here", "_law_many"] spAnyT := ⟨_, fd52, ok_anyT (fun_of D52) B han dr tcy, g52, k52, b52⟩
  have tab : Cee P w K mg base 5 "_law_table" ["_law_purse_here", "_law_most"] spTable := ⟨_, fd53, ok_table (fun_of D53) B Z.dict Z.sorted ⟨dr, tpl, twi, ttw, ttn, tle, tan, wos⟩, g53, k53, b53⟩
  have kof : Cee P w K mg base 1 "_law_kinds_of" ["_law_table_here"] spKindsOf := ⟨_, fd54, ok_kindsOf (fun_of D54) Z, g54, k54, b54⟩
  have sqr : Cee P w K mg base 2 "_law_squares" ["_law_table_here"] spSquares := ⟨_, fd55, ok_squares (fun_of D55) kof, g55, k55, b55⟩
  have sett : Cee P w K mg base 6 "_law_setting" ["_law_purse_here", "_law_most"] spSetting := ⟨_, fd56, ok_setting (fun_of D56) B Z ⟨tab, kof, sqr, wos, dr, one, hen⟩, g56, k56, b56⟩
  have mad : Cee P w K mg base 9 "_law_made" ["_law_setting_here"] (spMade (sC K) (kC K)) := ⟨_, fd57, ok_made (fun_of D57) TS T Z NS NK, g57, k57, b57⟩
  have clo : Cee P w K mg base 3 "_law_closed" ["_law_setting_here"] spClosed := ⟨_, fd58, ok_closed (fun_of D58) sqr, g58, k58, b58⟩
  have spa : Cee P w K mg base 1 "_law_spare_words" ["_law_words_here"] spSpare := ⟨_, fd59, ok_spare (fun_of D59) Z, g59, k59, b59⟩
  have odd : Cee P w K mg base 2 "_law_odd_settings" ["_law_made_here"] (spOddS K (sC K) (kC K)) := ⟨_, fd60, ok_oddS (fun_of D60) TS T NSC ⟨skn, sde, stw⟩, g60, k60, b60⟩
  have ask : Ree P w K mg base 12 "_law_asked" ["_law_way", "_law_things"] (spAsked K (sC K) (kC K) (goC K) IS ID IC IK RF) := ⟨_, fd61, ok_asked (fun_of D61) AC, g61, k61, b61⟩
  have tol : Cee P w K mg base 13 "_law_told" ["_law_way", "_law_things"] (spTel K (sC K) (kC K) (goC K) IS ID IC IK RF) := ⟨_, fd62, ok_tel (fun_of D62) Z ask TOL, g62, k62, b62⟩
  have vry : Cee P w K mg base 10 "_law_very" ["_law_told_here", "_law_word_here", "_law_thing"] (spVery (sC K) (kC K)) := ⟨_, fd63, ok_very (fun_of D63) Z exo T TS OC, g63, k63, b63⟩
  have fal : Cee P w K mg base 14 "_law_falls" ["_law_setting_here", "_law_made_here"] (spFalls (sC K) (kC K)) := ⟨_, fd64, ok_falls (fun_of D64) B Z ⟨odd, vry, tol, spa, kof⟩, g64, k64, b64⟩
  have rfr : Cee P w K mg base 14 "_law_refused_right" ["_law_setting_here", "_law_made_here"] (spRef (sC K) (kC K)) := ⟨_, fd65, ok_ref (fun_of D65) B Z ⟨tol, exa, sqr, kof⟩, g65, k65, b65⟩
  exact ok_law (fun_of D66) B TS ⟨pus, sett, clo, mad, tol, rfr, fal, exa, sde, stw⟩
end KT
open PySem PySem.W PySem.Calls PyProof.Rows
set_option maxRecDepth 100000 in
set_option maxHeartbeats 0 in
theorem PySem.Challenge.cw_kindtwice_k22_endless_refused_and_by_nam_holds : PySem.Challenge.rw_kindtwice_k22_endless_refused_and_by_nam.Holds := by
  w_on; o_law
  refine HandSHeadRun.head_any (r := OpenLaw.row PySem.Challenge.rw_kindtwice_k22_endless_refused_and_by_nam) (q := view (OpenLaw.row PySem.Challenge.rw_kindtwice_k22_endless_refused_and_by_nam).prog [77]) (H := KT.hk) (ob := KT.ob) (M := 60000) (loose := KT.loose) (d := HandSHeadRun.topDef (OpenLaw.row PySem.Challenge.rw_kindtwice_k22_endless_refused_and_by_nam).prog 77) (kwd := []) KT.ob_eq
    (by kernel_rfl) (fun s => by kernel_rfl) KT.run (by kernel_rfl) (by kernel_rfl) (by kernel_rfl) (by rfl) (by first | assumption | decide +kernel) (by decide +kernel) ⟨rfl, rfl, rfl, rfl, rfl, by decide +kernel⟩ ?hw ?hc
  case hw => w_witness2
  case hc =>
    refine L2.walk_ofE (l := PySem.Challenge.rw_kindtwice_k22_endless_refused_and_by_nam) (n := 63) (k := 15) (x := "_law_script") (CX := L2.CX0) rfl (by decide) (by kernel_rfl) ⟨rfl, by decide, by decide⟩ ?F (fun _ _ _ _ z => z)
    intro w mg fa h Y G hmg0
    obtain ⟨K, KX, c, m⟩ := Y
    have hmg : mg ("law" : PySem.Str) = some (.ref fa) := by
      have e : (HandSHeadRun.topDef (OpenLaw.row PySem.Challenge.rw_kindtwice_k22_endless_refused_and_by_nam).prog 77).name = ("law" : PySem.Str) := by kernel_rfl
      rw [← e]
      exact hmg0
    obtain ⟨fd, hb, hF⟩ := KT.facts (P := (PySem.Challenge.rw_kindtwice_k22_endless_refused_and_by_nam).prog) (w := w) KX G hmg c m
    exact ⟨K, fd, KT.spLaw K, KX, hb, fun H a ns hl _ hS => ⟨a, ns, rfl, hS, hl, fun _ => rfl⟩, hF⟩
#print axioms PySem.Challenge.cw_kindtwice_k22_endless_refused_and_by_nam_holds
